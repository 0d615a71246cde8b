/- Pressed by program out of Bb. -/
import Derived.Test.YtdlhbmncbmconaaGreatDoorA06
import Derived.Test.YtdlhbmncbmconaaGreatDoorA04
import Derived.StillTailTactics
namespace Go.Proofs.Z
open Hm Tryz Go.RowKit
theorem cN(w:World)(n:Nat)(o:Obj):(w.drewN n).alloc o=(w.alloc o).drewN n:=rfl
theorem cO(w:World)(n:Nat)(a:Addr)(v:Value):(w.drewN n).setCell a v=(w.setCell a v).drewN n:=rfl
attribute [local go_sem] cN cO
theorem aJ.alloc{w:World}(h:aJ w)(o:Obj):aJ (w.alloc o):=h.next ((aF _ _).alloc (aC _) _)
theorem TT(y mo d h mi s:Int)(w:World)(c:aJ w)(j:1<=y)(f:y<=9999)(k:1<=mo)(g:mo<=12)(l:1<=d)(i:d<=31):
  Calls prog 175 #[.agg #[.int .i64 y,.int .i64 mo,.int .i64 d,.int .i64 h,.int .i64 mi,.int .i64 s]] w fun e b=>
   e= .returned (.agg #[.int .i64 (fX y mo d).1,.int .i64 (fX y mo d).2.1,.int .i64 (fX y mo d).2.2,.int .i64 h,.int .i64 mi,.int .i64 s])/\Below w.heap.size w b:=by
 by_cases h1:d=1
 ·subst h1;by_cases h2:mo=1
  ·subst h2;have a:Hid (fX y 1 1=(y-1,12,dO (y-1) 12)):=by show _=_;simp[fX]
   go_enter func175,ntmps175;go_wp2_with(go_at_call 174;refine(qY _ _ _ (by omega) (by omega) (by omega) ((c.alloc _).alloc _)).mono ?_;rintro e b⟨rfl,rfl⟩);refine bB (v:= .agg #[.int .i64 (y-1),.int .i64 12,.int .i64 (dO (y-1) 12),.int .i64 h,.int .i64 mi,.int .i64 s]) (by simp[results,results175,go_sem]) rfl ⟨by rw[a.out],?_⟩;exact((aF _ _).alloc (aC _) _).alloc (by simp) _
  ·have a:Hid (fX y mo 1=(y,mo-1,dO y (mo-1))):=by show _=_;simp[fX];omega
   go_enter func175,ntmps175;go_wp2_with(go_at_call 174;refine(qY _ _ _ (by omega) (by omega) (by omega) ((c.alloc _).alloc _)).mono ?_;rintro e b⟨rfl,rfl⟩);refine bB (v:= .agg #[.int .i64 y,.int .i64 (mo-1),.int .i64 (dO y (mo-1)),.int .i64 h,.int .i64 mi,.int .i64 s]) (by simp[results,results175,go_sem]) rfl ⟨by rw[a.out],?_⟩;exact((aF _ _).alloc (aC _) _).alloc (by simp) _
 ·have a:Hid (fX y mo d=(y,mo,d-1)):=by show _=_;simp[fX];omega
  go_enter func175,ntmps175;go_wp2;refine bB (v:= .agg #[.int .i64 y,.int .i64 mo,.int .i64 (d-1),.int .i64 h,.int .i64 mi,.int .i64 s]) (by simp[results,results175,go_sem]) rfl ⟨by rw[a.out],?_⟩;exact((aF _ _).alloc (aC _) _).alloc (by simp) _
theorem TU(y m:Int)(h1:1<=m)(h2:m<=12):28<=dO y m/\dO y m<=31:=by
 unfold dO;split
 ·omega
 ·rcases(by omega:m=1∨m=2∨m=3∨m=4∨m=5∨m=6∨m=7∨m=8∨m=9∨m=10∨m=11∨m=12)with h|h|h|h|h|h|h|h|h|h|h|h <;> subst h <;> decide
theorem TV(y mo d h mi s:Int)(w:World)(b:aJ w)(k:1<=y)(f:y<=9999)(g:1<=mo)(c:mo<=12)(l:1<=d)(i:d<=31):
  Calls prog 176 #[.agg #[.int .i64 y,.int .i64 mo,.int .i64 d,.int .i64 h,.int .i64 mi,.int .i64 s]] w fun e j=>
   e= .returned (.agg #[.int .i64 (fY y mo d).1,.int .i64 (fY y mo d).2.1,.int .i64 (fY y mo d).2.2,.int .i64 h,.int .i64 mi,.int .i64 s])/\Below w.heap.size w j:=by
 have m:=TU y mo g c;by_cases h1:dO y mo<d+1
 ·by_cases h2:mo=12
  ·subst h2;have a:Hid (fY y 12 d=(y+1,1,1)):=by show _=_;simp[fY,h1]
   go_enter func176,ntmps176;go_wp2_with fail;go_quiet((go_at_call 174;exact Calls.quiet_of_same (qY _ _ _ (by omega) (by omega) (by omega) (((b.alloc _).alloc _).drewN _))))
   go_wp2;refine bB (v:= .agg #[.int .i64 (y+1),.int .i64 1,.int .i64 1,.int .i64 h,.int .i64 mi,.int .i64 s]) (by simp[results,results176,go_sem]) rfl ⟨by rw[a.out],?_⟩;exact below_drewN (((aF _ _).alloc (aC _) _).alloc (by simp) _) _
  ·have a:Hid (fY y mo d=(y,mo+1,1)):=by show _=_;simp[fY,h1];omega
   go_enter func176,ntmps176;go_wp2_with fail;go_quiet((go_at_call 174;exact Calls.quiet_of_same (qY _ _ _ (by omega) (by omega) (by omega) (((b.alloc _).alloc _).drewN _))))
   go_wp2;refine bB (v:= .agg #[.int .i64 y,.int .i64 (mo+1),.int .i64 1,.int .i64 h,.int .i64 mi,.int .i64 s]) (by simp[results,results176,go_sem]) rfl ⟨by rw[a.out],?_⟩;exact below_drewN (((aF _ _).alloc (aC _) _).alloc (by simp) _) _
 ·have a:Hid (fY y mo d=(y,mo,d+1)):=by show _=_;simp[fY,h1]
  go_enter func176,ntmps176;go_wp2_with fail;go_quiet((go_at_call 174;exact Calls.quiet_of_same (qY _ _ _ (by omega) (by omega) (by omega) (((b.alloc _).alloc _).drewN _))))
  go_wp2;refine bB (v:= .agg #[.int .i64 y,.int .i64 mo,.int .i64 (d+1),.int .i64 h,.int .i64 mi,.int .i64 s]) (by simp[results,results176,go_sem]) rfl ⟨by rw[a.out],?_⟩;exact below_drewN (((aF _ _).alloc (aC _) _).alloc (by simp) _) _
end Go.Proofs.Z
namespace Go.Proofs.Z
open Hm Tryz Go.RowKit
attribute [local go_sem] cN cO
set_option maxHeartbeats 1000000 in
theorem TW(y mo d h mi s:Int)(w:World)(g:aJ w):
  Calls prog 132 #[.agg #[.int .i64 y,.int .i64 mo,.int .i64 d,.int .i64 h,.int .i64 mi,.int .i64 s]] w fun e b=>
   e= .returned (.bool (fL y mo d h mi s))/\Below w.heap.size w b:=by
 cases h1:dB y
 ·have a:Hid (fL y mo d h mi s=false):=by show _=_;simp[fL,h1]
  go_enter func132,ntmps132;go_wp2_with(go_at_call 51;refine(lF _ _).mono ?_;rintro e b⟨rfl,rfl⟩;rw[h1]);go_ret;exact⟨by rw[a.out];rfl,(aF _ _).alloc (aC _) _⟩
 ·have j:1<=y/\y<=9999:=by simpa[dB]using h1
  by_cases h2:1<=mo/\mo<=12
  ·obtain⟨c,f⟩:=h2;by_cases h3:1<=d
   ·have i:decide (d<1)=false:=by simp;omega
    by_cases h4:d<=dO y mo
    ·have a:Hid (fL y mo d h mi s=(decide (h<=23)&&decide (mi<=59)&&decide (s<=59))):=by show _=_;simp[fL,h1,c,f,h3,h4]
     go_enter func132,ntmps132;go_wp2_with(go_at_call 51;refine(lF _ _).mono ?_;rintro e b⟨rfl,rfl⟩;rw[h1]);go_quiet((go_at_call 174;exact Calls.quiet_of_same (qY _ _ _ (by omega) (by omega) (by omega) ((g.alloc _).drewN _))))
     go_wp2;all_goals go_ret
     all_goals refine⟨lZ ?_,below_drewN ((aF _ _).alloc (aC _) _) _⟩
     all_goals rw[a.out]
     all_goals try simp
     all_goals try omega
    ·have a:Hid (fL y mo d h mi s=false):=by show _=_;simp[fL,h4]
     go_enter func132,ntmps132;go_wp2_with(go_at_call 51;refine(lF _ _).mono ?_;rintro e b⟨rfl,rfl⟩;rw[h1]);go_quiet((go_at_call 174;exact Calls.quiet_of_same (qY _ _ _ (by omega) (by omega) (by omega) ((g.alloc _).drewN _))))
     go_wp2;go_ret;exact⟨by rw[a.out];rfl,below_drewN ((aF _ _).alloc (aC _) _) _⟩
   ·have a:Hid (fL y mo d h mi s=false):=by show _=_;simp[fL,h3]
    have i:decide (d<1)=true:=by simp;omega
    go_enter func132,ntmps132;go_wp2_with(go_at_call 51;refine(lF _ _).mono ?_;rintro e b⟨rfl,rfl⟩;rw[h1]);go_quiet(fail)
    go_wp2;go_ret;exact⟨by rw[a.out];rfl,below_drewN ((aF _ _).alloc (aC _) _) _⟩
  ·have a:Hid (fL y mo d h mi s=false):=by
    show _=_;simp only[fL,Bool.and_eq_false_iff,rT];omega
   by_cases h5:1<=mo
   ·have h6:¬mo<=12:=fun h=>h2 ⟨h5,h⟩;clear h2;go_enter func132,ntmps132;go_wp2_with(go_at_call 51;refine(lF _ _).mono ?_;rintro e b⟨rfl,rfl⟩;rw[h1]);go_ret;exact⟨by rw[a.out];rfl,(aF _ _).alloc (aC _) _⟩
   ·clear h2;go_enter func132,ntmps132;go_wp2_with(go_at_call 51;refine(lF _ _).mono ?_;rintro e b⟨rfl,rfl⟩;rw[h1]);go_ret;exact⟨by rw[a.out];rfl,(aF _ _).alloc (aC _) _⟩
end Go.Proofs.Z
namespace Go.Proofs.Z
open Hm Hw Tryz Go.RowKit
attribute [local go_sem] cN cO
theorem kT:(prog.info? 199).map (·.size)=some 6:=by kernel_rfl
theorem jC:(prog.info? 3).map (·.size)=some 1:=by kernel_rfl
theorem kU{w a:World}{A B:Array Value}{b c:TypeId}(d:Below ((w.alloc (.cells A b)).alloc (.cells B c)).heap.size ((w.alloc (.cells A b)).alloc (.cells B c)) a):
  a.heap[w.heap.size]?=some (.cells A b (0,0))/\a.heap[w.heap.size+1]?=some (.cells B c (0,0)):=
 ⟨(d.block _ (by simp;omega)).trans (heap_alloc2_old _ _ _),(d.block _ (by simp)).trans (heap_alloc2_new _ _ _)⟩
theorem sG{j:World}{g:Nat}{a b c d e f:Value}{t:TypeId}(h:j.heap[g]?=some (.cells #[a,b,c,d,e,f] t (0,0))):
  (j.cell? ⟨g,0,none⟩=some a/\j.cell? ⟨g,1,none⟩=some b/\j.cell? ⟨g,2,none⟩=some c/\j.cell? ⟨g,3,none⟩=some d/\j.cell? ⟨g,4,none⟩=some e/\j.cell? ⟨g,5,none⟩=some f)/\∀i,j.frozen? ⟨g,i,none⟩=false:=
 ⟨⟨aS _ _ _ _ _ _ h,aS _ _ _ _ _ _ h,aS _ _ _ _ _ _ h,aS _ _ _ _ _ _ h,aS _ _ _ _ _ _ h,aS _ _ _ _ _ _ h⟩,fun _=>frozen_of_row _ _ _ _ _ h⟩
set_option maxHeartbeats 1000000 in
theorem TX(y mo d h mi s k:Int)(w:World)(r:aJ w)(O:1<=y)(t:y<=9999)(P:1<=mo)(u:mo<=12)(Q:1<=d)(z:d<=31)(W:0<=h)(S:h<=23)(T:0<=mi)(R:mi<=59)(X: -1439<=k)(U:k<=1439):
  Calls prog 133 #[.agg #[.int .i64 y,.int .i64 mo,.int .i64 d,.int .i64 h,.int .i64 mi,.int .i64 s],.int .i64 k] w fun e V=>
   e= .returned (.agg #[.int .i64 (bY y mo d h mi k).1.1,.int .i64 (bY y mo d h mi k).1.2.1,.int .i64 (bY y mo d h mi k).1.2.2,.int .i64 ((bY y mo d h mi k).2/60),.int .i64 ((bY y mo d h mi k).2%60),.int .i64 s])/\Below w.heap.size w V:=by
 by_cases h1:60*h+mi-k<0
 ·skip
  have A:Hid (bY y mo d h mi k=(fX y mo d,60*h+mi-k+1440)):=by show _=_;simp[bY,h1]
  rw[A.out];obtain⟨F,c⟩:∃x,(fX y mo d).1=x:=⟨_,rfl⟩;obtain⟨j,b⟩:∃x,(fX y mo d).2.1=x:=⟨_,rfl⟩;obtain⟨G,f⟩:∃x,(fX y mo d).2.2=x:=⟨_,rfl⟩;have a:∀w,aJ w->_:=fun w r=>TT y mo d h mi s w r O t P u Q z;simp only[c,b,f]at a⊢;have B:=aA a;clear a c b f;go_enter func133,ntmps133;go_wp2_with fail;refine(B.out _ ((r.alloc _).alloc _)).mono ?_;rintro e i⟨rfl,l⟩;obtain⟨r0,r1⟩:=kU l;have g:Below w.heap.size w i:=((((aF _ _).alloc (aC _) _).alloc (by simp) _).trans (l.mono (by simp;omega)));have H:=aA r0;have I:=aA r1;have J:=aA g;clear l r0 r1 B g;go_wp2_with(first
   |(refine bI rfl _ _ _ rfl rfl w.heap.size #[.int .i64 F,.int .i64 j,.int .i64 G,.int .i64 h,.int .i64 mi,.int .i64 s] rfl rfl _ _ H.out kT rfl rfl ?_;intro K C;have m:=aA C;clear C)
   |(refine bK rfl _ _ _ rfl rfl w.heap.size 3 (.int .i64 ((60*h+mi-k+1440)/60)) rfl rfl _ _ _ m.out.row jC (by simp) rfl rfl ?_;intro L n;simp only[eO,eR,eM]at n;have o:=aA n;clear n)
   |(refine bK rfl _ _ _ rfl rfl w.heap.size 4 (.int .i64 ((60*h+mi-k+1440)%60)) rfl rfl _ _ _ o.out.row jC (by simp) rfl rfl ?_;intro M p;simp only[eO,eR,eM]at p;have q:=aA p;clear p)
   |(refine cG rfl _ _ rfl w.heap.size rfl _ _ _ _ q.out.row underlying199 rfl kT ?_)
   |(refine bI rfl _ _ _ rfl rfl (w.heap.size+1) _ rfl rfl _ _ ((q.out.other _ (by omega)).trans ((o.out.other _ (by omega)).trans ((m.out.other _ (by omega)).trans I.out))) kT rfl rfl ?_;intro N D;have E:=aA D;clear D))
  refine bB (results_cell_row results133 _ _ _ _ _ _ _ rfl E.out.row underlying199 rfl kT) rfl ⟨rfl,?_⟩;exact((((J.out.trans (m.out.below (aC _))).trans (o.out.below (aC _))).trans (q.out.below (aC _))).trans (E.out.below (by omega)))
 by_cases h2:1440<=60*h+mi-k
 ·skip
  have A:Hid (bY y mo d h mi k=(fY y mo d,60*h+mi-k-1440)):=by show _=_;simp[bY,h1,h2]
  rw[A.out];obtain⟨F,c⟩:∃x,(fY y mo d).1=x:=⟨_,rfl⟩;obtain⟨j,b⟩:∃x,(fY y mo d).2.1=x:=⟨_,rfl⟩;obtain⟨G,f⟩:∃x,(fY y mo d).2.2=x:=⟨_,rfl⟩;have a:∀w,aJ w->_:=fun w r=>TV y mo d h mi s w r O t P u Q z;simp only[c,b,f]at a⊢;have B:=aA a;clear a c b f;go_enter func133,ntmps133;go_wp2_with fail;refine(B.out _ ((r.alloc _).alloc _)).mono ?_;rintro e i⟨rfl,l⟩;obtain⟨r0,r1⟩:=kU l;have g:Below w.heap.size w i:=((((aF _ _).alloc (aC _) _).alloc (by simp) _).trans (l.mono (by simp;omega)));have H:=aA r0;have I:=aA r1;have J:=aA g;clear l r0 r1 B g;go_wp2_with(first
   |(refine bI rfl _ _ _ rfl rfl w.heap.size #[.int .i64 F,.int .i64 j,.int .i64 G,.int .i64 h,.int .i64 mi,.int .i64 s] rfl rfl _ _ H.out kT rfl rfl ?_;intro K C;have m:=aA C;clear C)
   |(refine bK rfl _ _ _ rfl rfl w.heap.size 3 (.int .i64 ((60*h+mi-k-1440)/60)) rfl rfl _ _ _ m.out.row jC (by simp) rfl rfl ?_;intro L n;simp only[eO,eR,eM]at n;have o:=aA n;clear n)
   |(refine bK rfl _ _ _ rfl rfl w.heap.size 4 (.int .i64 ((60*h+mi-k-1440)%60)) rfl rfl _ _ _ o.out.row jC (by simp) rfl rfl ?_;intro M p;simp only[eO,eR,eM]at p;have q:=aA p;clear p)
   |(refine cG rfl _ _ rfl w.heap.size rfl _ _ _ _ q.out.row underlying199 rfl kT ?_)
   |(refine bI rfl _ _ _ rfl rfl (w.heap.size+1) _ rfl rfl _ _ ((q.out.other _ (by omega)).trans ((o.out.other _ (by omega)).trans ((m.out.other _ (by omega)).trans I.out))) kT rfl rfl ?_;intro N D;have E:=aA D;clear D))
  refine bB (results_cell_row results133 _ _ _ _ _ _ _ rfl E.out.row underlying199 rfl kT) rfl ⟨rfl,?_⟩;exact((((J.out.trans (m.out.below (aC _))).trans (o.out.below (aC _))).trans (q.out.below (aC _))).trans (E.out.below (by omega)))
 ·have A:Hid (bY y mo d h mi k=((y,mo,d),60*h+mi-k)):=by show _=_;simp[bY,h1,h2]
  rw[A.out];go_enter func133,ntmps133;go_wp2;refine bB (v:= .agg #[.int .i64 y,.int .i64 mo,.int .i64 d,.int .i64 ((60*h+mi-k)/60),.int .i64 ((60*h+mi-k)%60),.int .i64 s]) (by simp[results,results133,go_sem]) rfl ⟨rfl,?_⟩;exact((aF _ _).alloc (aC _) _).alloc (by simp) _
end Go.Proofs.Z
namespace Go.Proofs.Z
open Hm Tryz Go.RowKit
attribute [local go_sem] cN cO
theorem mR{w wr:World}(h:∃n,wr=w.drewN n)(m:Nat):∃n,wr.drewN m=w.drewN n:=by
 obtain⟨n,rfl⟩:=h;exact⟨n+m,by rw[World.drewN_drewN]⟩
theorem zF:∀(t s:List UInt8),bZ t s=true->t.length=s.length
 |[],[],_=>rfl
 |[],_::_,h=>by simp[bZ]at h
 | _::_,[],h=>by simp[bZ]at h
 | _::t,_::s,h=>by
  simp only[bZ,gP]at h;simp[zF t s h.2]
theorem TY(t s:List UInt8)(h:¬t.length=s.length):bZ t s=false:=by
 cases a:bZ t s
 ·rfl
 ·exact(h (zF t s a)).elim
set_option maxHeartbeats 1000000 in
theorem lG(t s:ByteArray)(w:World)(x:t.size<=9223372036854775800):
  Calls prog 128 #[.string t,.string s] w fun e q=>e= .returned (.bool (bZ t.data.toList s.data.toList))/\∃n,q=w.drewN n:=by
 by_cases g:t.size=s.size
 ·have r:((t.size:Int) !=(s.size:Int))=false:=by simp[g]
  go_enter func128,ntmps128;go_wp2;go_loopw [5,13] (fun _ i u=>∃k:Nat,k<=t.size/\i= .int .i64 k/\bZ t.data.toList s.data.toList=bZ (t.data.toList.drop k) (s.data.toList.drop k)/\∃n,u=w.drewN n) (fun _ i _=>t.size-(intOf i).toNat)
  case atStart=>exact⟨0,dM _,rfl,by simp,0,rfl⟩
  case round=>
   obtain⟨k,y,rfl,b,hw⟩:=hrel;have c:=aA hw;clear hw;have o:=aA b;clear b;by_cases m:k<t.size
   ·have d:k<s.size:=by omega
    have i1:(k:Int)<(t.size:Int):=by omega
    have i2:(k:Int)<(s.size:Int):=by omega
    have j:Hid (bZ t.data.toList s.data.toList=(jI t[k] s[k]&&bZ (t.data.toList.drop (k+1)) (s.data.toList.drop (k+1)))):=by
     show _=_;rw[o.out,vD t k m,vD s k d,bZ]
    have z:=aA g;clear g;by_cases h48:s[k].toNat=48
    ·have b1:((s[k].toNat:Int)==48)=true:=dZ.2 (by omega);have b2:((s[k].toNat:Int) !=48)=false:=by simp;omega
     have f:Hid (jI t[k] s[k]=aH t[k]):=by show _=_;unfold jI;rw[aD (eY.1 h48)]
     clear h48;cases p:aH t[k]
     ·have a:Hid (bZ t.data.toList s.data.toList=false):=by show _=_;rw[j.out,f.out,p];rfl
      go_wp2_with fail;go_quiet((go_at_call 84;exact Calls.quiet_of_same (pX _ _)))
      go_wp2;go_ret;exact⟨by rw[a.out];rfl,mR c.out _⟩
     ·have a:Hid (bZ t.data.toList s.data.toList=bZ (t.data.toList.drop (k+1)) (s.data.toList.drop (k+1))):=by show _=_;rw[j.out,f.out,p];rfl
      go_wp2_with fail;go_quiet((go_at_call 84;exact Calls.quiet_of_same (pX _ _)))
      go_wp2;go_roundw;case rel=>exact⟨k+1,by omega,aY (by omega),a.out,mR c.out _⟩
      case measure=>simp[intOf];omega
    ·have b1:((s[k].toNat:Int)==48)=false:=bG.2 (by omega);have b2:((s[k].toNat:Int) !=48)=true:=by simp;omega
     have f:Hid (jI t[k] s[k]=(s[k]==t[k])):=by show _=_;unfold jI;rw[aB (fun h=>h48 (by rw[h];rfl))]
     clear h48;by_cases l:s[k].toNat=t[k].toNat
     ·have v:((s[k].toNat:Int) !=(t[k].toNat:Int))=false:=by simp;omega
      have a:Hid (bZ t.data.toList s.data.toList=bZ (t.data.toList.drop (k+1)) (s.data.toList.drop (k+1))):=by show _=_;rw[j.out,f.out,eY.1 l];simp
      clear l;go_wp2_with fail;go_quiet((go_at_call 84;exact Calls.quiet_of_same (pX _ _)))
      go_wp2;go_roundw;case rel=>exact⟨k+1,by omega,aY (by omega),a.out,mR c.out _⟩
      case measure=>simp[intOf];omega
     ·have v:((s[k].toNat:Int) !=(t[k].toNat:Int))=true:=by simp;omega
      have a:Hid (bZ t.data.toList s.data.toList=false):=by
       show _=_;rw[j.out,f.out,bG.2 (fun h=>l (by rw[h]))];rfl
      clear l;go_wp2_with fail;go_quiet((go_at_call 84;exact Calls.quiet_of_same (pX _ _)))
      go_wp2;go_ret;exact⟨by rw[a.out];rfl,mR c.out _⟩
   ·have a:Hid (bZ t.data.toList s.data.toList=true):=by
     show _=_;rw[o.out,gH (by rw[Hm.len];omega),gH (by rw[Hm.len];omega)];rfl
    go_wp2;go_ret;exact⟨by rw[a.out];rfl,c.out⟩
 ·have a:Hid (bZ t.data.toList s.data.toList=false):=TY _ _ (by rw[Hm.len,Hm.len];exact g);have r:((t.size:Int) !=(s.size:Int))=true:=by simp;omega
  go_enter func128,ntmps128;go_wp2;go_ret;exact⟨by rw[a.out];rfl,0,rfl⟩
theorem zG{P:Program}{id:Nat}{Q:Exit->Act->World->Prop}{a:Act}{w:World}{l:List Oper}(n:Nat)(b:P.follows .mixedOrders=true)(c:Region.lexTailB .any l.toArray n=true)(h:wpStill P l.toArray w.drew (fun d=>wpList P l.toArray Q (l.drop n) d w.drew) (l.take n) a):(Code.region id l.toArray true).wp P Q a w:=wp_region_still_tail n b c h
theorem gT:prog.follows .mixedOrders=true:=by kernel_rfl
theorem fK(s:ByteArray)(a b:Nat):(s.extract a b).data.toList=(s.data.toList.drop a).take (b-a):=Lib.extract_data s a b
set_option maxRecDepth 100000 in
set_option maxHeartbeats 400000 in
theorem TZ(s:ByteArray)(w:World)(t:19<=s.size)(f:s.size<=9223372036854775800)(b:bZ (s.data.toList.take 19) jQ=true):
  Calls prog 131 #[.string s] w fun e a=>
   e= .returned (.agg #[.int .i64 (aK s.data.toList 0 4),.int .i64 (aK s.data.toList 5 7),.int .i64 (aK s.data.toList 8 10),.int .i64 (aK s.data.toList 11 13),.int .i64 (aK s.data.toList 14 16),.int .i64 (aK s.data.toList 17 19)])/\Below w.heap.size w a:=by
 have u:(4:Int)<=(s.size:Int):=by omega
 have x:(7:Int)<=(s.size:Int):=by omega
 have g:(10:Int)<=(s.size:Int):=by omega
 have i:(13:Int)<=(s.size:Int):=by omega
 have k:(16:Int)<=(s.size:Int):=by omega
 have l:(19:Int)<=(s.size:Int):=by omega
 have c:∀w,Calls prog 85 #[.string (s.extract 0 4)] w fun e a=>e= .returned (.int .i64 (aK s.data.toList 0 4))/\a=w:=fun w=>by
  have:=oY (s.extract 0 4) w (by simp;omega) (by rw[fK];exact qV b 0 4 (by omega) (by intro j h1 h2;rcases(by omega:j=0∨j=1∨j=2∨j=3)with h|h|h|h <;> subst h <;> rfl))
  rwa [fK]at this
 have m:=aA c;clear c;have d1:∀w,Calls prog 85 #[.string (s.extract 5 7)] w fun e a=>e= .returned (.int .i64 (aK s.data.toList 5 7))/\a=w:=fun w=>by
  have:=oY (s.extract 5 7) w (by simp;omega) (by rw[fK];exact qV b 5 7 (by omega) (by intro j h1 h2;rcases(by omega:j=5∨j=6)with h|h <;> subst h <;> rfl))
  rwa [fK]at this
 have n:=aA d1;clear d1;have d2:∀w,Calls prog 85 #[.string (s.extract 8 10)] w fun e a=>e= .returned (.int .i64 (aK s.data.toList 8 10))/\a=w:=fun w=>by
  have:=oY (s.extract 8 10) w (by simp;omega) (by rw[fK];exact qV b 8 10 (by omega) (by intro j h1 h2;rcases(by omega:j=8∨j=9)with h|h <;> subst h <;> rfl))
  rwa [fK]at this
 have o:=aA d2;clear d2;have d3:∀w,Calls prog 85 #[.string (s.extract 11 13)] w fun e a=>e= .returned (.int .i64 (aK s.data.toList 11 13))/\a=w:=fun w=>by
  have:=oY (s.extract 11 13) w (by simp;omega) (by rw[fK];exact qV b 11 13 (by omega) (by intro j h1 h2;rcases(by omega:j=11∨j=12)with h|h <;> subst h <;> rfl))
  rwa [fK]at this
 have p:=aA d3;clear d3;have d4:∀w,Calls prog 85 #[.string (s.extract 14 16)] w fun e a=>e= .returned (.int .i64 (aK s.data.toList 14 16))/\a=w:=fun w=>by
  have:=oY (s.extract 14 16) w (by simp;omega) (by rw[fK];exact qV b 14 16 (by omega) (by intro j h1 h2;rcases(by omega:j=14∨j=15)with h|h <;> subst h <;> rfl))
  rwa [fK]at this
 have q:=aA d4;clear d4;have d:∀w,Calls prog 85 #[.string (s.extract 17 19)] w fun e a=>e= .returned (.int .i64 (aK s.data.toList 17 19))/\a=w:=fun w=>by
  have:=oY (s.extract 17 19) w (by simp;omega) (by rw[fK];exact qV b 17 19 (by omega) (by intro j h1 h2;rcases(by omega:j=17∨j=18)with h|h <;> subst h <;> rfl))
  rwa [fK]at this
 have r:=aA d;clear d;clear b;go_enter func131,ntmps131;go_wp2_with fail;refine zG 18 gT (by kernel_rfl) ?_;simp only[mG,List.take_zero,iZ,fB]
 still_step
 still_step
 still_call (m.out _)
 still_step
 still_step
 still_call (n.out _)
 still_step
 still_step
 still_call (o.out _)
 still_step
 still_step
 still_call (p.out _)
 still_step
 still_step
 still_call (q.out _)
 still_step
 still_step
 still_call (r.out _)
 refine wpStill_nil ?_;go_wp2;refine bB (v:= .agg #[.int .i64 (aK s.data.toList 0 4),.int .i64 (aK s.data.toList 5 7),.int .i64 (aK s.data.toList 8 10),.int .i64 (aK s.data.toList 11 13),.int .i64 (aK s.data.toList 14 16),.int .i64 (aK s.data.toList 17 19)]) (by simp[results,results131,go_sem]) rfl ⟨rfl,?_⟩;exact((aF _ _).alloc (aC _) _).drew
end Go.Proofs.Z
namespace Go.Proofs.Z
open Hm Tryz Go.RowKit Go.Sort
attribute [local go_sem] cN cO
theorem dY(a b:List UInt8):(⟨a.toArray⟩:ByteArray)++⟨b.toArray⟩=⟨(a++b).toArray⟩:=by
 apply ByteArray.ext;simp[ByteArray.data_append]
theorem UA(w:World)(k:Nat)(os:Array Obj):Below w.heap.size w (grow (w.drewN k) os):=
 ⟨rfl,rfl,rfl,by simp[grow],fun j a=>by simp[grow,Array.getElem?_append_left a]⟩
theorem vQ(n:Int)(w:World)(h0:0<=n)(h1:n<=9223372036854775807)(b:aJ w):
  Calls prog 48 #[.int .i64 n] w fun e a=>e= .returned (.string ⟨(Lib.decDigits n.toNat).toArray⟩)/\Below w.heap.size w a:=by
 refine(aDb n (by omega) h1 w b.p10).mono ?_;rintro e a⟨rfl,k,os,rfl⟩;refine⟨by rw[Lib.itoa,aB (by omega)],UA _ _ _⟩
theorem UB(n:Int)(c:Nat)(w:World)(h0:0<=n)(h1:n<=9999)(j:(Lib.decDigits n.toNat).length<=c)(k:c<=4)(b:aJ w):
  Calls prog 177 #[.int .i64 n,.int .i64 c] w fun e m=>e= .returned (.string ⟨(pT n.toNat c).toArray⟩)/\Below w.heap.size w m:=by
 obtain⟨l,a⟩:∃l,Lib.decDigits n.toNat=l:=⟨_,rfl⟩;have d:=fun w b=>vQ n w h0 (by omega) b;rw[a]at j;have g:Hid (pT n.toNat c=Lib.repeatL [48] (c-l.length)++l):=by show _=_;unfold pT;rw[a]
 simp only[a]at d;have o:=aA d;clear a d;go_enter func177,ntmps177;go_wp2_with fail;refine(o.out _ b).mono ?_;rintro e q⟨rfl,h⟩;go_wp2_with fail;rw[show((c:Int)-(l.length:Int))=((c-l.length:Nat):Int) by omega];refine(aDl ⟨#[48]⟩ (c-l.length) _ (by omega) (by show 1*(c-l.length)<=_;omega)).mono ?_;rintro e s⟨rfl,f⟩;have i:(Lib.repeatL [48] (c-l.length)).length=c-l.length:=by rw[Lib.repeatL_length];simp
 generalize Lib.repeatL [48] (c-l.length)=r at g i⊢;have p:r.length<=4:=by omega
 clear i;go_wp2;go_ret;refine⟨?_,h.trans (f.mono h.size)⟩;rw[g.out,<-dY];rfl
theorem bV{P:Program}{ops:Array Oper}{C:World->Prop}{Q:Act->Prop}{rest:List Oper}{o:Oper}{a:Act}(v:Value)(hw:Region.wanted o (yielded ops a.tmps)=true)(h:∀b,C b->o.quietAt P a C b v)(c:∀K:Act->Prop,(∀a,wpQuiet P ops C Q rest a->K a)->K (a.put o.dst v)):wpQuiet P ops C Q (o::rest) a:=by
 unfold wpQuiet;rw[aD hw];exact⟨v,h,c _ fun _ h=>h⟩
theorem sH{P:Program}{id:Nat}{Q:Exit->Act->World->Prop}{a:Act}{w:World}{l:List Oper}(C:World->Prop)(c:P.follows .mixedOrders=true)(d:Region.lexB .any l.toArray=true)(e:C w.drew)(h:wpQuiet P l.toArray C (fun f=>∀b,C b->Q .normal f b) l a):(Code.region id l.toArray true).wp P Q a w:=
 wp_region_quiet (C:=C) c d e (by simpa using h)
theorem EU(n:Int)(c:Nat)(W a:World)(f:aJ W)(hw:Below W.heap.size W a)(h0:0<=n)(h1:n<=9999)(g:(Lib.decDigits n.toNat).length<=c)(b:c<=4):
  Calls prog 177 #[.int .i64 n,.int .i64 c] a fun e d=>e= .returned (.string ⟨(pT n.toNat c).toArray⟩)/\Below W.heap.size W d:=
 (UB n c a h0 h1 g b (f.next hw)).mono fun _ _⟨he,hb⟩=>⟨he,hw.trans (hb.mono hw.size)⟩
theorem EV(n:Int)(W a:World)(c:aJ W)(hw:Below W.heap.size W a)(h0:0<=n)(h1:n<=9999):
  Calls prog 177 #[.int .i64 n,.int .i64 4] a fun e b=>e= .returned (.string ⟨(fP n.toNat).toArray⟩)/\Below W.heap.size W b:=by
 have:=EU n 4 W a c hw h0 h1 (SI (by omega)) (by omega)
 rwa [SL (by omega)]at this
theorem sI(n:Int)(W a:World)(c:aJ W)(hw:Below W.heap.size W a)(h0:0<=n)(h1:n<=99):
  Calls prog 177 #[.int .i64 n,.int .i64 2] a fun e b=>e= .returned (.string ⟨(Hm.d2 n.toNat).toArray⟩)/\Below W.heap.size W b:=by
 have:=EU n 2 W a c hw h0 (by omega) (pU (by omega)) (by omega)
 rwa [SJ (by omega)]at this
theorem tM{w a:World}{A:Array Value}{t:TypeId}(b:Below (w.alloc (.cells A t)).heap.size (w.alloc (.cells A t)) a):a.heap[w.heap.size]?=some (.cells A t (0,0)):=
 (b.block _ (by simp)).trans (heap_alloc_new _ _)
set_option maxRecDepth 100000 in
set_option maxHeartbeats 1000000 in
theorem UC(y mo d h mi s:Int)(w:World)(J:aJ w)(hy:1<=y)(L:y<=9999)(hm:1<=mo)(N:mo<=12)(hd:1<=d)(O:d<=31)(hh:0<=h)(P:h<=23)(Q:0<=mi)(z:mi<=59)(hs:0<=s)(R:s<=59):
  Calls prog 134 #[.agg #[.int .i64 y,.int .i64 mo,.int .i64 d,.int .i64 h,.int .i64 mi,.int .i64 s]] w fun e a=>
   e= .returned (.string ⟨(eT y.toNat mo.toNat d.toNat h.toNat mi.toNat s.toNat).toArray⟩)/\Below w.heap.size w a:=by
 obtain⟨W,k⟩:∃W,w.alloc (.cells #[.int .i64 y,.int .i64 mo,.int .i64 d,.int .i64 h,.int .i64 mi,.int .i64 s] 199)=W:=⟨_,rfl⟩;have j:aJ W:=k▸J.alloc _;have l:Hid (Below w.heap.size w W):=k▸(aF _ _).alloc (aC _) _;have u:w.heap.size<=W.heap.size:=l.out.size;have i:∀a,Below W.heap.size W a->a.heap[w.heap.size]?=some (.cells #[.int .i64 y,.int .i64 mo,.int .i64 d,.int .i64 h,.int .i64 mi,.int .i64 s] 199 (0,0)):=fun a g=>by subst k;exact tM g
 have T:∀a,Below W.heap.size W a->a.cell? ⟨w.heap.size,0,none⟩=some (.int .i64 y):=fun a g=>aS _ _ _ _ _ _ (i a g);have U:∀a,Below W.heap.size W a->a.cell? ⟨w.heap.size,1,none⟩=some (.int .i64 mo):=fun a g=>aS _ _ _ _ _ _ (i a g);have V:∀a,Below W.heap.size W a->a.cell? ⟨w.heap.size,2,none⟩=some (.int .i64 d):=fun a g=>aS _ _ _ _ _ _ (i a g);have X:∀a,Below W.heap.size W a->a.cell? ⟨w.heap.size,3,none⟩=some (.int .i64 h):=fun a g=>aS _ _ _ _ _ _ (i a g);have Z:∀a,Below W.heap.size W a->a.cell? ⟨w.heap.size,4,none⟩=some (.int .i64 mi):=fun a g=>aS _ _ _ _ _ _ (i a g);have c5:∀a,Below W.heap.size W a->a.cell? ⟨w.heap.size,5,none⟩=some (.int .i64 s):=fun a g=>aS _ _ _ _ _ _ (i a g);obtain⟨Y,n⟩:∃Y,fP y.toNat=Y:=⟨_,rfl⟩;have lY:Y.length=4:=by rw[<-n];rfl
 have A:∀a,Below W.heap.size W a->Calls prog 177 #[.int .i64 y,.int .i64 4] a fun e f=>e= .returned (.string ⟨Y.toArray⟩)/\Below W.heap.size W f:=fun a g=>by rw[<-n];exact EV y W a j g (by omega) (by omega)
 have KY:=aA A;clear A;obtain⟨M,o⟩:∃M,Hm.d2 mo.toNat=M:=⟨_,rfl⟩;have lM:M.length=2:=by rw[<-o];rfl
 have B:∀a,Below W.heap.size W a->Calls prog 177 #[.int .i64 mo,.int .i64 2] a fun e f=>e= .returned (.string ⟨M.toArray⟩)/\Below W.heap.size W f:=fun a g=>by rw[<-o];exact sI mo W a j g (by omega) (by omega)
 have KM:=aA B;clear B;obtain⟨D,p⟩:∃D,Hm.d2 d.toNat=D:=⟨_,rfl⟩;have lD:D.length=2:=by rw[<-p];rfl
 have C:∀a,Below W.heap.size W a->Calls prog 177 #[.int .i64 d,.int .i64 2] a fun e f=>e= .returned (.string ⟨D.toArray⟩)/\Below W.heap.size W f:=fun a g=>by rw[<-p];exact sI d W a j g (by omega) (by omega)
 have KD:=aA C;clear C;obtain⟨H,q⟩:∃H,Hm.d2 h.toNat=H:=⟨_,rfl⟩;have lH:H.length=2:=by rw[<-q];rfl
 have E:∀a,Below W.heap.size W a->Calls prog 177 #[.int .i64 h,.int .i64 2] a fun e f=>e= .returned (.string ⟨H.toArray⟩)/\Below W.heap.size W f:=fun a g=>by rw[<-q];exact sI h W a j g (by omega) (by omega)
 have KH:=aA E;clear E;obtain⟨I,r⟩:∃I,Hm.d2 mi.toNat=I:=⟨_,rfl⟩;have lI:I.length=2:=by rw[<-r];rfl
 have F:∀a,Below W.heap.size W a->Calls prog 177 #[.int .i64 mi,.int .i64 2] a fun e f=>e= .returned (.string ⟨I.toArray⟩)/\Below W.heap.size W f:=fun a g=>by rw[<-r];exact sI mi W a j g (by omega) (by omega)
 have mC:=aA F;clear F;obtain⟨S,t⟩:∃S,Hm.d2 s.toNat=S:=⟨_,rfl⟩;have lS:S.length=2:=by rw[<-t];rfl
 have G:∀a,Below W.heap.size W a->Calls prog 177 #[.int .i64 s,.int .i64 2] a fun e f=>e= .returned (.string ⟨S.toArray⟩)/\Below W.heap.size W f:=fun a g=>by rw[<-t];exact sI s W a j g (by omega) (by omega)
 have KS:=aA G;clear G;have HF:Hid (eT y.toNat mo.toNat d.toNat h.toNat mi.toNat s.toNat=Y++[45]++M++[45]++D++[84]++H++[58]++I++[58]++S):=by
  show _=_;unfold eT;rw[n,o,p,q,r,t]
 clear n o p q r t i;go_enter func134,ntmps134;go_wp2_with fail;have HW:=aA k;clear k;refine sH (fun a=>Below W.heap.size W a) gT (by kernel_rfl) (aF _ _).drew ?_;refine bV _ rfl (fun a c=>by unfold Oper.quietAt;go_simp;rfl) ?_;intro K b;go_simp;refine b _ ?_;clear b K;refine bV (.int .i64 y) rfl (fun a c=>by unfold Oper.quietAt;have m:=T a c;go_simp) ?_;intro K b;go_simp;refine b _ ?_;clear b K;refine bV (.string ⟨Y.toArray⟩) rfl (fun a c=>by unfold Oper.quietAt;go_simp;exact KY.out a c) ?_;intro K b;go_simp;refine b _ ?_;clear b K;refine bV _ rfl (fun a c=>by unfold Oper.quietAt;go_simp;rfl) ?_;intro K b;go_simp;refine b _ ?_;clear b K;refine bV _ rfl (fun a c=>by unfold Oper.quietAt;go_simp;rfl) ?_;intro K b;go_simp;refine b _ ?_;clear b K;refine bV (.int .i64 mo) rfl (fun a c=>by unfold Oper.quietAt;have m:=U a c;go_simp) ?_;intro K b;go_simp;refine b _ ?_;clear b K;refine bV (.string ⟨M.toArray⟩) rfl (fun a c=>by unfold Oper.quietAt;go_simp;exact KM.out a c) ?_;intro K b;go_simp;refine b _ ?_;clear b K;refine bV _ rfl (fun a c=>by unfold Oper.quietAt;go_simp;rfl) ?_;intro K b;go_simp;refine b _ ?_;clear b K;refine bV _ rfl (fun a c=>by unfold Oper.quietAt;go_simp;rfl) ?_;intro K b;go_simp;refine b _ ?_;clear b K;refine bV _ rfl (fun a c=>by unfold Oper.quietAt;go_simp;rfl) ?_;intro K b;go_simp;refine b _ ?_;clear b K;refine bV (.int .i64 d) rfl (fun a c=>by unfold Oper.quietAt;have m:=V a c;go_simp) ?_;intro K b;go_simp;refine b _ ?_;clear b K;refine bV (.string ⟨D.toArray⟩) rfl (fun a c=>by unfold Oper.quietAt;go_simp;exact KD.out a c) ?_;intro K b;go_simp;refine b _ ?_;clear b K;refine bV _ rfl (fun a c=>by unfold Oper.quietAt;go_simp;rfl) ?_;intro K b;go_simp;refine b _ ?_;clear b K;refine bV _ rfl (fun a c=>by unfold Oper.quietAt;go_simp;rfl) ?_;intro K b;go_simp;refine b _ ?_;clear b K;refine wpQuiet_nil ?_;intro w1 v;go_wp2_with fail;refine sH (fun a=>Below W.heap.size W a) gT (by kernel_rfl) v.drew ?_;refine bV _ rfl (fun a c=>by unfold Oper.quietAt;go_simp;rfl) ?_;intro K b;go_simp;refine b _ ?_;clear b K;refine bV _ rfl (fun a c=>by unfold Oper.quietAt;go_simp;rfl) ?_;intro K b;go_simp;refine b _ ?_;clear b K;refine bV _ rfl (fun a c=>by unfold Oper.quietAt;go_simp;rfl) ?_;intro K b;go_simp;refine b _ ?_;clear b K;refine bV (.int .i64 h) rfl (fun a c=>by unfold Oper.quietAt;have m:=X a c;go_simp) ?_;intro K b;go_simp;refine b _ ?_;clear b K;refine bV (.string ⟨H.toArray⟩) rfl (fun a c=>by unfold Oper.quietAt;go_simp;exact KH.out a c) ?_;intro K b;go_simp;refine b _ ?_;clear b K;refine bV _ rfl (fun a c=>by unfold Oper.quietAt;go_simp;rfl) ?_;intro K b;go_simp;refine b _ ?_;clear b K;refine bV _ rfl (fun a c=>by unfold Oper.quietAt;go_simp;rfl) ?_;intro K b;go_simp;refine b _ ?_;clear b K;refine bV _ rfl (fun a c=>by unfold Oper.quietAt;go_simp;rfl) ?_;intro K b;go_simp;refine b _ ?_;clear b K;refine bV (.int .i64 mi) rfl (fun a c=>by unfold Oper.quietAt;have m:=Z a c;go_simp) ?_;intro K b;go_simp;refine b _ ?_;clear b K;refine bV (.string ⟨I.toArray⟩) rfl (fun a c=>by unfold Oper.quietAt;go_simp;exact mC.out a c) ?_;intro K b;go_simp;refine b _ ?_;clear b K;refine bV _ rfl (fun a c=>by unfold Oper.quietAt;go_simp;rfl) ?_;intro K b;go_simp;refine b _ ?_;clear b K;refine bV _ rfl (fun a c=>by unfold Oper.quietAt;go_simp;rfl) ?_;intro K b;go_simp;refine b _ ?_;clear b K;refine bV _ rfl (fun a c=>by unfold Oper.quietAt;go_simp;rfl) ?_;intro K b;go_simp;refine b _ ?_;clear b K;refine bV (.int .i64 s) rfl (fun a c=>by unfold Oper.quietAt;have m:=c5 a c;go_simp) ?_;intro K b;go_simp;refine b _ ?_;clear b K;refine bV (.string ⟨S.toArray⟩) rfl (fun a c=>by unfold Oper.quietAt;go_simp;exact KS.out a c) ?_;intro K b;go_simp;refine b _ ?_;clear b K;refine bV _ rfl (fun a c=>by unfold Oper.quietAt;go_simp;rfl) ?_;intro K b;go_simp;refine b _ ?_;clear b K;refine bV _ rfl (fun a c=>by unfold Oper.quietAt;go_simp;rfl) ?_;intro K b;go_simp;refine b _ ?_;clear b K;refine wpQuiet_nil ?_;intro w2 x;go_wp2;go_ret;refine⟨?_,l.out.trans (x.mono u)⟩;rw[HF.out];simp only[<-dY];rfl
end Go.Proofs.Z

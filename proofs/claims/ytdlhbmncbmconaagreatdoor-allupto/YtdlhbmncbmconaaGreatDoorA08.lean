/- Pressed by program out of Bc Bd. -/
import Derived.Test.YtdlhbmncbmconaaGreatDoorA07
import Derived.RangeFuncNested
import Derived.RangeFuncBound
import Derived.Shelf.RegionOpen
import Derived.LoopNIn
import Derived.LoopIn
import Derived.Maps.OwnIn
namespace Go.Proofs.Z
open Hm Tryz Go.RowKit Go.Sort
attribute [local go_sem] cN cO
theorem vR{a b c d:ByteArray}(h:a=b)(e:c=d):Ending.returned (.tuple #[.string a,.string c])= .returned (.tuple #[.string b,.string d]):=by rw[h,e]
theorem jS{s:ByteArray}{l:List UInt8}(h:s.data.toList=l):s=⟨l.toArray⟩:=by rw[<-h,Lib.mk_data]
set_option maxHeartbeats 400000 in
theorem UD(s:ByteArray)(w:World)(m:s.size<=9223372036854775700):
  Calls prog 129 #[.string s] w fun e a=>e= .returned (.tuple #[.string ⟨(dT s.data.toList).1.toArray⟩,.string ⟨(dT s.data.toList).2.toArray⟩])/\∃n,a=w.drewN n:=by
 cases b:Lib.hasPrefix s.data.toList [46]
 ·have c:Hid (dT s.data.toList=([],s.data.toList)):=by show _=_;unfold dT;rw[aD b]
  go_enter func129,ntmps129;go_wp2_with(go_at_call 53;refine(dV _ _ _).mono ?_;rintro e a⟨rfl,rfl⟩;rw[b]);go_ret2;exact⟨by rw[c.out];exact vR rfl (jS rfl),0,rfl⟩
 ·have k:=iA b;simp only[Hm.len,bU,dS]at k;have i:=nN aH 6 (s.data.toList.drop 1);rw[bC,Hm.len]at i;obtain⟨n,d⟩:∃n,n=aZ aH 6 (s.data.toList.drop 1):=⟨_,rfl⟩;rw[<-d]at i;have g:=aA d;clear d;by_cases h0:n=0
  ·have c:Hid (dT s.data.toList=([],s.data.toList)):=by show _=_;unfold dT;rw[aB (by simp[b]),<-g.out,aD h0]
   go_enter func129,ntmps129;go_wp2_with(first|(go_at_call 53;refine(dV _ _ _).mono ?_;rintro e a⟨rfl,rfl⟩;rw[b])|(go_at_call 83;refine(nO _ 6 _ (by simp;omega)).mono ?_;rintro e a⟨rfl,rfl⟩;rw[cP,<-g.out]));go_ret2;exact⟨by rw[c.out];exact vR rfl (jS rfl),0,rfl⟩
  ·have b0:((n:Int)==0)=false:=bG.2 (by omega);have b1:(1:Int)+(n:Int)<=(s.size:Int):=by omega
   obtain⟨f,h⟩:∃f,Lib.trimRightB (s.data.toList.take (1+n)) 48=f:=⟨_,rfl⟩;have j:Hid (∀w,Calls prog 173 #[.string (s.extract 0 (1+n)),.string ⟨#[48]⟩] w fun e a=>e= .returned (.string ⟨f.toArray⟩)/\a=w):=fun w=>by
    have:=aC6 (s.extract 0 (1+n)) 48 (by decide) w (by simp;omega)
    rwa [fK,fB,Nat.sub_zero,h]at this
   by_cases h1:f=[46]
   ·have c:Hid (dT s.data.toList=([],s.data.toList.drop (1+n))):=by
     show _=_;unfold dT;rw[aB (by simp[b]),<-g.out,aB h0,h,aD h1]
    clear h h0;go_enter func129,ntmps129;go_wp2_with(first|(go_at_call 53;refine(dV _ _ _).mono ?_;rintro e a⟨rfl,rfl⟩;rw[b])|(go_at_call 83;refine(nO _ 6 _ (by simp;omega)).mono ?_;rintro e a⟨rfl,rfl⟩;rw[cP,<-g.out]));subst h1;refine(j.out _).mono ?_;rintro e l⟨rfl,rfl⟩;go_wp2_with fail;go_quiet(fail)
    go_wp2;go_ret2;exact⟨by rw[c.out];exact vR rfl (jS (cP _ _)),_,rfl⟩
   ·have c:Hid (dT s.data.toList=(f,s.data.toList.drop (1+n))):=by
     show _=_;unfold dT;rw[aB (by simp[b]),<-g.out,aB h0,h,aB h1]
    have b2:(f==[46])=false:=bG.2 h1;clear h h0 h1;go_enter func129,ntmps129;go_wp2_with(first|(go_at_call 53;refine(dV _ _ _).mono ?_;rintro e a⟨rfl,rfl⟩;rw[b])|(go_at_call 83;refine(nO _ 6 _ (by simp;omega)).mono ?_;rintro e a⟨rfl,rfl⟩;rw[cP,<-g.out]));refine(j.out _).mono ?_;rintro e l⟨rfl,rfl⟩;go_wp2_with fail;go_quiet(fail)
    go_wp2;go_ret2;exact⟨by rw[c.out];exact vR rfl (jS (cP _ _)),_,rfl⟩
theorem tN{w a b:World}(h:∃n,a=w.drewN n)(c:∃n,b=a.drewN n):∃n,b=w.drewN n:=by
 obtain⟨n,rfl⟩:=c;exact mR h n
theorem tO{o:Option Int}{v:Int}(h:o=some v):Ending.returned (.tuple #[.int .i64 v,.bool true])= .returned (.tuple #[.int .i64 (o.getD 0),.bool o.isSome]):=by rw[h];rfl
theorem tP{o:Option Int}(h:o=none):Ending.returned (.tuple #[.int .i64 0,.bool false])= .returned (.tuple #[.int .i64 (o.getD 0),.bool o.isSome]):=by rw[h];rfl
set_option maxHeartbeats 1000000 in
theorem EW(s:ByteArray)(w:World)(M:List UInt8)(G:bZ s.data.toList M=true)(o:M=oU∨M=oV)(b:Bool)(P:bZ s.data.toList oU=b)(g:b=false->bZ s.data.toList oV=true):
  Calls prog 130 #[.string s] w fun e J=>e= .returned (.tuple #[.int .i64 ((eZ s.data.toList).getD 0),.bool (eZ s.data.toList).isSome])/\∃n,J=w.drewN n:=by
 have p:s.size=6:=by
  rw[<-Hm.len,zF _ _ G];rcases o with h|h <;> subst h <;> rfl
 have q:∀a b,b<=6->(∀j,a<=j->j<b->M[j]?=some 48)->∀c∈(s.data.toList.drop a).take (b-a),aH c=true:=fun a b P h=>
  qV (n:=6) (by rw[fV (by rw[Hm.len,p];exact aC _)];exact G) a b P h
 have h13:∀c∈(s.extract 1 3).data.toList,aH c=true:=by
  rw[fK];exact q 1 3 (by omega) (fun j h1 h2=>by rcases(by omega:j=1∨j=2)with h|h <;> subst h <;> rcases o with h|h <;> subst h <;> rfl)
 have h46:∀c∈(s.extract 4 6).data.toList,aH c=true:=by
  rw[fK];exact q 4 6 (by omega) (fun j h1 h2=>by rcases(by omega:j=4∨j=5)with h|h <;> subst h <;> rcases o with h|h <;> subst h <;> rfl)
 have t:(s.extract 1 3).data.toList=(s.data.toList.drop 1).take 2:=fK s 1 3;have u:(s.extract 4 6).data.toList=(s.data.toList.drop 4).take 2:=fK s 4 6;have v:=rX _ h13;have y:=rX _ h46;have K:(s.extract 1 3).data.toList.length=2:=by rw[t];simp;omega
 have L:(s.extract 4 6).data.toList.length=2:=by rw[u];simp;omega
 rw[K,t]at v;rw[L,u]at y;obtain⟨C,z⟩:∃x,cB ((s.data.toList.drop 1).take 2)=x:=⟨_,rfl⟩;obtain⟨D,A⟩:∃x,cB ((s.data.toList.drop 4).take 2)=x:=⟨_,rfl⟩;have E:Hid (∀w,Calls prog 85 #[.string (s.extract 1 3)] w fun e J=>e= .returned (.int .i64 C)/\J=w):=fun w=>by
  have:=oY (s.extract 1 3) w (by simp;omega) h13
  rwa [t,z]at this
 have F:Hid (∀w,Calls prog 85 #[.string (s.extract 4 6)] w fun e J=>e= .returned (.int .i64 D)/\J=w):=fun w=>by
  have:=oY (s.extract 4 6) w (by simp;omega) h46
  rwa [u,A]at this
 rw[z]at v;rw[A]at y;have Q:(s.toList==[90])=false:=by
  rw[Lib.toList_data];refine bG.2 fun h=>?_;have:s.data.toList.length=1:=by rw[h];rfl
  rw[Hm.len]at this;omega
 have B:0<s.size:=by omega
 have N:Hid (eZ s.data.toList=if 23<C∨59<D then none else if(s[0]'B).toNat=45 then some (-(60*C+D:Int))else some (60*C+D:Int)):=by
  show _=_;unfold eZ;rw[aB (by intro h;rw[Lib.toList_data,h]at Q;simp at Q),aB,z,A]
  ·congr 2;rw[gQ,dP (by rw[Hm.len];omega)];rfl
  ·rintro⟨h1,h2⟩;rcases o with h|h <;> subst h <;> simp_all
 have i1:(3:Int)<=(s.size:Int):=by omega
 have i2:(6:Int)<=(s.size:Int):=by omega
 have U:(0:Int)<(s.size:Int):=by omega
 have V:=aA p;have m:s.size<=9223372036854775800:=by omega
 clear z A h13 h46 q t u K L G o p;unfold oU at P;unfold oV at g;have W:C<100:=v;have X:D<100:=y;clear v y;by_cases R:23<C
 ·have r:Hid (eZ s.data.toList=none):=by show _=_;rw[N.out,aD (.inl R)]
  cases b
  ·skip
   have H:=g rfl;clear g;go_enter func130,ntmps130;go_wp2_with fail;refine(lG _ _ _ m).mono ?_;rintro e k⟨rfl,d⟩;have f:=aA d;clear d;go_wp2_with fail;refine(lG _ _ _ m).mono ?_;rintro e I⟨rfl,i⟩;have l:=aA i;clear i;go_wp2_with fail;go_quiet(first|(go_at_call_of 85 (Value.string (s.extract 1 3));exact Calls.quiet_of_same (E.out _))|(go_at_call_of 85 (Value.string (s.extract 4 6));exact Calls.quiet_of_same (F.out _)))
   go_wp2;go_ret2;exact⟨tP r.out,mR (tN f.out l.out) _⟩
  ·skip
   clear g;go_enter func130,ntmps130;go_wp2_with fail;refine(lG _ _ _ m).mono ?_;rintro e k⟨rfl,d⟩;have f:=aA d;clear d;go_wp2_with fail;go_quiet(first|(go_at_call_of 85 (Value.string (s.extract 1 3));exact Calls.quiet_of_same (E.out _))|(go_at_call_of 85 (Value.string (s.extract 4 6));exact Calls.quiet_of_same (F.out _)))
   go_wp2;go_ret2;exact⟨tP r.out,mR f.out _⟩
 ·by_cases S:59<D
  ·have r:Hid (eZ s.data.toList=none):=by show _=_;rw[N.out,aD (.inr S)]
   cases b
   ·skip
    have H:=g rfl;clear g;go_enter func130,ntmps130;go_wp2_with fail;refine(lG _ _ _ m).mono ?_;rintro e k⟨rfl,d⟩;have f:=aA d;clear d;go_wp2_with fail;refine(lG _ _ _ m).mono ?_;rintro e I⟨rfl,i⟩;have l:=aA i;clear i;go_wp2_with fail;go_quiet(first|(go_at_call_of 85 (Value.string (s.extract 1 3));exact Calls.quiet_of_same (E.out _))|(go_at_call_of 85 (Value.string (s.extract 4 6));exact Calls.quiet_of_same (F.out _)))
    go_wp2;go_ret2;exact⟨tP r.out,mR (tN f.out l.out) _⟩
   ·skip
    clear g;go_enter func130,ntmps130;go_wp2_with fail;refine(lG _ _ _ m).mono ?_;rintro e k⟨rfl,d⟩;have f:=aA d;clear d;go_wp2_with fail;go_quiet(first|(go_at_call_of 85 (Value.string (s.extract 1 3));exact Calls.quiet_of_same (E.out _))|(go_at_call_of 85 (Value.string (s.extract 4 6));exact Calls.quiet_of_same (F.out _)))
    go_wp2;go_ret2;exact⟨tP r.out,mR f.out _⟩
  ·by_cases O:(s[0]'B).toNat=45
   ·have r:Hid (eZ s.data.toList=some (-(60*C+D:Int))):=by show _=_;rw[N.out,aB (by omega),aD O]
    have T:(((s[0]'B).toNat:Int)==45)=true:=dZ.2 (by omega);clear O;cases b
    ·skip
     have H:=g rfl;clear g;go_enter func130,ntmps130;go_wp2_with fail;refine(lG _ _ _ m).mono ?_;rintro e k⟨rfl,d⟩;have f:=aA d;clear d;go_wp2_with fail;refine(lG _ _ _ m).mono ?_;rintro e I⟨rfl,i⟩;have l:=aA i;clear i;go_wp2_with fail;go_quiet(first|(go_at_call_of 85 (Value.string (s.extract 1 3));exact Calls.quiet_of_same (E.out _))|(go_at_call_of 85 (Value.string (s.extract 4 6));exact Calls.quiet_of_same (F.out _)))
     go_wp2;go_ret2;exact⟨tO r.out,mR (tN f.out l.out) _⟩
    ·skip
     clear g;go_enter func130,ntmps130;go_wp2_with fail;refine(lG _ _ _ m).mono ?_;rintro e k⟨rfl,d⟩;have f:=aA d;clear d;go_wp2_with fail;go_quiet(first|(go_at_call_of 85 (Value.string (s.extract 1 3));exact Calls.quiet_of_same (E.out _))|(go_at_call_of 85 (Value.string (s.extract 4 6));exact Calls.quiet_of_same (F.out _)))
     go_wp2;go_ret2;exact⟨tO r.out,mR f.out _⟩
   ·have r:Hid (eZ s.data.toList=some (60*C+D:Int)):=by show _=_;rw[N.out,aB (by omega),aB O]
    have T:(((s[0]'B).toNat:Int)==45)=false:=bG.2 (by omega);clear O;cases b
    ·skip
     have H:=g rfl;clear g;go_enter func130,ntmps130;go_wp2_with fail;refine(lG _ _ _ m).mono ?_;rintro e k⟨rfl,d⟩;have f:=aA d;clear d;go_wp2_with fail;refine(lG _ _ _ m).mono ?_;rintro e I⟨rfl,i⟩;have l:=aA i;clear i;go_wp2_with fail;go_quiet(first|(go_at_call_of 85 (Value.string (s.extract 1 3));exact Calls.quiet_of_same (E.out _))|(go_at_call_of 85 (Value.string (s.extract 4 6));exact Calls.quiet_of_same (F.out _)))
     go_wp2;go_ret2;exact⟨tO r.out,mR (tN f.out l.out) _⟩
    ·skip
     clear g;go_enter func130,ntmps130;go_wp2_with fail;refine(lG _ _ _ m).mono ?_;rintro e k⟨rfl,d⟩;have f:=aA d;clear d;go_wp2_with fail;go_quiet(first|(go_at_call_of 85 (Value.string (s.extract 1 3));exact Calls.quiet_of_same (E.out _))|(go_at_call_of 85 (Value.string (s.extract 4 6));exact Calls.quiet_of_same (F.out _)))
     go_wp2;go_ret2;exact⟨tO r.out,mR f.out _⟩
theorem UE(s:ByteArray)(w:World)(i:s.size<=9223372036854775800):
  Calls prog 130 #[.string s] w fun e k=>e= .returned (.tuple #[.int .i64 ((eZ s.data.toList).getD 0),.bool (eZ s.data.toList).isSome])/\∃n,k=w.drewN n:=by
 by_cases a:s.data.toList=[90]
 ·have d:Hid (eZ s.data.toList=some 0):=by show _=_;unfold eZ;rw[aD a]
  have l:s.toList=[90]:=by rw[Lib.toList_data];exact a
  clear a;go_enter func130,ntmps130;go_wp2;go_ret2;exact⟨tO d.out,0,rfl⟩
 ·cases h1:bZ s.data.toList oU
  ·cases h2:bZ s.data.toList oV
   ·have d:Hid (eZ s.data.toList=none):=by show _=_;unfold eZ;rw[aB a,aD ⟨h1,h2⟩]
    have l:(s.toList==[90])=false:=by rw[Lib.toList_data];simpa using a
    clear a;unfold oU at h1;unfold oV at h2;go_enter func130,ntmps130;go_wp2_with fail;refine(lG _ _ _ i).mono ?_;rintro e j⟨rfl,b⟩;have f:=aA b;clear b;go_wp2_with fail;refine(lG _ _ _ i).mono ?_;rintro e m⟨rfl,c⟩;have g:=aA c;clear c;go_wp2;go_ret2;exact⟨tP d.out,tN f.out g.out⟩
   ·exact EW s w _ h2 (.inr rfl) false h1 (fun _=>h2)
  ·exact EW s w _ h1 (.inl rfl) true h1 (fun h=>by cases h)
end Go.Proofs.Z
namespace Go.Proofs.Z
open Hm Hw Tryz Go.RowKit Go.Sort
attribute [local go_sem] cN cO
theorem UF{o:Option (List UInt8)}{v:List UInt8}(h:o=some v):Ending.returned (.tuple #[.string ⟨v.toArray⟩,.bool true])= .returned (.tuple #[.string ⟨(o.getD []).toArray⟩,.bool o.isSome]):=by rw[h];rfl
theorem tQ{o:Option (List UInt8)}(h:o=none):Ending.returned (.tuple #[.string ⟨#[]⟩,.bool false])= .returned (.tuple #[.string ⟨(o.getD []).toArray⟩,.bool o.isSome]):=by rw[h];rfl
theorem aT{w a:World}(h:∃n,a=w.drewN n):Below w.heap.size w a:=by
 obtain⟨n,rfl⟩:=h;exact below_drewN (aF _ _) n
theorem Below.next{w a b:World}{B:Nat}(h:Below B w a)(c:B<=w.heap.size)(d:Below a.heap.size a b):Below B w b:=h.trans (d.mono (cH c h.size))
theorem UG(l:List UInt8)(c:UInt8):(Lib.trimRightB l c).length<=l.length:=by
 unfold Lib.trimRightB;rw[List.length_reverse];have:=(List.dropWhile_sublist (· == c) (l:=l.reverse)).length_le
 rwa [List.length_reverse]at this
theorem UH(l:List UInt8):(dT l).1.length<=7/\(dT l).2.length<=l.length:=by
 unfold dT;split
 ·simp
 ·split
  ·simp
  ·have h1:=UG (l.take (1+aZ aH 6 (l.drop 1))) 48;have h2:=(nN aH 6 (l.drop 1)).1;rw[eJ]at h1;refine⟨?_,by simp only[bC];omega⟩;split
   ·simp
   ·simp only[];omega
theorem UI(s:ByteArray)(w:World)(j:s.size<=9223372036854775700)(h:s.size<19∨bZ (s.data.toList.take 19) jQ=false):
  Calls prog 88 #[.string s] w fun e b=>e= .returned (.tuple #[.string ⟨((dK s.data.toList).getD []).toArray⟩,.bool (dK s.data.toList).isSome])/\Below w.heap.size w b:=by
 have d:Hid (dK s.data.toList=none):=by show _=_;unfold dK;rw[Hm.len,aD h]
 by_cases h1:s.size<19
 ·clear h;go_enter func88,ntmps88;go_wp2;go_ret2;exact⟨tQ d.out,aF _ _⟩
 ·have h2:bZ (s.extract 0 19).data.toList (ByteArray.mk #[48,48,48,48,45,48,48,45,48,48,84,48,48,58,48,48,58,48,48]).data.toList=false:=by
   rw[fK,fB];rcases h with h|h
   ·exact(h1 h).elim
   ·exact h
  have f:Hid (∀w,Calls prog 128 #[.string (s.extract 0 19),.string ⟨#[48,48,48,48,45,48,48,45,48,48,84,48,48,58,48,48,58,48,48]⟩] w fun e b=>e= .returned (.bool false)/\∃n,b=w.drewN n):=fun w=>by
   have:=lG (s.extract 0 19) ⟨#[48,48,48,48,45,48,48,45,48,48,84,48,48,58,48,48,58,48,48]⟩ w (by simp;omega)
   rwa [h2]at this
  have g:(19:Int)<=(s.size:Int):=by omega
  clear h h2;go_enter func88,ntmps88;go_wp2_with(go_at_call 128;refine(f.out _).mono ?_;rintro e i⟨rfl,a⟩;have c:=aA a;clear a);go_ret2;exact⟨tQ d.out,aT c.out⟩
set_option maxRecDepth 20000 in
set_option maxHeartbeats 1000000 in
theorem UJ(s:ByteArray)(w:World)(O:aJ w)(hs:19<=s.size)(al:s.size<=9223372036854775700)(F Z:List UInt8)(hF:F.length<=7)(k:Int)(j:Bool)(y mo d h mi g:Int)(HS:Hid (∀w,Calls prog 128 #[.string (s.extract 0 19),.string ⟨#[48,48,48,48,45,48,48,45,48,48,84,48,48,58,48,48,58,48,48]⟩] w fun e H=>e= .returned (.bool true)/\∃n,H=w.drewN n))(HC:Hid (∀w,Calls prog 129 #[.string (s.extract 19 s.size)] w fun e H=>e= .returned (.tuple #[.string ⟨F.toArray⟩,.string ⟨Z.toArray⟩])/\∃n,H=w.drewN n))(HD:Hid (∀w,Calls prog 130 #[.string ⟨Z.toArray⟩] w fun e H=>e= .returned (.tuple #[.int .i64 k,.bool j])/\∃n,H=w.drewN n))(HM:Hid (∀w,Calls prog 131 #[.string s] w fun e H=>e= .returned (.agg #[.int .i64 y,.int .i64 mo,.int .i64 d,.int .i64 h,.int .i64 mi,.int .i64 g])/\Below w.heap.size w H))(f:Bool)(c:fL y mo d h mi g=f)(bd:f=true->0<=h/\0<=mi/\0<=g/\ -1439<=k/\k<=1439)(R:Option (List UInt8))(P:j=false->R=none)(Q:f=false->R=none)(B:j=true->f=true->dB (bY y mo d h mi k).1.1=false->R=none)(l:j=true->f=true->dB (bY y mo d h mi k).1.1=true->R=some (eT (bY y mo d h mi k).1.1.toNat (bY y mo d h mi k).1.2.1.toNat (bY y mo d h mi k).1.2.2.toNat ((bY y mo d h mi k).2/60).toNat ((bY y mo d h mi k).2%60).toNat g.toNat++F++[90])):
  Calls prog 88 #[.string s] w fun e H=>e= .returned (.tuple #[.string ⟨(R.getD []).toArray⟩,.bool R.isSome])/\Below w.heap.size w H:=by
 have am:(19:Int)<=(s.size:Int):=by omega
 cases j
 ·have HF:Hid (R=none):=P rfl;clear P Q B l c bd;go_enter func88,ntmps88;go_wp2_with(first
   |(go_at_call 128;refine(HS.out _).mono ?_;rintro e S⟨rfl,m⟩;have o:=aA m;clear m)
   |(go_at_call 129;refine(HC.out _).mono ?_;rintro e T⟨rfl,p⟩;have r:=aA p;clear p)
   |(go_at_call 130;refine(HD.out _).mono ?_;rintro e w3⟨rfl,t⟩;have u:=aA t;clear t)
   |(go_at_call 131;refine(HM.out _).mono ?_;rintro e a⟨rfl,v⟩;have b:Hid (Below w.heap.size w a):=Below.next (Below.next (Below.next (aT o.out) (aC _) (aT r.out)) (aC _) (aT u.out)) (aC _) v;clear v o r u)
   |(refine bI rfl _ _ _ rfl rfl a.heap.size #[.int .i64 y,.int .i64 mo,.int .i64 d,.int .i64 h,.int .i64 mi,.int .i64 g] rfl rfl _ _ (heap_alloc_new _ _) kT rfl rfl ?_;intro I x;have L:=aA x.row;have z:Hid (Below w.heap.size w I):=(b.out.alloc b.out.size _).trans (x.below b.out.size);have C:Hid (a.heap.size<I.heap.size):=(by show _<_;rw[x.size];simp);obtain⟨⟨V,W,Y,c3,c4,c5⟩,_⟩:=sG x.row;clear x))
  go_ret2;exact⟨tQ HF.out,z.out⟩
 ·have HE:Hid (∀w,aJ w->Calls prog 132 #[.agg #[.int .i64 y,.int .i64 mo,.int .i64 d,.int .i64 h,.int .i64 mi,.int .i64 g]] w fun e H=>e= .returned (.bool f)/\Below w.heap.size w H):=fun w O=>by rw[<-c];exact TW y mo d h mi g w O
  cases f
  ·have HF:Hid (R=none):=Q rfl;clear P Q B l c bd;go_enter func88,ntmps88;go_wp2_with(first
    |(go_at_call 128;refine(HS.out _).mono ?_;rintro e S⟨rfl,m⟩;have o:=aA m;clear m)
    |(go_at_call 129;refine(HC.out _).mono ?_;rintro e T⟨rfl,p⟩;have r:=aA p;clear p)
    |(go_at_call 130;refine(HD.out _).mono ?_;rintro e w3⟨rfl,t⟩;have u:=aA t;clear t)
    |(go_at_call 131;refine(HM.out _).mono ?_;rintro e a⟨rfl,v⟩;have b:Hid (Below w.heap.size w a):=Below.next (Below.next (Below.next (aT o.out) (aC _) (aT r.out)) (aC _) (aT u.out)) (aC _) v;clear v o r u)
    |(refine bI rfl _ _ _ rfl rfl a.heap.size #[.int .i64 y,.int .i64 mo,.int .i64 d,.int .i64 h,.int .i64 mi,.int .i64 g] rfl rfl _ _ (heap_alloc_new _ _) kT rfl rfl ?_;intro I x;have L:=aA x.row;have z:Hid (Below w.heap.size w I):=(b.out.alloc b.out.size _).trans (x.below b.out.size);have C:Hid (a.heap.size<I.heap.size):=(by show _<_;rw[x.size];simp);obtain⟨⟨V,W,Y,c3,c4,c5⟩,_⟩:=sG x.row;clear x)
    |(go_at_call 132;refine(HE.out _ (O.next z.out)).mono ?_;rintro e U⟨rfl,i⟩;have J:Hid (Below w.heap.size w U):=Below.next z.out (aC _) i;have M:Hid (U.heap[a.heap.size]?=some (.cells #[.int .i64 y,.int .i64 mo,.int .i64 d,.int .i64 h,.int .i64 mi,.int .i64 g] 199 (0,0))):=(i.block _ C.out).trans L.out;have N:Hid (a.heap.size<U.heap.size):=oQ C.out i.size;clear i V W Y c3 c4 c5))
   go_ret2;exact⟨tQ HF.out,J.out⟩
  ·have b1:=vH c;obtain⟨a1,a2,a3,a4,a5,a6,a7,a8,a9,ag⟩:=b1;obtain⟨e1,e2,e3,e4,e5⟩:=bd rfl;have eb:=DZ y mo d h mi k a1 a2 a3 a4 a5 a7 e1 a8 e2 a9 e4 e5;have hx:=fun w O=>TX y mo d h mi g k w O a1 a2 a3 a4 a5 a6 e1 a8 e2 a9 e4 e5;replace B:=B rfl rfl;replace l:=l rfl rfl;generalize bY y mo d h mi k=E at eb hx B l;obtain⟨⟨K,A,d'⟩,q⟩:=E;obtain⟨f1,f2,f3,f4,f5,f6,f7,f8⟩:=eb;dsimp only at f1 f2 f3 f4 f5 f6 f7 f8 hx B l;have f9:=qX K A f3 f4;have g1:0<=q/60/\q/60<=23:=by omega
   have g2:0<=q%60/\q%60<=59:=by omega
   generalize q/60=h' at hx l g1;generalize q%60=D at hx l g2;have HX:=aA hx;clear hx;cases hY:dB K
   ·have HF:Hid (R=none):=B hY;have HY:=aA hY;clear P Q B l c bd hY;go_enter func88,ntmps88;go_wp2_with(first
     |(go_at_call 128;refine(HS.out _).mono ?_;rintro e S⟨rfl,m⟩;have o:=aA m;clear m)
     |(go_at_call 129;refine(HC.out _).mono ?_;rintro e T⟨rfl,p⟩;have r:=aA p;clear p)
     |(go_at_call 130;refine(HD.out _).mono ?_;rintro e w3⟨rfl,t⟩;have u:=aA t;clear t)
     |(go_at_call 131;refine(HM.out _).mono ?_;rintro e a⟨rfl,v⟩;have b:Hid (Below w.heap.size w a):=Below.next (Below.next (Below.next (aT o.out) (aC _) (aT r.out)) (aC _) (aT u.out)) (aC _) v;clear v o r u)
     |(refine bI rfl _ _ _ rfl rfl a.heap.size #[.int .i64 y,.int .i64 mo,.int .i64 d,.int .i64 h,.int .i64 mi,.int .i64 g] rfl rfl _ _ (heap_alloc_new _ _) kT rfl rfl ?_;intro I x;have L:=aA x.row;have z:Hid (Below w.heap.size w I):=(b.out.alloc b.out.size _).trans (x.below b.out.size);have C:Hid (a.heap.size<I.heap.size):=(by show _<_;rw[x.size];simp);obtain⟨⟨V,W,Y,c3,c4,c5⟩,_⟩:=sG x.row;clear x)
     |(go_at_call 132;refine(HE.out _ (O.next z.out)).mono ?_;rintro e U⟨rfl,i⟩;have J:Hid (Below w.heap.size w U):=Below.next z.out (aC _) i;have M:Hid (U.heap[a.heap.size]?=some (.cells #[.int .i64 y,.int .i64 mo,.int .i64 d,.int .i64 h,.int .i64 mi,.int .i64 g] 199 (0,0))):=(i.block _ C.out).trans L.out;have N:Hid (a.heap.size<U.heap.size):=oQ C.out i.size;clear i V W Y c3 c4 c5)
     |(refine cG rfl _ _ rfl a.heap.size rfl _ _ _ _ M.out underlying199 rfl kT ?_)
     |(go_at_call 133;refine(HX.out _ (O.next J.out)).mono ?_;rintro e w7⟨rfl,G⟩;have ab:Hid (Below w.heap.size w w7):=Below.next J.out (aC _) G;have ac:Hid (w7.heap[a.heap.size]?=some (.cells #[.int .i64 y,.int .i64 mo,.int .i64 d,.int .i64 h,.int .i64 mi,.int .i64 g] 199 (0,0))):=(G.block _ N.out).trans M.out;have ah:Hid (a.heap.size<w7.heap.size):=oQ N.out G.size;clear G)
     |(refine bI rfl _ _ _ rfl rfl a.heap.size #[.int .i64 K,.int .i64 A,.int .i64 d',.int .i64 h',.int .i64 D,.int .i64 g] rfl rfl _ _ ac.out kT rfl rfl ?_;intro w8 p8;have ae:=aA p8.row;have aa:Hid (Below w.heap.size w w8):=ab.out.trans (p8.below b.out.size);obtain⟨⟨V,W,Y,c3,c4,c5⟩,_⟩:=sG p8.row;clear p8)
     |(go_at_call 51;refine(lF _ _).mono ?_;rintro e H⟨rfl,rfl⟩;rw[HY.out];clear V W Y c3 c4 c5))
    go_ret2;exact⟨tQ HF.out,aa.out⟩
   ·have HF:Hid (R=some _):=l hY;have HY:=aA hY;have yb:1<=K/\K<=9999:=by simpa[dB]using hY
    have ad:=fun w O=>UC K A d' h' D g w O yb.1 yb.2 f3 f4 f5 (by omega) g1.1 g1.2 g2.1 g2.2 e3 ag;have ai:(eT K.toNat A.toNat d'.toNat h'.toNat D.toNat g.toNat).length=19:=rfl;generalize eT K.toNat A.toNat d'.toNat h'.toNat D.toNat g.toNat=X at ad HF ai;have aj:=aA ad;clear ad P Q B l c bd hY;go_enter func88,ntmps88;go_wp2_with(first
     |(go_at_call 128;refine(HS.out _).mono ?_;rintro e S⟨rfl,m⟩;have o:=aA m;clear m)
     |(go_at_call 129;refine(HC.out _).mono ?_;rintro e T⟨rfl,p⟩;have r:=aA p;clear p)
     |(go_at_call 130;refine(HD.out _).mono ?_;rintro e w3⟨rfl,t⟩;have u:=aA t;clear t)
     |(go_at_call 131;refine(HM.out _).mono ?_;rintro e a⟨rfl,v⟩;have b:Hid (Below w.heap.size w a):=Below.next (Below.next (Below.next (aT o.out) (aC _) (aT r.out)) (aC _) (aT u.out)) (aC _) v;clear v o r u)
     |(refine bI rfl _ _ _ rfl rfl a.heap.size #[.int .i64 y,.int .i64 mo,.int .i64 d,.int .i64 h,.int .i64 mi,.int .i64 g] rfl rfl _ _ (heap_alloc_new _ _) kT rfl rfl ?_;intro I x;have L:=aA x.row;have z:Hid (Below w.heap.size w I):=(b.out.alloc b.out.size _).trans (x.below b.out.size);have C:Hid (a.heap.size<I.heap.size):=(by show _<_;rw[x.size];simp);obtain⟨⟨V,W,Y,c3,c4,c5⟩,_⟩:=sG x.row;clear x)
     |(go_at_call 132;refine(HE.out _ (O.next z.out)).mono ?_;rintro e U⟨rfl,i⟩;have J:Hid (Below w.heap.size w U):=Below.next z.out (aC _) i;have M:Hid (U.heap[a.heap.size]?=some (.cells #[.int .i64 y,.int .i64 mo,.int .i64 d,.int .i64 h,.int .i64 mi,.int .i64 g] 199 (0,0))):=(i.block _ C.out).trans L.out;have N:Hid (a.heap.size<U.heap.size):=oQ C.out i.size;clear i V W Y c3 c4 c5)
     |(refine cG rfl _ _ rfl a.heap.size rfl _ _ _ _ M.out underlying199 rfl kT ?_)
     |(go_at_call 133;refine(HX.out _ (O.next J.out)).mono ?_;rintro e w7⟨rfl,G⟩;have ab:Hid (Below w.heap.size w w7):=Below.next J.out (aC _) G;have ac:Hid (w7.heap[a.heap.size]?=some (.cells #[.int .i64 y,.int .i64 mo,.int .i64 d,.int .i64 h,.int .i64 mi,.int .i64 g] 199 (0,0))):=(G.block _ N.out).trans M.out;have ah:Hid (a.heap.size<w7.heap.size):=oQ N.out G.size;clear G)
     |(refine bI rfl _ _ _ rfl rfl a.heap.size #[.int .i64 K,.int .i64 A,.int .i64 d',.int .i64 h',.int .i64 D,.int .i64 g] rfl rfl _ _ ac.out kT rfl rfl ?_;intro w8 p8;have ae:=aA p8.row;have aa:Hid (Below w.heap.size w w8):=ab.out.trans (p8.below b.out.size);obtain⟨⟨V,W,Y,c3,c4,c5⟩,_⟩:=sG p8.row;clear p8)
     |(go_at_call 51;refine(lF _ _).mono ?_;rintro e H⟨rfl,rfl⟩;rw[HY.out];clear V W Y c3 c4 c5)
     |(refine cG rfl _ _ rfl a.heap.size rfl _ _ _ _ ae.out underlying199 rfl kT ?_)
     |(go_at_call 134;refine(aj.out _ (O.next aa.out)).mono ?_;rintro e w9⟨rfl,af⟩;have ak:Hid (Below w.heap.size w w9):=Below.next aa.out (aC _) af;clear af))
    go_ret2;refine⟨?_,ak.out⟩;rw[<-UF HF.out];simp only[<-dY];rfl
end Go.Proofs.Z
namespace Go.Proofs.Z
open Hm Tryz Go.RowKit Go.Sort
attribute [local go_sem] cN cO
theorem zH(s:ByteArray)(w:World)(m:aJ w)(l:s.size<=9223372036854775700):
  Calls prog 88 #[.string s] w fun e f=>e= .returned (.tuple #[.string ⟨((dK s.data.toList).getD []).toArray⟩,.bool (dK s.data.toList).isSome])/\Below w.heap.size w f:=by
 by_cases h0:s.size<19∨bZ (s.data.toList.take 19) jQ=false
 ·exact UI s w l h0
 ·have h1:19<=s.size:=by omega
  have h2:bZ (s.data.toList.take 19) jQ=true:=by
   cases h:bZ (s.data.toList.take 19) jQ
   ·exact(h0 (.inr h)).elim
   ·rfl
  have b:=UH (s.data.toList.drop 19);obtain⟨F,Z,g⟩:∃F Z,dT (s.data.toList.drop 19)=(F,Z):=⟨_,_,rfl⟩;rw[g,bC,Hm.len]at b;dsimp only at b;have c:dK s.data.toList=match eZ Z with
    |none=>none
    |some k=>
     if fL (aK s.data.toList 0 4) (aK s.data.toList 5 7) (aK s.data.toList 8 10) (aK s.data.toList 11 13) (aK s.data.toList 14 16) (aK s.data.toList 17 19)=false then none else
     if dB (bY (aK s.data.toList 0 4) (aK s.data.toList 5 7) (aK s.data.toList 8 10) (aK s.data.toList 11 13) (aK s.data.toList 14 16) k).1.1=false then none else
     some (eT (bY (aK s.data.toList 0 4) (aK s.data.toList 5 7) (aK s.data.toList 8 10) (aK s.data.toList 11 13) (aK s.data.toList 14 16) k).1.1.toNat
      (bY (aK s.data.toList 0 4) (aK s.data.toList 5 7) (aK s.data.toList 8 10) (aK s.data.toList 11 13) (aK s.data.toList 14 16) k).1.2.1.toNat
      (bY (aK s.data.toList 0 4) (aK s.data.toList 5 7) (aK s.data.toList 8 10) (aK s.data.toList 11 13) (aK s.data.toList 14 16) k).1.2.2.toNat
      ((bY (aK s.data.toList 0 4) (aK s.data.toList 5 7) (aK s.data.toList 8 10) (aK s.data.toList 11 13) (aK s.data.toList 14 16) k).2/60).toNat
      ((bY (aK s.data.toList 0 4) (aK s.data.toList 5 7) (aK s.data.toList 8 10) (aK s.data.toList 11 13) (aK s.data.toList 14 16) k).2%60).toNat
      (aK s.data.toList 17 19)++F++[90]):=by
   unfold dK;rw[Hm.len,aB h0,g];cases eZ Z <;> rfl
  have o:Hid (∀w,Calls prog 128 #[.string (s.extract 0 19),.string ⟨#[48,48,48,48,45,48,48,45,48,48,84,48,48,58,48,48,58,48,48]⟩] w fun e f=>e= .returned (.bool true)/\∃n,f=w.drewN n):=fun w=>by
   have:=lG (s.extract 0 19) ⟨#[48,48,48,48,45,48,48,45,48,48,84,48,48,58,48,48,58,48,48]⟩ w (by simp;omega);rw[fK,fB]at this
   rwa [show bZ (List.take (19-0) s.data.toList) (ByteArray.mk #[48,48,48,48,45,48,48,45,48,48,84,48,48,58,48,48,58,48,48]).data.toList=true from h2]at this
  have p:Hid (∀w,Calls prog 129 #[.string (s.extract 19 s.size)] w fun e f=>e= .returned (.tuple #[.string ⟨F.toArray⟩,.string ⟨Z.toArray⟩])/\∃n,f=w.drewN n):=fun w=>by
   have:=UD (s.extract 19 s.size) w (by simp;omega)
   rwa [cP,g]at this
  have q:Hid (∀w,Calls prog 130 #[.string ⟨Z.toArray⟩] w fun e f=>e= .returned (.tuple #[.int .i64 ((eZ Z).getD 0),.bool (eZ Z).isSome])/\∃n,f=w.drewN n):=fun w=>
   UE ⟨Z.toArray⟩ w (by rw[show(ByteArray.mk Z.toArray).size=Z.length by rw[<-Hm.len]];have:=b.2;omega)
  refine UJ s w m h1 l F Z b.1 _ _ _ _ _ _ _ _ o p q (fun w=>TZ s w h1 (by omega) h2) _ rfl ?_ _ ?_ ?_ ?_ ?_
  ·intro _;refine⟨by omega,by omega,by omega,?_⟩;cases a:eZ Z with
   |none=>simp
   |some k=>have:=DY a;simpa using this
  ·intro d;cases a:eZ Z with
   |none=>rw[c,a]
   |some k=>rw[a]at d;cases d
  ·intro j;rw[c];cases a:eZ Z with
   |none=>rfl
   |some k=>simp only[];rw[aD j]
  ·intro d j i;cases a:eZ Z with
   |none=>rw[a]at d;cases d
   |some k=>
    rw[a]at i;simp only[Option.getD_some]at i;rw[c,a];simp only[];rw[aB (by rw[j];decide),aD i]
  ·intro d j i;cases a:eZ Z with
   |none=>rw[a]at d;cases d
   |some k=>
    rw[a]at i;simp only[Option.getD_some]at i⊢;rw[c,a];simp only[];rw[aB (by rw[j];decide),aB (by rw[i];decide)];simp only[Int.toNat_natCast]
theorem vS(s:ByteArray)(w:World)(g:aJ w)(i:s.size<=9223372036854775700):
  Calls prog 78 #[.string s] w fun e b=>e= .returned (.bool (eF s.data.toList))/\Below w.heap.size w b:=by
 have a:=zH s w g i;cases h:dK s.data.toList with
 |none=>
  have c:Hid (eF s.data.toList=false):=by show _=_;unfold eF;rw[h];rfl
  rw[h]at a;have d:=aA a;clear a h;go_enter func78,ntmps78;go_wp2_with fail;refine d.out.mono ?_;rintro e j⟨rfl,f⟩;go_wp2;go_ret;exact⟨by rw[c.out];rfl,f⟩
 |some x=>
  have c:Hid (eF s.data.toList=(x==s.data.toList)):=by
   show _=_;unfold eF;rw[h];rfl
  rw[h]at a;have d:=aA a;clear a h;go_enter func78,ntmps78;go_wp2_with fail;refine d.out.mono ?_;rintro e j⟨rfl,f⟩;go_wp2;go_ret;refine⟨lZ ?_,f⟩;rw[c.out];simp[Lib.toList_data]
theorem UK(s:ByteArray)(w:World)(a:s.size<=9223372036854775807)(b:aJ w):
  Calls prog 90 #[.string s] w fun e c=>e= .returned (.bool (Lib.validD s.data.toList))/\Below w.heap.size w c:=
 Any.utf8_ValidString aDq s w a b.u8
theorem UL{c:UInt8}(h:kQ c=true):c.toNat<32∨c.toNat=127:=by
 simpa[kQ]using h
theorem UM{c:UInt8}(h:kQ c=false):¬c.toNat<32/\¬c.toNat=127:=by
 simp only[kQ,Bool.or_eq_false_iff,rT,bG]at h;exact h
theorem pY(s:ByteArray)(w:World)(l:aJ w)(t:s.size<=9223372036854775800):
  Calls prog 55 #[.string s] w fun e g=>e= .returned (.bool (bO s.data.toList))/\Below w.heap.size w g:=by
 have n:Hid (Calls prog 90 #[.string s] w fun e g=>e= .returned (.bool (Lib.validD s.data.toList))/\Below w.heap.size w g):=UK s w (by omega) l;clear l;go_enter func55,ntmps55;go_wp2;go_loop [3,6] (fun _ i=>∃k:Nat,k<=s.size/\i= .int .i64 k/\∀c∈s.data.toList.take k,kQ c=false) (fun _ i=>s.size-(intOf i).toNat)
 case atStart=>exact⟨0,dM _,rfl,by simp⟩
 case round=>
  obtain⟨k,u,rfl,a⟩:=hrel;have m:=aA a;clear a;by_cases d:k<s.size
  ·cases b:kQ s[k]
   ·obtain⟨o,p⟩:=UM b;have b1:((s[k].toNat:Int)==127)=false:=bG.2 (by omega);have b2:¬(s[k].toNat:Int)<32:=by omega
    have q:Hid (∀c∈s.data.toList.take (k+1),kQ c=false):=by
     show∀c∈_,_;rw[yE s k d];intro c j;rcases jM.1 j with h|h
     ·exact m.out c h
     ·rw[qR.1 h];exact b
    clear o p b;go_wp2
    go_round
    case rel=>exact⟨k+1,by omega,by go_num,q.out⟩
    case measure=>simp[intOf];omega
   ·have f:Hid (bO s.data.toList=false):=by
     show _=_;unfold bO;rw[Bool.and_eq_false_iff];left;rw[List.all_eq_false];exact⟨s[k],by rw[show s[k]=s.data.toList[k]'(by rw[Hm.len];exact d)from rfl];exact List.getElem_mem _,by simp[b]⟩
    by_cases h32:(s[k].toNat:Int)<32
    ·clear b;go_wp2;go_ret;exact⟨by rw[f.out];rfl,aF _ _⟩
    ·have h127:s[k].toNat=127:=by rcases UL b with h|h;omega;exact h
     have b1:((s[k].toNat:Int)==127)=true:=dZ.2 (by omega);clear b h127;go_wp2;go_ret;exact⟨by rw[f.out];rfl,aF _ _⟩
  ·have f:Hid (bO s.data.toList=Lib.validD s.data.toList):=by
    show _=_;unfold bO;have:(s.data.toList.all fun c=>!kQ c)=true:=by
     rw[nL];intro c j;have:=m.out c (by rw[fV (by rw[Hm.len];omega)];exact j);simp[this]
    rw[this,Bool.true_and]
   go_wp2_with fail;refine n.out.mono ?_;rintro e v⟨rfl,r⟩;go_wp2;go_ret;exact⟨by rw[f.out];rfl,r⟩
end Go.Proofs.Z
namespace Go.Proofs.Z
open Hm Tryz Go.RowKit Go.Shelf
attribute [local go_sem] Oper.semAt_some
def sL(Bt:Nat)(A B:World):Prop:=B.cell? ⟨Bt,0,none⟩=A.cell? ⟨Bt,0,none⟩
theorem UN{a:Nat}{A B C:World}(h:sL a A B)(k:sL a B C):sL a A C:=Eq.trans k h
theorem UO{a:Nat}{w:World}(b:a<w.heap.size)(W:World)(l:Nat)(o c:Obj)(d:w.heap.size<=l)(_:W.heap[l]?=some o)(_:o.isCells=false)(_:o.isWalk=false):sL a W (W.putObj l c):=
 World.cell?_of_block (w:=W) (World.putObj_heap_other (k:=a) (by omega))
def vT(x:oW):Array Value:=#[.string ⟨x.1.1.toArray⟩,.int .i64 x.1.2]
set_option maxRecDepth 100000 in
set_option maxHeartbeats 1000000 in
theorem UQ(n:Nat)(Q:2<=n)(l i:Nat)(s:ByteArray)(R:s.size<=9000000000)(xs:List oW)(u:xs.map (·.1)=fI (s.size+1) s.data.toList 0)(J G:List oW->World->Prop)(K:∀a x W,J a W->a.length<xs.length->YieldAt Fence.wide (n-1) prog l (vT x) W fun e g=>
   (e= .returned (.bool true)/\J (a++[x]) g/\sL i W g)∨(e= .returned (.bool false)/\G (a++[x]) g))(W:World)(y:W.cell? ⟨i,0,none⟩=some (.string s))(h0:J [] W):
  CallsIn Fence.wide n prog 199 #[.func (.yield l) #[] #[],.pointer (some ⟨i,0,none⟩)] W fun e g=>(∃v,e= .returned v)/\
   ((∃H,H=xs/\J H g)∨(∃a,a <+: xs/\G a g)):=by
 refine callsIn_of_wp func199 rfl trivial ?_ rfl;simp only[ntmps199,pR,bU,dS,Nat.reduceAdd,Nat.reduceSub,rV,rR,List.push_toArray,rQ,iR,eN]
 gi_wp2
 gi_loopw [3,4,5] (fun p _ _ wr=>∃(a rest:List oW)(e:Nat),p= .int .i64 e/\e<=s.size/\xs=a++rest/\rest.map (·.1)=fI (s.size+1) s.data.toList e/\wr.cell? ⟨i,0,none⟩=some (.string s)/\J a wr)
  (fun p _ _ _=>s.size-(intOf p).toNat)
 case atStart=>exact⟨[],xs,0,rfl,dM _,rfl,u,y,h0⟩
 case round=>
  obtain⟨a,rest,e,rfl,S,q,c,L,j⟩:=hrel;have d:=rY (s.data.toList.drop e);rw[bC,Hm.len]at d;obtain⟨A,k,b⟩:∃A k,dE (s.data.toList.drop e)=(A,k):=⟨_,_,rfl⟩;rw[b]at d;dsimp only at d;have I:Hid (∀w,Calls prog 200 #[.string (s.extract e s.size)] w fun x B=>x= .returned (.tuple #[.string ⟨A.toArray⟩,.int .i64 k])/\B=w):=fun w=>by
   have:=TR (s.extract e s.size) w (by simp;omega)
   rwa [cP,b]at this
  have C:=aA q;by_cases r:k=0
  ·have f:rest=[]:=by
    rw[vI (by rw[Hm.len];omega) (by rw[Hm.len];omega) (by rw[b];exact r)]at c;exact List.map_eq_nil_iff.1 c
   subst f;subst r;clear c b q
   gi_wp2_with fail
   refine⟨trivial,fun _=>by omega,?_⟩;refine(callsIn_wide.2 (I.out _)).mono ?_;rintro x B⟨rfl,rfl⟩
   gi_wp2
   refine⟨fun _ h=>(by cases h),?_⟩
   gi_wp2
   refine bB (results_none rfl _ _ _) rfl ?_;exact⟨⟨_,rfl⟩,.inl ⟨a,by rw[C.out,kZ],j⟩⟩
  ·have b0:((k:Int)==0)=false:=bG.2 (by omega);have M:0<k:=by omega
   rw[vJ (by rw[Hm.len];omega) (by rw[Hm.len];omega) (by rw[b];exact r),b]at c;dsimp only at c;cases rest with
   |nil=>simp at c
   |cons x rest=>
    rw[jX,List.cons.injEq]at c;obtain⟨m,c⟩:=c;have N:=aA c;obtain⟨T,tmps,assign,body,t,O⟩:=K a x wr j (by rw[q];simp);unfold vT at t;rw[m]at t;dsimp only at t;rw[Int.natCast_add]at t;clear c b q m r
    gi_wp2_with fail
    refine⟨trivial,fun _=>by omega,?_⟩;refine(callsIn_wide.2 (I.out _)).mono ?_;rintro z B⟨rfl,rfl⟩
    gi_wp2
    refine⟨fun _=>by omega,O.mono ?_⟩;rintro z P(⟨rfl,D,E⟩|⟨rfl,o⟩)
    ·have F:P.cell? ⟨i,0,none⟩=some (.string s):=Eq.trans E L
     gi_wp2
     go_roundw;case rel=>exact⟨a++[x],rest,e+k,aY (by omega),by omega,by rw[C.out];simp,N.out,F,D⟩
     case measure=>show s.size-((e:Int)+(k:Int)).toNat<s.size-((e:Int)).toNat;omega
    ·gi_wp2
     refine bB (results_none rfl _ _ _) rfl ?_;exact⟨⟨_,rfl⟩,.inr ⟨a++[x],⟨rest,by rw[C.out];simp⟩,o⟩⟩
theorem UR(s:ByteArray)(w:World):
  Calls prog 167 #[.string s] w fun e a=>e= .returned (.func (.func 199) #[] #[.pointer (some ⟨w.heap.size,0,none⟩)])/\a=w.alloc (.cells #[.string s] 9):=by
 go_enter func167,ntmps167;go_wp2;go_ret;exact⟨rfl,rfl⟩
theorem US(n:Nat)(e:2<=n)(a:Nat)(s:ByteArray)(f:s.size<=9000000000)(xs:List oW)(b:xs.map (·.1)=fI (s.size+1) s.data.toList 0)(w:World)(c:a<w.heap.size)(g:w.cell? ⟨a,0,none⟩=some (.string s)):
  SeqStopsK Fence.wide n prog 199 #[.pointer (some ⟨a,0,none⟩)] vT (sL a) (fun h=>h=xs) (fun d=>d <+: xs) xs.length w:=fun l J i W j _ _ k h0=>
 UQ n e l a s f xs b J i k W ((j.cell (p:=⟨a,0,none⟩) c).trans g) h0
theorem UT{H:Type}{D:DataW H}(c:Maps.IsMap D)(b a:List UInt8)(d:DataW H):
  Maps.has (D.put (.string b) d) (.string a)=(decide (a=b)||Maps.has D (.string a)):=by
 by_cases h:a=b
 ·subst h;rw[Maps.has_put_same c (by trivial) d];simp
 ·rw[Maps.has_put_other (by simpa using h) d];simp[h]
def EX(H:Type)(s:ByteArray)(w:World)(pre:List oW)(W:World):Prop:=
 W.cell? ⟨w.heap.size+1+1+1+1,0,none⟩=some (.string s)/\
 (W.cell? ⟨w.heap.size,0,none⟩=some (.int .i64 0)/\W.frozen? ⟨w.heap.size,0,none⟩=false)/\
 (W.cell? ⟨w.heap.size+1+1,0,none⟩=some (.map (some (w.heap.size+1))))/\
 (W.cell? ⟨w.heap.size+1+1+1,0,none⟩=some (.int .i64 (jR (pre.map (·.1))))/\W.frozen? ⟨w.heap.size+1+1+1,0,none⟩=false)/\
 ((pre.map (·.1.1)).Nodup/\∃D:DataW H,Maps.IsMap D/\(∀nm,Maps.has D (.string nm)=decide (nm∈pre.map (·.1.1)))/\W.ownsMap prog 9 (plainElem (H:=H) prog 3) (w.heap.size+1) pre.length D)
def EY(w:World)(pre:List oW)(W:World):Prop:=
 W.cell? ⟨w.heap.size,0,none⟩=some (.int .i64 0)/\¬(pre.map (·.1.1)).Nodup
theorem UU(H:Type)(s:ByteArray)(w:World)(B:Nat)(a:w.heap.size+1<B):OwnFrom B (EX H s w):=fun _ _ _ _⟨t1,⟨a1,a2⟩,b1,⟨c1,c2⟩,d,D,e1,e2,e3⟩ hg hr=>
 ⟨cell_kept t1 hg (fun r e=>(hr r e).2),⟨cell_kept a1 hg (fun r e=>(hr r e).2),(frozen_kept a1 hg (fun r e=>(hr r e).2)).trans a2⟩,cell_kept b1 hg (fun r e=>(hr r e).2),⟨cell_kept c1 hg (fun r e=>(hr r e).2),(frozen_kept c1 hg (fun r e=>(hr r e).2)).trans c2⟩,d,D,e1,e2,
  e3.kept hg (fun e=>by have:=(hr _ e.symm).1;omega)⟩
theorem UV(w:World)(B:Nat):OwnFrom B (EY w):=fun _ _ _ _⟨a1,d⟩ hg hr=>⟨cell_kept a1 hg (fun r e=>(hr r e).2),d⟩
set_option maxRecDepth 100000 in
set_option maxHeartbeats 2000000 in
theorem UW(s:ByteArray)(hs:s.size<=9000000000)(w:World)(hT:aJ w)(xs:List oW)(F:xs.map (·.1)=fI (s.size+1) s.data.toList 0):
  CallsIn Fence.wide 4 prog 125 #[.string s] w fun e W'=>e= .returned (.int .i64 (mQ s.data.toList (xs.map (·.1))))/\Below w.heap.size w W':=by
 have ai:= @run_makeMap prog;have ab:xs.length<=s.size:=by
  have:=SR (s.size+1) s.data.toList 0 (dM _);rw[<-F,eS,Hm.len]at this;omega
 refine callsIn_of_wp_marks func125 rfl trivial ?_ rfl;simp only[ntmps125,pR,bU,dS,Nat.reduceAdd,Nat.reduceSub,rV,rR,List.push_toArray,rQ,iR,eN]
 gi_wp2_with fail
 refine⟨trivial,?_⟩;refine(callsIn_wide.2 (UR _ _)).mono ?_;rintro e w'⟨rfl,rfl⟩
 gi_wp2_with fail
 obtain⟨z,hW0⟩:∃z,(((((w.alloc (.cells #[.int .i64 0] 3)).alloc (.map #[] 0)).alloc (.cells #[.map (some (w.heap.size+1))] 230)).alloc (.cells #[.int .i64 0] 3)).alloc (.cells #[.string s] 9))=z:=⟨_,rfl⟩;have hz:z.heap.size=w.heap.size+5:=by subst hW0;simp
 have c0:z.cell? ⟨w.heap.size,0,none⟩=some (.int .i64 0):=by subst hW0;go_simp
 have f0:z.frozen? ⟨w.heap.size,0,none⟩=false:=by subst hW0;go_simp
 have c2:z.cell? ⟨w.heap.size+1+1,0,none⟩=some (.map (some (w.heap.size+1))):=by subst hW0;go_simp
 have c3:z.cell? ⟨w.heap.size+1+1+1,0,none⟩=some (.int .i64 0):=by subst hW0;go_simp
 have f3:z.frozen? ⟨w.heap.size+1+1+1,0,none⟩=false:=by subst hW0;go_simp
 have c4:z.cell? ⟨w.heap.size+1+1+1+1,0,none⟩=some (.string s):=by subst hW0;go_simp
 have m1:z.ownsMap prog 9 (plainElem (H:=Unit) prog 3) (w.heap.size+1) 0 (.map []):=by
  rw[<-hW0];have:=World.ownsMap_made (w.alloc (.cells #[.int .i64 0] 3)) prog 9 (plainElem (H:=Unit) prog 3);rw[World.size_alloc]at this;exact((this.alloc _).alloc _).alloc _
 have S:Below w.heap.size w z:=by
  rw[<-hW0];exact(((((aF _ w).alloc (aC _) _).alloc (by simp) _).alloc (by simp;omega) _).alloc (by simp;omega) _).alloc (by simp;omega) _
 rw[hW0];clear hW0;refine wpIn_rangeFunc_ownG rfl (by omega) (gf:=199) (lb:=#[.pointer (some ⟨w.heap.size+1+1+1+1,0,none⟩)]) rfl trivial (enters_of func199 (by kernel_rfl) rfl)
  (US (4-1) (by omega) (w.heap.size+1+1+1+1) s hs xs F z (by omega) c4) UN (UO (by omega)) (aF _ _) (fun _=>rfl)
  (fun g W=>EX Unit s w g W/\Below w.heap.size w W) (fun c g W=>(c= .ret/\EY w g W)/\Below w.heap.size w W)
  (OwnFrom.and (UU Unit s w _ (by omega)) (ownFrom_below (aC _) (by omega)))
  (fun c=>OwnFrom.and (fun a b d e⟨h1,h2⟩ hg hr=>⟨h1,UV w _ a b d e h2 hg hr⟩) (ownFrom_below (aC _) (by omega)))
  ⟨⟨c4,⟨c0,f0⟩,c2,⟨c3,f3⟩,by simp,.map [],⟨_,rfl⟩,by intro nm;simp[Maps.has],m1⟩,S⟩
  (fun x=>{tmps:=#[.string s,undef,.pointer (some ⟨w.heap.size,0,none⟩),.pointer (some ⟨w.heap.size+1+1,0,none⟩),.pointer (some ⟨w.heap.size+1+1+1,0,none⟩),.string ⟨x.1.1.toArray⟩,.int .i64 x.1.2,undef,undef,.map (some (w.heap.size+1)),.string s,.func (.func 199) #[] #[.pointer (some ⟨w.heap.size+1+1+1+1,0,none⟩)],.string ⟨x.1.1.toArray⟩,.int .i64 x.1.2,undef,undef,undef,undef,undef,undef,undef,undef,undef,undef,undef,undef,undef,undef,undef,undef,undef],defers:=[]}) ?assign ?body ?done ?stop
 case assign=>
  intro l x W K G;unfold vT
  gi_wp2
  exact G
 case body=>
  rintro l g x W⟨⟨t1,⟨I,a2⟩,b1,⟨d1,d2⟩,o,D,T,J,n⟩,E⟩aj;have A:keyOf prog 9 (.string ⟨x.1.1.toArray⟩)=some (.string x.1.1):=WideMaps.keyOf_string_mk underlying9 (by rw[<-Hm.len];show x.1.1.length<=_;have:=x.2.1;unfold maxLen;omega);have ac:(Lit.int .i64 (x.1.2:Int)).wf=true:=by have:=x.2.2;simp only[Lit.wf,IntKind.min,IntKind.max,gP];simp[IntKind.signed,IntKind.bits];omega
  have ad:g.length<maxLen:=by unfold maxLen;omega
  have HH:Hid (Maps.has D (.string x.1.1)=decide (x.1.1∈g.map (·.1.1))):=J _;by_cases t:x.1.1∈g.map (·.1.1)
  ·have U:Maps.has D (.string x.1.1)=true:=by rw[HH.out];simpa using t
   have HI:=aA t;clear t J
   gi_wp2_with (gi_at_lookup;refine wpListIn_lookup_own_ok_int _ rfl _ _ 230 rfl 9 3 .i64 (Maps.string_keyed underlying9) underlying230 underlying3 (zeroValue3 _) (w.heap.size+1) g.length D rfl n _ (.string x.1.1) rfl A ?_;intro c ae af)
   exact⟨(KeepsOthers.setCell _ _ _).from _,⟨rfl,World.cell?_setCell_same' _ _ _ (by rw[I];rfl),by rw[iN];intro h;exact(List.nodup_append.1 h).2.2 _ HI.out _ (by simp) rfl⟩,E.setCell (p:=⟨w.heap.size,0,none⟩) (aC _) _⟩
  ·have U:Maps.has D (.string x.1.1)=false:=by rw[HH.out];simpa using t
   have HI:=aA t;have ag:=aA J;clear t J;have L:∃V X,W.heap[w.heap.size+1]?=some (.map V X):=let⟨V,X,h,_⟩:=n;⟨V,X,h⟩
   obtain⟨V,X,L⟩:=L;have u:=aA L;clear L
   gi_wp2_with (first
    |(gi_at_lookup;refine wpListIn_lookup_own_ok_int _ rfl _ _ 230 rfl 9 3 .i64 (Maps.string_keyed underlying9) underlying230 underlying3 (zeroValue3 _) (w.heap.size+1) g.length D rfl n _ (.string x.1.1) rfl A ?_;intro c ae af)
    |(gi_at_mapUpdate;refine wpListIn_mapUpdate_own _ rfl _ _ _ 230 rfl 9 3 (Maps.string_keyed underlying9) underlying230 _ (w.heap.size+1) g.length D rfl n ad _ _ (.string x.1.1) rfl rfl A _ [] (plainElem_int underlying3 ac) ?_;intro w1 O f;have e1:w1.cell? ⟨w.heap.size+1+1+1,0,none⟩=some (.int .i64 (jR (g.map (·.1)))):=cell_kept d1 f (fun r e=>by cases e;exact⟨_,u.out,rfl⟩);have e2:w1.frozen? ⟨w.heap.size+1+1+1,0,none⟩=false:=(frozen_kept d1 f (fun r e=>by cases e;exact⟨_,u.out,rfl⟩)).trans d2))
   have k4:w1.cell? ⟨w.heap.size+1+1+1+1,0,none⟩=some (.string s):=cell_kept t1 f (fun r e=>by cases e;exact⟨_,u.out,rfl⟩);have q4:(w1.setCell ⟨w.heap.size+1+1+1,0,none⟩ (.int .i64 x.1.2)).cell? ⟨w.heap.size+1+1+1+1,0,none⟩=some (.string s):=(World.cell?_setCell_other _ _ _ _ (by simp)).trans k4;refine⟨(KeepsFrom.of_grownBy f (fun j e=>by cases e;omega)).trans ((KeepsOthers.setCell _ _ _).from _),q4.trans t1.symm,⟨q4,⟨?_,?_⟩,?_,⟨?_,?_⟩,?_,D.put (.string x.1.1) (.lit (.int .i64 x.1.2)),T.put _ _,?_,?_⟩,?_⟩
   ·exact(World.cell?_setCell_other _ _ _ _ (by simp)).trans (cell_kept I f (fun r e=>by cases e;exact⟨_,u.out,rfl⟩))
   ·rw[World.frozen?_setCell];exact(frozen_kept I f (fun r e=>by cases e;exact⟨_,u.out,rfl⟩)).trans a2
   ·exact(World.cell?_setCell_other _ _ _ _ (by simp)).trans (cell_kept b1 f (fun r e=>by cases e;exact⟨_,u.out,rfl⟩))
   ·rw[World.cell?_setCell_same' _ _ _ (by rw[e1];rfl)];simp[jR]
   ·rw[World.frozen?_setCell];exact e2
   ·rw[iN,List.nodup_append];exact⟨o,by simp,fun a ha b hb h=>HI.out (by simp at hb;rw[<-hb,<-h];exact ha)⟩
   ·intro nm;rw[UT T,ag.out];simp only[iN,jM,jX,List.map_nil,qR];rw[Bool.eq_iff_iff];simp only[Bool.or_eq_true,mN];exact or_comm
   ·rw[dL];exact O.setCell (by simp) _
   ·exact(E.grown f E.size (fun k e=>by cases e;omega)).setCell (p:=⟨w.heap.size+1+1+1,0,none⟩) (by show _<=w.heap.size+1+1+1;omega) _
 case done=>
  rintro i M W hD rfl⟨⟨_,⟨I,a2⟩,_,⟨d1,_⟩,o,_⟩,E⟩G;have hq:jR (M.map (·.1))<=s.size:=by
   unfold jR;cases hl:(M.map (·.1)).getLast? with
   |none=>simp
   |some x=>
    have hm:x∈M.map (·.1):=List.mem_of_getLast? hl;rw[F]at hm;have:=(yO _ _ 0 (dM _) x hm).2;rw[Hm.len]at this;simpa using this
  have N:((M.map (·.1)).map (·.1)).Nodup:=by rw[List.map_map];exact o
  obtain⟨q,P⟩:∃q,jR (M.map (·.1))=q:=⟨_,rfl⟩;have HO:Hid (mQ s.data.toList (M.map (·.1))=if bO (s.data.toList.take q)=true then q else 0):=by
   show _=_;unfold mQ;rw[aD N,P]
  rw[P]at d1 hq;clear P o N F ab c0 f0 c2 c3 f3 c4 m1 S;have HP:Hid (∀W,aJ W->Calls prog 55 #[.string (s.extract 0 q)] W fun e w'=>e= .returned (.bool (bO (s.data.toList.take q)))/\Below W.heap.size W w'):=fun W hT=>by
   have:=pY (s.extract 0 q) W hT (by simp;omega)
   rwa [fK,fB,Nat.sub_zero]at this
  have B:w.heap.size<W.heap.size/\w.heap.size+1+1+1<W.heap.size:=⟨(block_lt_of_cell I:w.heap.size<_),(block_lt_of_cell d1:w.heap.size+1+1+1<_)⟩;have ah:i<W.heap.size:=(aM.1 G).1
  gi_wp2_with fail
  refine⟨trivial,?_⟩;refine(callsIn_wide.2 (HP.out W (hT.next E))).mono ?_;rintro e v⟨rfl,y⟩;have a3:v.cell? ⟨w.heap.size,0,none⟩=some (.int .i64 0):=(y.cell (p:=⟨w.heap.size,0,none⟩) B.1).trans I;have a4:v.frozen? ⟨w.heap.size,0,none⟩=false:=(y.frozen (p:=⟨w.heap.size,0,none⟩) B.1).trans a2;have d3:v.cell? ⟨w.heap.size+1+1+1,0,none⟩=some (.int .i64 q):=(y.cell (p:=⟨w.heap.size+1+1+1,0,none⟩) B.2).trans d1;have Y:v.heap[i]?=some (.deferred (some [])):=(y.block i ah).trans G;have Z:Hid (Below w.heap.size w v):=E.trans (y.mono E.size);clear I a2 d1 G y E;cases hp:bO (s.data.toList.take q)
  ·have HF:Hid (mQ s.data.toList (M.map (·.1))=0):=by show _=_;rw[HO.out,hp];rfl
   gi_wp2
   have m:(v.setCell ⟨w.heap.size,0,none⟩ (.int .i64 0)).heap[i]?=some (.deferred (some [])):=(KeepsOthers.setCell _ _ _).same i _ Y rfl;have Q:(v.setCell ⟨w.heap.size,0,none⟩ (.int .i64 0)).cell? ⟨w.heap.size,0,none⟩=some (.int .i64 0):=World.cell?_setCell_same' _ _ _ (by rw[a3];rfl);have C:((v.setCell ⟨w.heap.size,0,none⟩ (.int .i64 0)).putObj i (.deferred none)).cell? ⟨w.heap.size,0,none⟩=some (.int .i64 0):=cell_kept Q (grownBy_putObj' _ i (.deferred none)) (fun r e=>by cases e;exact⟨_,m,rfl⟩);have R:Below w.heap.size w (v.setCell ⟨w.heap.size,0,none⟩ (.int .i64 0)):=Z.out.setCell (p:=⟨w.heap.size,0,none⟩) (aC _) _;refine⟨by simp,.inl ⟨_,_,rfl,run_takeDeferred m,?_⟩⟩;exact⟨.int .i64 0,by simp[results,results125,go_sem,C],by rw[HF.out];rfl,R.trans (belowK_b (w:=w) (aC _) _ i _ _ (by omega) m rfl rfl)⟩
  ·have HF:Hid (mQ s.data.toList (M.map (·.1))=q):=by show _=_;rw[HO.out,hp];rfl
   gi_wp2
   have m:(v.setCell ⟨w.heap.size,0,none⟩ (.int .i64 q)).heap[i]?=some (.deferred (some [])):=(KeepsOthers.setCell _ _ _).same i _ Y rfl;have Q:(v.setCell ⟨w.heap.size,0,none⟩ (.int .i64 q)).cell? ⟨w.heap.size,0,none⟩=some (.int .i64 q):=World.cell?_setCell_same' _ _ _ (by rw[a3];rfl);have C:((v.setCell ⟨w.heap.size,0,none⟩ (.int .i64 q)).putObj i (.deferred none)).cell? ⟨w.heap.size,0,none⟩=some (.int .i64 q):=cell_kept Q (grownBy_putObj' _ i (.deferred none)) (fun r e=>by cases e;exact⟨_,m,rfl⟩);have R:Below w.heap.size w (v.setCell ⟨w.heap.size,0,none⟩ (.int .i64 q)):=Z.out.setCell (p:=⟨w.heap.size,0,none⟩) (aC _) _;refine⟨by simp,.inl ⟨_,_,rfl,run_takeDeferred m,?_⟩⟩;exact⟨.int .i64 q,by simp[results,results125,go_sem,C],by rw[HF.out],R.trans (belowK_b (w:=w) (aC _) _ i _ _ (by omega) m rfl rfl)⟩
 case stop=>
  rintro i c g W hD aa⟨⟨rfl,I,o⟩,E⟩G;have HF:Hid (mQ s.data.toList (xs.map (·.1))=0):=by
   show _=_;unfold mQ;rw[aB];intro h;apply o;obtain⟨rest,rfl⟩:=aa;rw[List.map_map,iN]at h;exact(List.nodup_append.1 h).1
  gi_wp2
  have C:(W.putObj i (.deferred none)).cell? ⟨w.heap.size,0,none⟩=some (.int .i64 0):=cell_kept I (grownBy_putObj' _ i (.deferred none)) (fun r e=>by cases e;exact⟨_,G,rfl⟩);refine⟨by simp,.inl ⟨_,_,rfl,run_takeDeferred G,?_⟩⟩;exact⟨.int .i64 0,by simp[results,results125,go_sem,C],by rw[HF.out];rfl,E.trans (belowK_b (w:=w) (aC _) _ i _ _ (by omega) G rfl rfl)⟩
theorem EZ(s:ByteArray)(b:s.size<=9000000000)(w:World)(c:aJ w):
  Calls prog 125 #[.string s] w fun e d=>e= .returned (.int .i64 (iO s.data.toList))/\Below w.heap.size w d:=by
 obtain⟨xs,a⟩:=EA (fI (s.size+1) s.data.toList 0) fun x a=>by
  have:=yO _ _ 0 (dM _) x a;rw[Hm.len]at this;omega
 have:=callsIn_wide.1 (UW s b w c xs a);rw[a,<-Hm.len]at this;exact this
end Go.Proofs.Z

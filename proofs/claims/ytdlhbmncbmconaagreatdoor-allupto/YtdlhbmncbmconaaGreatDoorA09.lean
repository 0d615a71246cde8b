/- Pressed by program out of Be. -/
import Derived.Test.YtdlhbmncbmconaaGreatDoorA08
namespace Go.Proofs.Z
open Hm Tryz Go.RowKit Go.Sort
attribute [local go_sem] cN cO
theorem FG(s:ByteArray)(c:s.size<=9000000000)(w:World)(d:aJ w):
  Calls prog 80 #[.string s] w fun e a=>e= .returned (.bool (jA s.data.toList))/\Below w.heap.size w a:=by
 have b:Hid (s.toList=s.data.toList):=Lib.toList_data s;have f:Hid (Calls prog 125 #[.string s] w fun e a=>e= .returned (.int .i64 (iO s.data.toList))/\Below w.heap.size w a):=EZ s c w d;by_cases h1:s.toList=[]
 ·go_enter func80,ntmps80;go_wp2;go_ret;refine⟨lZ ?_,aF _ _⟩;rw[b.out]at h1;rw[h1];simp[jA]
 ·have b1:s.toList.isEmpty=false:=by simpa using h1
  go_enter func80,ntmps80;go_wp2_with fail;refine f.out.mono ?_;rintro e h⟨rfl,g⟩;go_wp2;go_ret;refine⟨lZ ?_,g⟩;rw[b.out]at b1;simp only[jA,b1,Hm.len];simp;omega
theorem UX(s:ByteArray)(d:s.size<=9000000000)(w:World)(f:aJ w):
  Calls prog 135 #[.string s] w fun e a=>e= .returned (.int .i64 (fJ s.data.toList))/\Below w.heap.size w a:=by
 have g:Hid (Calls prog 125 #[.string s] w fun e a=>e= .returned (.int .i64 (iO s.data.toList))/\Below w.heap.size w a):=EZ s d w f;cases b:Lib.hasPrefix s.data.toList [45]
 ·have c:Hid (fJ s.data.toList=iO s.data.toList):=by show _=_;unfold fJ;rw[aB (by simp[b])]
  go_enter func135,ntmps135;go_wp2_with(go_at_call 53;refine(dV _ _ _).mono ?_;rintro e a⟨rfl,rfl⟩;rw[b]);refine g.out.mono ?_;rintro e i⟨rfl,h⟩;go_wp2;go_ret;exact⟨by rw[c.out];rfl,h⟩
 ·have c:Hid (fJ s.data.toList=1):=by show _=_;unfold fJ;rw[aD b]
  go_enter func135,ntmps135;go_wp2_with(go_at_call 53;refine(dV _ _ _).mono ?_;rintro e a⟨rfl,rfl⟩;rw[b]);go_ret;exact⟨by rw[c.out];rfl,aF _ _⟩
theorem zI(s:ByteArray)(a:Nat)(o:s.size<=4000000000)(q:a<=s.size)(w:World)(h:aJ w):
  Calls prog 87 #[.string s,.int .i64 a] w fun e d=>e= .returned (.tuple #[.string ⟨(eU s.data.toList a).1.toArray⟩,.int .i64 (eU s.data.toList a).2])/\∃n,d=w.drewN n:=by
 obtain⟨m,i⟩:=h.ml;have c:=CY (s.extract a s.size) ⟨#[32]⟩ m w (by simp;omega) i;rw[cP]at c;have f:=EC (s.data.toList.drop a) [32];rw[bC,Hm.len]at f;have g:Hid (eU s.data.toList a=((Lib.cut (s.data.toList.drop a) [32]).1,a+(Lib.cut (s.data.toList.drop a) [32]).1.length+if(Lib.cut (s.data.toList.drop a) [32]).2.2=true then 1 else 0)):=rfl;change Calls prog 58 _ _ (fun e d=>e= .returned (.tuple #[.string ⟨(Lib.cut (s.data.toList.drop a) [32]).1.toArray⟩,.string ⟨(Lib.cut (s.data.toList.drop a) [32]).2.1.toArray⟩,.bool (Lib.cut (s.data.toList.drop a) [32]).2.2])/\∃n,d=w.drewN n)at c;generalize Lib.cut (s.data.toList.drop a) [32]=C at c f g;obtain⟨p,r,b⟩:=C;dsimp only at c f g;have j:=aA c;clear c i h;cases b;all_goals
  go_enter func87,ntmps87;go_wp2_with fail;refine j.out.mono ?_;rintro e k⟨rfl,hw⟩;have l:=aA hw;clear hw;go_wp2;go_ret2;refine⟨?_,l.out⟩;rw[g.out];exact ET rfl (by simp)
theorem FH{k:IntKind}{a b c d:Int}(h:a=b)(e:c=d):Ending.returned (.tuple #[.int k a,.int k c])= .returned (.tuple #[.int k b,.int k d]):=by rw[h,e]
set_option maxHeartbeats 400000 in
theorem tT(s:ByteArray)(w:World)(M:s.size<=4000000000):
  Calls prog 52 #[.string s] w fun e a=>e= .returned (.tuple #[.int .i64 (cS s.data.toList).1,.int .i64 (cS s.data.toList).2])/\a=w:=by
 cases g:Lib.hasPrefix s.data.toList [60]
 ·have b:Hid (cS s.data.toList=(13,0)):=by show _=_;unfold cS;rw[aD g]
  go_enter func52,ntmps52;go_wp2_with(go_at_call 53;refine(dV _ _ _).mono ?_;rintro e a⟨rfl,rfl⟩;rw[g]);go_ret2;exact⟨by rw[b.out];rfl,rfl⟩
 ·have H:=iA g;simp only[Hm.len,bU,dS]at H;have B:=nN aH 3 (s.data.toList.drop 1);have c:=EB 3 (s.data.toList.drop 1);rw[bC,Hm.len]at B;have l:Hid (cS s.data.toList=if aZ aH 3 (s.data.toList.drop 1)=0∨Lib.hasPrefix (s.data.toList.drop (1+aZ aH 3 (s.data.toList.drop 1))) [62]=false then(13,0)else
    if(((s.data.toList.getD 1 0).toNat=48/\1<aZ aH 3 (s.data.toList.drop 1))∨191<cB ((s.data.toList.drop 1).take (aZ aH 3 (s.data.toList.drop 1))))then(13,0)else
    (cB ((s.data.toList.drop 1).take (aZ aH 3 (s.data.toList.drop 1))),1+aZ aH 3 (s.data.toList.drop 1)+1)):=by
   show _=_;rw[cS,aB (by simp[g])]
  obtain⟨n,m⟩:∃n,aZ aH 3 (s.data.toList.drop 1)=n:=⟨_,rfl⟩;have o:=aA m;rw[m]at B c l;clear m;by_cases h0:n=0
  ·have b:Hid (cS s.data.toList=(13,0)):=by show _=_;rw[l.out,aD (.inl h0)]
   subst h0;clear c;go_enter func52,ntmps52;go_wp2_with(first|(go_at_call 53;refine(dV _ _ _).mono ?_;rintro e a⟨rfl,rfl⟩;rw[g])|(go_at_call 83;refine(nO _ 3 _ (by simp;omega)).mono ?_;rintro e a⟨rfl,rfl⟩;rw[cP,o.out]));go_ret2;exact⟨by rw[b.out];rfl,rfl⟩
  ·have b0:((n:Int)==0)=false:=bG.2 (by omega);have N:(1:Int)+(n:Int)<=(s.size:Int):=by omega
   cases j:Lib.hasPrefix (s.data.toList.drop (1+n)) [62]
   ·have b:Hid (cS s.data.toList=(13,0)):=by show _=_;rw[l.out,aD (.inr j)]
    clear c;go_enter func52,ntmps52;go_wp2_with fail;refine(dV _ _ _).mono ?_;rintro e a⟨rfl,rfl⟩;rw[g];go_wp2_with(go_at_call 83;refine(nO _ 3 _ (by simp;omega)).mono ?_;rintro e a⟨rfl,rfl⟩;rw[cP,o.out]);refine(dV _ _ _).mono ?_;rintro e a⟨rfl,rfl⟩;rw[cP,j];go_wp2;go_ret2;exact⟨by rw[b.out];rfl,rfl⟩
   ·have r:=iA j;simp only[bC,Hm.len,bU,dS]at r;have t:(s.extract 1 (1+n)).data.toList=(s.data.toList.drop 1).take n:=by rw[fK];simp
    have u:=rX _ c;have k:((s.data.toList.drop 1).take n).length=n:=by rw[eJ,bC,Hm.len];omega
    rw[k]at u;have v:(10:Nat)^n<=10^3:=qQ (by omega) (by omega);have f:Hid (∀w,Calls prog 85 #[.string (s.extract 1 (1+n))] w fun e a=>e= .returned (.int .i64 (cB ((s.data.toList.drop 1).take n)))/\a=w):=fun w=>by
     have:=oY (s.extract 1 (1+n)) w (by simp;omega) (by rw[t];exact c)
     rwa [t]at this
    obtain⟨d,C⟩:∃d,cB ((s.data.toList.drop 1).take n)=d:=⟨_,rfl⟩;rw[C]at u f l;have D:d<1000:=by omega
    have x:1<s.size:=by omega
    have E:s.data.toList.getD 1 0=s[1]:=by rw[gQ,dP (by rw[Hm.len];exact x)];rfl
    have y:(s.extract 1 (1+n)).size=n:=by simp;omega
    rw[E]at l;have F:Hid (∀h0:¬n=0,∀p:Lib.hasPrefix (s.data.toList.drop (1+n)) [62]=true,cS s.data.toList=if(s[1].toNat=48/\1<n)∨191<d then(13,0)else(d,1+n+1)):=fun h0 p=>by
     rw[l.out,aB (by rintro(h|h);exact h0 h;rw[p]at h;cases h)]
    have G:=F.out h0 j;have i:=aA G;clear c u v k C E F l t G;have O:(0:Int)<(n:Int):=by omega
    have I:0<n:=by omega
    have q:0<(s.extract 1 (1+n)).size:=by rw[y];omega
    have J:(s.extract 1 (1+n))[0]'q=s[1]:=by simp[ByteArray.getElem_extract]
    by_cases z:s[1].toNat=48
    ·have K:((s[1].toNat:Int)==48)=true:=dZ.2 (by omega);by_cases L:1<n
     ·have b:Hid (cS s.data.toList=(13,0)):=by show _=_;rw[i.out,aD (.inl ⟨z,L⟩)]
      clear z;go_enter func52,ntmps52;go_wp2_with fail;refine(dV _ _ _).mono ?_;rintro e a⟨rfl,rfl⟩;rw[g];go_wp2_with(go_at_call 83;refine(nO _ 3 _ (by simp;omega)).mono ?_;rintro e a⟨rfl,rfl⟩;rw[cP,o.out]);refine(dV _ _ _).mono ?_;rintro e a⟨rfl,rfl⟩;rw[cP,j];go_wp2_with(go_at_call 85;refine(f.out _).mono ?_;rintro e a⟨rfl,rfl⟩);go_ret2;exact⟨by rw[b.out];rfl,rfl⟩
     ·by_cases A:191<d
      ·have b:Hid (cS s.data.toList=(13,0)):=by show _=_;rw[i.out,aD (.inr A)]
       clear z;go_enter func52,ntmps52;go_wp2_with fail;refine(dV _ _ _).mono ?_;rintro e a⟨rfl,rfl⟩;rw[g];go_wp2_with(go_at_call 83;refine(nO _ 3 _ (by simp;omega)).mono ?_;rintro e a⟨rfl,rfl⟩;rw[cP,o.out]);refine(dV _ _ _).mono ?_;rintro e a⟨rfl,rfl⟩;rw[cP,j];go_wp2_with(go_at_call 85;refine(f.out _).mono ?_;rintro e a⟨rfl,rfl⟩);go_ret2;exact⟨by rw[b.out];rfl,rfl⟩
      ·have b:Hid (cS s.data.toList=(d,1+n+1)):=by show _=_;rw[i.out,aB (by omega)]
       clear z;go_enter func52,ntmps52;go_wp2_with fail;refine(dV _ _ _).mono ?_;rintro e a⟨rfl,rfl⟩;rw[g];go_wp2_with(go_at_call 83;refine(nO _ 3 _ (by simp;omega)).mono ?_;rintro e a⟨rfl,rfl⟩;rw[cP,o.out]);refine(dV _ _ _).mono ?_;rintro e a⟨rfl,rfl⟩;rw[cP,j];go_wp2_with(go_at_call 85;refine(f.out _).mono ?_;rintro e a⟨rfl,rfl⟩);go_ret2;exact⟨by rw[b.out];exact FH rfl (by simp),rfl⟩
    ·have K:((s[1].toNat:Int)==48)=false:=bG.2 (by omega);by_cases A:191<d
     ·have b:Hid (cS s.data.toList=(13,0)):=by show _=_;rw[i.out,aD (.inr A)]
      clear z;go_enter func52,ntmps52;go_wp2_with fail;refine(dV _ _ _).mono ?_;rintro e a⟨rfl,rfl⟩;rw[g];go_wp2_with(go_at_call 83;refine(nO _ 3 _ (by simp;omega)).mono ?_;rintro e a⟨rfl,rfl⟩;rw[cP,o.out]);refine(dV _ _ _).mono ?_;rintro e a⟨rfl,rfl⟩;rw[cP,j];go_wp2_with(go_at_call 85;refine(f.out _).mono ?_;rintro e a⟨rfl,rfl⟩);go_ret2;exact⟨by rw[b.out];rfl,rfl⟩
     ·have b:Hid (cS s.data.toList=(d,1+n+1)):=by show _=_;rw[i.out,aB (by omega)]
      clear z;go_enter func52,ntmps52;go_wp2_with fail;refine(dV _ _ _).mono ?_;rintro e a⟨rfl,rfl⟩;rw[g];go_wp2_with(go_at_call 83;refine(nO _ 3 _ (by simp;omega)).mono ?_;rintro e a⟨rfl,rfl⟩;rw[cP,o.out]);refine(dV _ _ _).mono ?_;rintro e a⟨rfl,rfl⟩;rw[cP,j];go_wp2_with(go_at_call 85;refine(f.out _).mono ?_;rintro e a⟨rfl,rfl⟩);go_ret2;exact⟨by rw[b.out];exact FH rfl (by simp),rfl⟩
def zJ:Array Value:=(gS.map fun l=>Value.string ⟨l.toArray⟩).toArray
theorem UY:(prog.info? 266).map (·.size)=some 12:=by kernel_rfl
theorem UZ(k:Nat)(a:k<12)(w:World):(Instr.index 266 (.agg zJ) (.int .i64 k)).run prog w= .ok (.string ⟨(gS.getD k []).toArray⟩) w:=by
 rcases(by omega:k=0∨k=1∨k=2∨k=3∨k=4∨k=5∨k=6∨k=7∨k=8∨k=9∨k=10∨k=11)with h|h|h|h|h|h|h|h|h|h|h|h <;> subst h <;> kernel_rfl
set_option maxHeartbeats 400000 in
theorem VA(s:ByteArray)(w:World)(o:aJ w):
  Calls prog 178 #[.string s] w fun e r=>e= .returned (.int .i64 (iB s.data.toList))/\r=w:=by
 obtain⟨t,fr,a⟩:=o.mn;have p:Hid (w.heap[7]?=some (.cells zJ t fr)):=a;clear a o;obtain⟨C,j⟩:∃C,C=zJ:=⟨_,rfl⟩;have u:Hid (∀(k:Nat),k<12->∀w:World,(Instr.index 266 (.agg C) (.int .i64 k)).run prog w= .ok (.string ⟨(gS.getD k []).toArray⟩) w):=by
  show∀(k:Nat),_;rw[j];exact UZ
 have f:Hid (C.size=12):=by show _=_;rw[j];rfl
 rw[<-j]at p;clear j;go_enter func178,ntmps178;go_wp2_with(refine cG rfl _ _ rfl 7 rfl _ _ _ _ p.out underlying266 rfl (by rw[f.out];exact UY) ?_);go_loop [3,4,6] (fun _ _ i=>∃k:Nat,k<=12/\i= .int .i64 k/\iB s.data.toList=bF s.data.toList (gS.drop k) k) (fun _ _ i=>12-(intOf i).toNat)
 case atStart=>exact⟨0,by omega,rfl,rfl⟩
 case round=>
  obtain⟨k,x,rfl,q⟩:=hrel;have l:Hid (iB s.data.toList=bF s.data.toList (gS.drop k) k):=q;clear q;by_cases b:k<12
  ·have n:=u.out k b;have g:gS.drop k=gS.getD k []::gS.drop (k+1):=by
    rw[eE (by simpa[gS]using b),gQ,dP (by simpa[gS]using b)];rfl
   obtain⟨m,c⟩:∃m,gS.getD k []=m:=⟨_,rfl⟩;rw[c]at n g;by_cases d:m=s.data.toList
   ·have h:Hid (iB s.data.toList=k+1):=by show _=_;rw[l.out,g,bF,aD d]
    have v:(m==s.toList)=true:=by rw[Lib.toList_data];simpa using d
    clear d g c;go_wp2;go_ret;exact⟨oX (by rw[h.out];simp),rfl⟩
   ·have h:Hid (iB s.data.toList=bF s.data.toList (gS.drop (k+1)) (k+1)):=by show _=_;rw[l.out,g,bF,aB d]
    have v:(m==s.toList)=false:=by rw[Lib.toList_data];simpa using d
    clear d g c;go_wp2
    go_round
    case rel=>exact⟨k+1,by omega,by go_num,h.out⟩
    case measure=>simp[intOf];omega
  ·have h:Hid (iB s.data.toList=0):=by
    show _=_;rw[l.out,gH (by simp[gS];omega),bF]
   go_wp2;go_ret;exact⟨by rw[h.out];rfl,rfl⟩
theorem lJ(l:List UInt8):(⟨l.toArray⟩:ByteArray).size=l.length:=rfl
theorem VB(n:Int)(w:World)(a:aJ w)(h0:0<=n)(h1:n<=9999):
  Calls prog 177 #[.int .i64 n,.int .i64 4] w fun e b=>e= .returned (.string ⟨(fP n.toNat).toArray⟩)/\Below w.heap.size w b:=EV n w w a (aF _ _) h0 h1
theorem VC(n:Int)(w:World)(a:aJ w)(h0:0<=n)(h1:n<=99):
  Calls prog 177 #[.int .i64 n,.int .i64 2] w fun e b=>e= .returned (.string ⟨(Hm.d2 n.toNat).toArray⟩)/\Below w.heap.size w b:=sI n w w a (aF _ _) h0 h1
theorem pZ(s:ByteArray)(k:Nat)(h:k<s.size):s.data.toList.getD k 0=s[k]:=by
 rw[gQ,dP (by rw[Hm.len];exact h)];rfl
theorem FJ{a b:ByteArray}{c d:Bool}(h:a=b)(e:c=d):Ending.returned (.tuple #[.string a,.bool c])= .returned (.tuple #[.string b,.bool d]):=by rw[h,e]
set_option maxHeartbeats 1000000 in
theorem VD(s:ByteArray)(y:Int)(w:World)(a:aJ w)(l:s.size=15)(Z:1<=y)(I:y<=9999):
  Calls prog 137 #[.string s,.int .i64 y] w fun e c=>e= .returned (.tuple #[.string ⟨(gI s.data.toList y.toNat).1.toArray⟩,.bool (gI s.data.toList y.toNat).2])/\Below w.heap.size w c:=by
 have h3:3<s.size:=by omega
 have h4:4<s.size:=by omega
 have h6:6<s.size:=by omega
 have R:=yS (s.data.toList.take 3);have n:Hid (∀w,aJ w->Calls prog 178 #[.string (s.extract 0 3)] w fun e c=>e= .returned (.int .i64 (iB (s.data.toList.take 3)))/\c=w):=fun w a=>by
  have:=VA (s.extract 0 3) w a
  rwa [fK,fB]at this
 have r:Hid (gI s.data.toList y.toNat=if iB (s.data.toList.take 3)=0∨¬s[3].toNat=32∨¬s[6].toNat=32∨s[4].toNat=48 then([],false)else(lX s.data.toList y.toNat,eF (lX s.data.toList y.toNat))):=by
  show _=_;unfold gI;rw[pZ s 3 h3,pZ s 4 h4,pZ s 6 h6]
 have t:Hid (lX s.data.toList y.toNat=fP y.toNat++[45]++Hm.d2 (iB (s.data.toList.take 3))++[45]++(if s[4].toNat=32 then[48]++((s.data.toList.drop 4).take 2).drop 1 else(s.data.toList.drop 4).take 2)++[84]++s.data.toList.drop 7++[90]):=by
  show _=_;unfold lX sB;rw[pZ s 4 h4]
 obtain⟨m,v⟩:∃m,iB (s.data.toList.take 3)=m:=⟨_,rfl⟩;rw[v]at R n r t;clear v;have i3:(3:Int)<=(s.size:Int):=by omega
 have i6:(6:Int)<=(s.size:Int):=by omega
 have i7:(7:Int)<=(s.size:Int):=by omega
 have S:(3:Int)<(s.size:Int):=by omega
 have T:(6:Int)<(s.size:Int):=by omega
 have x:(s.extract 4 6).size=2:=by simp;omega
 have z:0<(s.extract 4 6).size:=by rw[x];omega
 have U:(s.extract 4 6)[0]'z=s[4]:=by simp[ByteArray.getElem_extract]
 have O:=aA l;have A:Hid (List.take 8 (s.data.toList.drop 7)=s.data.toList.drop 7):=fV (by rw[bC,Hm.len];omega);have J:Hid (((s.data.toList.drop 4).take 2).tail=(s.data.toList.drop 5).take 1):=by show _=_;rw[<-List.drop_one,List.drop_take,dW]
 have V:s.size<=15:=by omega
 by_cases o:m=0
 ·have k:Hid (gI s.data.toList y.toNat=([],false)):=by show _=_;rw[r.out,aD (.inl o)]
  subst o;clear l;go_enter func137,ntmps137;go_wp2_with(go_at_call 178;refine(n.out _ a).mono ?_;rintro e c⟨rfl,rfl⟩);go_quiet(fail)
  go_wp2;go_ret2;exact⟨by rw[k.out];rfl,below_drewN (aF _ _) _⟩
 ·have b0:((m:Int)==0)=false:=bG.2 (by omega);by_cases u:s[3].toNat=32
  ·have W:((s[3].toNat:Int) !=32)=false:=by simp;omega
   by_cases B:s[6].toNat=32
   ·have X:((s[6].toNat:Int) !=32)=false:=by simp;omega
    by_cases E:s[4].toNat=48
    ·have b4:((s[4].toNat:Int)==48)=true:=dZ.2 (by omega);have k:Hid (gI s.data.toList y.toNat=([],false)):=by show _=_;rw[r.out,aD (.inr (.inr (.inr E)))]
     clear l o u B E;go_enter func137,ntmps137;go_wp2_with(go_at_call 178;refine(n.out _ a).mono ?_;rintro e c⟨rfl,rfl⟩);go_quiet(fail)
     go_wp2;go_ret2;exact⟨by rw[k.out];rfl,below_drewN (aF _ _) _⟩
    ·have b4:((s[4].toNat:Int)==48)=false:=bG.2 (by omega);have k:Hid (gI s.data.toList y.toNat=(lX s.data.toList y.toNat,eF (lX s.data.toList y.toNat))):=by show _=_;rw[r.out,aB (by omega)]
     obtain⟨Y,F⟩:∃Y,fP y.toNat=Y:=⟨_,rfl⟩;have P:Y.length=4:=by rw[<-F];rfl
     obtain⟨M,G⟩:∃M,Hm.d2 m=M:=⟨_,rfl⟩;have Q:M.length=2:=by rw[<-G];rfl
     have C:Hid (∀w,aJ w->Calls prog 177 #[.int .i64 y,.int .i64 4] w fun e c=>e= .returned (.string ⟨Y.toArray⟩)/\Below w.heap.size w c):=fun w a=>by
      have:=VB y w a (by omega) I
      rwa [F]at this
     have D:Hid (∀w,aJ w->Calls prog 177 #[.int .i64 m,.int .i64 2] w fun e c=>e= .returned (.string ⟨M.toArray⟩)/\Below w.heap.size w c):=fun w a=>by
      have:=VC m w a (by omega) (by omega)
      rwa [Int.toNat_natCast,G]at this
     rw[F,G]at t;clear F G;by_cases H:s[4].toNat=32
     ·have b5:((s[4].toNat:Int)==32)=true:=dZ.2 (by omega);rw[aD H]at t;clear l o u B E H;go_enter func137,ntmps137;go_wp2_with(go_at_call 178;refine(n.out _ a).mono ?_;rintro e c⟨rfl,hw⟩;rw[hw];clear hw);go_quiet(fail)
      obtain⟨p,b⟩:∃p,w.drewN nq=p:=⟨_,rfl⟩;rw[b];have d:Hid (Below w.heap.size w p):=b▸below_drewN (aF _ _) _;clear b;go_wp2_with fail;refine(C.out _ (a.next d.out)).mono ?_;rintro e K⟨rfl,f⟩;have g:Hid (Below w.heap.size w K):=Below.next d.out (aC _) f;clear f;go_wp2_with fail;refine(D.out _ (a.next g.out)).mono ?_;rintro e L⟨rfl,h⟩;have i:Hid (Below w.heap.size w L):=Below.next g.out (aC _) h;clear h;go_wp2_with fail;refine(vS _ _ (a.next i.out) ?_).mono ?_
      ·simp only[ByteArray.size_append,lJ,ByteArray.size_extract,bU,dS,P,Q];omega
      rintro e N⟨rfl,j⟩;have q:Hid (Below w.heap.size w N):=Below.next i.out (aC _) j;clear j;go_wp2;go_ret2;refine⟨?_,q.out⟩;rw[k.out];refine FJ (jS ?_) (aQ eF ?_);all_goals
       rw[t.out];simp[ByteArray.data_append,O.out,A.out,J.out]
     ·have b5:((s[4].toNat:Int)==32)=false:=bG.2 (by omega);rw[aB H]at t;clear l o u B E H;go_enter func137,ntmps137;go_wp2_with(go_at_call 178;refine(n.out _ a).mono ?_;rintro e c⟨rfl,hw⟩;rw[hw];clear hw);go_quiet(fail)
      obtain⟨p,b⟩:∃p,w.drewN nq=p:=⟨_,rfl⟩;rw[b];have d:Hid (Below w.heap.size w p):=b▸below_drewN (aF _ _) _;clear b;go_wp2_with fail;refine(C.out _ (a.next d.out)).mono ?_;rintro e K⟨rfl,f⟩;have g:Hid (Below w.heap.size w K):=Below.next d.out (aC _) f;clear f;go_wp2_with fail;refine(D.out _ (a.next g.out)).mono ?_;rintro e L⟨rfl,h⟩;have i:Hid (Below w.heap.size w L):=Below.next g.out (aC _) h;clear h;go_wp2_with fail;refine(vS _ _ (a.next i.out) ?_).mono ?_
      ·simp only[ByteArray.size_append,lJ,ByteArray.size_extract,bU,dS,P,Q];omega
      rintro e N⟨rfl,j⟩;have q:Hid (Below w.heap.size w N):=Below.next i.out (aC _) j;clear j;go_wp2;go_ret2;refine⟨?_,q.out⟩;rw[k.out];refine FJ (jS ?_) (aQ eF ?_);all_goals
       rw[t.out];simp[ByteArray.data_append,O.out,A.out]
   ·have X:((s[6].toNat:Int) !=32)=true:=by simp;omega
    have k:Hid (gI s.data.toList y.toNat=([],false)):=by show _=_;rw[r.out,aD (.inr (.inr (.inl B)))]
    clear l o u B;go_enter func137,ntmps137;go_wp2_with(go_at_call 178;refine(n.out _ a).mono ?_;rintro e c⟨rfl,rfl⟩);go_quiet(fail)
    go_wp2;go_ret2;exact⟨by rw[k.out];rfl,below_drewN (aF _ _) _⟩
  ·have W:((s[3].toNat:Int) !=32)=true:=by simp;omega
   have k:Hid (gI s.data.toList y.toNat=([],false)):=by show _=_;rw[r.out,aD (.inr (.inl u))]
   clear l o u;go_enter func137,ntmps137;go_wp2_with(go_at_call 178;refine(n.out _ a).mono ?_;rintro e c⟨rfl,rfl⟩);go_quiet(fail)
   go_wp2;go_ret2;exact⟨by rw[k.out];rfl,below_drewN (aF _ _) _⟩
theorem tV{a b c d:ByteArray}{x y:Int}(h1:a=b)(h2:c=d)(h3:x=y):Ending.returned (.agg #[.string a,.string c,.int .i64 x])= .returned (.agg #[.string b,.string d,.int .i64 y]):=by rw[h1,h2,h3]
set_option maxHeartbeats 1000000 in
theorem FK(s:ByteArray)(w:World)(B:s.size<=4000000000):
  Calls prog 92 #[.string s] w fun e a=>e= .returned (.agg #[.string ⟨(dG s.data.toList).1.toArray⟩,.string ⟨(dG s.data.toList).2.1.toArray⟩,.int .i64 (dG s.data.toList).2.2])/\Below w.heap.size w a:=by
 have y:=nN cE 16 s.data.toList;rw[Hm.len]at y;have d:Hid (∀w,Calls prog 83 #[.string s,.int .i64 16,.func (.func 138) #[] #[]] w fun e a=>e= .returned (.int .i64 (aZ cE 16 s.data.toList))/\a=w):=fun w=>TQ s 16 w (by omega);have f:Hid (dG s.data.toList=if aZ cE 16 s.data.toList=0∨s.data.toList.take (aZ cE 16 s.data.toList)=[45]then([],[],0)else
   if Lib.hasPrefix (s.data.toList.drop (aZ cE 16 s.data.toList)) [91]=true then
    (if aZ aH 8 (s.data.toList.drop (aZ cE 16 s.data.toList+1))=0∨Lib.hasPrefix (s.data.toList.drop (aZ cE 16 s.data.toList+(1+aZ aH 8 (s.data.toList.drop (aZ cE 16 s.data.toList+1))))) [93]=false then([],[],0)else
     fC s.data.toList (s.data.toList.take (aZ cE 16 s.data.toList)) ((s.data.toList.drop (aZ cE 16 s.data.toList+1)).take (aZ aH 8 (s.data.toList.drop (aZ cE 16 s.data.toList+1)))) (aZ cE 16 s.data.toList+(1+aZ aH 8 (s.data.toList.drop (aZ cE 16 s.data.toList+1)))+1))
   else fC s.data.toList (s.data.toList.take (aZ cE 16 s.data.toList)) [] (aZ cE 16 s.data.toList)):=rfl
 obtain⟨n,p⟩:∃n,aZ cE 16 s.data.toList=n:=⟨_,rfl⟩;rw[p]at y d f;clear p;have z:=nN aH 8 (s.data.toList.drop (n+1));rw[bC,Hm.len]at z;have g:Hid (∀w,Calls prog 83 #[.string (s.extract (n+1) s.size),.int .i64 8,.func (.func 84) #[] #[]] w fun e a=>e= .returned (.int .i64 (aZ aH 8 (s.data.toList.drop (n+1))))/\a=w):=fun w=>by
  have:=nO (s.extract (n+1) s.size) 8 w (by simp;omega)
  rwa [cP]at this
 obtain⟨k,q⟩:∃k,aZ aH 8 (s.data.toList.drop (n+1))=k:=⟨_,rfl⟩;rw[q]at z g f;clear q;have o:(s.extract 0 n).data.toList=s.data.toList.take n:=by rw[fK];simp
 have t:=aA o;by_cases h0:n=0
 ·have b:Hid (dG s.data.toList=([],[],0)):=by show _=_;rw[f.out,aD (.inl h0)]
  subst h0;clear o;go_enter func92,ntmps92;go_wp2_with fail;refine(d.out _).mono ?_;rintro e a⟨rfl,rfl⟩;go_wp2_with(first|(go_at_call 53;refine(dV _ _ _).mono ?_;rintro e a⟨rfl,rfl⟩;rw[cP])|(go_at_call 83;refine(g.out _).mono ?_;rintro e a⟨rfl,rfl⟩));refine bB (v:= .agg #[.string ⟨#[]⟩,.string ⟨#[]⟩,.int .i64 0]) (by simp[results,results92,go_sem]) rfl ⟨by rw[b.out];rfl,?_⟩;exact(aF _ _).alloc (aC _) _
 ·have b0:((n:Int)==0)=false:=bG.2 (by omega);by_cases h1:s.data.toList.take n=[45]
  ·have b:Hid (dG s.data.toList=([],[],0)):=by show _=_;rw[f.out,aD (.inr h1)]
   have b1:(s.extract 0 n).toList=[45]:=by rw[Lib.toList_data,o];exact h1
   clear o h1;go_enter func92,ntmps92;go_wp2_with fail;refine(d.out _).mono ?_;rintro e a⟨rfl,rfl⟩;go_wp2_with(first|(go_at_call 53;refine(dV _ _ _).mono ?_;rintro e a⟨rfl,rfl⟩;rw[cP])|(go_at_call 83;refine(g.out _).mono ?_;rintro e a⟨rfl,rfl⟩));refine bB (v:= .agg #[.string ⟨#[]⟩,.string ⟨#[]⟩,.int .i64 0]) (by simp[results,results92,go_sem]) rfl ⟨by rw[b.out];rfl,?_⟩;exact(aF _ _).alloc (aC _) _
  ·have b1:((s.extract 0 n).toList==[45])=false:=by rw[Lib.toList_data,o];simpa using h1
   have i:Hid (dG s.data.toList=_):=f.out.trans (aB (by rintro(h|h);exact h0 h;exact h1 h));clear o h1;cases h91:Lib.hasPrefix (s.data.toList.drop n) [91]
   ·have c:Hid (dG s.data.toList=fC s.data.toList (s.data.toList.take n) [] n):=by show _=_;rw[i.out,aB (by simp[h91])]
    cases j:Lib.hasPrefix (s.data.toList.drop (n)) [58]
    ·have b:Hid (dG s.data.toList=([],[],0)):=by show _=_;rw[c.out,fC,aD j]
     go_enter func92,ntmps92;go_wp2_with fail;refine(d.out _).mono ?_;rintro e a⟨rfl,rfl⟩;go_wp2_with(first|(go_at_call 53;refine(dV _ _ _).mono ?_;rintro e a⟨rfl,rfl⟩;rw[cP])|(go_at_call 83;refine(g.out _).mono ?_;rintro e a⟨rfl,rfl⟩));refine bB (v:= .agg #[.string ⟨#[]⟩,.string ⟨#[]⟩,.int .i64 0]) (by simp[results,results92,go_sem]) rfl ⟨by rw[b.out];rfl,?_⟩;exact(aF _ _).alloc (aC _) _
    ·have l:=iA j;simp only[bC,Hm.len,bU,dS]at l;cases r:Lib.hasPrefix (s.data.toList.drop (n+1)) [32]
     ·have b:Hid (dG s.data.toList=(s.data.toList.take n,[],n+1)):=by show _=_;rw[c.out,fC,aB (by simp[j]),aB (by simp[r])]
      go_enter func92,ntmps92;go_wp2_with fail;refine(d.out _).mono ?_;rintro e a⟨rfl,rfl⟩;go_wp2_with(first|(go_at_call 53;refine(dV _ _ _).mono ?_;rintro e a⟨rfl,rfl⟩;rw[cP])|(go_at_call 83;refine(g.out _).mono ?_;rintro e a⟨rfl,rfl⟩));refine bB (v:= .agg #[.string (s.extract 0 n),.string ⟨#[]⟩,.int .i64 ((n:Int)+1)]) (by simp[results,results92,go_sem]) rfl ⟨by rw[b.out];exact tV (jS t.out) rfl (by dsimp only;omega),?_⟩;exact(aF _ _).alloc (aC _) _
     ·have b:Hid (dG s.data.toList=(s.data.toList.take n,[],n+1+1)):=by show _=_;rw[c.out,fC,aB (by simp[j]),aD r]
      go_enter func92,ntmps92;go_wp2_with fail;refine(d.out _).mono ?_;rintro e a⟨rfl,rfl⟩;go_wp2_with(first|(go_at_call 53;refine(dV _ _ _).mono ?_;rintro e a⟨rfl,rfl⟩;rw[cP])|(go_at_call 83;refine(g.out _).mono ?_;rintro e a⟨rfl,rfl⟩));refine bB (v:= .agg #[.string (s.extract 0 n),.string ⟨#[]⟩,.int .i64 ((n:Int)+1+1)]) (by simp[results,results92,go_sem]) rfl ⟨by rw[b.out];exact tV (jS t.out) rfl (by dsimp only;omega),?_⟩;exact(aF _ _).alloc (aC _) _
   ·have u:=iA h91;simp only[bC,Hm.len,bU,dS]at u;by_cases m:k=0
    ·have b:Hid (dG s.data.toList=([],[],0)):=by show _=_;rw[i.out,aD h91,aD (.inl m)]
     subst m;go_enter func92,ntmps92;go_wp2_with fail;refine(d.out _).mono ?_;rintro e a⟨rfl,rfl⟩;go_wp2_with(first|(go_at_call 53;refine(dV _ _ _).mono ?_;rintro e a⟨rfl,rfl⟩;rw[cP])|(go_at_call 83;refine(g.out _).mono ?_;rintro e a⟨rfl,rfl⟩));refine bB (v:= .agg #[.string ⟨#[]⟩,.string ⟨#[]⟩,.int .i64 0]) (by simp[results,results92,go_sem]) rfl ⟨by rw[b.out];rfl,?_⟩;exact(aF _ _).alloc (aC _) _
    ·have C:((k:Int)==0)=false:=bG.2 (by omega);cases h93:Lib.hasPrefix (s.data.toList.drop (n+(1+k))) [93]
     ·have b:Hid (dG s.data.toList=([],[],0)):=by show _=_;rw[i.out,aD h91,aD (.inr h93)]
      go_enter func92,ntmps92;go_wp2_with fail;refine(d.out _).mono ?_;rintro e a⟨rfl,rfl⟩;go_wp2_with(first|(go_at_call 53;refine(dV _ _ _).mono ?_;rintro e a⟨rfl,rfl⟩;rw[cP])|(go_at_call 83;refine(g.out _).mono ?_;rintro e a⟨rfl,rfl⟩));refine bB (v:= .agg #[.string ⟨#[]⟩,.string ⟨#[]⟩,.int .i64 0]) (by simp[results,results92,go_sem]) rfl ⟨by rw[b.out];rfl,?_⟩;exact(aF _ _).alloc (aC _) _
     ·have x:=iA h93;simp only[bC,Hm.len,bU,dS]at x;have c:Hid (dG s.data.toList=fC s.data.toList (s.data.toList.take n) ((s.data.toList.drop (n+1)).take k) (n+(1+k)+1)):=by
       show _=_;rw[i.out,aD h91,aB (by rintro(h|h);exact m h;rw[h93]at h;cases h)]
      have A:Hid ((s.extract (n+1) (n+1+k)).data.toList=(s.data.toList.drop (n+1)).take k):=by show _=_;rw[fK,Nat.add_sub_cancel_left]
      cases j:Lib.hasPrefix (s.data.toList.drop (n+(1+k)+1)) [58]
      ·have b:Hid (dG s.data.toList=([],[],0)):=by show _=_;rw[c.out,fC,aD j]
       go_enter func92,ntmps92;go_wp2_with fail;refine(d.out _).mono ?_;rintro e a⟨rfl,rfl⟩;go_wp2_with(first|(go_at_call 53;refine(dV _ _ _).mono ?_;rintro e a⟨rfl,rfl⟩;rw[cP])|(go_at_call 83;refine(g.out _).mono ?_;rintro e a⟨rfl,rfl⟩));refine bB (v:= .agg #[.string ⟨#[]⟩,.string ⟨#[]⟩,.int .i64 0]) (by simp[results,results92,go_sem]) rfl ⟨by rw[b.out];rfl,?_⟩;exact(aF _ _).alloc (aC _) _
      ·have l:=iA j;simp only[bC,Hm.len,bU,dS]at l;cases r:Lib.hasPrefix (s.data.toList.drop (n+(1+k)+1+1)) [32]
       ·have b:Hid (dG s.data.toList=(s.data.toList.take n,(s.data.toList.drop (n+1)).take k,n+(1+k)+1+1)):=by show _=_;rw[c.out,fC,aB (by simp[j]),aB (by simp[r])]
        go_enter func92,ntmps92;go_wp2_with fail;refine(d.out _).mono ?_;rintro e a⟨rfl,rfl⟩;go_wp2_with(first|(go_at_call 53;refine(dV _ _ _).mono ?_;rintro e a⟨rfl,rfl⟩;rw[cP])|(go_at_call 83;refine(g.out _).mono ?_;rintro e a⟨rfl,rfl⟩));refine bB (v:= .agg #[.string (s.extract 0 n),.string (s.extract (n+1) (n+1+k)),.int .i64 ((n:Int)+(1+(k:Int))+1+1)]) (by simp[results,results92,go_sem]) rfl ⟨by rw[b.out];exact tV (jS t.out) (jS A.out) (by dsimp only;omega),?_⟩;exact(aF _ _).alloc (aC _) _
       ·have b:Hid (dG s.data.toList=(s.data.toList.take n,(s.data.toList.drop (n+1)).take k,n+(1+k)+1+1+1)):=by show _=_;rw[c.out,fC,aB (by simp[j]),aD r]
        go_enter func92,ntmps92;go_wp2_with fail;refine(d.out _).mono ?_;rintro e a⟨rfl,rfl⟩;go_wp2_with(first|(go_at_call 53;refine(dV _ _ _).mono ?_;rintro e a⟨rfl,rfl⟩;rw[cP])|(go_at_call 83;refine(g.out _).mono ?_;rintro e a⟨rfl,rfl⟩));refine bB (v:= .agg #[.string (s.extract 0 n),.string (s.extract (n+1) (n+1+k)),.int .i64 ((n:Int)+(1+(k:Int))+1+1+1)]) (by simp[results,results92,go_sem]) rfl ⟨by rw[b.out];exact tV (jS t.out) (jS A.out) (by dsimp only;omega),?_⟩;exact(aF _ _).alloc (aC _) _
end Go.Proofs.Z
namespace Go.Proofs.Z
open Hm Hw Tryz Go.RowKit Go.Sort
attribute [local go_sem] cN cO
theorem nP:(prog.info? 157).map (·.size)=some 3:=by kernel_rfl
theorem VE(s:ByteArray)(w:World)(d:aJ w)(g:s.size<=4000000000)(p r:List UInt8)(b:Bool)(h:Lib.cut s.data.toList [32]=(p,r,b)):
  Calls prog 58 #[.string s,.string ⟨#[32]⟩] w fun e a=>e= .returned (.tuple #[.string ⟨p.toArray⟩,.string ⟨r.toArray⟩,.bool b])/\∃n,a=w.drewN n:=by
 obtain⟨m,f⟩:=d.ml;have c:=CY s ⟨#[32]⟩ m w (by omega) f;change Calls prog 58 _ _ (fun e a=>e= .returned (.tuple #[.string ⟨(Lib.cut s.data.toList [32]).1.toArray⟩,.string ⟨(Lib.cut s.data.toList [32]).2.1.toArray⟩,.bool (Lib.cut s.data.toList [32]).2.2])/\∃n,a=w.drewN n)at c
 rwa [h]at c
set_option maxRecDepth 20000 in
set_option maxHeartbeats 1000000 in
theorem VF(s:ByteArray)(y:Int)(w:World)(i:aJ w)(Q:s.size<=4000000000)(N:1<=y)(H:y<=9999):
  Calls prog 91 #[.string s,.int .i64 y] w fun e l=>e= .returned (.agg #[.string ⟨(cM s.data.toList y.toNat).1.toArray⟩,.string ⟨(cM s.data.toList y.toNat).2.1.toArray⟩,.int .i64 (cM s.data.toList y.toNat).2.2])/\Below w.heap.size w l:=by
 by_cases h16:s.size<16
 ·have m:Hid (cM s.data.toList y.toNat=([],[],0)):=by show _=_;unfold cM;rw[aD (.inl (by rw[Hm.len];exact h16))]
  go_enter func91,ntmps91;go_wp2;refine bB (v:= .agg #[.string ⟨#[]⟩,.string ⟨#[]⟩,.int .i64 0]) (by simp[results,results91,go_sem]) rfl ⟨by rw[m.out];rfl,?_⟩;exact(aF _ _).alloc (aC _) _
 ·have h15:15<s.size:=by omega
  have O:(15:Int)<(s.size:Int):=by omega
  have M:(15:Int)<=(s.size:Int):=by omega
  have P:(16:Int)<=(s.size:Int):=by omega
  by_cases I:s[15].toNat=32
  ·have J:((s[15].toNat:Int) !=32)=false:=by simp;omega
   obtain⟨T,d,K⟩:∃T d,gI (s.data.toList.take 15) y.toNat=(T,d):=⟨_,_,rfl⟩;obtain⟨p,r,c,F⟩:∃p r c,Lib.cut (s.data.toList.drop 16) [32]=(p,r,c):=⟨_,_,_,rfl⟩;have C:=EC (s.data.toList.drop 16) [32];rw[F,bC,Hm.len]at C;dsimp only at C;have D:Hid (cM s.data.toList y.toNat=if d=false∨c=false∨bX p 32=false then([],[],0)else(T,p,16+p.length+1)):=by
    show _=_;unfold cM;rw[aB (by rw[Hm.len,pZ s 15 h15];omega),K,F]
   have G:Hid (∀w,aJ w->Calls prog 137 #[.string (s.extract 0 15),.int .i64 y] w fun e l=>e= .returned (.tuple #[.string ⟨T.toArray⟩,.bool d])/\Below w.heap.size w l):=fun w i=>by
    have:=VD (s.extract 0 15) y w i (by simp;omega) N H
    rwa [fK,fB,show(15:Nat)-0=15 from rfl,K]at this
   have z:Hid (∀w,aJ w->Calls prog 58 #[.string (s.extract 16 s.size),.string ⟨#[32]⟩] w fun e l=>e= .returned (.tuple #[.string ⟨p.toArray⟩,.string ⟨r.toArray⟩,.bool c])/\∃n,l=w.drewN n):=fun w i=>
    VE _ w i (by simp;omega) p r c (by rw[cP];exact F)
   have o:Hid (∀w,Calls prog 79 #[.string ⟨p.toArray⟩,.int .i64 32] w fun e l=>e= .returned (.bool (bX p 32))/\l=w):=fun w=>
    tL ⟨p.toArray⟩ 32 w (by rw[lJ];omega) (by omega)
   obtain⟨L,E⟩:∃L,bX p 32=L:=⟨_,rfl⟩;rw[E]at D o;clear K F E I;cases d
   ·skip
    have m:Hid (cM s.data.toList y.toNat=([],[],0)):=by show _=_;rw[D.out];rfl
    go_enter func91,ntmps91;go_wp2_with(first
     |(go_at_call 137;refine(G.out _ (i.alloc _)).mono ?_;rintro e t⟨rfl,a⟩;have j:Hid (t.heap[w.heap.size]?=some (.cells #[.string ⟨#[]⟩,.string ⟨#[]⟩,.int .i64 0] 157 (0,0))):=tM a;have f:Hid (Below w.heap.size w t):=((aF _ _).alloc (aC _) _).trans (a.mono (by simp));clear a)
     |(go_at_call 58;refine(z.out _ (i.next f.out)).mono ?_;rintro e h⟨rfl,b⟩;have k:Hid (h.heap[w.heap.size]?=some (.cells #[.string ⟨#[]⟩,.string ⟨#[]⟩,.int .i64 0] 157 (0,0))):=(by obtain⟨q,rfl⟩:=b;exact j.out);have g:Hid (Below w.heap.size w h):=Below.next f.out (aC _) (aT b);have A:h.cell? ⟨0,0,none⟩=some (.int .i64 32):=(i.next g.out).wk.cell 0;clear b)
     |(go_at_call 79;refine(o.out _).mono ?_;rintro e l⟨rfl,hw⟩;rw[hw];clear hw)
     |(refine bI rfl _ _ _ rfl rfl w.heap.size #[.string ⟨#[]⟩,.string ⟨#[]⟩,.int .i64 0] rfl rfl _ _ k.out nP rfl rfl ?_;intro B u;have x:=aA u;clear u))
    refine bB (results_cell_row results91 _ _ _ _ _ _ _ rfl x.out.row underlying157 rfl nP) rfl ⟨by rw[m.out];rfl,?_⟩;exact g.out.trans (x.out.below (aC _))
   ·cases c
    ·skip
     have m:Hid (cM s.data.toList y.toNat=([],[],0)):=by show _=_;rw[D.out];rfl
     go_enter func91,ntmps91;go_wp2_with(first
      |(go_at_call 137;refine(G.out _ (i.alloc _)).mono ?_;rintro e t⟨rfl,a⟩;have j:Hid (t.heap[w.heap.size]?=some (.cells #[.string ⟨#[]⟩,.string ⟨#[]⟩,.int .i64 0] 157 (0,0))):=tM a;have f:Hid (Below w.heap.size w t):=((aF _ _).alloc (aC _) _).trans (a.mono (by simp));clear a)
      |(go_at_call 58;refine(z.out _ (i.next f.out)).mono ?_;rintro e h⟨rfl,b⟩;have k:Hid (h.heap[w.heap.size]?=some (.cells #[.string ⟨#[]⟩,.string ⟨#[]⟩,.int .i64 0] 157 (0,0))):=(by obtain⟨q,rfl⟩:=b;exact j.out);have g:Hid (Below w.heap.size w h):=Below.next f.out (aC _) (aT b);have A:h.cell? ⟨0,0,none⟩=some (.int .i64 32):=(i.next g.out).wk.cell 0;clear b)
      |(go_at_call 79;refine(o.out _).mono ?_;rintro e l⟨rfl,hw⟩;rw[hw];clear hw)
      |(refine bI rfl _ _ _ rfl rfl w.heap.size #[.string ⟨#[]⟩,.string ⟨#[]⟩,.int .i64 0] rfl rfl _ _ k.out nP rfl rfl ?_;intro B u;have x:=aA u;clear u))
     refine bB (results_cell_row results91 _ _ _ _ _ _ _ rfl x.out.row underlying157 rfl nP) rfl ⟨by rw[m.out];rfl,?_⟩;exact g.out.trans (x.out.below (aC _))
    ·cases L
     ·skip
      have m:Hid (cM s.data.toList y.toNat=([],[],0)):=by show _=_;rw[D.out];rfl
      go_enter func91,ntmps91;go_wp2_with(first
       |(go_at_call 137;refine(G.out _ (i.alloc _)).mono ?_;rintro e t⟨rfl,a⟩;have j:Hid (t.heap[w.heap.size]?=some (.cells #[.string ⟨#[]⟩,.string ⟨#[]⟩,.int .i64 0] 157 (0,0))):=tM a;have f:Hid (Below w.heap.size w t):=((aF _ _).alloc (aC _) _).trans (a.mono (by simp));clear a)
       |(go_at_call 58;refine(z.out _ (i.next f.out)).mono ?_;rintro e h⟨rfl,b⟩;have k:Hid (h.heap[w.heap.size]?=some (.cells #[.string ⟨#[]⟩,.string ⟨#[]⟩,.int .i64 0] 157 (0,0))):=(by obtain⟨q,rfl⟩:=b;exact j.out);have g:Hid (Below w.heap.size w h):=Below.next f.out (aC _) (aT b);have A:h.cell? ⟨0,0,none⟩=some (.int .i64 32):=(i.next g.out).wk.cell 0;clear b)
       |(go_at_call 79;refine(o.out _).mono ?_;rintro e l⟨rfl,hw⟩;rw[hw];clear hw)
       |(refine bI rfl _ _ _ rfl rfl w.heap.size #[.string ⟨#[]⟩,.string ⟨#[]⟩,.int .i64 0] rfl rfl _ _ k.out nP rfl rfl ?_;intro B u;have x:=aA u;clear u))
      refine bB (results_cell_row results91 _ _ _ _ _ _ _ rfl x.out.row underlying157 rfl nP) rfl ⟨by rw[m.out];rfl,?_⟩;exact g.out.trans (x.out.below (aC _))
     ·skip
      have m:Hid (cM s.data.toList y.toNat=(T,p,16+p.length+1)):=by show _=_;rw[D.out];rfl
      go_enter func91,ntmps91;go_wp2_with(first
       |(go_at_call 137;refine(G.out _ (i.alloc _)).mono ?_;rintro e t⟨rfl,a⟩;have j:Hid (t.heap[w.heap.size]?=some (.cells #[.string ⟨#[]⟩,.string ⟨#[]⟩,.int .i64 0] 157 (0,0))):=tM a;have f:Hid (Below w.heap.size w t):=((aF _ _).alloc (aC _) _).trans (a.mono (by simp));clear a)
       |(go_at_call 58;refine(z.out _ (i.next f.out)).mono ?_;rintro e h⟨rfl,b⟩;have k:Hid (h.heap[w.heap.size]?=some (.cells #[.string ⟨#[]⟩,.string ⟨#[]⟩,.int .i64 0] 157 (0,0))):=(by obtain⟨q,rfl⟩:=b;exact j.out);have g:Hid (Below w.heap.size w h):=Below.next f.out (aC _) (aT b);have A:h.cell? ⟨0,0,none⟩=some (.int .i64 32):=(i.next g.out).wk.cell 0;clear b)
       |(go_at_call 79;refine(o.out _).mono ?_;rintro e l⟨rfl,hw⟩;rw[hw];clear hw)
       |(refine bI rfl _ _ _ rfl rfl w.heap.size #[.string ⟨T.toArray⟩,.string ⟨p.toArray⟩,.int .i64 (16+(p.length:Int)+1)] rfl rfl _ _ k.out nP rfl rfl ?_;intro B u;have x:=aA u;clear u))
      refine bB (results_cell_row results91 _ _ _ _ _ _ _ rfl x.out.row underlying157 rfl nP) rfl ⟨by rw[m.out];exact tV rfl rfl (by dsimp only;omega),?_⟩;exact g.out.trans (x.out.below (aC _))
  ·have J:((s[15].toNat:Int) !=32)=true:=by simp;omega
   have m:Hid (cM s.data.toList y.toNat=([],[],0)):=by show _=_;unfold cM;rw[aD (.inr (by rw[pZ s 15 h15];exact I))]
   clear I;go_enter func91,ntmps91;go_wp2;refine bB (v:= .agg #[.string ⟨#[]⟩,.string ⟨#[]⟩,.int .i64 0]) (by simp[results,results91,go_sem]) rfl ⟨by rw[m.out];rfl,?_⟩;exact(aF _ _).alloc (aC _) _
def aL(m:aO):Array Value:=#[.int .i64 m.fac,.int .i64 m.sev,.string ⟨m.time.toArray⟩,.string ⟨m.host.toArray⟩,.string ⟨m.app.toArray⟩,.string ⟨m.proc.toArray⟩,.string ⟨m.id.toArray⟩,.string ⟨m.data.toArray⟩,.string ⟨m.text.toArray⟩]
theorem cJ:(prog.info? 29).map (·.size)=some 9:=by kernel_rfl
theorem fZ:(prog.info? 9).map (·.size)=some 1:=by kernel_rfl
theorem FM{f b:Value}{t h a p i d:Value}{x z:ByteArray}(e:x=z):Ending.returned (.agg #[f,b,t,h,a,p,i,d,.string x])= .returned (.agg #[f,b,t,h,a,p,i,d,.string z]):=by rw[e]
theorem vU{a:World}{g:Nat}{old:Array Value}{t:TypeId}(h:a.heap[g]?=some (.cells old t (0,0)))(i j:Nat)(u v:Value):
  aI a g t ((old.setIfInBounds i u).setIfInBounds j v) ((a.setCell ⟨g,i,none⟩ u).setCell ⟨g,j,none⟩ v).drew:=by
 have h1:=mO h (old.setIfInBounds i u);rw[<-setCell_eq_setRow a g i old t (0,0) u h]at h1;have h2:=mO h1.row ((old.setIfInBounds i u).setIfInBounds j v);rw[<-setCell_eq_setRow _ g j _ t (0,0) v h1.row]at h2;exact⟨h2.row,fun k b=>(h2.other k b).trans (h1.other k b),h2.size.trans h1.size,h2.os.trans h1.os,h2.tape.trans h1.tape,h2.output.trans h1.output⟩
theorem tW{d:World}{g:Nat}{a b c:Value}{t:TypeId}(h:d.heap[g]?=some (.cells #[a,b,c] t (0,0))):
  (d.cell? ⟨g,0,none⟩=some a/\d.cell? ⟨g,1,none⟩=some b/\d.cell? ⟨g,2,none⟩=some c)/\∀i,d.frozen? ⟨g,i,none⟩=false:=
 ⟨⟨aS _ _ _ _ _ _ h,aS _ _ _ _ _ _ h,aS _ _ _ _ _ _ h⟩,fun _=>frozen_of_row _ _ _ _ _ h⟩
set_option maxRecDepth 20000 in
set_option maxHeartbeats 1000000 in
theorem VG(f u:Int)(t h a p i d x:List UInt8)(s:ByteArray)(y:Int)(w:World)(hT:aJ w)(_hs:s.size<=4000000000)(T H:List UInt8)(L:Nat)(hL:L<=s.size)(HS:Hid (∀w,aJ w->Calls prog 91 #[.string s,.int .i64 y] w fun e D=>e= .returned (.agg #[.string ⟨T.toArray⟩,.string ⟨H.toArray⟩,.int .i64 L])/\Below w.heap.size w D))(ac:0<L)(A P:List UInt8)(G:Nat)(hG:G<=s.size-L)(HG:Hid (∀w,Calls prog 92 #[.string (s.extract L s.size)] w fun e D=>e= .returned (.agg #[.string ⟨A.toArray⟩,.string ⟨P.toArray⟩,.int .i64 G])/\Below w.heap.size w D)):
  Calls prog 56 #[.agg #[.int .i64 f,.int .i64 u,.string ⟨t.toArray⟩,.string ⟨h.toArray⟩,.string ⟨a.toArray⟩,.string ⟨p.toArray⟩,.string ⟨i.toArray⟩,.string ⟨d.toArray⟩,.string ⟨x.toArray⟩],.string s,.int .i64 y] w fun e D=>
   e= .returned (.agg #[.int .i64 f,.int .i64 u,.string ⟨T.toArray⟩,.string ⟨H.toArray⟩,.string ⟨A.toArray⟩,.string ⟨P.toArray⟩,.string ⟨i.toArray⟩,.string ⟨d.toArray⟩,.string ⟨((s.data.toList.drop L).drop G).toArray⟩])/\Below w.heap.size w D:=by
 go_enter func56,ntmps56;go_wp2_with fail;refine(HS.out _ ((hT.alloc _).alloc _)).mono ?_;rintro e g⟨rfl,n⟩;obtain⟨r0,r1⟩:=kU n;have o:Hid (Below w.heap.size w g):=((((aF _ _).alloc (aC _) _).alloc (by simp) _).trans (n.mono (by simp;omega)));have ag:w.heap.size+2<=g.heap.size:=by have:=n.size;simpa using this
 have j:=aA r0;have l:=aA r1;clear n r0 r1;go_wp2_with(refine bI rfl _ _ _ rfl rfl g.heap.size #[.string ⟨T.toArray⟩,.string ⟨H.toArray⟩,.int .i64 L] rfl rfl _ _ (heap_alloc_new _ _) nP rfl rfl ?_;intro q R;have C:=aA R;obtain⟨⟨S,U,c2⟩,_⟩:=tW R.row;clear R);have m:q.heap[w.heap.size]?=some (.cells #[.int .i64 f,.int .i64 u,.string ⟨t.toArray⟩,.string ⟨h.toArray⟩,.string ⟨a.toArray⟩,.string ⟨p.toArray⟩,.string ⟨i.toArray⟩,.string ⟨d.toArray⟩,.string ⟨x.toArray⟩] 29 (0,0)):=(C.out.other _ (by omega)).trans ((heap_alloc_old _ _ (by omega)).trans j.out);have R1:q.heap[w.heap.size+1]?=_:=(C.out.other _ (by omega)).trans ((heap_alloc_old _ _ (by omega)).trans l.out);have b2:q.cell? ⟨w.heap.size,2,none⟩=some (.string ⟨t.toArray⟩):=aS _ _ _ _ _ _ m;have V:q.cell? ⟨w.heap.size,3,none⟩=some (.string ⟨h.toArray⟩):=aS _ _ _ _ _ _ m;have W:∀k,q.frozen? ⟨w.heap.size,k,none⟩=false:=fun k=>frozen_of_row _ _ _ _ _ m;have ah:¬g.heap.size=w.heap.size:=by omega
 have ad:¬w.heap.size=g.heap.size:=by omega
 have E:=aA m;have H1:=aA R1;clear m R1;go_region
 have v:=vU E.out 2 3 (.string ⟨T.toArray⟩) (.string ⟨H.toArray⟩);simp only[eO,eR,eM]at v;generalize((q.setCell ⟨w.heap.size,2,none⟩ (.string ⟨T.toArray⟩)).setCell ⟨w.heap.size,3,none⟩ (.string ⟨H.toArray⟩)).drew=F at v⊢;have I:=aA v.row;have J:Hid (F.heap[w.heap.size+1]?=some (.cells #[.int .i64 0,.int .i64 0,.string ⟨#[]⟩,.string ⟨#[]⟩,.string ⟨#[]⟩,.string ⟨#[]⟩,.string ⟨#[]⟩,.string ⟨#[]⟩,.string ⟨#[]⟩] 29 (0,0))):=(v.other _ (by omega)).trans H1.out;have X:Hid (Below w.heap.size w F):=((o.out.alloc o.out.size _).trans (C.out.below o.out.size)).trans (v.below (aC _));have ai:F.cell? ⟨g.heap.size,2,none⟩=some (.int .i64 L):=aS _ _ _ _ _ _ ((v.other _ (by omega)).trans C.out.row);have aj:g.heap.size+1<=F.heap.size:=by rw[v.size,C.out.size];simp
 clear v C E H1 j l o b2 V W S U c2;go_wp2_with(go_at_call 92;refine(HG.out _).mono ?_;rintro e c⟨rfl,n⟩;have j:Hid (c.heap[w.heap.size]?=some (.cells #[.int .i64 f,.int .i64 u,.string ⟨T.toArray⟩,.string ⟨H.toArray⟩,.string ⟨a.toArray⟩,.string ⟨p.toArray⟩,.string ⟨i.toArray⟩,.string ⟨d.toArray⟩,.string ⟨x.toArray⟩] 29 (0,0))):=(n.block _ (by omega)).trans I.out;have l:Hid (c.heap[w.heap.size+1]?=some (.cells #[.int .i64 0,.int .i64 0,.string ⟨#[]⟩,.string ⟨#[]⟩,.string ⟨#[]⟩,.string ⟨#[]⟩,.string ⟨#[]⟩,.string ⟨#[]⟩,.string ⟨#[]⟩] 29 (0,0))):=(n.block _ (by omega)).trans J.out;have Y:Hid (Below w.heap.size w c):=Below.next X.out (aC _) n;have ak:w.heap.size+2<=c.heap.size:=(by have:=n.size;omega);clear n);obtain⟨b,r⟩:∃b,c.alloc (.cells #[.string ⟨A.toArray⟩,.string ⟨P.toArray⟩,.int .i64 G] 160)=b:=⟨_,rfl⟩;have Q:Below c.heap.size c b:=r▸(aF _ _).alloc (aC _) _;have Z:b.heap[c.heap.size]?=some (.cells #[.string ⟨A.toArray⟩,.string ⟨P.toArray⟩,.int .i64 G] 160 (0,0)):=r▸heap_alloc_new _ _;rw[r];clear r;have m:b.heap[w.heap.size]?=some (.cells #[.int .i64 f,.int .i64 u,.string ⟨T.toArray⟩,.string ⟨H.toArray⟩,.string ⟨a.toArray⟩,.string ⟨p.toArray⟩,.string ⟨i.toArray⟩,.string ⟨d.toArray⟩,.string ⟨x.toArray⟩] 29 (0,0)):=(Q.block _ (by omega)).trans j.out;have z:Hid (b.heap[w.heap.size+1]?=some (.cells #[.int .i64 0,.int .i64 0,.string ⟨#[]⟩,.string ⟨#[]⟩,.string ⟨#[]⟩,.string ⟨#[]⟩,.string ⟨#[]⟩,.string ⟨#[]⟩,.string ⟨#[]⟩] 29 (0,0))):=(Q.block _ (by omega)).trans l.out;have K:Hid (Below w.heap.size w b):=Below.next Y.out (aC _) Q;obtain⟨⟨S,U,_⟩,_⟩:=tW Z;have b2:b.cell? ⟨w.heap.size,4,none⟩=some (.string ⟨a.toArray⟩):=aS _ _ _ _ _ _ m;have V:b.cell? ⟨w.heap.size,5,none⟩=some (.string ⟨p.toArray⟩):=aS _ _ _ _ _ _ m;have W:∀k,b.frozen? ⟨w.heap.size,k,none⟩=false:=fun k=>frozen_of_row _ _ _ _ _ m;have ae:¬c.heap.size=w.heap.size:=by omega
 have af:¬w.heap.size=c.heap.size:=by omega
 have E:=aA m;have H8:=aA Z;clear m Z Q j l;go_region
 have B:=vU E.out 4 5 (.string ⟨A.toArray⟩) (.string ⟨P.toArray⟩);simp only[eO,eR,eM]at B;generalize((b.setCell ⟨w.heap.size,4,none⟩ (.string ⟨A.toArray⟩)).setCell ⟨w.heap.size,5,none⟩ (.string ⟨P.toArray⟩)).drew=M at B⊢;have aa:=aA B.row;have N:Hid (M.heap[w.heap.size+1]?=some (.cells #[.int .i64 0,.int .i64 0,.string ⟨#[]⟩,.string ⟨#[]⟩,.string ⟨#[]⟩,.string ⟨#[]⟩,.string ⟨#[]⟩,.string ⟨#[]⟩,.string ⟨#[]⟩] 29 (0,0))):=(B.other _ (by omega)).trans z.out;have ab:Hid (Below w.heap.size w M):=K.out.trans (B.below (aC _));have al:M.cell? ⟨c.heap.size,2,none⟩=some (.int .i64 G):=aS _ _ _ _ _ _ ((B.other _ (by omega)).trans H8.out);have O:(s.extract L s.size).size=s.size-L:=by simp
 have iG:(G:Int)<=((s.extract L s.size).size:Int):=by omega
 have am:=aA O;clear B E H8 z K b2 V W S U O;go_wp2_with(first
  |(refine bK rfl _ _ _ rfl rfl w.heap.size 8 _ rfl rfl _ _ #[.int .i64 f,.int .i64 u,.string ⟨T.toArray⟩,.string ⟨H.toArray⟩,.string ⟨A.toArray⟩,.string ⟨P.toArray⟩,.string ⟨i.toArray⟩,.string ⟨d.toArray⟩,.string ((s.extract L s.size).extract G (s.size-L))] aa.out fZ (by simp) rfl rfl ?_;intro w7 p7;have P7:=aA p7;clear p7)
  |(refine cG rfl _ _ rfl w.heap.size rfl _ _ _ _ P7.out.row underlying29 rfl cJ ?_)
  |(refine bI rfl _ _ _ rfl rfl (w.heap.size+1) _ rfl rfl _ _ ((P7.out.other _ (by omega)).trans N.out) cJ rfl rfl ?_;intro w8 p8;have P8:=aA p8;clear p8))
 refine bB (results_cell_row results56 _ _ _ _ _ _ _ rfl P8.out.row underlying29 rfl cJ) rfl ⟨?_,?_⟩
 ·exact FM (jS (by rw[fK,cP,fV (by rw[bC,bC,Hm.len];omega)]))
 ·exact(ab.out.trans (P7.out.below (aC _))).trans (P8.out.below (by omega))
set_option maxRecDepth 20000 in
set_option maxHeartbeats 1000000 in
theorem VH(f q:Int)(t h a p i d x:List UInt8)(s:ByteArray)(y:Int)(w:World)(hT:aJ w)(_hs:s.size<=4000000000)(T H:List UInt8)(HS:Hid (∀w,aJ w->Calls prog 91 #[.string s,.int .i64 y] w fun e u=>e= .returned (.agg #[.string ⟨T.toArray⟩,.string ⟨H.toArray⟩,.int .i64 0])/\Below w.heap.size w u))(v:¬s.data.toList=[])(A P:List UInt8)(G:Nat)(hG:G<=s.size)(HG:Hid (∀w,Calls prog 92 #[.string s] w fun e u=>e= .returned (.agg #[.string ⟨A.toArray⟩,.string ⟨P.toArray⟩,.int .i64 G])/\Below w.heap.size w u)):
  Calls prog 56 #[.agg #[.int .i64 f,.int .i64 q,.string ⟨t.toArray⟩,.string ⟨h.toArray⟩,.string ⟨a.toArray⟩,.string ⟨p.toArray⟩,.string ⟨i.toArray⟩,.string ⟨d.toArray⟩,.string ⟨x.toArray⟩],.string s,.int .i64 y] w fun e u=>
   e= .returned (.agg #[.int .i64 f,.int .i64 q,.string ⟨t.toArray⟩,.string ⟨h.toArray⟩,.string ⟨A.toArray⟩,.string ⟨P.toArray⟩,.string ⟨i.toArray⟩,.string ⟨d.toArray⟩,.string ⟨(s.data.toList.drop G).toArray⟩])/\Below w.heap.size w u:=by
 have aa:s.toList.isEmpty=false:=by rw[Lib.toList_data];simpa using v
 clear v;go_enter func56,ntmps56;go_wp2_with fail;refine(HS.out _ ((hT.alloc _).alloc _)).mono ?_;rintro e m⟨rfl,g⟩;obtain⟨r0,r1⟩:=kU g;have n:Hid (Below w.heap.size w m):=((((aF _ _).alloc (aC _) _).alloc (by simp) _).trans (g.mono (by simp;omega)));have ab:w.heap.size+2<=m.heap.size:=by have:=g.size;simpa using this
 have z:=aA r0;have B:=aA r1;clear g r0 r1;go_wp2_with(first
  |(refine bI rfl _ _ _ rfl rfl m.heap.size #[.string ⟨T.toArray⟩,.string ⟨H.toArray⟩,.int .i64 0] rfl rfl _ _ (heap_alloc_new _ _) nP rfl rfl ?_;intro w2 M;have r:=aA M;obtain⟨⟨N,O,c2⟩,_⟩:=tW M.row;clear M)
  |(go_at_call 92;refine(HG.out _).mono ?_;rintro e c⟨rfl,g⟩;have C:Hid (c.heap[w.heap.size]?=some (.cells #[.int .i64 f,.int .i64 q,.string ⟨t.toArray⟩,.string ⟨h.toArray⟩,.string ⟨a.toArray⟩,.string ⟨p.toArray⟩,.string ⟨i.toArray⟩,.string ⟨d.toArray⟩,.string ⟨x.toArray⟩] 29 (0,0))):=(g.block _ (by rw[r.out.size];simp;omega)).trans ((r.out.other _ (by omega)).trans ((heap_alloc_old _ _ (by omega)).trans z.out));have D:Hid (c.heap[w.heap.size+1]?=some (.cells #[.int .i64 0,.int .i64 0,.string ⟨#[]⟩,.string ⟨#[]⟩,.string ⟨#[]⟩,.string ⟨#[]⟩,.string ⟨#[]⟩,.string ⟨#[]⟩,.string ⟨#[]⟩] 29 (0,0))):=(g.block _ (by rw[r.out.size];simp;omega)).trans ((r.out.other _ (by omega)).trans ((heap_alloc_old _ _ (by omega)).trans B.out));have Q:Hid (Below w.heap.size w c):=Below.next ((n.out.alloc n.out.size _).trans (r.out.below n.out.size)) (aC _) g;have ac:w.heap.size+2<=c.heap.size:=(by have:=g.size;rw[r.out.size]at this;simp at this;omega);clear g N O c2))
 obtain⟨b,j⟩:∃b,c.alloc (.cells #[.string ⟨A.toArray⟩,.string ⟨P.toArray⟩,.int .i64 G] 160)=b:=⟨_,rfl⟩;have L:Below c.heap.size c b:=j▸(aF _ _).alloc (aC _) _;have R:b.heap[c.heap.size]?=some (.cells #[.string ⟨A.toArray⟩,.string ⟨P.toArray⟩,.int .i64 G] 160 (0,0)):=j▸heap_alloc_new _ _;rw[j];clear j;have E:b.heap[w.heap.size]?=some (.cells #[.int .i64 f,.int .i64 q,.string ⟨t.toArray⟩,.string ⟨h.toArray⟩,.string ⟨a.toArray⟩,.string ⟨p.toArray⟩,.string ⟨i.toArray⟩,.string ⟨d.toArray⟩,.string ⟨x.toArray⟩] 29 (0,0)):=(L.block _ (by omega)).trans C.out;have l:Hid (b.heap[w.heap.size+1]?=some (.cells #[.int .i64 0,.int .i64 0,.string ⟨#[]⟩,.string ⟨#[]⟩,.string ⟨#[]⟩,.string ⟨#[]⟩,.string ⟨#[]⟩,.string ⟨#[]⟩,.string ⟨#[]⟩] 29 (0,0))):=(L.block _ (by omega)).trans D.out;have F:Hid (Below w.heap.size w b):=Below.next Q.out (aC _) L;obtain⟨⟨N,O,_⟩,_⟩:=tW R;have b2:b.cell? ⟨w.heap.size,4,none⟩=some (.string ⟨a.toArray⟩):=aS _ _ _ _ _ _ E;have b3:b.cell? ⟨w.heap.size,5,none⟩=some (.string ⟨p.toArray⟩):=aS _ _ _ _ _ _ E;have fz:∀k,b.frozen? ⟨w.heap.size,k,none⟩=false:=fun k=>frozen_of_row _ _ _ _ _ E;have W:¬c.heap.size=w.heap.size:=by omega
 have X:¬w.heap.size=c.heap.size:=by omega
 have Y:=aA E;have Z:=aA R;clear E R L C D;go_region
 have o:=vU Y.out 4 5 (.string ⟨A.toArray⟩) (.string ⟨P.toArray⟩);simp only[eO,eR,eM]at o;generalize((b.setCell ⟨w.heap.size,4,none⟩ (.string ⟨A.toArray⟩)).setCell ⟨w.heap.size,5,none⟩ (.string ⟨P.toArray⟩)).drew=I at o⊢;have S:=aA o.row;have J:Hid (I.heap[w.heap.size+1]?=some (.cells #[.int .i64 0,.int .i64 0,.string ⟨#[]⟩,.string ⟨#[]⟩,.string ⟨#[]⟩,.string ⟨#[]⟩,.string ⟨#[]⟩,.string ⟨#[]⟩,.string ⟨#[]⟩] 29 (0,0))):=(o.other _ (by omega)).trans l.out;have U:Hid (Below w.heap.size w I):=F.out.trans (o.below (aC _));have ad:I.cell? ⟨c.heap.size,2,none⟩=some (.int .i64 G):=aS _ _ _ _ _ _ ((o.other _ (by omega)).trans Z.out);have K:s.size=s.size-0:=by simp
 have iG:(G:Int)<=(s.size:Int):=by omega
 have ae:=aA K;clear o Y Z l F b2 b3 fz N O K;go_wp2_with(first
  |(refine bK rfl _ _ _ rfl rfl w.heap.size 8 _ rfl rfl _ _ #[.int .i64 f,.int .i64 q,.string ⟨t.toArray⟩,.string ⟨h.toArray⟩,.string ⟨A.toArray⟩,.string ⟨P.toArray⟩,.string ⟨i.toArray⟩,.string ⟨d.toArray⟩,.string (s.extract G s.size)] S.out fZ (by simp) rfl rfl ?_;intro w7 p7;have V:=aA p7;clear p7)
  |(refine cG rfl _ _ rfl w.heap.size rfl _ _ _ _ V.out.row underlying29 rfl cJ ?_)
  |(refine bI rfl _ _ _ rfl rfl (w.heap.size+1) _ rfl rfl _ _ ((V.out.other _ (by omega)).trans J.out) cJ rfl rfl ?_;intro w8 p8;have P8:=aA p8;clear p8))
 refine bB (results_cell_row results56 _ _ _ _ _ _ _ rfl P8.out.row underlying29 rfl cJ) rfl ⟨?_,?_⟩
 ·exact FM (jS (by rw[cP]))
 ·exact(U.out.trans (V.out.below (aC _))).trans (P8.out.below (by omega))
set_option maxRecDepth 20000 in
set_option maxHeartbeats 1000000 in
theorem VI(f n:Int)(t h a p i d x:List UInt8)(s:ByteArray)(y:Int)(w:World)(E:aJ w)(T H:List UInt8)(F:Hid (∀w,aJ w->Calls prog 91 #[.string s,.int .i64 y] w fun e r=>e= .returned (.agg #[.string ⟨T.toArray⟩,.string ⟨H.toArray⟩,.int .i64 0])/\Below w.heap.size w r))(c:s.data.toList=[]):
  Calls prog 56 #[.agg #[.int .i64 f,.int .i64 n,.string ⟨t.toArray⟩,.string ⟨h.toArray⟩,.string ⟨a.toArray⟩,.string ⟨p.toArray⟩,.string ⟨i.toArray⟩,.string ⟨d.toArray⟩,.string ⟨x.toArray⟩],.string s,.int .i64 y] w fun e r=>
   e= .returned (.agg #[.int .i64 f,.int .i64 n,.string ⟨t.toArray⟩,.string ⟨h.toArray⟩,.string ⟨a.toArray⟩,.string ⟨p.toArray⟩,.string ⟨i.toArray⟩,.string ⟨d.toArray⟩,.string s])/\Below w.heap.size w r:=by
 have G:s.toList.isEmpty=true:=by rw[Lib.toList_data,c];rfl
 clear c;go_enter func56,ntmps56;go_wp2_with fail;refine(F.out _ ((E.alloc _).alloc _)).mono ?_;rintro e g⟨rfl,o⟩;obtain⟨r0,r1⟩:=kU o;have b:Hid (Below w.heap.size w g):=((((aF _ _).alloc (aC _) _).alloc (by simp) _).trans (o.mono (by simp;omega)));have I:w.heap.size+2<=g.heap.size:=by have:=o.size;simpa using this
 have j:=aA r0;have k:=aA r1;clear o r0 r1;go_wp2_with(first
  |(refine bI rfl _ _ _ rfl rfl g.heap.size #[.string ⟨T.toArray⟩,.string ⟨H.toArray⟩,.int .i64 0] rfl rfl _ _ (heap_alloc_new _ _) nP rfl rfl ?_;intro q l;have u:Hid (q.heap[w.heap.size]?=some (.cells #[.int .i64 f,.int .i64 n,.string ⟨t.toArray⟩,.string ⟨h.toArray⟩,.string ⟨a.toArray⟩,.string ⟨p.toArray⟩,.string ⟨i.toArray⟩,.string ⟨d.toArray⟩,.string ⟨x.toArray⟩] 29 (0,0))):=(l.other _ (by omega)).trans ((heap_alloc_old _ _ (by omega)).trans j.out);have m:Hid (q.heap[w.heap.size+1]?=some (.cells #[.int .i64 0,.int .i64 0,.string ⟨#[]⟩,.string ⟨#[]⟩,.string ⟨#[]⟩,.string ⟨#[]⟩,.string ⟨#[]⟩,.string ⟨#[]⟩,.string ⟨#[]⟩] 29 (0,0))):=(l.other _ (by omega)).trans ((heap_alloc_old _ _ (by omega)).trans k.out);have v:Hid (Below w.heap.size w q):=(b.out.alloc b.out.size _).trans (l.below b.out.size);obtain⟨⟨K,L,M⟩,_⟩:=tW l.row;clear l)
  |(refine bK rfl _ _ _ rfl rfl w.heap.size 8 _ rfl rfl _ _ #[.int .i64 f,.int .i64 n,.string ⟨t.toArray⟩,.string ⟨h.toArray⟩,.string ⟨a.toArray⟩,.string ⟨p.toArray⟩,.string ⟨i.toArray⟩,.string ⟨d.toArray⟩,.string s] u.out fZ (by simp) rfl rfl ?_;intro A B;have z:=aA B;clear B)
  |(refine cG rfl _ _ rfl w.heap.size rfl _ _ _ _ z.out.row underlying29 rfl cJ ?_)
  |(refine bI rfl _ _ _ rfl rfl (w.heap.size+1) _ rfl rfl _ _ ((z.out.other _ (by omega)).trans m.out) cJ rfl rfl ?_;intro J C;have D:=aA C;clear C))
 refine bB (results_cell_row results56 _ _ _ _ _ _ _ rfl D.out.row underlying29 rfl cJ) rfl ⟨rfl,?_⟩;exact(v.out.trans (z.out.below (aC _))).trans (D.out.below (by omega))
theorem FN(f d:Int)(s:ByteArray)(y:Int)(w:World)(g:aJ w)(i:s.size<=4000000000)(m:1<=y)(k:y<=9999):
  Calls prog 56 #[.agg (aL (aO.of f d)),.string s,.int .i64 y] w fun e n=>
   e= .returned (.agg (aL (jB (aO.of f d) s.data.toList y.toNat)))/\Below w.heap.size w n:=by
 have b:=fun w g=>VF s y w g i m k;have c:=ED s.data.toList y.toNat;rw[Hm.len]at c;unfold jB;obtain⟨T,H,L,o⟩:∃T H L,cM s.data.toList y.toNat=(T,H,L):=⟨_,_,_,rfl⟩;simp only[o]at b c⊢;by_cases l:0<L
 ·rw[aD l];have h:=fun w=>FK (s.extract L s.size) w (by simp;omega);have a:=yT (s.data.toList.drop L);rw[bC,Hm.len]at a;simp only[cP]at h;exact VG f d [] [] [] [] [] [] [] s y w g i T H L c b l _ _ _ a h
 ·rw[aB l];obtain rfl:L=0:=by omega
  by_cases j:s.data.toList=[]
  ·have:=VI f d [] [] [] [] [] [] [] s y w g T H b j;rw[j];rw[show s=⟨#[]⟩from jS j]at this⊢;exact this
  ·have a:=yT s.data.toList;rw[Hm.len]at a;exact VH f d [] [] [] [] [] [] [] s y w g i T H b j _ _ _ a (fun w=>FK s w i)
end Go.Proofs.Z

/- Pressed by program out of Ga Gb Gc Gd. -/
import Derived.Test.YtdlhbmncbmconaaGreatDoorA42
import Derived.Test.YtdlhbmncbmconaaGreatDoorA44
namespace Go.Proofs.Z
open Hm Tryz Go.RowKit Go.Sort
theorem fF.msgs{a:World}(b:aJ a){f:Option Addr}{ops:List cK}(g:oG 1048576 a f ops){k:Nat}{w:World}{o:cK}(d:ops[k]?=some o)(i:o.kind=1∨o.kind=2)(h:fF a ops k w):
  Calls prog 41 #[.pointer (some ⟨a.heap.size,0,none⟩),.agg (bA o)] w fun r j=>r= .returned (.bool true)/\fF a ops (k+1) j:=by
 have c:k<ops.length:=(iY.1 d).1;refine(aCb a.heap.size o i ((g.small o (fG d)).mono (by omega)) w (b.next h.bel)).mono ?_;rintro e m⟨rfl,l⟩;exact⟨rfl,(h.more c).next l⟩
theorem fF.sorts{j:World}(C:aJ j)(h11:11<=j.heap.size){Q:Option Addr}{ops:List cK}(D:oG 1048576 j Q ops){k:Nat}{w:World}{o:cK}(E:ops[k]?=some o)(h3:3<=o.kind)(h6:o.kind<=6)(h:fF j ops k w):
  Calls prog 41 #[.pointer (some ⟨j.heap.size,0,none⟩),.agg (bA o)] w fun r R=>r= .returned (.bool true)/\fF j ops (k+1) R:=by
 have S:k<ops.length:=(iY.1 E).1;have F:=D.most;have l:=D.small o (fG E);have M:=wS E;have N:=cH (AU ops (k+1)) D.sum;obtain⟨W,q⟩:∃W,w.alloc (.cells (bA o) 82)=W:=⟨_,rfl⟩;have t:Below w.heap.size w W:=by rw[<-q];exact(aF _ _).alloc (aC _) _
 have T:=(h.next t).more S;have U:=h.next t;obtain⟨V,X,lgs,L,n,B,⟨f1,f2⟩,⟨Y,r2⟩,hg,hA,hF,hn,hl,d⟩:=U;have p:∀y∈lgs,iM (3000000+300*(k+1+pJ ops (k+1))) y:=fun y c=>(hF y c).mono (by omega);have u:aJ W:=C.next d;have G:11<=W.heap.size:=by have:=d.size;omega
 have b:∀{O:Nat}{args:Array Value},(Calls prog O args W fun e f=>e= .returned (.bool true)/\Below W.heap.size W f)->Calls prog O args W fun e f=>e= .returned (.bool true)/\fF j ops (k+1) f:=fun H=>H.mono (by rintro e f⟨rfl,d⟩;exact⟨rfl,T.next d⟩);rcases(by omega:o.kind=3∨o.kind=4∨o.kind=5∨o.kind=6)with a|a|a|a
 ·refine H9 _ o a w _ ?_;rw[q];by_cases v:o.n<1∨200<o.n
  ·exact b (G7 _ o a v W)
  ·refine(KC B G (by omega) o a o.n.toNat (by omega) (by omega) (by omega)).mono ?_;rintro e f⟨rfl,g,x,I,J,i⟩;refine⟨rfl,_,_,lgs,_,_,i,by simp;omega,by omega,by omega,fun y c=>?_,p,by omega,by omega,d.trans g⟩;rcases jM.1 c with c|c
   ·exact⟨(hA y c).1,by have:=(hA y c).2;omega⟩
   ·simp at c;subst c;rw[I,J];exact⟨rfl,dM _⟩
 ·refine I5 _ o a w _ ?_;rw[q];refine(H2 B o a l.iw f1 (by omega) (fun x K=>(hA x K).1) (fun x K=>by have:=(hA x K).2;omega) (by omega) (by omega)).mono ?_;rintro e f⟨rfl,g,P,Z,hA2,i⟩;refine⟨rfl,_,_,lgs,_,_,i,by omega,by omega,by omega,fun y c=>?_,p,by omega,by omega,d.trans g⟩;obtain⟨H,z,G,aa⟩:=hA2 y c;have:=(hA z G).2;exact⟨H,by omega⟩
 ·refine I0 _ o a w _ ?_;rw[q];have hs:=l.s;by_cases h4:400<o.s.length
  ·refine b (KE _ o a 1 0 W u (fun w _=>(XT ⟨o.s.toArray⟩ w (by simpa[ByteArray.size]using h4) (by simp[ByteArray.size];omega)).mono ?_) (fun w=>(B9 o.s h4 (by omega) w).mono ?_))
   ·rintro e f⟨rfl,rfl⟩;exact⟨rfl,aF _ _⟩
   ·rintro e f⟨rfl,rfl⟩;exact⟨rfl,aF _ _⟩
  ·cases v:nC o.s with
   |error m=>
    refine b (KE _ o a 11 m W u (fun w u=>(IB ⟨o.s.toArray⟩ w u (by simp[ByteArray.size];omega)).mono ?_) (fun w=>(JS o.s (by omega) w).mono ?_))
    ·rintro e f⟨d,A⟩;rw[show(⟨o.s.toArray⟩:ByteArray).data.toList=o.s from rfl,v]at A;exact⟨A,d⟩
    ·rintro e f⟨d,A⟩;rw[v]at A;exact⟨A,d⟩
   |ok rs=>
    refine(KG B u (by omega) o a (by omega) rs v).mono ?_;rintro e f⟨rfl,g,x,i⟩;exact⟨rfl,_,_,lgs,_,_,i,by omega,by simp;omega,by omega,fun y c=>⟨(hA y c).1,by have:=(hA y c).2;omega⟩,p,by omega,by omega,d.trans g⟩
 ·refine I6 _ o a w _ ?_;rw[q];exact b (K7 B o a l.iv Y (by omega))
end Go.Proofs.Z
namespace Go.Hm
def uW:List UInt8:=[98,97,100]
def mM:List UInt8:=[101,114,114,111,114,32]
def uX:List UInt8:=[107,101,112,116,32]
def xZ:List UInt8:=[100,114,111,112,112,101,100]
def rP(g:aG)(m:aO):aG×List UInt8:=if(g.put m).2.2=0 then((g.put m).1,uX++Lib.decDigits (g.put m).2.1)else(g,mM++Lib.decDigits (g.put m).2.2)
def eW(rs:List cF)(y:Int)(g:aG)(t:List UInt8):aG×List UInt8:=
 if t=[33]then(g,uW)else
 if¬(bH (t.drop 1) y).2.1=0 then(g,mM++Lib.decDigits (bH (t.drop 1) y).2.1)else
 if fD rs (bH (t.drop 1) y).1.fac.toNat (bH (t.drop 1) y).1.sev.toNat=false then(g,xZ)else rP g (bH (t.drop 1) y).1
theorem CI(l:List UInt8):∀(a:List (Nat×Nat))(nx:Nat)(e:Nat×Nat),(∀k∈a,k.2<=100)->(dH l a nx).1=some e->e.1<=100
 |[],nx,e,_,h=>by cases h
 |k::a,nx,e,hk,h=>by
  unfold dH at h;split at h
  ·exact CI l a _ e (fun b c=>hk b (by simp[c])) h
  ·split at h
   ·cases h;exact hk k (by simp)
   ·exact CI l a _ e (fun b c=>hk b (by simp[c])) h
theorem aCc(m:aO)(l:List UInt8)(a:Nat):(eH m l a).2.1<=100:=by
 unfold eH;split
 ·simp
 ·split
  ·simp
  ·split <;> simp
theorem CJ(l:List UInt8)(y:Int):(bH l y).2.1<=100:=by
 unfold bH;split
 ·simp
 ·split
  ·simp
  ·split
   ·unfold eV;split
    ·simp
    ·unfold lC;split
     ·next e he=>exact CI l aX _ e (by decide) he
     ·exact aCc _ _ _
   ·split <;> simp
theorem CM(g:aG)(m:aO):(g.put m).2.1<=g.messages+1/\(g.put m).2.2<=100:=by
 unfold aG.put;split
 ·refine⟨dM _,?_⟩;unfold cA;split
  ·have:=FY m;show eP m<=100;omega
  ·split <;> simp
 ·split
  ·simp
  ·simp
theorem QO(g:aG)(m:aO):¬(g.put m).2.2=0->(g.put m).1=g:=by
 unfold aG.put;split
 ·exact fun _=>rfl
 ·split
  ·exact fun _=>rfl
  ·exact fun h=>absurd rfl h
end Go.Hm
namespace Go.Proofs.Z
open Hm Hw Tryz Go.RowKit Go.Sort
attribute [local go_sem] cN cO dY fR fS
theorem aCd(pr pl:Nat)(y:Int)(w:World):Calls prog 166 #[.pointer (some ⟨pr,0,none⟩),.pointer (some ⟨pl,0,none⟩),.string ⟨[33].toArray⟩,.int .i64 y] w fun e a=>e= .returned (.string ⟨uW.toArray⟩)/\a=w:=by
 go_enter func166,ntmps166;go_wp2;go_ret;exact⟨rfl,rfl⟩
theorem QP(t:List UInt8):(t.drop 1).take (t.length-1)=t.drop 1:=fV (by simp)
set_option maxRecDepth 20000 in
set_option maxHeartbeats 1000000 in
theorem aCe(pr pl:Nat)(t:List UInt8)(v:1<=t.length)(x:t.length<=100000000)(k:¬t=[33])(y:Int)(w:World)(i:¬(bH (t.drop 1) y).2.1=0):Calls prog 166 #[.pointer (some ⟨pr,0,none⟩),.pointer (some ⟨pl,0,none⟩),.string ⟨t.toArray⟩,.int .i64 y] w fun e d=>e= .returned (.string ⟨(mM++Lib.decDigits (bH (t.drop 1) y).2.1).toArray⟩)/\Below w.heap.size w d:=by
 have p:(t==[33])=false:=bG.2 k;have q:t.tail.take (t.length-1)=t.drop 1:=by rw[<-List.drop_one];exact QP t
 have hi:(1:Int)<=(t.length:Int):=by omega
 have a:=CJ (t.drop 1) y;have h:Hid (∀w,Calls prog 110 #[.string ⟨(t.drop 1).toArray⟩,.int .i64 y] w fun e d=>e= .returned (.tuple #[.agg (aL (bH (t.drop 1) y).1),.int .i64 (bH (t.drop 1) y).2.1,.int .i64 (bH (t.drop 1) y).2.2])/\Below w.heap.size w d):=fun w=>uT (t.drop 1) (by simp;omega) y w;generalize bH (t.drop 1) y=R at h i a⊢;obtain⟨M,E,A⟩:=R;dsimp only at h i a⊢;have l:Hid (∀w,Calls prog 160 #[.int .i64 E] w fun e d=>e= .returned (.string ⟨(Lib.decDigits E).toArray⟩)/\d=w):=fun w=>xL E (by omega) w;have f:=rO (n:=E) (by omega);generalize Lib.decDigits E=r at l f⊢;have m:¬9223372036854775807<6+r.length:=by omega
 have z:((E:Int)==0)=false:=bG.2 (by omega);have B:¬(E:Int)=0:=by omega
 clear i a k f;generalize t.drop 1=C at h q;go_enter func166,ntmps166;go_wp2_with fail;refine(h.out _).mono ?_;rintro e j⟨rfl,g⟩;have b:Hid (Below w.heap.size w j):=g;clear g;go_wp2_with(first
  |(refine bI rfl _ _ _ rfl rfl j.heap.size (aL M) rfl rfl _ _ (heap_alloc_new _ _) bP rfl rfl ?_;intro s o;have u:Hid (aI (j.alloc _) _ _ _ s):=o;clear o)
  |fail)
 refine(l.out _).mono ?_;rintro e D⟨rfl,c⟩;have c:=c.symm;subst c;go_wp2;go_ret;exact⟨by rw[<-dY];rfl,(b.out.alloc b.out.size _).trans (u.out.below b.out.size)⟩
set_option maxRecDepth 20000 in
set_option maxHeartbeats 2000000 in
theorem aCf(pr pl:Nat)(rs:List cF)(xs:List jV)(u:Value)(g:aG)(ls:List (List UInt8))(lv:Value)(t:List UInt8)(ht:1<=t.length)(hl:t.length<=100000000)(X:¬t=[33])(y:Int)(w:World)(U:(bH (t.drop 1) y).2.1=0)(V:fM w pr rs xs u)(hn:rs.length<=1000)(D:bL w pl g ls lv)(m:g.records.length<=1000000000000)(o:ls.length<=65535):
  Calls prog 166 #[.pointer (some ⟨pr,0,none⟩),.pointer (some ⟨pl,0,none⟩),.string ⟨t.toArray⟩,.int .i64 y] w fun e b=>e= .returned (.string ⟨(eW rs y g t).2.toArray⟩)/\∃p i,bL b pl (eW rs y g t).1 p i/\cV pl lv w i b:=by
 have af:(t==[33])=false:=bG.2 X;have hc:t.tail.take (t.length-1)=t.drop 1:=by rw[<-List.drop_one];exact QP t
 have hi:(1:Int)<=(t.length:Int):=by omega
 have c:=ML U;have q:=tY (t.drop 1) y;have C:Hid (∀w,Calls prog 110 #[.string ⟨(t.drop 1).toArray⟩,.int .i64 y] w fun e b=>e= .returned (.tuple #[.agg (aL (bH (t.drop 1) y).1),.int .i64 0,.int .i64 (bH (t.drop 1) y).2.2])/\Below w.heap.size w b):=fun w=>by
  have:=uT (t.drop 1) (by simp;omega) y w;rw[U]at this;exact this
 have E:eW rs y g t=if fD rs (bH (t.drop 1) y).1.fac.toNat (bH (t.drop 1) y).1.sev.toNat=false then(g,xZ)else rP g (bH (t.drop 1) y).1:=by
  unfold eW;rw[aB X,aB (fun h=>h U)]
 rw[E];clear E U;generalize(bH (t.drop 1) y).2.2=A at C;generalize(bH (t.drop 1) y).1=M at C c q⊢;generalize t.drop 1=T1 at C hc;have Y:Hid (∀w,fM w pr rs xs u->Calls prog 118 #[.pointer (some ⟨pr,0,none⟩),.int .i64 M.fac,.int .i64 M.sev] w fun e b=>e= .returned (.tuple #[.bool (fD rs M.fac.toNat M.sev.toNat),.int .i64 0])/\Below w.heap.size w b):=fun w V=>by
  have h1:=c.f0;have h2:=c.f1;have h3:=c.s0;have h4:=c.s1;have:=JO pr rs xs u M.fac.toNat M.sev.toNat (by omega) (by omega) hn w V;rw[Int.toNat_of_nonneg h1,Int.toNat_of_nonneg h3]at this;exact this
 have F:Hid (∀w,bL w pl g ls lv->Calls prog 119 #[.pointer (some ⟨pl,0,none⟩),.agg (aL M)] w fun e b=>e= .returned (.tuple #[.int .i64 (g.put M).2.1,.int .i64 (g.put M).2.2])/\∃p i,bL b pl (g.put M).1 p i/\cV pl lv w i b):=fun w D=>by
  obtain⟨a1,a2,a3,a4,a5,a6,a7⟩:=q;exact PX pl M g ls lv w D (by omega) (by omega) (by omega) (by omega) (by omega) (by omega) (by omega) m (by omega)
 have r:=CM g M;have Z:g.messages<=65535:=by rw[<-D.len];exact o
 have s:=QO g M;have HR:Hid (fM w pr rs xs u):=V;have HG:Hid (bL w pl g ls lv):=D;unfold rP;generalize g.put M=GP at F r s⊢;obtain⟨G,H,j⟩:=GP;dsimp only at F r s⊢;have DN:Hid (∀w,Calls prog 160 #[.int .i64 H] w fun e b=>e= .returned (.string ⟨(Lib.decDigits H).toArray⟩)/\b=w):=fun w=>xL H (by omega) w;have DF:Hid (∀w,Calls prog 160 #[.int .i64 j] w fun e b=>e= .returned (.string ⟨(Lib.decDigits j).toArray⟩)/\b=w):=fun w=>xL j (by omega) w;have I:=rO (n:=H) (by omega);have J:=rO (n:=j) (by omega);generalize Lib.decDigits H=K at DN I⊢;generalize Lib.decDigits j=L at DF J⊢;have aa:¬9223372036854775807<5+K.length:=by omega
 have ab:¬9223372036854775807<6+L.length:=by omega
 obtain⟨f,sv,t0,h1,h2,h3,h4,d,tx⟩:=M;dsimp only at Y⊢;unfold aL at C F;dsimp only at C F;clear c q V D X I J hn m o Z r;generalize fD rs f.toNat sv.toNat=kp at Y⊢;go_enter func166,ntmps166;go_wp2_with fail;refine(C.out _).mono ?_;rintro e v⟨rfl,N⟩;have x:Hid (Below w.heap.size w v):=N;clear N;go_wp2_with(first
  |(refine bI rfl _ _ _ rfl rfl v.heap.size #[.int .i64 f,.int .i64 sv,.string ⟨t0.toArray⟩,.string ⟨h1.toArray⟩,.string ⟨h2.toArray⟩,.string ⟨h3.toArray⟩,.string ⟨h4.toArray⟩,.string ⟨d.toArray⟩,.string ⟨tx.toArray⟩] rfl rfl _ _ (heap_alloc_new _ _) bP rfl rfl ?_;intro W p2;have O:Hid (aI (v.alloc _) _ _ _ W):=p2;clear p2;have m0:W.cell? ⟨v.heap.size,0,none⟩=some (.int .i64 f):=aS _ _ _ _ _ _ O.out.row;have m1:W.cell? ⟨v.heap.size,1,none⟩=some (.int .i64 sv):=aS _ _ _ _ _ _ O.out.row)
  |fail)
 have P:Hid (Below w.heap.size w W):=(x.out.alloc x.out.size _).trans (O.out.below x.out.size);refine(Y.out _ (HR.out.next P.out)).mono ?_;rintro e w3⟨rfl,z⟩;have k:Hid (Below w.heap.size w w3):=Below.next P.out (aC _) z;have ac:Hid (w3.heap[v.heap.size]?=_):=(z.block _ (aM.1 O.out.row).1).trans O.out.row;clear z m0 m1;cases kp with
 |false=>
  go_wp2;go_ret;exact⟨rfl,ls,lv,HG.out.next k.out,cV.refl.next k.out⟩
 |true=>
  go_wp2_with(first
   |(refine cG rfl _ _ rfl v.heap.size rfl _ _ _ _ ac.out underlying80 rfl bP ?_)
   |fail)
  refine(F.out _ (HG.out.next k.out)).mono ?_;rintro e w4⟨rfl,B,l,Q,R⟩;have S:Hid (bL w4 pl G B l):=Q;have T:Hid (cV pl lv w l w4):=(cV.refl.next k.out).trans R;clear Q R;by_cases hF:j=0
  ·have ag:Hid (j=0):=hF;subst hF;go_wp2_with fail;refine(DN.out _).mono ?_;rintro e w5⟨rfl,a⟩;have a:=a.symm;subst a;go_wp2;go_ret;refine⟨?_,B,l,?_,T.out⟩
   ·show _=Ending.returned (.string ⟨(uX++K).toArray⟩);rw[<-dY];rfl
   ·exact S.out
  ·have ad:Hid (¬j=0):=hF;have f1:((j:Int)==0)=false:=bG.2 (by omega);have f2:¬(j:Int)=0:=by omega
   clear hF;have ae:Hid (G=g):=s ad.out;go_wp2_with fail;refine(DF.out _).mono ?_;rintro e w5⟨rfl,a⟩;have a:=a.symm;subst a;go_wp2;go_ret;refine⟨?_,B,l,?_,T.out⟩
   ·show _=Ending.returned (.string ⟨(mM++L).toArray⟩);rfl
   ·have:=S.out;rw[ae.out]at this;exact this
theorem aCg(pr pl:Nat)(rs:List cF)(xs:List jV)(u:Value)(g:aG)(ls:List (List UInt8))(lv:Value)(t:List UInt8)(m:1<=t.length)(n:t.length<=100000000)(y:Int)(w:World)(o:fM w pr rs xs u)(p:rs.length<=1000)(i:bL w pl g ls lv)(a:g.records.length<=1000000000000)(b:ls.length<=65535):
  Calls prog 166 #[.pointer (some ⟨pr,0,none⟩),.pointer (some ⟨pl,0,none⟩),.string ⟨t.toArray⟩,.int .i64 y] w fun e f=>e= .returned (.string ⟨(eW rs y g t).2.toArray⟩)/\∃j c,bL f pl (eW rs y g t).1 j c/\cV pl lv w c f:=by
 by_cases h:t=[33]
 ·subst h;refine(aCd pr pl y w).mono ?_;rintro e f⟨rfl,rfl⟩;exact⟨rfl,ls,lv,i,cV.refl⟩
 ·by_cases k:(bH (t.drop 1) y).2.1=0
  ·exact aCf pr pl rs xs u g ls lv t m n h y w k o p i a b
  ·have l:eW rs y g t=(g,mM++Lib.decDigits (bH (t.drop 1) y).2.1):=by
    unfold eW;rw[aB h,aD k]
   rw[l];refine(aCe pr pl t m n h y w k).mono ?_;rintro e f⟨rfl,d⟩;exact⟨rfl,ls,lv,i.next d,cV.refl.next d⟩
end Go.Proofs.Z
namespace Go.Hm
def CO(rs:List cF)(y:Int)(a:aG×List UInt8)(t:List UInt8):aG×List UInt8:=((eW rs y a.1 t).1,a.2++((eW rs y a.1 t).2++[10]))
def dD(rs:List cF)(y:Int)(g:aG)(ts:List (List UInt8)):aG×List UInt8:=ts.foldl (CO rs y) (g,[])
theorem CP(rs:List cF)(y:Int)(g:aG)(a:List (List UInt8))(t:List UInt8):dD rs y g (a++[t])=CO rs y (dD rs y g a) t:=by simp[dD]
theorem CQ(rs:List cF)(y:Int)(g:aG)(t:List UInt8)(h:g.messages<=65535):(eW rs y g t).1.records.length<=g.records.length+300/\(eW rs y g t).1.messages<=65535/\(eW rs y g t).1.room=g.room/\(eW rs y g t).2.length<=30:=by
 have a:∀u:List UInt8,u.length<=30->((g,u):aG×List UInt8).1.records.length<=g.records.length+300/\((g,u):aG×List UInt8).1.messages<=65535/\((g,u):aG×List UInt8).1.room=g.room/\((g,u):aG×List UInt8).2.length<=30:=fun u d=>⟨by dsimp only;omega,h,rfl,d⟩;have b:∀n:Nat,n<=100000->(Lib.decDigits n).length<=20:=fun n e=>rO (by omega);unfold eW;split
 ·exact a _ (by decide)
 ·split
  ·have h1:=b _ (cH (CJ (t.drop 1) y) (by omega));exact a _ (by simp only[mM,dL,bU,dS];omega)
  ·split
   ·exact a _ (by decide)
   ·unfold rP;have c:=CM g (bH (t.drop 1) y).1;split
    ·have h1:=b _ (cH c.1 (by omega));have h2:=QG g (bH (t.drop 1) y).1 h;exact⟨h2.1,h2.2.1,h2.2.2,by simp only[uX,dL,bU,dS];omega⟩
    ·have h1:=b _ (cH c.2 (by omega));exact a _ (by simp only[mM,dL,bU,dS];omega)
theorem CR(rs:List cF)(y:Int)(g:aG)(h:g.messages<=65535)(a:List (List UInt8)):∀k,k<=a.length->(dD rs y g (a.take k)).1.records.length<=g.records.length+300*k/\(dD rs y g (a.take k)).1.messages<=65535/\(dD rs y g (a.take k)).1.room=g.room/\(dD rs y g (a.take k)).2.length<=31*k
 |0,_=>⟨aC _,h,rfl,aC _⟩
 |k+1,hk=>by
  obtain⟨h1,h2,h3,h4⟩:=CR rs y g h a k (by omega);rw[<-List.take_append_getElem (by omega:k<a.length),CP];obtain⟨d,b,c,e⟩:=CQ rs y (dD rs y g (a.take k)).1 a[k] h2;unfold CO;refine⟨?_,b,by rw[c,h3],?_⟩
  ·clear b c e h2 h3 h4 h;exact cH d (by omega)
  ·clear d b c h1 h2 h3 h;simp only[dL,bU,dS];omega
theorem aCh{b:Nat}{C s t:List UInt8}(h1:1<=b)(h2:b<=200)(c:t∈(((aE.fresh b).feed C).1.feed s).2):1<=t.length/\t.length<=100000000:=by
 have a:=aE.feed_ok C (aE.fresh_ok h1 h2);have h:=EN s a t c;have e:=a.b2;unfold vN at h;rcases h with h|⟨x,d,h3⟩
 ·rw[h];simp
 ·rw[d];simp;omega
end Go.Hm
namespace Go.Proofs.Z
open Hm Hw Tryz Go.RowKit Go.Sort
attribute [local go_sem] cN cO dY fR fS
theorem fM.stepR{w j:World}{pr q:Nat}{rs:List cF}{xs:List jV}{u lv b:Value}{g:aG}{ls:List (List UInt8)}(h:fM w pr rs xs u)(l:bL w q g ls lv)(d:cV q lv w b j):fM j pr rs xs u:=by
 have no:∀(k:Nat)(a:Array Value)(t:TypeId),w.heap[k]?=some (.cells a t (0,0))->t≠190->t≠9->¬(k=q∨lv.ownBlock=some k):=fun k a t m h1 h2 e=>by
  rcases e with e|e
  ·exact dU m l.row h1 e
  ·obtain⟨o,f⟩:=dN l.own e;exact dU m f h2 rfl
 refine⟨(d.kept.block _ (aM.1 h.row).1 (no _ _ _ h.row (by decide) (by decide))).trans h.row,cQ h.own d.kept (fun k e=>?_),fun x n=>cQ (h.each x n) d.kept (fun k e=>?_),h.len,h.alike⟩
 ·obtain⟨c,i⟩:=dN h.own e;exact no _ _ _ i (by decide) (by decide)
 ·obtain⟨c,i⟩:=dN (h.each x n) e;exact no _ _ _ i (by decide) (by decide)
structure yA(rs:List cF)(y:Int)(g:aG)(TS:List (List UInt8))(pr pl q:Nat)(xs:List jV)(u:Value)(RC:Array Value)(tv lv:Value)(w:World)(k:Nat)(ls':List (List UInt8))(lv':Value)(wr:World):Prop where
 log:bL wr pl (dD rs y g (TS.take k)).1 ls' lv'
 rules:fM wr pr rs xs u
 row:wr.heap[q]?=some (.cells RC 216 (0,0))
 told:eQ wr w.heap.size 9 tv (TS.map aU)
 kept:aN (fun k=>k=q∨k=pl∨lv.ownBlock=some k) w wr
 lies:∀k,lv'.ownBlock=some k->lv.ownBlock=some k∨w.heap.size<=k
 ne:∀b,tv.ownBlock=some b->lv'.ownBlock≠some b
set_option maxRecDepth 20000 in
set_option maxHeartbeats 4000000 in
theorem aCi(q pr pl:Nat)(b:Nat)(C s:List UInt8)(rs:List cF)(xs:List jV)(u:Value)(g:aG)(ls:List (List UInt8))(lv:Value)(y:Int)(y1:1<=y)(y2:y<=9999)(I:1<=b)(J:b<=200)(hl:(C++s).length<=10000000)(w:World)(hq:w.heap[q]?=some (.cells (iF b C (eC b C).1.length) 216 (0,0)))(hr:fM w pr rs xs u)(hn:rs.length<=1000)(hg:bL w pl g ls lv)(aq:g.records.length<=100000000000)(S:g.messages<=65535):
  Calls prog 122 #[.pointer (some ⟨q,0,none⟩),.pointer (some ⟨pr,0,none⟩),.pointer (some ⟨pl,0,none⟩),.string ⟨s.toArray⟩,.int .i64 y] w fun e z=>e= .returned (.tuple #[.string ⟨(dD rs y g (((aE.fresh b).feed C).1.feed s).2).2.toArray⟩,.int .i64 0])/\
   z.heap[q]?=some (.cells (iF b (C++s) (eC b (C++s)).1.length) 216 (0,0))/\∃h d,bL z pl (dD rs y g (((aE.fresh b).feed C).1.feed s).2).1 h d/\aN (fun k=>k=q∨k=pl∨lv.ownBlock=some k) w z/\∀k,d.ownBlock=some k->lv.ownBlock=some k∨w.heap.size<=k:=by
 obtain⟨T,ag,ah⟩:=AH b C s;have B:=wG b s ((aE.fresh b).feed C).1;have FE:Hid (∀w:World,w.heap[q]?=some (.cells (iF b C (eC b C).1.length) 216 (0,0))->Calls prog 115 #[.pointer (some ⟨q,0,none⟩),.string ⟨s.toArray⟩] w fun e z=>∃v:Value,e= .returned (.tuple #[v,.int .i64 (eC b (C++s)).2])/\
   eQ z w.heap.size 9 v ((((aE.fresh b).feed C).1.feed s).2.map aU)/\z.heap[q]?=some (.cells (iF b (C++s) (eC b (C++s)).1.length) 216 (0,0))/\aN (fun k=>k=q) w z):=fun w hq=>by
  rw[<-T];exact JA q b C s I J (by omega) w hq
 have n:∀t∈(((aE.fresh b).feed C).1.feed s).2,1<=t.length/\t.length<=100000000:=fun t ht=>aCh I J ht;have ai:(((aE.fresh b).feed C).1.feed s).2.length<=10000000:=by rw[dL]at hl;omega
 generalize(((aE.fresh b).feed C).1.feed s).2=a at FE n ai⊢;generalize(eC b (C++s)).2=NB at FE;generalize iF b (C++s) (eC b (C++s)).1.length=U at FE⊢;have o:=CR rs y g S a;have aj:=show Hid _ from o;have ak:=show Hid _ from n;have K:Hid (w.heap[q]?=some (.cells (iF b C (eC b C).1.length) 216 (0,0))):=hq;have A:Hid (fM w pr rs xs u):=hr;have D:Hid (bL w pl g ls lv):=hg;have i1:¬y<1:=by omega
 have i2:¬9999<y:=by omega
 clear o n T ag ah B hq hr hg hl I J y1 y2;go_enter func122,ntmps122;go_wp2_with fail;refine(FE.out _ K.out).mono ?_;rintro e R⟨tv,rfl,V,W,X⟩;have E:Hid (eQ R w.heap.size 9 tv (a.map aU)):=V;have Y:Hid (R.heap[q]?=some (.cells U 216 (0,0))):=W;have i:Hid (aN (fun k=>k=q) w R):=X;clear V W X;obtain⟨ta,tc,rfl⟩:=AF E.out;have Z:Hid (bL R pl g ls lv):=⟨(i.out.block _ (aM.1 D.out.row).1 (fun e=>dU D.out.row K.out (by decide) e)).trans D.out.row,cQ D.out.own i.out (fun k e l=>by
  obtain⟨c,F⟩:=dN D.out.own e;exact dU F K.out (by decide) l),D.out.wai,D.out.len⟩
 have aa:Hid (fM R pr rs xs u):=⟨(i.out.block _ (aM.1 A.out.row).1 (fun e=>dU A.out.row K.out (by decide) e)).trans A.out.row,cQ A.out.own i.out (fun k e l=>by
  obtain⟨c,F⟩:=dN A.out.own e;exact dU F K.out (by decide) l),fun x hx=>cQ (A.out.each x hx) i.out (fun k e l=>by
  obtain⟨c,F⟩:=dN (A.out.each x hx) e;exact dU F K.out (by decide) l),A.out.len,A.out.alike⟩
 have ab:Hid (yA rs y g a pr pl q xs u U (.slice ta a.length tc) lv w 0 ls lv R):=⟨Z.out,aa.out,Y.out,E.out,i.out.mono (fun _ _ e=> .inl e),fun k e=> .inl e,fun b L l=>by
  have h1:=(jF E.out L).1;have h2:=fE D.out.own l;omega⟩
 clear Z aa Y E i D A K;go_wp2;go_loopw [14,15] (fun al M wr=>∃(k:Nat)(h:List (List UInt8))(d:Value),k<=a.length/\M= .int .i64 k/\al= .string ⟨(dD rs y g (a.take k)).2.toArray⟩/\yA rs y g a pr pl q xs u U (.slice ta a.length tc) lv w k h d wr) (fun _ M _=>a.length-(intOf M).toNat)
 case atStart=>exact⟨0,ls,lv,dM _,rfl,rfl,ab.out⟩
 case round=>
  clear ab;obtain⟨k,h,d,hk,rfl,rfl,ac⟩:=hrel;have f:Hid (yA rs y g a pr pl q xs u U (.slice ta a.length tc) lv w k h d wr):=ac;clear ac;by_cases N:k<a.length;case neg=>
   have am:¬(k:Int)<(a.length:Int):=by omega
   have ad:a.take k=a:=fV (by omega);have O:=f.out;rw[ad];go_wp2;go_ret2;have h1:=O.log;rw[ad]at h1;exact⟨rfl,O.row,h,d,h1,O.kept,O.lies⟩
  have am:(k:Int)<(a.length:Int):=by omega
  obtain⟨ga,oa,rfl⟩:=AG f.out.told (by omega);have c1:wr.cell? ⟨ga,oa+k,none⟩=some (aU a[k]):=AE f.out.told (by simp[N]);have ae:Hid (a.take (k+1)=a.take k++[a[k]]):=(List.take_append_getElem N).symm;have P:=ak.out a[k] (List.getElem_mem N);obtain⟨f1,f2,f3,f4⟩:=aj.out k hk;have f5:=CQ rs y (dD rs y g (a.take k)).1 a[k] f2;unfold aU at c1;have RL:Hid (∀w,fM w pr rs xs u->bL w pl (dD rs y g (a.take k)).1 h d->Calls prog 166 #[.pointer (some ⟨pr,0,none⟩),.pointer (some ⟨pl,0,none⟩),.string ⟨a[k].toArray⟩,.int .i64 y] w fun e z=>e= .returned (.string ⟨(eW rs y (dD rs y g (a.take k)).1 a[k]).2.toArray⟩)/\∃G p,bL z pl (eW rs y (dD rs y g (a.take k)).1 a[k]).1 G p/\cV pl d w p z):=fun w h1 h2=>aCg pr pl rs xs u _ h d a[k] P.1 P.2 y w h1 hn h2 (by omega) (by rw[h2.len];exact f2);have r:Hid (dD rs y g (a.take (k+1))=((eW rs y (dD rs y g (a.take k)).1 a[k]).1,(dD rs y g (a.take k)).2++((eW rs y (dD rs y g (a.take k)).1 a[k]).2++[10]))):=show _=_ by rw[ae.out,CP];rfl
  have l1:(dD rs y g (a.take k)).2.length<=400000000:=by omega
  have l2:=f5.2.2.2;clear f1 f2 f3 f4 f5 P ae;generalize eW rs y (dD rs y g (a.take k)).1 a[k]=TO at RL r l2;obtain⟨G2,O2⟩:=TO;dsimp only at RL r l2;have O:=f.out;have aw:=show Hid _ from O.log;generalize(dD rs y g (a.take k)).2=Q at r l1;generalize a[k]=TK at RL c1;have ar:¬9223372036854775807<Q.length+O2.length:=by omega
  have au:¬9223372036854775807<(Q++O2).length+1:=by simp;omega
  have av:¬9223372036854775807<Q.length+O2.length+1:=by omega
  clear O l1 l2;go_wp2_with fail;refine(RL.out _ f.out.rules f.out.log).mono ?_;rintro e w2⟨rfl,G,p,af,m⟩;have an:Hid (yA rs y g a pr pl q xs u U (.slice (some ⟨ga,oa,none⟩) a.length tc) lv w (k+1) G p w2):=by
   have ao:∀(k2:Nat)(H:Array Value)(t:TypeId),wr.heap[k2]?=some (.cells H t (0,0))->t≠190->t≠9->¬(k2=pl∨d.ownBlock=some k2):=fun k2 H t hk h1 h2 e=>by
    rcases e with e|e
    ·exact dU hk f.out.log.row h1 e
    ·obtain⟨c2,ap⟩:=dN f.out.log.own e;exact dU hk ap h2 rfl
   refine⟨by rw[r.out];exact af,f.out.rules.stepR f.out.log m,(m.kept.block _ (aM.1 f.out.row).1 (ao _ _ _ f.out.row (by decide) (by decide))).trans f.out.row,qD f.out.told m.kept (fun b L l=>?_),f.out.kept.trans m.kept (fun j hj e=>?_),fun j e=>?_,fun b L l=>?_⟩
   ·rcases l with l|l
    ·obtain⟨_,H,F⟩:=jF f.out.told L;exact dU F f.out.log.row (by decide) l
    ·exact f.out.ne b L l
   ·rcases e with e|e
    ·exact .inr (.inl e)
    ·rcases f.out.lies j e with e|e
     ·exact .inr (.inr e)
     ·omega
   ·rcases m.lies j e with e|e
    ·exact f.out.lies j e
    ·have:=f.out.kept.size;exact .inr (by omega)
   ·rcases m.lies b l with e|e
    ·exact f.out.ne b L e
    ·obtain⟨_,H,F⟩:=jF f.out.told L;have:=(aM.1 F).1;omega
  clear af m;go_wp2;go_roundw;case rel=>exact⟨k+1,G,p,by omega,aY (by simp),by rw[r.out,<-jH,<-dY,<-dY],an.out⟩
  case measure=>simp[intOf];omega
end Go.Proofs.Z

/- Pressed by program out of Bj. -/
import Derived.Test.YtdlhbmncbmconaaGreatDoorA12
namespace Go.Hm
def kF(c:UInt8):List UInt8->List (List UInt8)
 |[]=>[[]]
 |x::xs=>if x=c then[]::kF c xs else
  match kF c xs with
  |[]=>[[x]]
  |p::ps=>(x::p)::ps
def zS(x:UInt8):List (List UInt8)->List (List UInt8)
 |[]=>[[x]]
 |p::ps=>(x::p)::ps
theorem XL(c x:UInt8)(xs:List UInt8):kF c (x::xs)=if x=c then[]::kF c xs else zS x (kF c xs):=rfl
theorem XM(c a:UInt8)(t:List UInt8):bE c (a::t)=if a=c then([],t,true)else(a::(bE c t).1,(bE c t).2.1,(bE c t).2.2):=rfl
theorem rC(c:UInt8):∀l:List UInt8,kF c l=if(bE c l).2.2 then(bE c l).1::kF c (bE c l).2.1 else[(bE c l).1]
 |[]=>rfl
 |a::t=>by
  rw[XL,XM];by_cases h:a=c
  ·rw[aD h,aD h];rfl
  ·rw[aB h,aB h];have b:=rC c t;cases d:(bE c t).2.2
   ·rw[d,aB (by simp)]at b;rw[b];simp[zS]
   ·rw[d,aD rfl]at b;rw[b];simp[zS]
theorem GX(c:UInt8):∀(k:Nat)(l:List UInt8),Lib.count l [c]=k->Lib.splitK [c] 0 k l=kF c l
 |k,l,hk=>by
  rcases yP c l with⟨h0,a⟩|⟨d,a⟩
  ·obtain⟨i,hi⟩:∃i:Nat,Lib.index l [c]=i:=⟨(Lib.index l [c]).toNat,by omega⟩;have g:=Lib.count_hit (s:=l) (sub:=[c]) (by simp) hi;rw[rC,a,hi];cases k with
   |zero=>omega
   |succ k=>
    have f:=GX c k (l.drop (i+[c].length)) (by omega);have b:¬(Lib.index l [c]== -1)=true:=fun e=>by have:=dZ.1 e;omega
    unfold Lib.splitK;rw[aB b,hi,show((i:Int)).toNat=i from rfl,f];simp
  ·rw[Lib.count_miss d]at hk;subst hk;rw[rC,a];rfl
def jE(l:List UInt8):Nat:=if l=[42]then 16777215 else fT (kF 44 l) 0
end Go.Hm
namespace Go.Proofs.Z
open Hm Tryz Go.RowKit Go.Sort
attribute [local go_sem] cN cO
theorem XN(s:ByteArray)(w:World)(a:aJ w)(f:s.size<=3000000000):
  Calls prog 96 #[.string s] w fun e b=>e= .returned (.int .u32 (jE s.data.toList))/\Below w.heap.size w b:=by
 by_cases h0:s.data.toList=[42]
 ·have c:Hid (jE s.data.toList=16777215):=by show _=_;unfold jE;rw[aD h0]
  have b0:s.toList=[42]:=by rw[Lib.toList_data];exact h0
  clear h0;go_enter func96,ntmps96;go_wp2;go_ret;exact⟨by rw[c.out];rfl,aF _ _⟩
 ·have d:(oC s).length=Lib.countB s ⟨#[44]⟩+1:=Lib.splitB_all ⟨#[44]⟩ (by decide) 0 _ s rfl;have g:Lib.countB s ⟨#[44]⟩<=s.data.toList.length+1:=Lib.count_le _ _;have i:s.data.toList.length=s.size:=by rw[Lib.size_eq]
  have h:=XK s w a (by omega) h0 d (by omega);have e:fT ((oC s).map (·.data.toList)) 0=jE s.data.toList:=by
   unfold jE oC;rw[aB h0,Lib.splitB_data];exact aQ (fT · 0) (GX 44 _ _ rfl)
  rw[e]at h;exact h
end Go.Proofs.Z
namespace Go.Hm
theorem zT(c:UInt8)(l:List UInt8):(bE c l).1.length<=l.length/\(bE c l).2.1.length<=l.length/\((bE c l).2.2=true->(bE c l).2.1.length<l.length):=by
 cases h:(bE c l).2.2
 ·rw[rZ c l h];simp
 ·have:=aQ List.length (nB c l h);simp only[dL,bU]at this;omega
structure cF where
 fac:Nat
 sev:Nat
 keep:Bool
def kV:List UInt8:=[107,101,101,112]
def qA:List UInt8:=[100,114,111,112]
def gW(fb sb:Nat)(v:List UInt8):Option cF:=
 if fb=0∨sb=0∨(¬v=kV/\¬v=qA)then none else some ⟨fb,sb,decide (v=kV)⟩
def iD(l:List UInt8):Option cF:=gW (jE (bE 46 (bE 32 l).1).1) (gV (bE 46 (bE 32 l).1).2.1) (bE 32 l).2.1
def gX:Nat->Nat->List UInt8->List cF->Except Nat (List cF)
 |0,n,_,_=> .error n
 |k+1,n,l,acc=>
  if l=[]then .ok acc else
  if n=12∨(bE 10 l).2.2=false then .error n else
  match iD (bE 10 l).1 with
  |none=> .error n
  |some r=>gX k (n+1) (bE 10 l).2.1 (acc++[r])
def nC(l:List UInt8):Except Nat (List cF):=gX (l.length+1) 0 l []
def cF.fits(r:cF)(f s:Nat):Bool:=r.fac.testBit f&&r.sev.testBit s
def fD:List cF->Nat->Nat->Bool
 |[],_,_=>true
 |r::rs,f,s=>if r.fits f s=true then r.keep else fD rs f s
theorem GY:∀(a:List (List UInt8))(b:Nat),b<16777216->fT a b<16777216
 |[],b,h=>h
 |n::a,b,h=>by
  unfold fT;split
  ·decide
  ·refine GY a _ (Nat.or_lt_two_pow (n:=24) h ?_);have:=wD n cX 0;rw[show cX.length=24 by unfold cX;rw[eS,List.length_range]]at this;exact Nat.pow_lt_pow_right (by decide) (by omega)
theorem GZ(l:List UInt8):jE l<16777216:=by
 unfold jE;split
 ·decide
 ·exact GY _ _ (by decide)
theorem HU(l:List UInt8):gV l<256:=by
 unfold gV;split
 ·decide
 ·have:=wD (Lib.trimPrefix l [61]) cL 0;rw[show cL.length=8 from rfl]at this;generalize bF (Lib.trimPrefix l [61]) cL 0=n at this;split
  ·decide
  ·split
   ·exact oQ (Nat.pow_lt_pow_right (by decide) (show n-1<8 by omega)) (aC _)
   ·have:2^n<=2^8:=qQ (by decide) (by omega);have h2:0<2^n:=Nat.pow_pos (by decide);omega
def cF.small(r:cF):Prop:=r.fac<4294967296/\r.sev<4294967296
theorem XO{a b:Nat}{v:List UInt8}{r:cF}(h1:a<4294967296)(h2:b<4294967296)(h:gW a b v=some r):r.small:=by
 unfold gW at h;split at h
 ·cases h
 ·cases h;exact⟨h1,h2⟩
theorem XP{l:List UInt8}{r:cF}(h:iD l=some r):r.small:=
 XO (oQ (GZ _) (by decide)) (oQ (HU _) (by decide)) h
theorem IA:∀(k n:Nat)(l:List UInt8)(acc rs:List cF),(∀r∈acc,r.small)->gX k n l acc= .ok rs->∀r∈rs,r.small
 |0,n,l,acc,rs,_,h=>by cases h
 |k+1,n,l,acc,rs,ha,h=>by
  unfold gX at h;split at h
  ·cases h;exact ha
  ·split at h
   ·cases h
   ·split at h
    ·cases h
    ·next r hr=>exact IA k _ _ _ rs (fun q a=>(jM.1 a).elim (ha q) (fun a=>by simp at a;subst a;exact XP hr)) h
theorem XQ{l:List UInt8}{rs:List cF}(h:nC l= .ok rs):∀r∈rs,r.small:=IA _ _ _ _ _ (by simp) h
end Go.Hm
namespace Go.Proofs.Z
open Hm Hw Tryz Go.RowKit Go.Sort
attribute [local go_sem] cN cO
theorem zU(c:UInt8)(s:ByteArray)(w:World)(d:aJ w)(g:s.size<=4000000000):
  Calls prog 58 #[.string s,.string ⟨#[c]⟩] w fun e a=>e= .returned (.tuple #[.string ⟨(bE c s.data.toList).1.toArray⟩,.string ⟨(bE c s.data.toList).2.1.toArray⟩,.bool (bE c s.data.toList).2.2])/\∃n,a=w.drewN n:=by
 obtain⟨m,f⟩:=d.ml;have b:=CY s ⟨#[c]⟩ m w (by omega) f;change Calls prog 58 _ _ (fun e a=>e= .returned (.tuple #[.string ⟨(Lib.cut s.data.toList [c]).1.toArray⟩,.string ⟨(Lib.cut s.data.toList [c]).2.1.toArray⟩,.bool (Lib.cut s.data.toList [c]).2.2])/\∃n,a=w.drewN n)at b
 rwa [pV]at b
def qB(r:Option cF):Value:=match r with
 |some r=> .agg #[.int .u32 r.fac,.int .u32 r.sev,.bool r.keep]
 |none=> .agg #[.int .u32 0,.int .u32 0,.bool false]
theorem oD:(prog.info? 111).map (·.size)=some 3:=by kernel_rfl
set_option maxRecDepth 20000 in
set_option maxHeartbeats 2000000 in
theorem XR(s:ByteArray)(w:World)(p:aJ w)(X:s.size<=3000000000):
  Calls prog 59 #[.string s] w fun e K=>e= .returned (.tuple #[qB (iD s.data.toList),.bool (iD s.data.toList).isSome])/\Below w.heap.size w K:=by
 unfold iD;have L:=zT 32 s.data.toList;have F:Hid (∀w,aJ w->Calls prog 58 #[.string s,.string ⟨#[32]⟩] w fun e K=>e= .returned (.tuple #[.string ⟨(bE 32 s.data.toList).1.toArray⟩,.string ⟨(bE 32 s.data.toList).2.1.toArray⟩,.bool (bE 32 s.data.toList).2.2])/\∃n,K=w.drewN n):=fun w p=>zU 32 s w p (by omega);obtain⟨⟨D,v,b1⟩,h1⟩:∃r,bE 32 s.data.toList=r:=⟨_,rfl⟩;rw[h1]at F L⊢;clear h1;dsimp only at F L⊢;rw[Hm.len]at L;have O:=zT 46 D;have G:Hid (∀w,aJ w->Calls prog 58 #[.string ⟨D.toArray⟩,.string ⟨#[46]⟩] w fun e K=>e= .returned (.tuple #[.string ⟨(bE 46 D).1.toArray⟩,.string ⟨(bE 46 D).2.1.toArray⟩,.bool (bE 46 D).2.2])/\∃n,K=w.drewN n):=fun w p=>zU 46 ⟨D.toArray⟩ w p (by show D.toArray.size<=_;simp;omega);obtain⟨⟨fr,S,b2⟩,h2⟩:∃r,bE 46 D=r:=⟨_,rfl⟩;rw[h2]at G O⊢;clear h2;dsimp only at G O⊢;have Q:Hid (∀w,aJ w->Calls prog 96 #[.string ⟨fr.toArray⟩] w fun e K=>e= .returned (.int .u32 (jE fr))/\Below w.heap.size w K):=fun w p=>XN ⟨fr.toArray⟩ w p (by show fr.toArray.size<=_;simp;omega);have R:Hid (∀w,aJ w->Calls prog 97 #[.string ⟨S.toArray⟩] w fun e K=>e= .returned (.int .u32 (gV S))/\K=w):=fun w p=>XI ⟨S.toArray⟩ w p;have V:=GZ fr;have W:=HU S;generalize jE fr=u at Q V⊢;generalize gV S=C at R W⊢;clear L O;by_cases x:u=0
 ·have M:Hid (gW u C v=none):=by show _=_;unfold gW;rw[aD (.inl x)]
  have f1:((u:Int)==0)=true:=by rw[x];rfl
  have f2:(u:Int)=0:=by omega
  clear x;obtain⟨t,b⟩:∃t,w.alloc (.cells #[.int .u32 0,.int .u32 0,.bool false] 111)=t:=⟨_,rfl⟩;have g:Hid (Below w.heap.size w t):=by rw[<-b];exact(aF _ _).alloc (aC _) _
  have y:Hid (t.heap[w.heap.size]?=some (.cells #[.int .u32 0,.int .u32 0,.bool false] 111 (0,0))):=by rw[<-b];exact heap_alloc_new _ _
  go_enter func59,ntmps59;go_wp2_with fail;clear b;refine(F.out _ (p.next g.out)).mono ?_;rintro e H⟨rfl,c⟩;have i:Hid (Below w.heap.size w H):=Below.next g.out (aC _) (aT c);have z:Hid (H.heap[w.heap.size]?=some (.cells #[.int .u32 0,.int .u32 0,.bool false] 111 (0,0))):=by obtain⟨q,rfl⟩:=c;exact y.out
  clear c;go_wp2_with fail;refine(G.out _ (p.next i.out)).mono ?_;rintro e A⟨rfl,d⟩;have j:Hid (Below w.heap.size w A):=Below.next i.out (aC _) (aT d);have k:Hid (A.heap[w.heap.size]?=some (.cells #[.int .u32 0,.int .u32 0,.bool false] 111 (0,0))):=by obtain⟨q,rfl⟩:=d;exact z.out
  clear d;go_wp2_with fail;refine(Q.out _ (p.next j.out)).mono ?_;rintro e B⟨rfl,f⟩;have l:w.heap.size<A.heap.size:=(aM.1 k.out).1;have m:Hid (B.heap[w.heap.size]?=some (.cells #[.int .u32 0,.int .u32 0,.bool false] 111 (0,0))):=(f.block _ l).trans k.out;have o:Hid (Below w.heap.size w B):=Below.next j.out (aC _) f;have a:w.heap.size<B.heap.size:=(aM.1 m.out).1;clear f;go_wp2_with fail;refine(R.out _ (p.next o.out)).mono ?_;rintro e T⟨rfl,rfl⟩;go_wp2_with(refine bI rfl _ _ _ rfl rfl w.heap.size #[.int .u32 0,.int .u32 0,.bool false] rfl rfl _ _ ((heap_alloc_old _ _ a).trans m.out) oD rfl rfl ?_;intro N I;have J:=aA I;clear I);refine bB (oR results59 _ _ _ _ _ _ _ rfl J.out.row underlying111 rfl oD) rfl ⟨?_,(o.out.alloc (iT a) _).trans (J.out.below (aC _))⟩;rw[M.out];rfl
 by_cases E:C=0
 ·have M:Hid (gW u C v=none):=by show _=_;unfold gW;rw[aD (.inr (.inl E))]
  have f1:((u:Int)==0)=false:=bG.2 (by omega);have f2:¬(u:Int)=0:=by omega
  have f3:((C:Int)==0)=true:=by rw[E];rfl
  have f4:(C:Int)=0:=by omega
  clear E x;obtain⟨t,b⟩:∃t,w.alloc (.cells #[.int .u32 0,.int .u32 0,.bool false] 111)=t:=⟨_,rfl⟩;have g:Hid (Below w.heap.size w t):=by rw[<-b];exact(aF _ _).alloc (aC _) _
  have y:Hid (t.heap[w.heap.size]?=some (.cells #[.int .u32 0,.int .u32 0,.bool false] 111 (0,0))):=by rw[<-b];exact heap_alloc_new _ _
  go_enter func59,ntmps59;go_wp2_with fail;clear b;refine(F.out _ (p.next g.out)).mono ?_;rintro e H⟨rfl,c⟩;have i:Hid (Below w.heap.size w H):=Below.next g.out (aC _) (aT c);have z:Hid (H.heap[w.heap.size]?=some (.cells #[.int .u32 0,.int .u32 0,.bool false] 111 (0,0))):=by obtain⟨q,rfl⟩:=c;exact y.out
  clear c;go_wp2_with fail;refine(G.out _ (p.next i.out)).mono ?_;rintro e A⟨rfl,d⟩;have j:Hid (Below w.heap.size w A):=Below.next i.out (aC _) (aT d);have k:Hid (A.heap[w.heap.size]?=some (.cells #[.int .u32 0,.int .u32 0,.bool false] 111 (0,0))):=by obtain⟨q,rfl⟩:=d;exact z.out
  clear d;go_wp2_with fail;refine(Q.out _ (p.next j.out)).mono ?_;rintro e B⟨rfl,f⟩;have l:w.heap.size<A.heap.size:=(aM.1 k.out).1;have m:Hid (B.heap[w.heap.size]?=some (.cells #[.int .u32 0,.int .u32 0,.bool false] 111 (0,0))):=(f.block _ l).trans k.out;have o:Hid (Below w.heap.size w B):=Below.next j.out (aC _) f;have a:w.heap.size<B.heap.size:=(aM.1 m.out).1;clear f;go_wp2_with fail;refine(R.out _ (p.next o.out)).mono ?_;rintro e T⟨rfl,rfl⟩;go_wp2_with(refine bI rfl _ _ _ rfl rfl w.heap.size #[.int .u32 0,.int .u32 0,.bool false] rfl rfl _ _ ((heap_alloc_old _ _ a).trans m.out) oD rfl rfl ?_;intro N I;have J:=aA I;clear I);refine bB (oR results59 _ _ _ _ _ _ _ rfl J.out.row underlying111 rfl oD) rfl ⟨?_,(o.out.alloc (iT a) _).trans (J.out.below (aC _))⟩;rw[M.out];rfl
 by_cases P:v=[107,101,101,112]
 ·have M:Hid (gW u C v=some ⟨u,C,true⟩):=by show _=_;unfold gW kV;rw[aB (by rintro(h|h|⟨h,_⟩);exact x h;exact E h;exact h P),decide_eq_true P]
  have f1:((u:Int)==0)=false:=bG.2 (by omega);have f2:¬(u:Int)=0:=by omega
  have f3:((C:Int)==0)=false:=bG.2 (by omega);have f4:¬(C:Int)=0:=by omega
  clear E x;subst P;obtain⟨t,b⟩:∃t,w.alloc (.cells #[.int .u32 0,.int .u32 0,.bool false] 111)=t:=⟨_,rfl⟩;have g:Hid (Below w.heap.size w t):=by rw[<-b];exact(aF _ _).alloc (aC _) _
  have y:Hid (t.heap[w.heap.size]?=some (.cells #[.int .u32 0,.int .u32 0,.bool false] 111 (0,0))):=by rw[<-b];exact heap_alloc_new _ _
  go_enter func59,ntmps59;go_wp2_with fail;clear b;refine(F.out _ (p.next g.out)).mono ?_;rintro e H⟨rfl,c⟩;have i:Hid (Below w.heap.size w H):=Below.next g.out (aC _) (aT c);have z:Hid (H.heap[w.heap.size]?=some (.cells #[.int .u32 0,.int .u32 0,.bool false] 111 (0,0))):=by obtain⟨q,rfl⟩:=c;exact y.out
  clear c;go_wp2_with fail;refine(G.out _ (p.next i.out)).mono ?_;rintro e A⟨rfl,d⟩;have j:Hid (Below w.heap.size w A):=Below.next i.out (aC _) (aT d);have k:Hid (A.heap[w.heap.size]?=some (.cells #[.int .u32 0,.int .u32 0,.bool false] 111 (0,0))):=by obtain⟨q,rfl⟩:=d;exact z.out
  clear d;go_wp2_with fail;refine(Q.out _ (p.next j.out)).mono ?_;rintro e B⟨rfl,f⟩;have l:w.heap.size<A.heap.size:=(aM.1 k.out).1;have m:Hid (B.heap[w.heap.size]?=some (.cells #[.int .u32 0,.int .u32 0,.bool false] 111 (0,0))):=(f.block _ l).trans k.out;have o:Hid (Below w.heap.size w B):=Below.next j.out (aC _) f;have a:w.heap.size<B.heap.size:=(aM.1 m.out).1;clear f;go_wp2_with fail;refine(R.out _ (p.next o.out)).mono ?_;rintro e T⟨rfl,rfl⟩;go_wp2_with(refine bI rfl _ _ _ rfl rfl w.heap.size #[.int .u32 u,.int .u32 C,.bool true] rfl rfl _ _ ((heap_alloc_old _ _ a).trans m.out) oD rfl rfl ?_;intro N I;have J:=aA I;clear I);refine bB (oR results59 _ _ _ _ _ _ _ rfl J.out.row underlying111 rfl oD) rfl ⟨?_,(o.out.alloc (iT a) _).trans (J.out.below (aC _))⟩;rw[M.out];rfl
 have f5:(v==[107,101,101,112])=false:=bG.2 P;by_cases U:v=[100,114,111,112]
 ·have M:Hid (gW u C v=some ⟨u,C,false⟩):=by show _=_;unfold gW kV qA;rw[aB (by rintro(h|h|⟨_,h⟩);exact x h;exact E h;exact h U),decide_eq_false P]
  have f1:((u:Int)==0)=false:=bG.2 (by omega);have f2:¬(u:Int)=0:=by omega
  have f3:((C:Int)==0)=false:=bG.2 (by omega);have f4:¬(C:Int)=0:=by omega
  clear E x f5 P;subst U;obtain⟨t,b⟩:∃t,w.alloc (.cells #[.int .u32 0,.int .u32 0,.bool false] 111)=t:=⟨_,rfl⟩;have g:Hid (Below w.heap.size w t):=by rw[<-b];exact(aF _ _).alloc (aC _) _
  have y:Hid (t.heap[w.heap.size]?=some (.cells #[.int .u32 0,.int .u32 0,.bool false] 111 (0,0))):=by rw[<-b];exact heap_alloc_new _ _
  go_enter func59,ntmps59;go_wp2_with fail;clear b;refine(F.out _ (p.next g.out)).mono ?_;rintro e H⟨rfl,c⟩;have i:Hid (Below w.heap.size w H):=Below.next g.out (aC _) (aT c);have z:Hid (H.heap[w.heap.size]?=some (.cells #[.int .u32 0,.int .u32 0,.bool false] 111 (0,0))):=by obtain⟨q,rfl⟩:=c;exact y.out
  clear c;go_wp2_with fail;refine(G.out _ (p.next i.out)).mono ?_;rintro e A⟨rfl,d⟩;have j:Hid (Below w.heap.size w A):=Below.next i.out (aC _) (aT d);have k:Hid (A.heap[w.heap.size]?=some (.cells #[.int .u32 0,.int .u32 0,.bool false] 111 (0,0))):=by obtain⟨q,rfl⟩:=d;exact z.out
  clear d;go_wp2_with fail;refine(Q.out _ (p.next j.out)).mono ?_;rintro e B⟨rfl,f⟩;have l:w.heap.size<A.heap.size:=(aM.1 k.out).1;have m:Hid (B.heap[w.heap.size]?=some (.cells #[.int .u32 0,.int .u32 0,.bool false] 111 (0,0))):=(f.block _ l).trans k.out;have o:Hid (Below w.heap.size w B):=Below.next j.out (aC _) f;have a:w.heap.size<B.heap.size:=(aM.1 m.out).1;clear f;go_wp2_with fail;refine(R.out _ (p.next o.out)).mono ?_;rintro e T⟨rfl,rfl⟩;go_wp2_with(refine bI rfl _ _ _ rfl rfl w.heap.size #[.int .u32 u,.int .u32 C,.bool false] rfl rfl _ _ ((heap_alloc_old _ _ a).trans m.out) oD rfl rfl ?_;intro N I;have J:=aA I;clear I);refine bB (oR results59 _ _ _ _ _ _ _ rfl J.out.row underlying111 rfl oD) rfl ⟨?_,(o.out.alloc (iT a) _).trans (J.out.below (aC _))⟩;rw[M.out];rfl
 ·have M:Hid (gW u C v=none):=by show _=_;unfold gW kV qA;rw[aD (.inr (.inr ⟨P,U⟩))]
  have f6:(v==[100,114,111,112])=false:=bG.2 U;have f1:((u:Int)==0)=false:=bG.2 (by omega);have f2:¬(u:Int)=0:=by omega
  have f3:((C:Int)==0)=false:=bG.2 (by omega);have f4:¬(C:Int)=0:=by omega
  clear E x;obtain⟨t,b⟩:∃t,w.alloc (.cells #[.int .u32 0,.int .u32 0,.bool false] 111)=t:=⟨_,rfl⟩;have g:Hid (Below w.heap.size w t):=by rw[<-b];exact(aF _ _).alloc (aC _) _
  have y:Hid (t.heap[w.heap.size]?=some (.cells #[.int .u32 0,.int .u32 0,.bool false] 111 (0,0))):=by rw[<-b];exact heap_alloc_new _ _
  go_enter func59,ntmps59;go_wp2_with fail;clear b;refine(F.out _ (p.next g.out)).mono ?_;rintro e H⟨rfl,c⟩;have i:Hid (Below w.heap.size w H):=Below.next g.out (aC _) (aT c);have z:Hid (H.heap[w.heap.size]?=some (.cells #[.int .u32 0,.int .u32 0,.bool false] 111 (0,0))):=by obtain⟨q,rfl⟩:=c;exact y.out
  clear c;go_wp2_with fail;refine(G.out _ (p.next i.out)).mono ?_;rintro e A⟨rfl,d⟩;have j:Hid (Below w.heap.size w A):=Below.next i.out (aC _) (aT d);have k:Hid (A.heap[w.heap.size]?=some (.cells #[.int .u32 0,.int .u32 0,.bool false] 111 (0,0))):=by obtain⟨q,rfl⟩:=d;exact z.out
  clear d;go_wp2_with fail;refine(Q.out _ (p.next j.out)).mono ?_;rintro e B⟨rfl,f⟩;have l:w.heap.size<A.heap.size:=(aM.1 k.out).1;have m:Hid (B.heap[w.heap.size]?=some (.cells #[.int .u32 0,.int .u32 0,.bool false] 111 (0,0))):=(f.block _ l).trans k.out;have o:Hid (Below w.heap.size w B):=Below.next j.out (aC _) f;have a:w.heap.size<B.heap.size:=(aM.1 m.out).1;clear f;go_wp2_with fail;refine(R.out _ (p.next o.out)).mono ?_;rintro e T⟨rfl,rfl⟩;go_wp2_with(refine bI rfl _ _ _ rfl rfl w.heap.size #[.int .u32 0,.int .u32 0,.bool false] rfl rfl _ _ ((heap_alloc_old _ _ a).trans m.out) oD rfl rfl ?_;intro N I;have J:=aA I;clear I);refine bB (oR results59 _ _ _ _ _ _ _ rfl J.out.row underlying111 rfl oD) rfl ⟨?_,(o.out.alloc (iT a) _).trans (J.out.below (aC _))⟩;rw[M.out];rfl
def fQ(rs:List cF):List Value:=rs.flatMap fun r=>[.int .u32 r.fac,.int .u32 r.sev,.bool r.keep]
def zV:Value->Nat| .string s=>s.size| _=>0
theorem XS:(prog.info? 111).map (fun i=>(i.zero,i.size,i.bytes))=some (some (.agg #[.int .u32 0,.int .u32 0,.bool false]),3,12):=by kernel_rfl
structure jJ(w:World)(p:Nat)(rs:List cF)(v:Value):Prop where
 row:w.heap[p]?=some (.cells #[v] 106 (0,0))
 own:w.ownsRow (p+1) 111 3 v rs.length (fQ rs)
theorem XT(s:ByteArray)(w:World)(h:400<s.size)(h2:s.size<=4000000000):
  Calls prog 32 #[.string s] w fun e a=>e= .returned (.tuple #[.pointer none,.int .i64 1,.int .i64 0])/\a=w:=by
 have b:(400:Int)<(s.size:Int):=by omega
 go_enter func32,ntmps32;go_wp2;refine bB (v:= .tuple #[.pointer none,.int .i64 1,.int .i64 0]) (by simp[results,results32,go_sem]) rfl ?_;exact⟨rfl,rfl⟩
theorem zW(w:World)(x y z:Value)(t:TypeId):∀j u,[x,y,z][j]?=some u->(w.alloc (.cells #[x,y,z] t)).cell? ((⟨w.heap.size,0,none⟩:Addr).add j)=some u:=by
 intro j u a;match j,a with
 |0,a=>simp at a;subst a;simp[Addr.add]
 |1,a=>simp at a;subst a;simp[Addr.add]
 |2,a=>simp at a;subst a;simp[Addr.add]
def XU(s:ByteArray)(w:World)(tx nm:Value)(wr:World):Prop:=∃(fu k:Nat)(l:List UInt8)(acc:List cF)(v:Value),tx= .string ⟨l.toArray⟩/\nm= .int .i64 k/\k<=12/\acc.length=k/\l.length<fu/\l.length<=400/\
 nC s.data.toList=gX fu k l acc/\wr.heap[w.heap.size]?=some (.cells #[v] 106 (0,0))/\wr.ownsRow (w.heap.size+1) 111 3 v acc.length (fQ acc)/\Below w.heap.size w wr
def XV(r:Except Nat (List cF))(w:World)(e:Ending)(w':World):Prop:=match r with
 | .error n=>e= .returned (.tuple #[.pointer none,.int .i64 11,.int .i64 n])
 | .ok rs=>e= .returned (.tuple #[.pointer (some ⟨w.heap.size,0,none⟩),.int .i64 0,.int .i64 0])/\∃v,jJ w' w.heap.size rs v
set_option maxRecDepth 20000 in
set_option maxHeartbeats 2000000 in
theorem IB(s:ByteArray)(w:World)(P:aJ w)(h:s.size<=400):
  Calls prog 32 #[.string s] w fun e w'=>Below w.heap.size w w'/\XV (nC s.data.toList) w e w':=by
 have h':¬(400:Int)<(s.size:Int):=by omega
 have HL:=aA h;clear h;obtain⟨i0,hi,ae,af,W⟩:=info_parts XS;go_enter func32,ntmps32;go_wp2;go_loopw [0,6] (XU s w) (fun tx _ _=>zV tx)
 case atStart=>
  refine⟨s.data.toList.length+1,0,s.data.toList,[],.slice none 0 0,?_,rfl,by omega,rfl,by omega,by rw[Hm.len];exact HL.out,rfl,heap_alloc_new _ _,World.ownsRow_nil _ _ _ _,(aF _ _).alloc (aC _) _⟩;cases s;simp
 case round=>
  obtain⟨fu,k,l,acc,v,rfl,rfl,hk,rfl,av,hl,hv,hr,ho,hb⟩:=hrel;obtain⟨fu,rfl⟩:∃g,fu=g+1:=⟨fu-1,by omega⟩;have HV:=aA hv;have HR:=aA hr;have HO:=aA ho;have R:=aA hb;clear hv hr ho hb;by_cases T:l=[]
  ·have f:Hid (nC s.data.toList= .ok acc):=by show _=_;rw[HV.out,gX,aD T]
   subst T;go_wp2;refine bB (v:= .tuple #[.pointer (some ⟨w.heap.size,0,none⟩),.int .i64 0,.int .i64 0]) (by simp[results,results32,go_sem]) rfl ⟨R.out,?_⟩;rw[f.out];exact⟨rfl,v,HR.out,HO.out⟩
  ·have b0:(l==[])=false:=bG.2 T;have Q:=zT 10 l;have HC:Hid (∀w,aJ w->Calls prog 58 #[.string ⟨l.toArray⟩,.string ⟨#[10]⟩] w fun e w'=>e= .returned (.tuple #[.string ⟨(bE 10 l).1.toArray⟩,.string ⟨(bE 10 l).2.1.toArray⟩,.bool (bE 10 l).2.2])/\∃n,w'=w.drewN n):=fun w P=>zU 10 ⟨l.toArray⟩ w P (by show l.toArray.size<=_;simp;omega);have f:Hid (nC s.data.toList=if acc.length=12∨(bE 10 l).2.2=false then .error acc.length else match iD (bE 10 l).1 with|none=> .error acc.length|some r=>gX fu (acc.length+1) (bE 10 l).2.1 (acc++[r])):=by
    show _=_;rw[HV.out,gX,aB T];all_goals rfl
   obtain⟨⟨ln,bh,en⟩,hcut⟩:∃r,bE 10 l=r:=⟨_,rfl⟩;rw[hcut]at HC f Q;clear hcut;dsimp only at HC f Q;have m:Hid (∀w,aJ w->Calls prog 59 #[.string ⟨ln.toArray⟩] w fun e w'=>e= .returned (.tuple #[qB (iD ln),.bool (iD ln).isSome])/\Below w.heap.size w w'):=fun w P=>XR ⟨ln.toArray⟩ w P (by show ln.toArray.size<=_;simp;omega);obtain⟨ru,ag⟩:∃r,iD ln=r:=⟨_,rfl⟩;rw[ag]at m f;have aw:=aA ag;clear ag HV;by_cases F:acc.length=12
   ·rw[aD (.inl F),F]at f;have f1:((acc.length:Int)==12)=true:=by rw[F];rfl
    have f2:(acc.length:Int)=12:=by omega
    have ax:¬l=[]:=T;clear F Q T;cases ru with
    |none=>
     unfold qB at m;dsimp only[Option.isSome]at m;go_wp2_with fail;refine(HC.out _ (P.next R.out)).mono ?_;rintro e U⟨rfl,o⟩;have t:Hid (Below w.heap.size w U):=Below.next R.out (aC _) (aT o);clear o;go_wp2_with fail;refine(m.out _ (P.next t.out)).mono ?_;rintro e I⟨rfl,p⟩;have y:Hid (Below w.heap.size w I):=Below.next t.out (aC _) p;clear p;go_wp2;refine bB (v:= .tuple #[.pointer none,.int .i64 11,.int .i64 12]) (by simp[results,results32,go_sem]) rfl ⟨y.out.alloc y.out.size _,?_⟩;rw[f.out];rfl
    |some r=>
     unfold qB at m;dsimp only[Option.isSome]at m;go_wp2_with fail;refine(HC.out _ (P.next R.out)).mono ?_;rintro e U⟨rfl,o⟩;have t:Hid (Below w.heap.size w U):=Below.next R.out (aC _) (aT o);clear o;go_wp2_with fail;refine(m.out _ (P.next t.out)).mono ?_;rintro e I⟨rfl,p⟩;have y:Hid (Below w.heap.size w I):=Below.next t.out (aC _) p;clear p;go_wp2;refine bB (v:= .tuple #[.pointer none,.int .i64 11,.int .i64 12]) (by simp[results,results32,go_sem]) rfl ⟨y.out.alloc y.out.size _,?_⟩;rw[f.out];rfl
   ·cases en
    ·rw[aD (.inr rfl)]at f;have f1:((acc.length:Int)==12)=false:=bG.2 (by omega);have f2:¬(acc.length:Int)=12:=by omega
     clear Q;cases ru with
     |none=>
      unfold qB at m;dsimp only[Option.isSome]at m;go_wp2_with fail;refine(HC.out _ (P.next R.out)).mono ?_;rintro e U⟨rfl,o⟩;have t:Hid (Below w.heap.size w U):=Below.next R.out (aC _) (aT o);clear o;go_wp2_with fail;refine(m.out _ (P.next t.out)).mono ?_;rintro e I⟨rfl,p⟩;have y:Hid (Below w.heap.size w I):=Below.next t.out (aC _) p;clear p;go_wp2;refine bB (v:= .tuple #[.pointer none,.int .i64 11,.int .i64 acc.length]) (by simp[results,results32,go_sem]) rfl ⟨y.out.alloc y.out.size _,?_⟩;rw[f.out];rfl
     |some r=>
      unfold qB at m;dsimp only[Option.isSome]at m;go_wp2_with fail;refine(HC.out _ (P.next R.out)).mono ?_;rintro e U⟨rfl,o⟩;have t:Hid (Below w.heap.size w U):=Below.next R.out (aC _) (aT o);clear o;go_wp2_with fail;refine(m.out _ (P.next t.out)).mono ?_;rintro e I⟨rfl,p⟩;have y:Hid (Below w.heap.size w I):=Below.next t.out (aC _) p;clear p;go_wp2;refine bB (v:= .tuple #[.pointer none,.int .i64 11,.int .i64 acc.length]) (by simp[results,results32,go_sem]) rfl ⟨y.out.alloc y.out.size _,?_⟩;rw[f.out];rfl
    ·cases ru with
     |none=>
      rw[aB (by simp[F])]at f;dsimp only at f;have f1:((acc.length:Int)==12)=false:=bG.2 (by omega);have f2:¬(acc.length:Int)=12:=by omega
      clear Q;unfold qB at m;dsimp only[Option.isSome]at m;go_wp2_with fail;refine(HC.out _ (P.next R.out)).mono ?_;rintro e U⟨rfl,o⟩;have t:Hid (Below w.heap.size w U):=Below.next R.out (aC _) (aT o);clear o;go_wp2_with fail;refine(m.out _ (P.next t.out)).mono ?_;rintro e I⟨rfl,p⟩;have y:Hid (Below w.heap.size w I):=Below.next t.out (aC _) p;clear p;go_wp2;refine bB (v:= .tuple #[.pointer none,.int .i64 11,.int .i64 acc.length]) (by simp[results,results32,go_sem]) rfl ⟨y.out.alloc y.out.size _,?_⟩;rw[f.out];rfl
     |some r=>
      have ah:bh.length<l.length:=Q.2.2 rfl;have aq:bh.length<=400:=by omega
      clear Q;have f1:((acc.length:Int)==12)=false:=bG.2 (by omega);have f2:¬(acc.length:Int)=12:=by omega
      unfold qB at m;dsimp only at m f;rw[aB (by simp[F])]at f;go_wp2_with fail;refine(HC.out _ (P.next R.out)).mono ?_;rintro e U⟨rfl,o⟩;have t:Hid (Below w.heap.size w U):=Below.next R.out (aC _) (aT o);have al:Hid (U.heap[w.heap.size]?=some (.cells #[v] 106 (0,0))):=by obtain⟨q,rfl⟩:=o;exact HR.out
      have ao:Hid (U.ownsRow (w.heap.size+1) 111 3 v acc.length (fQ acc)):=by obtain⟨q,rfl⟩:=o;exact HO.out
      clear o;go_wp2_with fail;refine(m.out _ (P.next t.out)).mono ?_;rintro e I⟨rfl,p⟩;have y:Hid (Below w.heap.size w I):=Below.next t.out (aC _) p;have am:Hid (I.heap[w.heap.size]?=some (.cells #[v] 106 (0,0))):=(p.block _ (aM.1 al.out).1).trans al.out;have ap:Hid (I.ownsRow (w.heap.size+1) 111 3 v acc.length (fQ acc)):=cQ (S:=fun _=>False) ao.out (aN.of_below p) (fun _ _ e=>e);clear p;go_wp2_with fail;obtain⟨z,V⟩:∃z,I.alloc (.cells #[.int .u32 r.fac,.int .u32 r.sev,.bool r.keep] 111)=z:=⟨_,rfl⟩;have an:w.heap.size<I.heap.size:=(aM.1 am.out).1;have ai:Hid (Below w.heap.size w z):=by rw[<-V];exact y.out.alloc (iT an) _
      have X:Hid (z.heap[w.heap.size]?=some (.cells #[v] 106 (0,0))):=by rw[<-V];exact(heap_alloc_old _ _ an).trans am.out
      have aj:Hid (z.ownsRow (w.heap.size+1) 111 3 v acc.length (fQ acc)):=by rw[<-V];exact ap.out.alloc _
      have ak:Hid (z.heap[I.heap.size]?=some (.cells #[.int .u32 r.fac,.int .u32 r.sev,.bool r.keep] 111 (0,0))):=by rw[<-V];exact heap_alloc_new _ _
      rw[V];clear V;have e0:z.cell? ⟨I.heap.size,0,none⟩=some (.int .u32 r.fac):=by simp[World.cell?,ak.out]
      have e1:z.cell? ⟨I.heap.size,1,none⟩=some (.int .u32 r.sev):=by simp[World.cell?,ak.out]
      have e2:z.cell? ⟨I.heap.size,2,none⟩=some (.bool r.keep):=by simp[World.cell?,ak.out]
      have c0:z.cell? ⟨w.heap.size,0,none⟩=some v:=by simp[World.cell?,X.out]
      have Y:w.heap.size<z.heap.size:=(aM.1 X.out).1;have ar:w.heap.size≠z.heap.size:=by omega
      have au:¬z.heap.size=w.heap.size:=by omega
      refine wp_region_any gT ?_;change wpAny _ _ _ _ _ _ _ (World.drew _);refine wpAny_take (i:=0) (v:= .pointer (some ⟨w.heap.size,0,none⟩)) rfl (by kernel_rfl) (by kernel_rfl) (by kernel_rfl) (fun _ _ _ h=>h) (Or.inl ⟨by rfl,?_⟩) ?_
      ·intro w;go_simp
      refine wpAny_take (i:=1) (v:= .pointer (some ⟨w.heap.size,0,none⟩)) rfl (by kernel_rfl) (by kernel_rfl) (by kernel_rfl) (fun _ _ _ h=>h) (Or.inl ⟨by rfl,?_⟩) ?_
      ·intro w;go_simp
      refine wpAny_take (i:=2) (v:= .pointer (some ⟨w.heap.size,0,none⟩)) rfl (by kernel_rfl) (by kernel_rfl) (by kernel_rfl) (fun _ _ _ h=>h) (Or.inl ⟨by rfl,?_⟩) ?_
      ·intro w;go_simp
      refine wpAny_take (i:=3) (v:= .pointer (some ⟨w.heap.size,0,none⟩)) rfl (by kernel_rfl) (by kernel_rfl) (by kernel_rfl) (fun _ _ _ h=>h) (Or.inl ⟨by rfl,?_⟩) ?_
      ·intro w;go_simp
      refine wpAny_ready (rs:=[4,5]) (by kernel_rfl) (by simp) ?_;refine AllReady.cons rfl (fun K C=>?_) (AllReady.cons rfl (fun K C=>?_) AllReady.nil)
      ·go_simp;refine C _ _ ?_;clear C K;refine wpAny_ready (rs:=[5]) (by kernel_rfl) (by simp) ?_;refine AllReady.cons rfl (fun K C=>?_) AllReady.nil;go_simp;refine C _ _ ?_;clear C K;refine wpAny_ready (rs:=[6]) (by kernel_rfl) (by simp) ?_;refine AllReady.cons rfl (fun K C=>?_) AllReady.nil;go_simp;refine C _ _ ?_;clear C K;refine mP 7 rfl (by kernel_rfl) ?_;simp only[iZ,fB];obtain⟨B,A⟩:∃B,(z.alloc (.cells #[.int .u32 r.fac,.int .u32 r.sev,.bool r.keep] 111)).drew=B:=⟨_,rfl⟩;have b:Below z.heap.size z B:=by rw[<-A];exact((aF _ _).alloc (aC _) _).drew
       have D:Hid (B.ownsRow (w.heap.size+1) 111 3 v acc.length (fQ acc)):=cQ (S:=fun _=>False) aj.out (aN.of_below b) (fun _ _ e=>e);have Z:Hid (B.heap[w.heap.size]?=some (.cells #[v] 106 (0,0))):=(b.block _ Y).trans X.out;have J:Hid (Below w.heap.size w B):=Below.next ai.out (aC _) b;have aa:Hid (∀j u,[Value.int .u32 r.fac,.int .u32 r.sev,.bool r.keep][j]?=some u->B.cell? ((⟨z.heap.size,0,none⟩:Addr).add j)=some u):=by
        intro j u hj;rw[<-A];exact zW z _ _ _ 111 j u hj
       have L:w.heap.size+1<=B.heap.size:=by have:=b.size;omega
       rw[A];clear A b;go_wp2_with(first
        |(at_builtin;refine wpList_append_own_at _ rfl _ _ 104 rfl (w.heap.size+1) 111 i0 (.agg #[.int .u32 0,.int .u32 0,.bool false]) 3 12 underlying104 hi ae af W rfl (by decide) _ _ _ rfl D.out ⟨z.heap.size,0,none⟩ 1 1 [.int .u32 r.fac,.int .u32 r.sev,.bool r.keep] rfl rfl aa.out (fun x G=>by simp at G;rcases G with G|G|G <;> subst G <;> rfl) (by unfold maxLen;omega) (by omega) L ?_;intro v' M c d N ab;have O:=aA c;have ac:Hid (Below w.heap.size w M):=J.out.grown d J.out.size (fun q e=>by have:=(D.out.lt q e).1;omega);have E:Hid (M.heap[w.heap.size]?=some (.cells #[v] 106 (0,0))):=(d.block _ (by omega) (fun e=>by have:=(D.out.lt _ e.symm).1;omega)).trans Z.out;obtain⟨H,a,ad⟩:∃H a,v'= .slice (some ⟨H,0,none⟩) (acc.length+1) a:=(by rcases c.2 with⟨_,h⟩|⟨H,a,_,h,_⟩;omega;exact⟨H,a,h⟩);subst ad;have t5:M.cell? ⟨w.heap.size,0,none⟩=some v:=(by simp[World.cell?,E.out]);have f5:M.frozen? ⟨w.heap.size,0,none⟩=false:=(by simp[World.frozen?,E.out]);clear c d ab N))
       go_roundw;case rel=>
        have P6:=sQ (i:=0) (.slice (some ⟨H,0,none⟩) (acc.length+1) a) E.out;refine⟨fu,acc.length+1,bh,acc++[r],.slice (some ⟨H,0,none⟩) (acc.length+1) a,rfl,aY (by simp),by omega,by simp,by omega,by omega,f.out,P6.row,?_,ac.out.trans (P6.below (aC _))⟩;have:=cQ O.out P6.kept (fun q e h=>by have:=(O.out.lt q e).1;omega);rw[show fQ (acc++[r])=fQ acc++[.int .u32 r.fac,.int .u32 r.sev,.bool r.keep] by simp[fQ],show(acc++[r]).length=acc.length+1 by simp];exact this
       case measure=>
        show bh.toArray.size<l.toArray.size;simp;exact ah
      ·go_simp;refine C _ _ ?_;clear C K;refine wpAny_ready (rs:=[4,6]) (by kernel_rfl) (by simp) ?_;refine AllReady.cons rfl (fun K C=>?_) (AllReady.cons rfl (fun K C=>?_) AllReady.nil)
       ·go_simp;refine C _ _ ?_;clear C K;refine wpAny_ready (rs:=[6]) (by kernel_rfl) (by simp) ?_;refine AllReady.cons rfl (fun K C=>?_) AllReady.nil;go_simp;refine C _ _ ?_;clear C K;refine mP 7 rfl (by kernel_rfl) ?_;simp only[iZ,fB];obtain⟨B,A⟩:∃B,(z.alloc (.cells #[.int .u32 r.fac,.int .u32 r.sev,.bool r.keep] 111)).drew=B:=⟨_,rfl⟩;have b:Below z.heap.size z B:=by rw[<-A];exact((aF _ _).alloc (aC _) _).drew
        have D:Hid (B.ownsRow (w.heap.size+1) 111 3 v acc.length (fQ acc)):=cQ (S:=fun _=>False) aj.out (aN.of_below b) (fun _ _ e=>e);have Z:Hid (B.heap[w.heap.size]?=some (.cells #[v] 106 (0,0))):=(b.block _ Y).trans X.out;have J:Hid (Below w.heap.size w B):=Below.next ai.out (aC _) b;have aa:Hid (∀j u,[Value.int .u32 r.fac,.int .u32 r.sev,.bool r.keep][j]?=some u->B.cell? ((⟨z.heap.size,0,none⟩:Addr).add j)=some u):=by
         intro j u hj;rw[<-A];exact zW z _ _ _ 111 j u hj
        have L:w.heap.size+1<=B.heap.size:=by have:=b.size;omega
        rw[A];clear A b;go_wp2_with(first
         |(at_builtin;refine wpList_append_own_at _ rfl _ _ 104 rfl (w.heap.size+1) 111 i0 (.agg #[.int .u32 0,.int .u32 0,.bool false]) 3 12 underlying104 hi ae af W rfl (by decide) _ _ _ rfl D.out ⟨z.heap.size,0,none⟩ 1 1 [.int .u32 r.fac,.int .u32 r.sev,.bool r.keep] rfl rfl aa.out (fun x G=>by simp at G;rcases G with G|G|G <;> subst G <;> rfl) (by unfold maxLen;omega) (by omega) L ?_;intro v' M c d N ab;have O:=aA c;have ac:Hid (Below w.heap.size w M):=J.out.grown d J.out.size (fun q e=>by have:=(D.out.lt q e).1;omega);have E:Hid (M.heap[w.heap.size]?=some (.cells #[v] 106 (0,0))):=(d.block _ (by omega) (fun e=>by have:=(D.out.lt _ e.symm).1;omega)).trans Z.out;obtain⟨H,a,ad⟩:∃H a,v'= .slice (some ⟨H,0,none⟩) (acc.length+1) a:=(by rcases c.2 with⟨_,h⟩|⟨H,a,_,h,_⟩;omega;exact⟨H,a,h⟩);subst ad;have t5:M.cell? ⟨w.heap.size,0,none⟩=some v:=(by simp[World.cell?,E.out]);have f5:M.frozen? ⟨w.heap.size,0,none⟩=false:=(by simp[World.frozen?,E.out]);clear c d ab N))
        go_roundw;case rel=>
         have P6:=sQ (i:=0) (.slice (some ⟨H,0,none⟩) (acc.length+1) a) E.out;refine⟨fu,acc.length+1,bh,acc++[r],.slice (some ⟨H,0,none⟩) (acc.length+1) a,rfl,aY (by simp),by omega,by simp,by omega,by omega,f.out,P6.row,?_,ac.out.trans (P6.below (aC _))⟩;have:=cQ O.out P6.kept (fun q e h=>by have:=(O.out.lt q e).1;omega);rw[show fQ (acc++[r])=fQ acc++[.int .u32 r.fac,.int .u32 r.sev,.bool r.keep] by simp[fQ],show(acc++[r]).length=acc.length+1 by simp];exact this
        case measure=>
         show bh.toArray.size<l.toArray.size;simp;exact ah
       ·go_simp;refine C _ _ ?_;clear C K;refine wpAny_ready (rs:=[4]) (by kernel_rfl) (by simp) ?_;refine AllReady.cons rfl (fun K C=>?_) AllReady.nil;go_simp;refine C _ _ ?_;clear C K;refine mP 7 rfl (by kernel_rfl) ?_;simp only[iZ,fB];obtain⟨B,A⟩:∃B,(z.alloc (.cells #[.int .u32 r.fac,.int .u32 r.sev,.bool r.keep] 111)).drew=B:=⟨_,rfl⟩;have b:Below z.heap.size z B:=by rw[<-A];exact((aF _ _).alloc (aC _) _).drew
        have D:Hid (B.ownsRow (w.heap.size+1) 111 3 v acc.length (fQ acc)):=cQ (S:=fun _=>False) aj.out (aN.of_below b) (fun _ _ e=>e);have Z:Hid (B.heap[w.heap.size]?=some (.cells #[v] 106 (0,0))):=(b.block _ Y).trans X.out;have J:Hid (Below w.heap.size w B):=Below.next ai.out (aC _) b;have aa:Hid (∀j u,[Value.int .u32 r.fac,.int .u32 r.sev,.bool r.keep][j]?=some u->B.cell? ((⟨z.heap.size,0,none⟩:Addr).add j)=some u):=by
         intro j u hj;rw[<-A];exact zW z _ _ _ 111 j u hj
        have L:w.heap.size+1<=B.heap.size:=by have:=b.size;omega
        rw[A];clear A b;go_wp2_with(first
         |(at_builtin;refine wpList_append_own_at _ rfl _ _ 104 rfl (w.heap.size+1) 111 i0 (.agg #[.int .u32 0,.int .u32 0,.bool false]) 3 12 underlying104 hi ae af W rfl (by decide) _ _ _ rfl D.out ⟨z.heap.size,0,none⟩ 1 1 [.int .u32 r.fac,.int .u32 r.sev,.bool r.keep] rfl rfl aa.out (fun x G=>by simp at G;rcases G with G|G|G <;> subst G <;> rfl) (by unfold maxLen;omega) (by omega) L ?_;intro v' M c d N ab;have O:=aA c;have ac:Hid (Below w.heap.size w M):=J.out.grown d J.out.size (fun q e=>by have:=(D.out.lt q e).1;omega);have E:Hid (M.heap[w.heap.size]?=some (.cells #[v] 106 (0,0))):=(d.block _ (by omega) (fun e=>by have:=(D.out.lt _ e.symm).1;omega)).trans Z.out;obtain⟨H,a,ad⟩:∃H a,v'= .slice (some ⟨H,0,none⟩) (acc.length+1) a:=(by rcases c.2 with⟨_,h⟩|⟨H,a,_,h,_⟩;omega;exact⟨H,a,h⟩);subst ad;have t5:M.cell? ⟨w.heap.size,0,none⟩=some v:=(by simp[World.cell?,E.out]);have f5:M.frozen? ⟨w.heap.size,0,none⟩=false:=(by simp[World.frozen?,E.out]);clear c d ab N))
        go_roundw;case rel=>
         have P6:=sQ (i:=0) (.slice (some ⟨H,0,none⟩) (acc.length+1) a) E.out;refine⟨fu,acc.length+1,bh,acc++[r],.slice (some ⟨H,0,none⟩) (acc.length+1) a,rfl,aY (by simp),by omega,by simp,by omega,by omega,f.out,P6.row,?_,ac.out.trans (P6.below (aC _))⟩;have:=cQ O.out P6.kept (fun q e h=>by have:=(O.out.lt q e).1;omega);rw[show fQ (acc++[r])=fQ acc++[.int .u32 r.fac,.int .u32 r.sev,.bool r.keep] by simp[fQ],show(acc++[r]).length=acc.length+1 by simp];exact this
        case measure=>
         show bh.toArray.size<l.toArray.size;simp;exact ah
end Go.Proofs.Z
namespace Go.Proofs.Z
open Hm Tryz Go.RowKit Go.Sort
attribute [local go_sem] cN cO
theorem XW(rs:List cF)(k:Nat)(a:k<rs.length):(fQ rs)[3*k]?=some (.int .u32 rs[k].fac)/\(fQ rs)[3*k+1]?=some (.int .u32 rs[k].sev)/\(fQ rs)[3*k+2]?=some (.bool rs[k].keep):=by
 induction rs generalizing k with
 |nil=>simp at a
 |cons r t ih=>
  have e:fQ (r::t)= .int .u32 r.fac:: .int .u32 r.sev:: .bool r.keep::fQ t:=by simp[fQ]
  rw[e];cases k with
  |zero=>simp
  |succ k=>
   have:=ih k (by simpa using a);rw[show 3*(k+1)=3*k+1+1+1 by omega];simpa using this
theorem XX(p:Nat)(f s:Int)(w:World)(h:fH f s=false):
  Calls prog 33 #[.pointer (some ⟨p,0,none⟩),.int .i64 f,.int .i64 s] w fun e a=>e= .returned (.tuple #[.bool false,.int .i64 10])/\Below w.heap.size w a:=by
 have b:Hid (∀w,Calls prog 60 #[.int .i64 f,.int .i64 s] w fun e a=>e= .returned (.bool false)/\a=w):=fun w=>by
  have:=sE f s w
  rwa [h]at this
 clear h;go_enter func33,ntmps33;go_wp2_with fail;refine(b.out _).mono ?_;rintro e c⟨rfl,rfl⟩;go_wp2;refine bB (results_tmp2 rfl _ _ _) rfl ?_;exact⟨rfl,aF _ _⟩
set_option maxRecDepth 20000 in
theorem IC(p:Nat)(rs:List cF)(v:Value)(f s:Nat)(w:World)(x:jJ w p rs v)(D:∀r∈rs,r.small)(R:f<24)(S:s<8)(U:rs.length<=1000):
  Calls prog 33 #[.pointer (some ⟨p,0,none⟩),.int .i64 f,.int .i64 s] w fun e z=>e= .returned (.tuple #[.bool (fD rs f s),.int .i64 0])/\Below w.heap.size w z:=by
 have J:Hid (∀w,Calls prog 60 #[.int .i64 f,.int .i64 s] w fun e z=>e= .returned (.bool true)/\z=w):=fun w=>by
  have:=sE f s w
  rwa [show fH (f:Int) (s:Int)=true by simp[fH];omega]at this
 have V:w.cell? ⟨p,0,none⟩=some v:=by simp[World.cell?,x.row]
 by_cases h0:rs=[]
 ·subst h0;have y:v= .slice none 0 0∨∃g b,v= .slice (some ⟨g,0,none⟩) 0 b:=by
   rcases x.own.2 with⟨h,_⟩|⟨g,b,E,h,_⟩
   ·exact .inl h
   ·exact .inr ⟨g,b,h⟩
  clear x;rcases y with rfl|⟨g,b,rfl⟩;all_goals(
   go_enter func33,ntmps33;go_wp2_with fail;refine(J.out _).mono ?_;rintro e d⟨rfl,rfl⟩;go_wp2;go_loopw [23] (fun A wr=>A= .int .i64 0/\wr=d) (fun _ _=>0)
   case atStart=>exact⟨rfl,rfl⟩
   case round=>
    obtain⟨rfl,rfl⟩:=hrel;go_wp2;refine bB (results_tmp2 rfl _ _ _) rfl ?_;exact⟨rfl,aF _ _⟩)
 ·have K:0<rs.length:=List.length_pos_iff.2 h0;obtain⟨g,b,y,L⟩:∃g b,v= .slice (some ⟨g,0,none⟩) rs.length b/\∀j u,(fQ rs)[j]?=some u->w.cell? ((⟨g,0,none⟩:Addr).add j)=some u:=by
   rcases x.own.2 with⟨_,h⟩|⟨g,b,E,h,_⟩
   ·omega
   ·exact⟨g,b,h,fun j u T=>x.own.cells (g:=g) (by rw[h];rfl) j u T⟩
  subst y;have F:=aA L;clear L x h0;go_enter func33,ntmps33;go_wp2_with fail;refine(J.out _).mono ?_;rintro e d⟨rfl,rfl⟩;go_wp2;go_loopw [23] (fun A wr=>∃k:Nat,k<=rs.length/\A= .int .i64 k/\fD rs f s=fD (rs.drop k) f s/\Below d.heap.size d wr) (fun A _=>rs.length-(intOf A).toNat)
  case atStart=>exact⟨0,by omega,rfl,rfl,aF _ _⟩
  case round=>
   obtain⟨k,W,rfl,y,M⟩:=hrel;have G:=aA y;have m:=aA M;clear y M;by_cases n:k<rs.length
   ·have H:(k:Int)<(rs.length:Int):=by omega
    obtain⟨N,O,P⟩:=XW rs k n;have b0:=F.out _ _ N;have b1:=F.out _ _ O;have b2:=F.out _ _ P;have B:∀j,(⟨g,0,none⟩:Addr).add j=⟨g,j,none⟩:=fun j=>by simp[Addr.add];exact fun e=>e.symm
    rw[B]at b0 b1 b2;have o:g<d.heap.size:=block_lt_of_cell b0;have Q:wr.cell? ⟨g,3*k,none⟩=some (.int .u32 rs[k].fac):=(m.out.cell (p:=⟨g,3*k,none⟩) o).trans b0;have d1:wr.cell? ⟨g,3*k+1,none⟩=some (.int .u32 rs[k].sev):=(m.out.cell (p:=⟨g,3*k+1,none⟩) o).trans b1;have d2:wr.cell? ⟨g,3*k+2,none⟩=some (.bool rs[k].keep):=(m.out.cell (p:=⟨g,3*k+2,none⟩) o).trans b2;have q:=D rs[k] (List.getElem_mem n);have I:Hid (rs.drop k=rs[k]::rs.drop (k+1)):=eE n;generalize rs[k]=r at Q d1 d2 q I;have l:Hid (∀w,Calls prog 61 #[.agg #[.int .u32 r.fac,.int .u32 r.sev,.bool r.keep],.int .i64 f,.int .i64 s] w fun e z=>e= .returned (.bool (r.fits f s))/\Below w.heap.size w z):=fun w=>XJ r.fac r.sev r.keep f s q.1 q.2 R S w;clear N O P b0 b1 b2;rw[Nat.mul_comm]at Q d1 d2;cases a:r.fits f s
    ·have i:Hid (fD rs f s=fD (rs.drop (k+1)) f s):=by show _=_;rw[G.out,I.out,fD,aB (by simp[a])]
     rw[a]at l;clear a;go_wp2_with fail;refine(l.out _).mono ?_;rintro e C⟨rfl,c⟩;have h3:C.cell? ⟨wr.heap.size,2,none⟩=some (.bool r.keep):=by
      refine(c.cell (p:=⟨wr.heap.size,2,none⟩) (by simp)).trans ?_;unfold World.cell?;rw[show(⟨wr.heap.size,2,none⟩:Addr).block=wr.heap.size from rfl,heap_alloc_new];rfl
     have t:Hid (Below d.heap.size d C):=Below.next (m.out.alloc m.out.size _) (aC _) c;clear c;go_wp2;go_roundw;case rel=>exact⟨k+1,by omega,aY (by simp),i.out,t.out⟩
     case measure=>simp[intOf];omega
    ·have i:Hid (fD rs f s=r.keep):=by show _=_;rw[G.out,I.out,fD,aD a]
     rw[a]at l;clear a;go_wp2_with fail;refine(l.out _).mono ?_;rintro e C⟨rfl,c⟩;have h3:C.cell? ⟨wr.heap.size,2,none⟩=some (.bool r.keep):=by
      refine(c.cell (p:=⟨wr.heap.size,2,none⟩) (by simp)).trans ?_;unfold World.cell?;rw[show(⟨wr.heap.size,2,none⟩:Addr).block=wr.heap.size from rfl,heap_alloc_new];rfl
     have t:Hid (Below d.heap.size d C):=Below.next (m.out.alloc m.out.size _) (aC _) c;clear c;go_wp2;refine bB (results_tmp2 rfl _ _ _) rfl ?_;exact⟨by rw[i.out];rfl,t.out⟩
   ·have H:¬(k:Int)<(rs.length:Int):=by omega
    have i:Hid (fD rs f s=true):=by show _=_;rw[G.out,gH (by omega)];rfl
    go_wp2;refine bB (results_tmp2 rfl _ _ _) rfl ?_;exact⟨by rw[i.out];rfl,m.out⟩
end Go.Proofs.Z

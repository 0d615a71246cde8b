/- Pressed by program out of Eg Eh. -/
import Derived.Test.YtdlhbmncbmconaaGreatDoorA32
namespace Go.Hm
theorem o9{r:cF}{q:rD}{f s:Nat}(h:mU r q)(b:f<24)(c:s<8)(a:f∉q.facs∨¬(q.lo<=(s:Int)/\(s:Int)<=q.hi)):r.fits f s=false:=by
 cases d:r.fits f s with
 |false=>rfl
 |true=>
  have:=(h.2.2 f s b c).1 d;rcases a with a|a
  ·exact absurd this.1 a
  ·exact absurd this.2 a
theorem q9{r:cF}{q:rD}{f s:Nat}(h:mU r q)(a:f<24)(b:s<8)(h1:f∈q.facs)(h2:q.lo<=(s:Int))(h3:(s:Int)<=q.hi):r.fits f s=true:=(h.2.2 f s a b).2 ⟨h1,h2,h3⟩
theorem r9{rs:List cF}{f s k:Nat}{r:cF}(h:rs[k]?=some r)(a:r.fits f s=false):fD (rs.drop k) f s=fD (rs.drop (k+1)) f s:=by
 obtain⟨b,c⟩:=iY.1 h;rw[eE b,fD,c,aB (by rw[a];decide)]
theorem z6{rs:List cF}{f s k:Nat}{r:cF}(h:rs[k]?=some r)(a:r.fits f s=true):fD (rs.drop k) f s=r.keep:=by
 obtain⟨b,c⟩:=iY.1 h;rw[eE b,fD,c,aD a]
end Go.Hm
namespace Go.Proofs.Z
open Hm Hw Tryz Go.RowKit Go.Sort
attribute [local go_sem] dY fR fS
theorem AQ{w:World}{b e n size:Nat}{v:Value}{xs:List Value}(h:w.ownsRow b e size v n xs):∃a c,v= .slice a n c:=by
 rcases h.2 with⟨rfl,h0⟩|⟨g,c,d,rfl,_⟩
 ·exact⟨none,0,by rw[h0]⟩
 ·exact⟨_,_,rfl⟩
structure jV where
 v:Value
 q:rD
def lQ(xs:List jV):List Value:=xs.flatMap fun x=>[x.v,.int .i64 x.q.lo,.int .i64 x.q.hi,.bool x.q.keep]
structure fM(w:World)(p:Nat)(rs:List cF)(xs:List jV)(v:Value):Prop where
 row:w.heap[p]?=some (.cells #[v] 219 (0,0))
 own:w.ownsRow (p+1) 222 4 v xs.length (lQ xs)
 each:∀x∈xs,w.ownsRow (p+1) 3 1 x.v x.q.facs.length (x.q.facs.map mV)
 len:rs.length=xs.length
 alike:∀(k:Nat) r x,rs[k]?=some r->xs[k]?=some x->mU r x.q
theorem JN:∀(xs:List jV)(k:Nat)(x:jV),xs[k]?=some x->(lQ xs)[4*k]?=some x.v/\(lQ xs)[4*k+1]?=some (.int .i64 x.q.lo)/\(lQ xs)[4*k+2]?=some (.int .i64 x.q.hi)/\(lQ xs)[4*k+3]?=some (.bool x.q.keep)
 |[],k,x,h=>by simp at h
 |y::ys,0,x,h=>by
  simp at h;subst h;exact⟨rfl,rfl,rfl,rfl⟩
 |y::ys,k+1,x,h=>by
  have:=JN ys k x (by simpa using h);have e:∀j,(lQ (y::ys))[j+4]?=(lQ ys)[j]?:=fun j=>by simp[lQ]
  rw[show 4*(k+1)=4*k+4 by omega,show 4*k+4+1=(4*k+1)+4 by omega,show 4*k+4+2=(4*k+2)+4 by omega,show 4*k+4+3=(4*k+3)+4 by omega,e,e,e,e];exact this
theorem z7(p:Nat)(f s:Int)(w:World)(h:fH f s=false):Calls prog 118 #[.pointer (some ⟨p,0,none⟩),.int .i64 f,.int .i64 s] w fun e c=>e= .returned (.tuple #[.bool false,.int .i64 10])/\c=w:=by
 rcases(by
  unfold fH at h;simp at h;omega:f<0∨(0<=f/\23<f)∨(0<=f/\f<=23/\s<0)∨(0<=f/\f<=23/\0<=s/\7<s))with k|⟨k0,k⟩|⟨k0,k1,k⟩|⟨k0,k1,k2,k⟩
 ·clear h;go_enter func118,ntmps118;go_wp2;go_ret2;exact⟨rfl,rfl⟩
 ·have a:¬f<0:=by omega
  clear h k0;go_enter func118,ntmps118;go_wp2;go_ret2;exact⟨rfl,rfl⟩
 ·have a:¬f<0:=by omega
  have b:¬23<f:=by omega
  clear h k0 k1;go_enter func118,ntmps118;go_wp2;go_ret2;exact⟨rfl,rfl⟩
 ·have a:¬f<0:=by omega
  have b:¬23<f:=by omega
  have d:¬s<0:=by omega
  clear h k0 k1 k2;go_enter func118,ntmps118;go_wp2;go_ret2;exact⟨rfl,rfl⟩
set_option maxRecDepth 20000 in
set_option maxHeartbeats 4000000 in
theorem JO(p:Nat)(rs:List cF)(xs:List jV)(v:Value)(f s:Nat)(hf:f<24)(hs:s<8)(hn:rs.length<=1000)(w:World)(L:fM w p rs xs v):
  Calls prog 118 #[.pointer (some ⟨p,0,none⟩),.int .i64 f,.int .i64 s] w fun e w'=>e= .returned (.tuple #[.bool (fD rs f s),.int .i64 0])/\Below w.heap.size w w':=by
 obtain⟨N,W⟩:∃N,fD rs f s=N:=⟨_,rfl⟩;rw[W];have HN:=show Hid _ from W;clear W;have c0:w.cell? ⟨p,0,none⟩=some v:=aS _ _ _ _ _ _ L.row;have al:=L.len;have M:=show Hid _ from L;obtain⟨ad,X,rfl⟩:=AQ L.own;clear L;have f0:¬(f:Int)<0:=by omega
 have f1:¬23<(f:Int):=by omega
 have s0:¬(s:Int)<0:=by omega
 have s1:¬7<(s:Int):=by omega
 have Y:p<w.heap.size:=(aM.1 M.out.row).1;go_enter func118,ntmps118;go_wp2;go_loopw [8,9,10] (fun s8 _ _ wr=>∃i:Nat,i<=xs.length/\s8= .int .i64 i/\N=fD (rs.drop i) f s/\Below w.heap.size w wr) (fun s8 _ _ _=>xs.length-(intOf s8).toNat)
 case atStart=>exact⟨0,dM _,rfl,HN.out.symm,aF _ _⟩
 case round=>
  obtain⟨i,hi,rfl,Z,hb⟩:=hrel;have T:Hid (N=fD (rs.drop i) f s):=Z;have H:Hid (Below w.heap.size w wr):=hb;have d0:wr.cell? ⟨p,0,none⟩=some (.slice ad xs.length X):=(hb.cell (p:=⟨p,0,none⟩) Y).trans c0;clear Z hb;by_cases aa:i<xs.length;case neg=>
   have ab:¬(i:Int)<(xs.length:Int):=by omega
   have O:Hid (N=true):=by
    show _=_;rw[T.out,List.drop_eq_nil_of_le (by omega)];rfl
   go_wp2;go_ret2;exact⟨by rw[O.out];rfl,H.out⟩
  have ab:(i:Int)<(xs.length:Int):=by omega
  obtain⟨x,U⟩:∃x,xs[i]?=some x:=⟨_,dP aa⟩;obtain⟨r,t⟩:∃r,rs[i]?=some r:=⟨_,dP (by omega)⟩;have D:=M.out.alike i r x t U;have n:=M.out.each x (fG U);obtain⟨g,hg,b⟩:∃g,ad=some ⟨g,0,none⟩/\∀j u,(lQ xs)[j]?=some u->wr.cell? ⟨g,j,none⟩=some u:=by
   rcases M.out.own.2 with⟨h,h0⟩|⟨g,P,ac,h,_⟩
   ·omega
   ·refine⟨g,by cases h;rfl,fun j u hj=>?_⟩;have h1:=M.out.own.cells (g:=g) (by rw[h];rfl) j u hj;rw[show(⟨g,0,none⟩:Addr).add j=⟨g,j,none⟩ by simp[Addr.add];exact fun e=>e.symm]at h1;exact(H.out.cell (p:=⟨g,j,none⟩) (block_lt_of_cell h1)).trans h1
  subst hg;obtain⟨e0,e1,e2,e3⟩:=JN xs i x U;have a0:=b _ _ e0;have a1:=b _ _ e1;have a2:=b _ _ e2;have a3:=b _ _ e3;rw[Nat.mul_comm]at a0 a1 a2 a3;have Q:Hid (r.fits f s=false->N=fD (rs.drop (i+1)) f s):=fun h=>T.out.trans (r9 t h);have B:Hid (r.fits f s=true->N=r.keep):=fun h=>T.out.trans (z6 t h);clear b e0 e1 e2 e3 t U T;have z:=show Hid _ from D;have d:r.keep=x.q.keep:=D.1;have l:=show Hid _ from n;clear D n;obtain⟨xv,⟨F,lo,c,I⟩⟩:=x;dsimp only at a0 a1 a2 a3 z d l;obtain⟨V,fc,rfl⟩:=gJ l.out;have ae:F.length<=maxLen:=by
   rcases l.out.2 with⟨_,h0⟩|⟨_,_,_,_,_,_,h1,h2,_⟩
   ·omega
   ·omega
  unfold maxLen at ae;have hz:=H.out.size;go_upto_block 2 with(first
   |(refine bI rfl _ _ _ rfl rfl wr.heap.size (cZ (.slice V F.length fc) lo c I) rfl rfl _ _ (heap_alloc_new _ _) gB rfl rfl ?_;intro C p2;have P2:Hid (aI (wr.alloc _) _ _ _ C):=p2;clear p2)
   |fail)
  have a:=P2.out.row;unfold cZ at a;have m0:C.cell? ⟨wr.heap.size,0,none⟩=some (.slice V F.length fc):=aS _ _ _ _ _ _ a;have m1:C.cell? ⟨wr.heap.size,1,none⟩=some (.int .i64 lo):=aS _ _ _ _ _ _ a;have m2:C.cell? ⟨wr.heap.size,2,none⟩=some (.int .i64 c):=aS _ _ _ _ _ _ a;have m3:C.cell? ⟨wr.heap.size,3,none⟩=some (.bool I):=aS _ _ _ _ _ _ a;have E:Hid (Below w.heap.size w C):=(H.out.alloc H.out.size _).trans (P2.out.below H.out.size);clear a P2 a0 a1 a2 a3 d0 c0;have af:Hid (f∈F->lo<=(s:Int)->(s:Int)<=c->N=I):=fun h1 h2 h3=>(B.out (q9 (q:=⟨F,lo,c,I⟩) z.out hf hs h1 h2 h3)).trans d;have ag:Hid ((f∉F∨¬(lo<=(s:Int)/\(s:Int)<=c))->N=fD (rs.drop (i+1)) f s):=fun h=>Q.out (o9 (q:=⟨F,lo,c,I⟩) z.out hf hs h);clear B Q d z;have ah:Hid (∀k y,F[k]?=some y->∃A,V=some ⟨A,0,none⟩/\C.cell? ⟨A,k,none⟩=some (.int .i64 (y:Nat))):=fun k y J=>by
   rcases l.out.2 with⟨h,h0⟩|⟨A,P,ac,h,_⟩
   ·have:=(iY.1 J).1;omega
   ·refine⟨A,by cases h;rfl,?_⟩;have R:w.ownsRow (p+1) 3 1 (.slice V F.length fc) F.length (F.map mV):=l.out;have h1:=R.cells (g:=A) (by rw[h];rfl) k (mV y) (by simp[J]);rw[show(⟨A,0,none⟩:Addr).add k=⟨A,k,none⟩ by simp[Addr.add];exact fun e=>e.symm]at h1;exact(E.out.cell (p:=⟨A,k,none⟩) (block_lt_of_cell h1)).trans h1
  clear l;go_wp2;go_loopw [10] (fun s10 wq=>∃k:Nat,k<=F.length/\s10= .int .i64 k/\(f∉F.take k∨¬(lo<=(s:Int)/\(s:Int)<=c))/\wq=C) (fun s10 _=>F.length-(intOf s10).toNat)
  case atStart=>exact⟨0,dM _,rfl,.inl (by simp),rfl⟩
  case round=>
   obtain⟨k,Z,rfl,S,G⟩:=hrel;have G:=G.symm;subst G;have HO:=show Hid _ from S;clear S;by_cases ai:k<F.length;case neg=>
    have aj:¬(k:Int)<(F.length:Int):=by omega
    have O:Hid (N=fD (rs.drop (i+1)) f s):=ag.out (by
     have:=HO.out
     rwa [fV (by omega)]at this)
    go_wp2;go_roundw;case rel=>exact⟨i+1,by omega,aY (by simp),O.out,E.out⟩
    case measure=>simp[intOf];omega
   have aj:(k:Int)<(F.length:Int):=by omega
   obtain⟨y,J⟩:∃y,F[k]?=some y:=⟨_,dP ai⟩;obtain⟨A,rfl,am⟩:=ah.out k y J;have HY:=show Hid _ from J;clear J;by_cases m:y=f
   ·have ak:((y:Int)==(f:Int))=true:=dZ.2 (by omega);by_cases h1:lo<=(s:Int)
    ·by_cases h2:(s:Int)<=c
     ·have O:Hid (N=I):=af.out (by rw[<-m];exact fG HY.out) h1 h2;clear m;go_wp2;go_ret2;exact⟨by rw[O.out];rfl,E.out⟩
     ·have o:Hid (f∉F.take (k+1)∨¬(lo<=(s:Int)/\(s:Int)<=c)):= .inr (fun h=>h2 h.2);clear m;go_wp2;go_roundw;case rel=>exact⟨k+1,by omega,aY (by simp),o.out,by first|rfl|trivial⟩
      case measure=>simp[intOf];omega
    ·have o:Hid (f∉F.take (k+1)∨¬(lo<=(s:Int)/\(s:Int)<=c)):= .inr (fun h=>h1 h.1);clear m;go_wp2;go_roundw;case rel=>exact⟨k+1,by omega,aY (by simp),o.out,by first|rfl|trivial⟩
     case measure=>simp[intOf];omega
   ·have ak:((y:Int)==(f:Int))=false:=bG.2 (by omega);have o:Hid (f∉F.take (k+1)∨¬(lo<=(s:Int)/\(s:Int)<=c)):=by
     show _∨_;rcases HO.out with h|h
     ·left;rw[pS,HY.out];intro K;rcases jM.1 K with K|K
      ·exact h K
      ·simp at K;exact m K.symm
     ·exact .inr h
    clear m;go_wp2;go_roundw;case rel=>exact⟨k+1,by omega,aY (by simp),o.out,by first|rfl|trivial⟩
    case measure=>simp[intOf];omega
end Go.Proofs.Z
namespace Go.Hm
theorem z8{fu n:Nat}{acc:List cF}(a:0<fu):gX fu n [] acc= .ok acc:=by
 match fu,a with
 |k+1,_=>rw[gX,aD rfl]
theorem JP{fu n:Nat}{l:List UInt8}{acc:List cF}(a:0<fu)(b:¬l=[])(h:n=12∨(bE 10 l).2.2=false):gX fu n l acc= .error n:=by
 match fu,a with
 |k+1,_=>rw[gX,aB b,aD h]
theorem A0{fu n:Nat}{l:List UInt8}{acc:List cF}(a:0<fu)(b:¬l=[])(h:iD (bE 10 l).1=none):gX fu n l acc= .error n:=by
 match fu,a with
 |k+1,_=>
  rw[gX,aB b];split
  ·rfl
  ·rw[h]
theorem A7{fu n:Nat}{l:List UInt8}{acc:List cF}{r:cF}(a:0<fu)(b:¬l=[])(h:¬(n=12∨(bE 10 l).2.2=false))(c:iD (bE 10 l).1=some r):gX fu n l acc=gX (fu-1) (n+1) (bE 10 l).2.1 (acc++[r]):=by
 match fu,a with
 |k+1,_=>
  rw[gX,aB b,aB h,c];rfl
end Go.Hm
namespace Go.Proofs.Z
open Hm Hw Tryz Go.RowKit Go.Sort
attribute [local go_sem] dY fR fS
theorem nS{L:Array Bool}{i:Nat}(h:i<L.size):L.getD i true=L.getD i false:=by
 simp[Array.getD_eq_getD_getElem?,h]
theorem uH{L:Array Bool}{i:Nat}(h:i<L.size):(L.setIfInBounds i true).getD i false=true:=by
 simp[Array.getD_eq_getD_getElem?,h]
structure kW(V:Nat->Value)(B:World)(O:Obj)(G:Value->World->Prop)(P:Value->World->World->Prop)(L:Array Bool)(X:Nat->Value)(w':World):Prop where
 sz:L.size=11
 f:∀i,i≠6->i≠7->i≠10->L.getD i false=true->X i=V i
 a:L.getD 6 false=false->w'=B
 b:L.getD 6 false=true->X 6= .slice (some ⟨B.heap.size,0,none⟩) 1 1
 c:L.getD 6 false=true->L.getD 7 false=false->w'=B.alloc O
 d:L.getD 7 false=true->L.getD 10 false=false->G (X 7) w'
 e:L.getD 10 false=true->∃w5,G (X 7) w5/\P (X 7) w5 w'
 o6:L.getD 6 false=true->L.getD 5 false=true
 o7:L.getD 7 false=true->L.getD 6 false=true/\L.getD 4 false=true
 o10:L.getD 10 false=true->L.getD 7 false=true
variable {V : Nat → Value} {B : World} {O : Obj} {G : Value → World → Prop} {P : Value → World → World → Prop}
theorem qE(i:Nat):(Array.replicate 11 false).getD i false=false:=by
 cases h:(Array.replicate 11 false).getD i false with
 |false=>rfl
 |true=>exact(wF h).elim
theorem kW.start{X:Nat->Value}:kW V B O G P (Array.replicate 11 false) X B:=
 ⟨by simp,(fun i _ _ _ h=>by rw[qE]at h;cases h),fun _=>rfl,(fun h=>by rw[qE]at h;cases h),(fun h=>by rw[qE]at h;cases h),(fun h=>by rw[qE]at h;cases h),(fun h=>by rw[qE]at h;cases h),(fun h=>by rw[qE]at h;cases h),(fun h=>by rw[qE]at h;cases h),(fun h=>by rw[qE]at h;cases h)⟩
theorem kW.step{L:Array Bool}{X:Nat->Value}{g:World}(h:kW V B O G P L X g)(i:Nat)(hi:i<11)(h6:i≠6)(h7:i≠7)(h10:i≠10){y:Value}(k:y=V i):kW V B O G P (L.setIfInBounds i true) (cC X i y) g where
 sz:=by simpa using h.sz
 f j a b c e:=by
  unfold cC;split
  ·next hj=>rw[hj];exact k
  ·next hne=>exact h.f j a b c (by rwa [dR hne]at e)
 a e:=h.a (by rwa [dR (Ne.symm h6)]at e)
 b e:=by rw[dR (Ne.symm h6)]at e;unfold cC;rw[aB (Ne.symm h6)];exact h.b e
 c e1 e2:=by rw[dR (Ne.symm h6)]at e1;rw[dR (Ne.symm h7)]at e2;exact h.c e1 e2
 d e1 e2:=by rw[dR (Ne.symm h7)]at e1;rw[dR (Ne.symm h10)]at e2;unfold cC;rw[aB (Ne.symm h7)];exact h.d e1 e2
 e e1:=by rw[dR (Ne.symm h10)]at e1;unfold cC;rw[aB (Ne.symm h7)];exact h.e e1
 o6 e:=by
  rw[dR (Ne.symm h6)]at e;by_cases q:5=i
  ·subst q;exact uH (by rw[h.sz];omega)
  ·rw[dR q];exact h.o6 e
 o7 e:=by
  rw[dR (Ne.symm h7)]at e;refine⟨by rw[dR (Ne.symm h6)];exact(h.o7 e).1,?_⟩;by_cases q:4=i
  ·subst q;exact uH (by rw[h.sz];omega)
  ·rw[dR q];exact(h.o7 e).2
 o10 e:=by rw[dR (Ne.symm h10)]at e;rw[dR (Ne.symm h7)];exact h.o10 e
theorem JQ{b:Bool}(h:¬b=true):b=false:=by cases b;rfl;exact absurd rfl h
theorem kW.build{L:Array Bool}{X:Nat->Value}{g:World}(h:kW V B O G P L X g)(h6:L.getD 6 false=false)(h5:L.getD 5 false=true):kW V B O G P (L.setIfInBounds 6 true) (cC X 6 (.slice (some ⟨g.heap.size,0,none⟩) 1 1)) (g.alloc O) where
 sz:=by simpa using h.sz
 f j a b c e:=by unfold cC;rw[aB a];exact h.f j a b c (by rwa [dR a]at e)
 a e:=by rw[uH (by rw[h.sz];omega)]at e;cases e
 b _:=by unfold cC;rw[aD rfl,h.a h6]
 c _ _:=by rw[h.a h6]
 d e1 _:=by rw[dR (by decide)]at e1;have:=(h.o7 e1).1;rw[h6]at this;cases this
 e e1:=by rw[dR (by decide)]at e1;have:=(h.o7 (h.o10 e1)).1;rw[h6]at this;cases this
 o6 _:=by rw[dR (by decide)];exact h5
 o7 e:=by rw[dR (by decide)]at e;have:=(h.o7 e).1;rw[h6]at this;cases this
 o10 e:=by rw[dR (by decide)]at e⊢;exact h.o10 e
theorem kW.app{L:Array Bool}{X:Nat->Value}{i g:World}{v':Value}(h:kW V B O G P L X i)(h7:L.getD 7 false=false)(h4:L.getD 4 false=true)(h6:L.getD 6 false=true)(k:G v' g):kW V B O G P (L.setIfInBounds 7 true) (cC X 7 v') g where
 sz:=by simpa using h.sz
 f j a b c e:=by unfold cC;rw[aB b];exact h.f j a b c (by rwa [dR b]at e)
 a e:=by rw[dR (by decide),h6]at e;cases e
 b e:=by unfold cC;rw[aB (by decide)];exact h.b h6
 c _ e:=by rw[uH (by rw[h.sz];omega)]at e;cases e
 d _ _:=by unfold cC;rw[aD rfl];exact k
 e e1:=by rw[dR (by decide)]at e1;have:=h.o10 e1;rw[h7]at this;cases this
 o6 e:=by rw[dR (by decide)]at e⊢;exact h.o6 e
 o7 _:=⟨by rw[dR (by decide)];exact h6,by rw[dR (by decide)];exact h4⟩
 o10 e:=by rw[dR (by decide)]at e;have:=h.o10 e;rw[h7]at this;cases this
theorem kW.store{L:Array Bool}{X:Nat->Value}{g i:World}(h:kW V B O G P L X g)(h10:L.getD 10 false=false)(h7:L.getD 7 false=true)(k:P (X 7) g i):kW V B O G P (L.setIfInBounds 10 true) X i where
 sz:=by simpa using h.sz
 f j a b c e:=h.f j a b c (by rwa [dR c]at e)
 a e:=by rw[dR (by decide),(h.o7 h7).1]at e;cases e
 b e:=h.b (h.o7 h7).1
 c _ e:=by rw[dR (by decide),h7]at e;cases e
 d _ e:=by rw[uH (by rw[h.sz];omega)]at e;cases e
 e _:=⟨g,h.d h7 h10,k⟩
 o6 e:=by rw[dR (by decide)]at e⊢;exact h.o6 e
 o7 e:=by rw[dR (by decide)]at e;exact⟨by rw[dR (by decide)];exact(h.o7 e).1,by rw[dR (by decide)];exact(h.o7 e).2⟩
 o10 _:=by rw[dR (by decide)];exact h7
theorem A8{P:Program}{o:Oper}{a:Act}{w:World}{K:Act->World->Prop}{Q:Exit->Act->World->Prop}(c:TypeId)(x y:Operand)(j:o.op= .store c x y)(k:o.dst=none)(g i:Nat)(v:Value)(l:a.eval x= .pointer (some ⟨g,i,none⟩))(m:a.eval y=v)(t:TypeId)(old b:Array Value)(e:w.heap[g]?=some (.cells old t (0,0)))(hi:(P.info? c).map (·.size)=some 1)(d:i<old.size)(h1:v.oneCell'=true)(n:old.setIfInBounds i v=b)(h:∀f,aI w g t b f->K a f):Oper.wp P o a w K Q:=by
 subst n;unfold Oper.wp execOp;simp only[j,l,m,Instr.storeAt,Instr.sureAddr,Sem.run_bind,Sem.run_pure,Result.andThen_ok,CZ w g i t c old v e hi d h1];have:=h _ (mO e (old.setIfInBounds i v));show K (a.put o.dst undef) _;rw[k];exact this
theorem A9:(prog.info? 222).map (fun i=>(i.zero,i.size,i.bytes))=some (some (.agg #[.slice none 0 0,.int .i64 0,.int .i64 0,.bool false]),4,48):=by kernel_rfl
theorem B0:(prog.info? 217).map (·.size)=some 1:=by kernel_rfl
def gM(p:Nat)(sl:Value)(cs:Array Value):Nat->Value
 |3=> .pointer (some ⟨p,0,none⟩)
 |4=>sl
 |5=> .agg cs
 |9=> .pointer (some ⟨p,0,none⟩)
 | _=> .pointer (some ⟨p,0,none⟩)
theorem B1(w:World)(x y z u:Value)(t:TypeId):∀j s,[x,y,z,u][j]?=some s->(w.alloc (.cells #[x,y,z,u] t)).cell? ((⟨w.heap.size,0,none⟩:Addr).add j)=some s:=by
 intro j s a;match j,a with
 |0,a=>simp at a;subst a;simp[Addr.add]
 |1,a=>simp at a;subst a;simp[Addr.add]
 |2,a=>simp at a;subst a;simp[Addr.add]
 |3,a=>simp at a;subst a;simp[Addr.add]
theorem B2{T:Array Value}{i:Nat}{v:Value}(h:T[i]?=some v):T.setIfInBounds i v=T:=by
 obtain⟨hi,a⟩:=aM.1 h;apply Array.ext
 ·simp
 ·intro k h1 h2;rw[Array.getElem_setIfInBounds];split
  ·next e=>subst e;exact a.symm
  ·rfl
theorem JR(T:Array Value)(X:Nat->Value):∀a:List (Nat×Nat),(∀s∈a,T[s.1]?=some (X s.2))->T=eD T a X
 |[],_=>rfl
 |s::r,h=>by
  unfold eD;rw[<-JR T X r (fun s b=>h s (List.mem_cons_of_mem _ b)),B2 (h s List.mem_cons_self)]
theorem B3{T:Array Value}{i:Nat}(h:i<T.size):T[i]?=some (T.getD i undef):=by simp[Array.getD,h]
theorem B4(T:Array Value)(h:decide (57<T.size)=true):T=eD T [(48,0),(49,1),(50,2),(51,3),(52,4),(53,5),(54,6),(55,7),(56,8),(57,9)] (fun k=>T.getD (48+k) undef):=by
 have h:=of_decide_eq_true h;refine JR T _ _ (fun s a=>?_);simp only[jY,List.not_mem_nil,or_false]at a;rcases a with rfl|rfl|rfl|rfl|rfl|rfl|rfl|rfl|rfl|rfl <;> exact B3 (by omega)
theorem B5{w:World}{b d e size n:Nat}{v:Value}{xs:List Value}(h:w.ownsRow b e size v n xs)(f:d<=b):w.ownsRow d e size v n xs:=by
 refine⟨h.1,?_⟩;rcases h.2 with h|⟨g,a,c,rfl,i,rest⟩
 ·exact .inl h
 ·exact .inr ⟨g,a,c,rfl,by omega,rest⟩
theorem B6{a:Value}{lo hi:Int}{b:Bool}(h:a.oneCell'=true):(cZ a lo hi b).toList.all (·.oneCell')=true:=by
 unfold cZ;show(a.oneCell'&&_)=true;rw[h];rfl
theorem B7(xs:List jV)(x:jV):lQ (xs++[x])=lQ xs++[x.v,.int .i64 x.q.lo,.int .i64 x.q.hi,.bool x.q.keep]:=by simp[lQ]
theorem fM.grow{b j l:World}{p:Nat}{rs:List cF}{xs:List jV}{v v':Value}{x:jV}{r:cF}{O:Obj}(h:fM b p rs xs v)(u:b.ownsRow (p+1) 3 1 x.v x.q.facs.length (x.q.facs.map mV))(m:mU r x.q)(c:j.ownsRow (p+1) 222 4 v' (xs.length+1) (lQ xs++[x.v,.int .i64 x.q.lo,.int .i64 x.q.hi,.bool x.q.keep]))(w:(b.drew.alloc O).grownBy j v.ownBlock)(n:aI j p 219 #[v'] l):fM l p (rs++[r]) (xs++[x]) v':=by
 have z:aN (fun k=>some k=v.ownBlock) b j:=(aN.of_below (S:=fun k=>some k=v.ownBlock) (((aF b.heap.size b).drew).alloc (aC _) O)).trans (aN.of_grown w) (fun _ _ h=>h);have o:aN (fun k=>some k=v.ownBlock∨k=p) b l:=(z.mono (fun _ _ h=> .inl h)).trans n.kept (fun _ _ h=> .inr h);have g:∀y:jV,b.ownsRow (p+1) 3 1 y.v y.q.facs.length (y.q.facs.map mV)->l.ownsRow (p+1) 3 1 y.v y.q.facs.length (y.q.facs.map mV):=fun y a=>cQ a o (fun k e d=>by
  rcases d with d|d
  ·obtain⟨C,s⟩:=dN a e;obtain⟨D,i⟩:=dN h.own d.symm;rw[s]at i;cases i
  ·have:=a.lt k e;omega)
 refine⟨n.row,?_,?_,by simp[h.len],?_⟩
 ·rw[B7,dL];exact cQ c n.kept (fun k e d=>by have:=c.lt k e;omega)
 ·intro y a;rcases jM.1 a with a|a
  ·exact g y (h.each y a)
  ·simp at a;subst a;exact g y u
 ·intro k A y f a;by_cases d:k<rs.length
  ·rw[List.getElem?_append_left d]at f;rw[List.getElem?_append_left (by have:=h.len;omega)]at a;exact h.alike k A y f a
  ·have t:k=rs.length:=by
    have:=(iY.1 f).1;simp at this;omega
   subst t;rw[tH (aC _)]at f;rw[tH (by have:=h.len;omega),<-h.len]at a;simp at f a;subst f a;exact m
def B8(r:Except Nat (List cF))(w:World)(e:Ending)(w':World):Prop:=match r with
 | .error n=>e= .returned (.tuple #[.pointer none,.int .i64 11,.int .i64 n])
 | .ok rs=>e= .returned (.tuple #[.pointer (some ⟨w.heap.size,0,none⟩),.int .i64 0,.int .i64 0])/\∃xs v,fM w' w.heap.size rs xs v
theorem fM.next{w b:World}{p:Nat}{rs:List cF}{xs:List jV}{v:Value}(h:fM w p rs xs v)(a:Below w.heap.size w b):fM b p rs xs v:=
 ⟨(a.block _ (aM.1 h.row).1).trans h.row,cQ (S:=fun _=>False) h.own (aN.of_below a) (fun _ _ e=>e),fun x c=>cQ (S:=fun _=>False) (h.each x c) (aN.of_below a) (fun _ _ e=>e),h.len,h.alike⟩
theorem B9(l:List UInt8)(a:400<l.length)(b:l.length<=1000000000000000)(w:World):Calls prog 108 #[.string ⟨l.toArray⟩] w fun e c=>e= .returned (.tuple #[.pointer none,.int .i64 1,.int .i64 0])/\c=w:=by
 have d:(400:Int)<(l.length:Int):=by omega
 clear a;go_enter func108,ntmps108;go_wp2;go_ret3;exact⟨rfl,rfl⟩
set_option maxRecDepth 20000 in
set_option maxHeartbeats 8000000 in
theorem JS(l0:List UInt8)(J:l0.length<=400)(w:World):Calls prog 108 #[.string ⟨l0.toArray⟩] w fun e w'=>Below w.heap.size w w'/\B8 (nC l0) w e w':=by
 obtain⟨N,hN⟩:∃N,nC l0=N:=⟨_,rfl⟩;rw[hN];have ar:Hid (N=gX (l0.length+1) 0 l0 []):=hN.symm;clear hN;have h':¬(400:Int)<(l0.length:Int):=by omega
 have FI:Hid (∀l:List UInt8,l.length<=400->∀w,Calls prog 151 #[.string ⟨l.toArray⟩,.int .u8 10] w fun e w'=>e= .returned (.int .i64 (gL 10 l))/\w'=w):=fun l hl w=>wH l (by omega) 10 w;have RU:Hid (∀l:List UInt8,l.length<=400->∀w,Calls prog 152 #[.string ⟨l.toArray⟩] w fun e w'=>nR (iD l) w e w'):=fun l hl w=>o8 l (by omega) w;have az:=show Hid _ from J;clear J;go_enter func108,ntmps108;go_wp2;go_loopw [0,6,7,8] (fun s0 _ _ _ wr=>∃(fu:Nat)(l:List UInt8)(acc:List cF)(xs:List jV)(v:Value),s0= .string ⟨l.toArray⟩/\l.length<fu/\l.length<=400/\acc.length<=12/\N=gX fu acc.length l acc/\fM wr w.heap.size acc xs v/\Below w.heap.size w wr) (fun s0 _ _ _ _=>uG s0)
 case atStart=>exact⟨l0.length+1,l0,[],[],.slice none 0 0,rfl,by omega,az.out,by simp,ar.out,⟨heap_alloc_new _ _,World.ownsRow_nil _ _ _ _,(fun x hx=>by cases hx),rfl,fun k r x h=>by simp at h⟩,(aF _ _).alloc (aC _) _⟩
 case round=>
  clear ar h';obtain⟨fu,l,acc,xs,v,rfl,aY,hl,aU,hN,hR,hB⟩:=hrel;have HN:Hid (N=gX fu acc.length l acc):=hN;have HR:Hid (fM wr w.heap.size acc xs v):=hR;have HB:Hid (Below w.heap.size w wr):=hB;have aZ:=hR.len;have c0:wr.cell? ⟨w.heap.size,0,none⟩=some v:=aS _ _ _ _ _ _ hR.row;clear hN hR hB;obtain⟨U,W,rfl⟩:=AQ HR.out.own;by_cases J:l=[]
  ·have HE:Hid (N= .ok acc):=by show _=_;rw[HN.out,J];exact z8 (by omega)
   subst J;go_wp2;go_ret3;refine⟨HB.out,?_⟩;rw[HE.out];exact⟨rfl,xs,_,HR.out⟩
  have aV:(0:Int)<(l.length:Int):=by have:=List.length_pos_iff.2 J;omega
  have FL:=show Hid _ from FI.out l hl;rcases pC (c:=10) (l:=l)with⟨hr,hc⟩|⟨i,hr,a0,hc⟩
  ·have HE:Hid (N= .error acc.length):=by show _=_;rw[HN.out];exact JP (by omega) J (.inr (by rw[hc]))
   rw[hr]at FL;clear hr hc J;go_wp2_with fail;refine(FL.out _).mono ?_;rintro e w1⟨rfl,aa⟩;have aa:=aa.symm;subst aa;go_wp2_with fail;go_quiet(fail)
   go_wp2;go_ret3;refine⟨Below.next HB.out (aC _) (aT ⟨_,rfl⟩),?_⟩;rw[HE.out];exact aQ (fun z=>Ending.returned (Value.tuple #[.pointer none,.int .i64 11,.int .i64 z])) (by omega)
  rw[hr]at FL;have RL:=show Hid _ from RU.out (l.take i) (by rw[eJ];omega);have Y:Hid (iD (l.take i)=none->N= .error acc.length):=fun h=>HN.out.trans (A0 (by omega) J (by rw[hc];exact h));have R:Hid (acc.length=12->N= .error acc.length):=fun h=>HN.out.trans (JP (by omega) J (.inl h));have E:Hid (∀r,iD (l.take i)=some r->¬acc.length=12->N=gX (fu-1) (acc.length+1) (l.drop (i+1)) (acc++[r])):=fun r h h12=>by
   have:=A7 (fu:=fu) (n:=acc.length) (l:=l) (acc:=acc) (r:=r) (by omega) J (by rw[hc];simpa using h12) (by rw[hc];exact h);rw[hc]at this;exact HN.out.trans this
  clear hr hc J;have a1:¬(i:Int)<0:=by omega
  have i1:(i:Int)<=(l.length:Int):=by omega
  have i2:(i:Int)+1<=(l.length:Int):=by omega
  have i3:((i:Int)+1).toNat=i+1:=by omega
  obtain⟨nx,ae⟩:∃n,l.drop (i+1)=n:=⟨_,rfl⟩;have aW:nx.length+i+1=l.length:=by rw[<-ae,bC];omega
  have a2:(l.drop (i+1)).take (l.length-(i+1))=nx:=by rw[ae];exact fV (by rw[<-ae,bC];omega)
  rw[ae]at E;clear ae;generalize iD (l.take i)=Q at RL Y E;go_wp2_with fail;refine(FL.out _).mono ?_;rintro e w1⟨rfl,aa⟩;have aa:=aa.symm;subst aa;go_wp2_with fail;refine(RL.out _).mono ?_;rintro e Z⟨C,q,ok,rfl,aA,au,av,aj⟩;have hz:=(aM.1 HR.out.row).1;have ac:=show Hid (fM Z w.heap.size acc xs _)from HR.out.next aj;have T:Hid (Below w.heap.size w Z):=Below.next HB.out (aC _) aj;have an:w.heap.size<Z.heap.size:=(aM.1 ac.out.row).1;have af:=show Hid _ from au;have ak:=show Hid _ from av;have a3:=aj.size;clear aj au av c0 HR

  obtain⟨m,o,s,ag⟩:∃lo hi kp,q.lo=lo/\q.hi=hi/\q.keep=kp:=⟨_,_,_,rfl,rfl,rfl⟩;rw[ag.1,ag.2.1,ag.2.2];have ao:=show Hid _ from ag;clear ag;have al:Hid ((cZ C m o s).toList.all (·.oneCell')=true):=B6 aA;have c3:Z.cell? ⟨w.heap.size,0,none⟩=some (.slice U xs.length W):=aS _ _ _ _ _ _ ac.out.row;cases ok with
  |false=>
   have HE:Hid (N= .error acc.length):=by
    cases hQ:Q with
    |none=>exact Y.out hQ
    |some r=>have:=(af.out r hQ).1;cases this
   clear Y R E af ak;go_wp2_with(first
    |(refine bI rfl _ _ _ rfl rfl Z.heap.size (cZ C m o s) rfl rfl _ _ (heap_alloc_new _ _) gB rfl al.out ?_;intro A p4;have P4:Hid (aI (Z.alloc _) _ _ _ A):=p4;clear p4;have c4:A.cell? ⟨w.heap.size,0,none⟩=some (.slice U xs.length W):=aS _ _ _ _ _ _ ((P4.out.other _ (by omega)).trans ((heap_alloc_old _ _ an).trans ac.out.row)))
    |fail)
   go_quiet(fail)
   go_wp2;go_ret3;refine⟨Below.next ((T.out.alloc T.out.size _).trans (P4.out.below T.out.size)) (aC _) (aT ⟨_,rfl⟩),?_⟩;rw[HE.out];exact aQ (fun z=>Ending.returned (Value.tuple #[.pointer none,.int .i64 11,.int .i64 z])) (by omega)
  |true=>
   obtain⟨r,hQ⟩:∃r,Q=some r:=by
    cases hQ:Q with
    |none=>have:=ak.out hQ;cases this
    |some r=>exact⟨r,rfl⟩
   obtain⟨_,ap,aq⟩:=af.out r hQ;have aB:Hid (Z.ownsRow (w.heap.size+1) 3 1 C q.facs.length (q.facs.map mV)):=B5 aq (by omega);have aD:=show Hid _ from ap;by_cases h12:acc.length=12
   ·have HE:Hid (N= .error acc.length):=R.out h12;have aw:((xs.length:Int)==12)=true:=dZ.2 (by omega);clear Y R E af ak ap aq h12 hQ;go_wp2_with(first
     |(refine bI rfl _ _ _ rfl rfl Z.heap.size (cZ C m o s) rfl rfl _ _ (heap_alloc_new _ _) gB rfl al.out ?_;intro A p4;have P4:Hid (aI (Z.alloc _) _ _ _ A):=p4;clear p4;have c4:A.cell? ⟨w.heap.size,0,none⟩=some (.slice U xs.length W):=aS _ _ _ _ _ _ ((P4.out.other _ (by omega)).trans ((heap_alloc_old _ _ an).trans ac.out.row)))
     |fail)
    go_quiet(fail)
    go_wp2;go_ret3;refine⟨Below.next ((T.out.alloc T.out.size _).trans (P4.out.below T.out.size)) (aC _) (aT ⟨_,rfl⟩),?_⟩;rw[HE.out];exact aQ (fun z=>Ending.returned (Value.tuple #[.pointer none,.int .i64 11,.int .i64 z])) (by omega)
   have aw:((xs.length:Int)==12)=false:=bG.2 (by omega);have aE:Hid (N=gX (fu-1) (acc.length+1) nx (acc++[r])):=E.out r hQ h12;clear Y R E af ak ap aq hQ;go_wp2_with(first
    |(refine bI rfl _ _ _ rfl rfl Z.heap.size (cZ C m o s) rfl rfl _ _ (heap_alloc_new _ _) gB rfl al.out ?_;intro A p4;have P4:Hid (aI (Z.alloc _) _ _ _ A):=p4;clear p4;have c4:A.cell? ⟨w.heap.size,0,none⟩=some (.slice U xs.length W):=aS _ _ _ _ _ _ ((P4.out.other _ (by omega)).trans ((heap_alloc_old _ _ an).trans ac.out.row)))
    |fail)
   have a4:Z.heap.size<A.heap.size:=by have:=P4.out.size;simp at this;omega
   have ah:=show Hid (fM A w.heap.size acc xs _)from ac.out.next (((aF _ _).alloc (aC _) _).trans (P4.out.below (aC _)));have ax:Hid (Below w.heap.size w A):=(T.out.alloc T.out.size _).trans (P4.out.below T.out.size);have aG:Hid (A.ownsRow (w.heap.size+1) 3 1 C q.facs.length (q.facs.map mV)):=cQ (S:=fun _=>False) aB.out (aN.of_below (((aF _ _).alloc (aC _) _).trans (P4.out.below (aC _)))) (fun _ _ e=>e);have F:=P4.out.row;unfold cZ at F;have x0:A.cell? ⟨Z.heap.size,0,none⟩=some (C):=aS _ _ _ _ _ _ F;have x1:A.cell? ⟨Z.heap.size,1,none⟩=some (.int .i64 m):=aS _ _ _ _ _ _ F;have x2:A.cell? ⟨Z.heap.size,2,none⟩=some (.int .i64 o):=aS _ _ _ _ _ _ F;have x3:A.cell? ⟨Z.heap.size,3,none⟩=some (.bool s):=aS _ _ _ _ _ _ F;clear F c3;obtain⟨i0,hi,aH,aJ,ay⟩:=info_parts A9;refine IX [(48,0),(49,1),(50,2),(51,3),(52,4),(53,5),(54,6),(55,7),(56,8),(57,9)] _ (kW (gM w.heap.size (.slice U xs.length W) (cZ C m o s)) A.drew (.cells (cZ C m o s) 222 (0,0)) (fun v' w5=>w5.ownsRow (w.heap.size+1) 222 4 v' (xs.length+1) (lQ xs++[C,.int .i64 m,.int .i64 o,.bool s])/\(A.drew.alloc (.cells (cZ C m o s) 222 (0,0))).grownBy w5 (Value.slice U xs.length W).ownBlock) (fun v' w5 w6=>aI w5 w.heap.size 219 #[v'] w6)) gT (by kernel_rfl) (B4 _ rfl) kW.start ?_ ?_
   ·rintro H X w' j hD hj g M;have aX:j<11:=hj;have D:Hid (kW (gM w.heap.size (.slice U xs.length W) (cZ C m o s)) A.drew (.cells (cZ C m o s) 222 (0,0)) (fun v' w5=>w5.ownsRow (w.heap.size+1) 222 4 v' (xs.length+1) (lQ xs++[C,.int .i64 m,.int .i64 o,.bool s])/\(A.drew.alloc (.cells (cZ C m o s) 222 (0,0))).grownBy w5 (Value.slice U xs.length W).ownBlock) (fun v' w5 w6=>aI w5 w.heap.size 219 #[v'] w6) H X w'):=hD;have a5:=hD.sz;clear hD hj;rcases(by omega:j=0∨j=1∨j=2∨j=3∨j=4∨j=5∨j=6∨j=7∨j=8∨j=9∨j=10)with h|h|h|h|h|h|h|h|h|h|h <;> subst h
    ·have y:H.getD 0 false=false:=by rw[<-nS (by omega)];exact M
     clear g;simp only[eD,eO,eR,eM];refine wpOp_step rfl (fun K hK=>?_);go_simp;exact hK _ _ ⟨cC X 0 (gM w.heap.size (.slice U xs.length W) (cZ C m o s) 0),by simp[cC,gM],D.out.step 0 (by decide) (by decide) (by decide) (by decide) rfl⟩
    ·have y:H.getD 1 false=false:=by rw[<-nS (by omega)];exact M
     clear g;simp only[eD,eO,eR,eM];refine wpOp_step rfl (fun K hK=>?_);go_simp;exact hK _ _ ⟨cC X 1 (gM w.heap.size (.slice U xs.length W) (cZ C m o s) 1),by simp[cC,gM],D.out.step 1 (by decide) (by decide) (by decide) (by decide) rfl⟩
    ·have y:H.getD 2 false=false:=by rw[<-nS (by omega)];exact M
     have L:=g _ rfl;have l1:H.getD 1 false=true:=L ⟨1,.data⟩ (by simp) rfl;have e1:=D.out.f 1 (by decide) (by decide) (by decide) l1;simp only[gM]at e1;clear g L;simp only[eD,eO,eR,eM];refine wpOp_step rfl (fun K hK=>?_);try simp only[e1]
     go_wp2_with fail;exact⟨cC X 2 (gM w.heap.size (.slice U xs.length W) (cZ C m o s) 2),by simp[cC,gM,e1],D.out.step 2 (by decide) (by decide) (by decide) (by decide) rfl⟩
    ·have y:H.getD 3 false=false:=by rw[<-nS (by omega)];exact M
     have L:=g _ rfl;have l2:H.getD 2 false=true:=L ⟨2,.data⟩ (by simp) rfl;have e2:=D.out.f 2 (by decide) (by decide) (by decide) l2;simp only[gM]at e2;clear g L;simp only[eD,eO,eR,eM];refine wpOp_step rfl (fun K hK=>?_);try simp only[e2]
     go_wp2_with fail;exact⟨cC X 3 (gM w.heap.size (.slice U xs.length W) (cZ C m o s) 3),by simp[cC,gM,e2],D.out.step 3 (by decide) (by decide) (by decide) (by decide) rfl⟩
    ·have y:H.getD 4 false=false:=by rw[<-nS (by omega)];exact M
     have L:=g _ rfl;have l3:H.getD 3 false=true:=L ⟨3,.data⟩ (by simp) rfl;have e3:=D.out.f 3 (by decide) (by decide) (by decide) l3;simp only[gM]at e3;clear g L;have h7:H.getD 7 false=false:=JQ (fun h=>by have:=(D.out.o7 h).2;rw[y]at this;cases this);have a6:w'.cell? ⟨w.heap.size,0,none⟩=some (.slice U xs.length W):=by
      cases h6:H.getD 6 false with
      |false=>rw[D.out.a h6];exact c4
      |true=>rw[D.out.c h6 h7];exact((((aF A.heap.size A).drew).alloc (aC _) _).cell (p:=⟨w.heap.size,0,none⟩) (show w.heap.size<A.heap.size by omega)).trans c4
     simp only[eD,eO,eR,eM];refine wpOp_step rfl (fun K hK=>?_);try simp only[e3]
     go_wp2_with fail;exact⟨cC X 4 (gM w.heap.size (.slice U xs.length W) (cZ C m o s) 4),by simp[cC,gM,e3],D.out.step 4 (by decide) (by decide) (by decide) (by decide) rfl⟩
    ·have y:H.getD 5 false=false:=by rw[<-nS (by omega)];exact M
     clear g;have h6:H.getD 6 false=false:=JQ (fun h=>by have:=D.out.o6 h;rw[y]at this;cases this);have ai:=D.out.a h6;subst ai;simp only[eD,eO,eR,eM];refine wpOp_step rfl (fun K hK=>?_);go_wp2_with fail;exact⟨cC X 5 (gM w.heap.size (.slice U xs.length W) (cZ C m o s) 5),by simp[cC,gM,cZ],D.out.step 5 (by decide) (by decide) (by decide) (by decide) rfl⟩
    ·have y:H.getD 6 false=false:=by rw[<-nS (by omega)];exact M
     have L:=g _ rfl;have l5:H.getD 5 false=true:=L ⟨5,.data⟩ (by simp) rfl;have e5:=D.out.f 5 (by decide) (by decide) (by decide) l5;simp only[gM,cZ]at e5;clear g L;have ai:=D.out.a y;simp only[eD,eO,eR,eM];refine wpOp_step rfl (fun K hK=>?_);try simp only[e5]
     subst ai;go_wp2_with fail;exact⟨cC X 6 (.slice (some ⟨A.heap.size,0,none⟩) 1 1),by simp[cC,e5],D.out.build y l5⟩
    ·have y:H.getD 7 false=false:=by rw[<-nS (by omega)];exact M
     have L:=g _ rfl;have l4:H.getD 4 false=true:=L ⟨4,.data⟩ (by simp) rfl;have e4:=D.out.f 4 (by decide) (by decide) (by decide) l4;simp only[gM]at e4;have l6:H.getD 6 false=true:=L ⟨6,.data⟩ (by simp) rfl;clear g L;have e6:=D.out.b l6;have ai:=D.out.c l6 y;simp only[eD,eO,eR,eM];refine wpOp_step rfl (fun K hK=>?_);try simp only[e4]
     try simp only[e6]
     subst ai;split;case isFalse hw=>exact absurd (by kernel_rfl) hw
     refine wp_append_own _ _ _ 217 rfl (w.heap.size+1) 222 i0 (.agg #[.slice none 0 0,.int .i64 0,.int .i64 0,.bool false]) 4 48 underlying217 hi aH aJ ay rfl (by decide) _ _ _ rfl ((ah.out.next ((aF A.heap.size A).drew)).own.alloc _) ⟨A.heap.size,0,none⟩ 1 1 [C,.int .i64 m,.int .i64 o,.bool s] rfl rfl (B1 _ _ _ _ _ _) (fun u hu=>by have:=nL.1 al.out u (by simpa[cZ]using hu);exact this) (by unfold maxLen;omega) (by omega) (by show _<=(A.drew.alloc _).heap.size;simp;omega) ?_;intro v' w5 I t _;exact hK _ _ ⟨cC X 7 v',by simp[cC,Act.put,e4,e6],D.out.app y l4 l6 ⟨I,t⟩⟩
    ·have y:H.getD 8 false=false:=by rw[<-nS (by omega)];exact M
     have L:=g _ rfl;have l0:H.getD 0 false=true:=L ⟨0,.data⟩ (by simp) rfl;have e0:=D.out.f 0 (by decide) (by decide) (by decide) l0;simp only[gM]at e0;clear g L;simp only[eD,eO,eR,eM];refine wpOp_step rfl (fun K hK=>?_);try simp only[e0]
     go_wp2_with fail;exact⟨cC X 8 (gM w.heap.size (.slice U xs.length W) (cZ C m o s) 8),by simp[cC,gM,e0],D.out.step 8 (by decide) (by decide) (by decide) (by decide) rfl⟩
    ·have y:H.getD 9 false=false:=by rw[<-nS (by omega)];exact M
     have L:=g _ rfl;have l8:H.getD 8 false=true:=L ⟨8,.data⟩ (by simp) rfl;have e8:=D.out.f 8 (by decide) (by decide) (by decide) l8;simp only[gM]at e8;clear g L;simp only[eD,eO,eR,eM];refine wpOp_step rfl (fun K hK=>?_);try simp only[e8]
     go_wp2_with fail;exact⟨cC X 9 (gM w.heap.size (.slice U xs.length W) (cZ C m o s) 9),by simp[cC,gM,e8],D.out.step 9 (by decide) (by decide) (by decide) (by decide) rfl⟩
    ·have y:H.getD 10 false=false:=by rw[<-nS (by omega)];exact M
     have L:=g _ rfl;have l9:H.getD 9 false=true:=L ⟨9,.data⟩ (by simp) rfl;have e9:=D.out.f 9 (by decide) (by decide) (by decide) l9;simp only[gM]at e9;have l7:H.getD 7 false=true:=L ⟨7,.data⟩ (by simp) rfl;clear g L;simp only[eD,eO,eR,eM];refine wpOp_step rfl (fun K hK=>?_);try simp only[e9]
     split;case isFalse hw=>exact absurd (by kernel_rfl) hw
     obtain⟨I,t⟩:=D.out.d l7 y;generalize ad:X 7=v7 at I t;obtain⟨aK,aL,rfl⟩:=AQ I;have aO:w'.heap[w.heap.size]?=some (.cells #[.slice U xs.length W] 219 (0,0)):=(t.block _ (show w.heap.size<(A.drew.alloc _).heap.size by simp;omega) (fun e=>by have:=ah.out.own.lt _ e.symm;omega)).trans ((((aF A.heap.size A).drew).alloc (aC _) _).block _ (show w.heap.size<A.heap.size by omega) |>.trans ah.out.row);refine A8 _ _ _ rfl rfl w.heap.size 0 _ rfl rfl _ _ #[.slice aK (xs.length+1) aL] aO B0 (by simp) (by first|rfl|(simp only[ad];rfl)) (by first|rfl|(simp only[ad];rfl)) ?_;intro w6 p6;exact hK _ _ ⟨X,by simp[e9,ad],D.out.store y l7 (by rw[ad];exact p6)⟩
   ·intro H X w6 hD am;obtain⟨w5,⟨I,t⟩,ab⟩:=hD.e (am 10 (by decide));generalize ad:X 7=v7 at I t ab;have aP:Hid (fM w6 w.heap.size (acc++[r]) (xs++[⟨C,q⟩]) v7):=fM.grow (x:=⟨C,q⟩) ah.out aG.out aD.out (by show w5.ownsRow _ _ _ _ _ (lQ xs++[C,.int .i64 q.lo,.int .i64 q.hi,.bool q.keep]);rw[ao.out.1,ao.out.2.1,ao.out.2.2];exact I) t ab;have aR:Hid (Below w.heap.size w w6):=(((ax.out.drew).alloc ax.out.size _).grown t (show w.heap.size<=(A.drew.alloc _).heap.size by simp;omega) (fun k e=>by have:=ah.out.own.lt k e;omega)).trans (ab.below (aC _));clear hD am I t ab ad;simp only[eD,eO,eR,eM];go_wp2;go_roundw;case rel=>exact⟨fu-1,nx,acc++[r],xs++[⟨C,q⟩],v7,rfl,by omega,by omega,by simp;omega,by rw[dL];exact aE.out,aP.out,aR.out⟩
    case measure=>simp[uG,ByteArray.size];omega
end Go.Proofs.Z

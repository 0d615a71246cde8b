/- Pressed by program out of Ei Ej Ek. -/
import Derived.Test.YtdlhbmncbmconaaGreatDoorA11
namespace Go.Proofs.Z
open Hm Hw Tryz Go.RowKit Go.Sort
attribute [local go_sem] cN cO
theorem pG(c:Int)(n:Nat)(k:0<n)(h:n<=4000000000)(h0: -9223372036854775808<=c)(h1:c<=9223372036854775807)(w:World):
  Calls prog 114 #[.int .i64 c,.int .i64 n] w fun e i=>e= .returned (.int .i64 (iV c n))/\i=w:=by
 have a:¬(n:Int)=0:=by omega
 have f:((n:Int)==0)=false:=bG.2 a;have j:¬(n:Int)= -1:=by omega
 by_cases g:c<0
 ·have d:Hid (-((c+1).tmod (n:Int))=(iV c n:Int)):=by
   show _=_;unfold iV;rw[aD g,<-Int.neg_tmod,Int.tmod_eq_emod_of_nonneg (by omega)];have:=Int.emod_nonneg (-(c+1)) (b:=(n:Int)) (by omega);omega
  go_enter func114,ntmps114;go_wp2;go_ret;exact⟨by rw[<-d.out];rfl,rfl⟩
 ·have d:Hid (c%(n:Int)=(iV c n:Int)):=by
   show _=_;unfold iV;rw[aB g];have:=Int.emod_nonneg c (b:=(n:Int)) (by omega);omega
  go_enter func114,ntmps114;go_wp2;go_ret;exact⟨by rw[<-d.out];rfl,rfl⟩
theorem JU(a b:List (List UInt8))(G H:Value)(I J:Nat)(w:World)(r:eQ w I 9 G (a.map aU))(s:eQ w J 9 H (b.map aU))(Y:a.length<=1000000000)(O:b.length<=1000000000):
  Calls prog 116 #[G,H] w fun e P=>e= .returned (.bool (decide (a=b)))/\Below w.heap.size w P:=by
 obtain⟨Q,R,rfl⟩:=AF r;obtain⟨S,T,rfl⟩:=AF s;by_cases c:a.length=b.length
 ·have i:(a.length:Int)=(b.length:Int):=by omega
  have K:=aA r;have j:=aA s;have l:=aA c;clear r s c;go_enter func116,ntmps116;go_wp2;go_loopw [5] (fun t wr=>∃k:Nat,k<=a.length/\t= .int .i64 k/\a.take k=b.take k/\Below w.heap.size w wr) (fun t _=>a.length-(intOf t).toNat)
  case atStart=>exact⟨0,by omega,rfl,rfl,aF _ _⟩
  case round=>
   obtain⟨k,Z,rfl,L,m⟩:=hrel;have M:=aA L;have d:=aA m;clear L m;by_cases n:k<a.length
   ·have u:(k:Int)<(a.length:Int):=by omega
    have N:(k:Int)<(b.length:Int):=by omega
    have f:k<b.length:=by omega
    obtain⟨v,z,rfl⟩:=AG K.out (by omega);obtain⟨A,B,rfl⟩:=AG j.out (by omega);have C:w.cell? ⟨v,z+k,none⟩=some (aU a[k]):=AE K.out (by simp[n]);have D:w.cell? ⟨A,B+k,none⟩=some (aU b[k]):=AE j.out (by simp[f]);have d1:wr.cell? ⟨v,z+k,none⟩=some (aU a[k]):=(d.out.cell (p:=⟨v,z+k,none⟩) (block_lt_of_cell C)).trans C;have d2:wr.cell? ⟨A,B+k,none⟩=some (aU b[k]):=(d.out.cell (p:=⟨A,B+k,none⟩) (block_lt_of_cell D)).trans D;have o:Hid (a.take (k+1)=a.take k++[a[k]]):=(List.take_append_getElem n).symm;have q:Hid (b.take (k+1)=b.take k++[b[k]]):=(List.take_append_getElem f).symm;unfold aU at d1 d2;have E:Hid (a[k]=b[k]∨¬a=b):=by
     show _∨_;by_cases e:a[k]=b[k]
     ·exact .inl e
     ·exact .inr (fun U=>e (by subst U;rfl))
    generalize a[k]=x at d1 o E;generalize b[k]=y at d2 q E;clear C D;by_cases g:x=y
    ·subst g;go_wp2_with fail;go_quiet(fail)
     go_wp2;go_roundw;case rel=>exact⟨k+1,by omega,aY (by simp),by rw[o.out,q.out,M.out],Below.next d.out (aC _) (aT ⟨_,rfl⟩)⟩
     case measure=>simp[intOf];omega
    ·have F:Hid (decide (a=b)=false):=decide_eq_false (E.out.resolve_left g);have V:(x==y)=false:=bG.2 g;go_wp2_with fail;go_quiet(fail)
     go_wp2;go_ret;exact⟨by rw[F.out];rfl,Below.next d.out (aC _) (aT ⟨_,rfl⟩)⟩
   ·have u:¬(k:Int)<(b.length:Int):=by omega
    have F:Hid (decide (a=b)=true):=decide_eq_true (by
     have h:=M.out;have:=l.out
     rwa [fV (by omega),fV (by omega)]at h)
    go_wp2;go_ret;exact⟨by rw[F.out];rfl,d.out⟩
 ·have i:¬(a.length:Int)=(b.length:Int):=by omega
  have W:((a.length:Int)==(b.length:Int))=false:=bG.2 i;have X:Hid (decide (a=b)=false):=decide_eq_false (fun e=>c (by rw[e]));clear c;go_enter func116,ntmps116;go_wp2;go_ret;exact⟨by rw[X.out];rfl,aF _ _⟩
end Go.Proofs.Z
namespace Go.Proofs.Z
open Hw Go.RowKit Go.Sort
def lR(ρ:Nat->Nat×Nat)(n:Nat)(r:Nat×Nat):Nat->Nat×Nat:=fun k=>if k<n then ρ k else r
theorem oF{ρ:Nat->Nat×Nat}{n k:Nat}{r:Nat×Nat}(h:k<n):lR ρ n r k=ρ k:=aD h
theorem qF{ρ:Nat->Nat×Nat}{n k:Nat}{r:Nat×Nat}(h:n<=k):lR ρ n r k=r:=aB (by omega)
def iI{α:Type}(X:Nat->α)(i:Nat)(y:α):Nat->α:=fun k=>if k=i then y else X k
theorem wJ{α:Type}(X:Nat->α)(i:Nat)(y:α):iI X i y i=y:=aD rfl
theorem qG{α:Type}(X:Nat->α){i k:Nat}(y:α)(h:k≠i):iI X i y k=X k:=aB h
structure nG where
 v:Value
 n:Nat
 m:List UInt8
structure mL(w:World)(ρ:Nat->Nat×Nat)(x:nG):Prop where
 own:w.ownsRow 0 9 1 x.v x.n (List.replicate x.n (aU x.m))
 role:∀k,x.v.ownBlock=some k->(ρ k).1=5
structure wK(w:World)(ρ:Nat->Nat×Nat)(r:Nat×Nat)(t:TypeId)(v:Value)(xs:List Value):Prop where
 own:w.ownsRow 0 t 1 v xs.length xs
 role:∀k,v.ownBlock=some k->ρ k=r
theorem fE{w:World}{a e size n:Nat}{v:Value}{xs:List Value}(h:w.ownsRow a e size v n xs){k:Nat}(b:v.ownBlock=some k):k<w.heap.size:=by
 obtain⟨c,d⟩:=dN h b;exact(aM.1 d).1
theorem wK.keep{S:Nat->Prop}{w w':World}{ρ ρ':Nat->Nat×Nat}{r:Nat×Nat}{t:TypeId}{v:Value}{xs:List Value}(h:wK w ρ r t v xs)(a:aN S w w')(b:∀k,k<w.heap.size->ρ' k=ρ k)(c:∀k,k<w.heap.size->S k->ρ k≠r):wK w' ρ' r t v xs:=
 ⟨cQ h.own a (fun k e s=>c k (fE h.own e) s (h.role k e)),fun k e=>(b k (fE h.own e)).trans (h.role k e)⟩
theorem mL.keep{S:Nat->Prop}{w w':World}{ρ ρ':Nat->Nat×Nat}{x:nG}(h:mL w ρ x)(a:aN S w w')(b:∀k,k<w.heap.size->ρ' k=ρ k)(c:∀k,k<w.heap.size->S k->x.v.ownBlock≠some k):mL w' ρ' x:=
 ⟨cQ h.own a (fun k e s=>c k (fE h.own e) s e),fun k e=>(aQ Prod.fst (b k (fE h.own e))).trans (h.role k e)⟩
def pH:Nat->TypeId
 |0=>45
 |1=>169
 |2=>56
 |3=>173
 |4=>63
 |5=>176
 |6=>42
 | _=>9
def nH(c:Nat)(I:World->(Nat->Nat×Nat)->Prop):Prop:=∀(S:Nat->Prop)(w w':World)(ρ ρ':Nat->Nat×Nat),I w ρ->aN S w w'->(∀k,k<w.heap.size->ρ' k=ρ k)->(∀k,k<w.heap.size->S k->(ρ k).1≠c)->I w' ρ'
def nT(vs:Nat->Value)(n:Nat):Array Value:=#[vs 0,vs 1,vs 2,vs 3,vs 4,vs 5,vs 6,vs 7,.int .i64 n]
theorem C5(vs:Nat->Value)(n:Nat)(v:Value){j:Nat}(a:j<8):(nT vs n).setIfInBounds j v=nT (iI vs j v) n:=by
 have h:j=0∨j=1∨j=2∨j=3∨j=4∨j=5∨j=6∨j=7:=by omega
 rcases h with h|h|h|h|h|h|h|h <;> subst h <;> rfl
theorem C6(vs:Nat->Value)(n:Nat){j:Nat}(a:j<8):(nT vs n)[j]?=some (vs j):=by
 have h:j=0∨j=1∨j=2∨j=3∨j=4∨j=5∨j=6∨j=7:=by omega
 rcases h with h|h|h|h|h|h|h|h <;> subst h <;> rfl
structure dC(B p:Nat)(vs:Nat->Value)(xs:Nat->List Value)(n:Nat)(I1 I2 I3:World->(Nat->Nat×Nat)->Prop)(li:List nG)(ρ:Nat->Nat×Nat)(w:World):Prop where
 row:w.heap[p]?=some (.cells (nT vs n) 142 (0,0))
 rp:ρ p=(9,0)
 sl:∀j,j<8->wK w ρ (j+10,0) (pH j) (vs j) (xs j)
 i1:I1 w ρ
 i2:I2 w ρ
 i3:I3 w ρ
 s1:nH 1 I1
 s2:nH 2 I2
 s3:nH 3 I3
 each:∀x∈li,mL w ρ x
 lo:∀k,k<B->(ρ k).1=0
section
variable {B p : Nat} {vs : Nat → Value} {xs : Nat → List Value} {n : Nat} {I1 I2 I3 : World → (Nat → Nat × Nat) → Prop} {li : List nG} {ρ ρ' : Nat → Nat × Nat} {w w' : World} {S : Nat → Prop}
theorem dC.lt(h:dC B p vs xs n I1 I2 I3 li ρ w):p<w.heap.size:=(aM.1 h.row).1
theorem dC.le(h:dC B p vs xs n I1 I2 I3 li ρ w):B<=p:=Nat.le_of_not_lt fun a=>by
 have h1:=h.lo p a;rw[h.rp]at h1;cases h1
theorem dC.below(h:dC B p vs xs n I1 I2 I3 li ρ w)(a:aN S w w')(c:∀k,k<w.heap.size->S k->(ρ k).1≠0):Below B w w':=
 a.below (fun k a s=>Nat.le_of_not_lt fun b=>c k a s (h.lo k b)) (iT (Nat.lt_of_le_of_lt h.le h.lt))
theorem dC.lo'(h:dC B p vs xs n I1 I2 I3 li ρ w)(a:∀k,k<w.heap.size->ρ' k=ρ k):∀k,k<B->(ρ' k).1=0:=fun k b=>by
 rw[a k (by have:=h.le;have:=h.lt;omega)];exact h.lo k b
def AR(ρ:Nat->Nat×Nat)(li:List nG)(k:Nat):Prop:=(ρ k).1=0∨((ρ k).1=5/\∀x∈li,x.v.ownBlock≠some k)
theorem AR.ne{k:Nat}(h:AR ρ li k):(ρ k).1≠1/\(ρ k).1≠2/\(ρ k).1≠3/\(ρ k).1<9:=by
 rcases h with h|⟨h,_⟩ <;> omega
theorem sU{a:Nat×Nat}{c d:Nat}(h:a.1<c):a≠(c,d):=fun e=>by rw[e]at h;exact Nat.lt_irrefl _ h
theorem dC.next(h:dC B p vs xs n I1 I2 I3 li ρ w)(a:aN S w w')(b:∀k,k<w.heap.size->ρ' k=ρ k)(c:∀k,k<w.heap.size->S k->AR ρ li k):dC B p vs xs n I1 I2 I3 li ρ' w' where
 row:=(a.block p h.lt (fun s=>by have:=(c p h.lt s).ne;rw[h.rp]at this;exact absurd this.2.2.2 (by decide))).trans h.row
 rp:=(b p h.lt).trans h.rp
 sl j hj:=(h.sl j hj).keep a b (fun k a s=>sU (by have:=(c k a s).ne;omega))
 i1:=h.s1 S w w' ρ ρ' h.i1 a b (fun k a s=>(c k a s).ne.1)
 i2:=h.s2 S w w' ρ ρ' h.i2 a b (fun k a s=>(c k a s).ne.2.1)
 i3:=h.s3 S w w' ρ ρ' h.i3 a b (fun k a s=>(c k a s).ne.2.2.1)
 s1:=h.s1
 s2:=h.s2
 s3:=h.s3
 each x hx:=(h.each x hx).keep a b (fun k a s e=>by
  rcases c k a s with h0|⟨_,h5⟩
  ·have:=(h.each x hx).role k e;omega
  ·exact h5 x hx e)
 lo:=h.lo' b
theorem dC.next0(h:dC B p vs xs n I1 I2 I3 li ρ w)(a:Below w.heap.size w w'):dC B p vs xs n I1 I2 I3 li ρ w':=
 h.next (S:=fun _=>False) (aN.of_below a) (fun _ _=>rfl) (fun _ _ f=>f.elim)
theorem dC.set1{J:World->(Nat->Nat×Nat)->Prop}(h:dC B p vs xs n I1 I2 I3 li ρ w)(a:aN S w w')(b:∀k,k<w.heap.size->ρ' k=ρ k)(c:∀k,k<w.heap.size->S k->(ρ k).1=1)(d:J w' ρ')(f:nH 1 J):dC B p vs xs n J I2 I3 li ρ' w' where
 row:=(a.block p h.lt (fun s=>by have:=c p h.lt s;rw[h.rp]at this;cases this)).trans h.row
 rp:=(b p h.lt).trans h.rp
 sl j hj:=(h.sl j hj).keep a b (fun k a s=>sU (by have:=c k a s;omega))
 i1:=d
 i2:=h.s2 S w w' ρ ρ' h.i2 a b (fun k a s=>by rw[c k a s];decide)
 i3:=h.s3 S w w' ρ ρ' h.i3 a b (fun k a s=>by rw[c k a s];decide)
 s1:=f
 s2:=h.s2
 s3:=h.s3
 each x hx:=(h.each x hx).keep a b (fun k a s e=>by have h1:=(h.each x hx).role k e;rw[c k a s]at h1;cases h1)
 lo:=h.lo' b
theorem dC.set2{J:World->(Nat->Nat×Nat)->Prop}(h:dC B p vs xs n I1 I2 I3 li ρ w)(a:aN S w w')(b:∀k,k<w.heap.size->ρ' k=ρ k)(c:∀k,k<w.heap.size->S k->(ρ k).1=2)(d:J w' ρ')(f:nH 2 J):dC B p vs xs n I1 J I3 li ρ' w' where
 row:=(a.block p h.lt (fun s=>by have:=c p h.lt s;rw[h.rp]at this;cases this)).trans h.row
 rp:=(b p h.lt).trans h.rp
 sl j hj:=(h.sl j hj).keep a b (fun k a s=>sU (by have:=c k a s;omega))
 i1:=h.s1 S w w' ρ ρ' h.i1 a b (fun k a s=>by rw[c k a s];decide)
 i2:=d
 i3:=h.s3 S w w' ρ ρ' h.i3 a b (fun k a s=>by rw[c k a s];decide)
 s1:=h.s1
 s2:=f
 s3:=h.s3
 each x hx:=(h.each x hx).keep a b (fun k a s e=>by have h1:=(h.each x hx).role k e;rw[c k a s]at h1;cases h1)
 lo:=h.lo' b
theorem dC.set3{J:World->(Nat->Nat×Nat)->Prop}(h:dC B p vs xs n I1 I2 I3 li ρ w)(a:aN S w w')(b:∀k,k<w.heap.size->ρ' k=ρ k)(c:∀k,k<w.heap.size->S k->(ρ k).1=3)(d:J w' ρ')(f:nH 3 J):dC B p vs xs n I1 I2 J li ρ' w' where
 row:=(a.block p h.lt (fun s=>by have:=c p h.lt s;rw[h.rp]at this;cases this)).trans h.row
 rp:=(b p h.lt).trans h.rp
 sl j hj:=(h.sl j hj).keep a b (fun k a s=>sU (by have:=c k a s;omega))
 i1:=h.s1 S w w' ρ ρ' h.i1 a b (fun k a s=>by rw[c k a s];decide)
 i2:=h.s2 S w w' ρ ρ' h.i2 a b (fun k a s=>by rw[c k a s];decide)
 i3:=d
 s1:=h.s1
 s2:=h.s2
 s3:=f
 each x hx:=(h.each x hx).keep a b (fun k a s e=>by have h1:=(h.each x hx).role k e;rw[c k a s]at h1;cases h1)
 lo:=h.lo' b
theorem dC.last{m:Nat}(h:dC B p vs xs n I1 I2 I3 li ρ w)(P:aI w p 142 (nT vs m) w'):dC B p vs xs m I1 I2 I3 li ρ w' where
 row:=P.row
 rp:=h.rp
 sl j hj:=(h.sl j hj).keep P.kept (fun _ _=>rfl) (fun k _ s e=>by subst s;rw[h.rp]at e;have:=aQ Prod.fst e;dsimp only at this;omega)
 i1:=h.s1 _ w w' ρ ρ h.i1 P.kept (fun _ _=>rfl) (fun k _ s=>by subst s;rw[h.rp];decide)
 i2:=h.s2 _ w w' ρ ρ h.i2 P.kept (fun _ _=>rfl) (fun k _ s=>by subst s;rw[h.rp];decide)
 i3:=h.s3 _ w w' ρ ρ h.i3 P.kept (fun _ _=>rfl) (fun k _ s=>by subst s;rw[h.rp];decide)
 s1:=h.s1
 s2:=h.s2
 s3:=h.s3
 each x hx:=(h.each x hx).keep P.kept (fun _ _=>rfl) (fun k _ s e=>by subst s;have:=(h.each x hx).role _ e;rw[h.rp]at this;cases this)
 lo:=h.lo
theorem dC.app{o:Obj}{m c:World}{j:Nat}(A:j<8){v:Value}{x:Value}(h:dC B p vs xs n I1 I2 I3 li ρ w)(g:m.ownsRow 0 (pH j) 1 v ((xs j).length+1) (xs j++[x]))(C:(w.alloc o).grownBy m (vs j).ownBlock)(l:v.ownBlock=(vs j).ownBlock∨v.ownBlock=some (w.alloc o).heap.size)(P:aI m p 142 (nT (iI vs j v) n) c):
  dC B p (iI vs j v) (iI xs j (xs j++[x])) n I1 I2 I3 li (lR ρ w.heap.size (j+10,0)) c/\Below B w c:=by
 have r:aN (fun k=>(vs j).ownBlock=some k) w m:=((aN.refl _ _).alloc o).trans ((aN.of_grown C).mono (T:=fun k=>(vs j).ownBlock=some k) (fun _ _ e=>e.symm)) (fun _ _ e=>e);have a:aN (fun k=>k=p∨(vs j).ownBlock=some k) w c:=(r.mono (fun _ _ e=> .inr e)).trans P.kept (fun _ _ e=> .inl e);have u:∀k,k<w.heap.size->(k=p∨(vs j).ownBlock=some k)->ρ k=(9,0)∨ρ k=(j+10,0):=fun k _ e=>by
  rcases e with e|e
  ·subst e;exact .inl h.rp
  ·exact .inr ((h.sl j A).role k e)
 have h9:∀k,k<w.heap.size->(k=p∨(vs j).ownBlock=some k)->9<=(ρ k).1:=fun k a e=>by
  rcases u k a e with e|e <;> rw[e]
  ·exact aC _
  ·show 9<=j+10;omega
 have b:∀k,k<w.heap.size->lR ρ w.heap.size (j+10,0) k=ρ k:=fun k a=>oF a;refine⟨⟨P.row,(b p h.lt).trans h.rp,fun i hi=>?_,h.s1 _ w c ρ _ h.i1 a b (fun k a s e=>by have:=h9 k a s;omega),h.s2 _ w c ρ _ h.i2 a b (fun k a s e=>by have:=h9 k a s;omega),h.s3 _ w c ρ _ h.i3 a b (fun k a s e=>by have:=h9 k a s;omega),h.s1,h.s2,h.s3,fun y z=>(h.each y z).keep a b (fun k a s e=>by have:=h9 k a s;have:=(h.each y z).role k e;omega),h.lo' b⟩,h.below a (fun k a s e=>by have:=h9 k a s;omega)⟩;by_cases d:i=j
 ·subst d;rw[wJ,wJ];have t:∀k,v.ownBlock=some k->k≠p:=fun k e q=>by
   subst q;rcases l with f|f
   ·rw[f]at e;have:=(h.sl i hi).role k e;rw[h.rp]at this;have:=aQ Prod.fst this;dsimp only at this;omega
   ·rw[f]at e;have:=h.lt;simp at e;omega
  refine⟨?_,fun k e=>?_⟩
  ·have:=cQ g P.kept (fun k e s=>t k e s);simpa using this
  ·rcases l with f|f
   ·rw[f]at e;rw[b k (fE (h.sl i hi).own e)];exact(h.sl i hi).role k e
   ·rw[f]at e;exact qF (by simp at e;omega)
 ·rw[qG _ _ d,qG _ _ d];exact(h.sl i hi).keep a b (fun k a s e=>by
   rcases u k a s with q|q <;> rw[q]at e <;> have e:=aQ Prod.fst e <;> dsimp only at e <;> omega)
theorem dC.appL{o:Obj}{c:World}{l v:Value}{k:Nat}{m:List UInt8}(h:dC B p vs xs n I1 I2 I3 li ρ w)(A:mL w ρ ⟨l,k,m⟩)(r:∀y∈li,∀b,y.v.ownBlock=some b->l.ownBlock=some b->y.n<=k)(t:c.ownsRow 0 9 1 v (k+1) (List.replicate k (aU m)++[aU m]))(C:(w.alloc o).grownBy c l.ownBlock)(u:v.ownBlock=l.ownBlock∨v.ownBlock=some (w.alloc o).heap.size)(x:wI 9 l k (w.alloc o) c):
  dC B p vs xs n I1 I2 I3 li (lR ρ w.heap.size (5,0)) c/\mL c (lR ρ w.heap.size (5,0)) ⟨v,k+1,m⟩/\(∀y∈li,∀b,y.v.ownBlock=some b->v.ownBlock=some b->y.n<=k+1)/\Below B w c:=by
 have a:aN (fun k=>l.ownBlock=some k) w c:=((aN.refl _ _).alloc o).trans ((aN.of_grown C).mono (T:=fun k=>l.ownBlock=some k) (fun _ _ e=>e.symm)) (fun _ _ e=>e);have d:∀k,k<w.heap.size->lR ρ w.heap.size (5,0) k=ρ k:=fun k a=>oF a;have h5:∀k,k<w.heap.size->l.ownBlock=some k->(ρ k).1=5:=fun k _ e=>A.role k e;refine⟨⟨(a.block p h.lt (fun s=>by have:=h5 p h.lt s;rw[h.rp]at this;cases this)).trans h.row,(d p h.lt).trans h.rp,fun j D=>(h.sl j D).keep a d (fun k a s=>sU (by have:=h5 k a s;omega)),
  h.s1 _ w c ρ _ h.i1 a d (fun k a s e=>by have:=h5 k a s;omega),h.s2 _ w c ρ _ h.i2 a d (fun k a s e=>by have:=h5 k a s;omega),h.s3 _ w c ρ _ h.i3 a d (fun k a s e=>by have:=h5 k a s;omega),h.s1,h.s2,h.s3,fun y g=>?_,h.lo' d⟩,⟨?_,fun b e=>?_⟩,fun y g b z q=>?_,h.below a (fun k a s e=>by have:=h5 k a s;omega)⟩
 ·refine⟨x _ _ _ (cQ (S:=fun _=>False) (h.each y g).own (aN.of_below ((aF _ _).alloc (aC _) o)) (fun _ _ f=>f)) (fun b z q=>r y g b z q),fun b e=>?_⟩;rw[d b (fE (h.each y g).own e)];exact(h.each y g).role b e
 ·rw[List.replicate_succ'];exact t
 ·rcases u with i|i
  ·rw[i]at e;rw[d b (fE A.own e)];exact A.role b e
  ·rw[i]at e;rw[qF (by simp at e;omega)]
 ·rcases u with i|i
  ·rw[i]at q;exact Nat.le_succ_of_le (r y g b z q)
  ·rw[i]at q;have:=fE (h.each y g).own z;simp at q;omega
theorem dC.add{x:nG}(h:dC B p vs xs n I1 I2 I3 li ρ w)(b:mL w ρ x):dC B p vs xs n I1 I2 I3 (li++[x]) ρ w:=
 ⟨h.row,h.rp,h.sl,h.i1,h.i2,h.i3,h.s1,h.s2,h.s3,fun y a=>by
  rcases jM.1 a with a|a
  ·exact h.each y a
  ·simp at a;subst a;exact b,h.lo⟩
theorem dC.cell(h:dC B p vs xs n I1 I2 I3 li ρ w){j:Nat}(a:j<8):w.cell? ⟨p,j,none⟩=some (vs j):=by
 simp[World.cell?,h.row,C6 vs n a]
theorem dC.cell8(h:dC B p vs xs n I1 I2 I3 li ρ w):w.cell? ⟨p,8,none⟩=some (.int .i64 n):=by
 simp[World.cell?,h.row,nT]
theorem dC.own(h:dC B p vs xs n I1 I2 I3 li ρ w){j:Nat}(a:j<8):w.cell? ⟨p,j,none⟩=some (vs j)/\w.ownsRow 0 (pH j) 1 (vs j) (xs j).length (xs j)/\
  ∀(o:Obj)(v:Value)(b:World)(x:Value),b.ownsRow 0 (pH j) 1 v ((xs j).length+1) (xs j++[x])->(w.alloc o).grownBy b (vs j).ownBlock->(v.ownBlock=(vs j).ownBlock∨v.ownBlock=some (w.alloc o).heap.size)->
   ∃old,b.heap[p]?=some (.cells old 142 (0,0))/\old.size=9/\∀d,aI b p 142 (old.setIfInBounds j v) d->dC B p (iI vs j v) (iI xs j (xs j++[x])) n I1 I2 I3 li (lR ρ w.heap.size (j+10,0)) d/\Below B w d:=by
 refine⟨h.cell a,(h.sl j a).own,fun o v b x c g f=>⟨nT vs n,?_,rfl,fun d P=>?_⟩⟩
 ·refine(g.block p (by have:=h.lt;simp;omega) (fun e=>?_)).trans ((heap_alloc_old w o h.lt).trans h.row);have:=(h.sl j a).role p e.symm;rw[h.rp]at this;have:=aQ Prod.fst this;dsimp only at this;omega
 ·rw[C5 _ _ _ a]at P;exact h.app a c g f P
end
end Go.Proofs.Z
namespace Go.Proofs.Z
open Hw Tryz Go.RowKit Go.Sort
attribute [local go_sem] cN cO
theorem wL{w:World}{b e n:Nat}{v:Value}{xs:List Value}(h:w.ownsRow b e 1 v n xs){j:Nat}{u:Value}(c:xs[j]?=some u):∃g a,v= .slice (some ⟨g,0,none⟩) n a/\w.cell? ⟨g,j,none⟩=some u:=by
 have o:xs.length=n:=by simpa using h.1
 have f:=(iY.1 c).1;rcases h.2 with⟨_,h0⟩|⟨g,a,i,d,_⟩
 ·omega
 ·refine⟨g,a,d,?_⟩;have h1:=h.cells (g:=g) (by rw[d];rfl) j u c;rw[show(⟨g,0,none⟩:Addr).add j=⟨g,j,none⟩ by simp[Addr.add];exact fun e=>e.symm]at h1;exact h1
theorem gY{w:World}{b e n size:Nat}{v:Value}{xs:List Value}(h:w.ownsRow b e size v n xs):∃a c,v= .slice a n c:=by
 rcases h.2 with⟨h0,h1⟩|⟨g,c,d,h1,_⟩
 ·exact⟨none,0,by rw[h0,h1]⟩
 ·exact⟨_,_,h1⟩
theorem JV{w:World}{a e n:Nat}{v:Value}{xs:List Value}(h:w.ownsRow a e 1 v n xs):n<=9223372036854775807:=by
 rcases h.2 with⟨h0,h1⟩|⟨g,b,c,h1,_,_,h2,h3,_⟩
 ·omega
 ·unfold maxLen at h3;omega
set_option maxRecDepth 20000 in
set_option maxHeartbeats 4000000 in
theorem C7{B p:Nat}{t:Nat->Value}{xs:Nat->List Value}{n:Nat}{I1 I2 I3:World->(Nat->Nat×Nat)->Prop}{a:List nG}{ρ:Nat->Nat×Nat}{w:World}(h:dC B p t xs n I1 I2 I3 a ρ w)(h6:xs 6=a.map (·.v))(h7:xs 7=a.map fun x=>aU x.m):
  Calls prog 42 #[.pointer (some ⟨p,0,none⟩)] w fun e V=>e= .returned (.bool true)/\Below w.heap.size w V:=by
 have z:=h.cell (j:=6) (by omega);have Q:=h.cell (j:=7) (by omega);have o6:w.ownsRow 0 42 1 (t 6) a.length (a.map (·.v)):=by
  have:=(h.sl 6 (by omega)).own;rw[h6]at this;simpa[pH]using this
 have o7:w.ownsRow 0 9 1 (t 7) a.length (a.map fun x=>aU x.m):=by
  have:=(h.sl 7 (by omega)).own;rw[h7]at this;simpa[pH]using this
 have y:=show Hid _ from o6;have R:=show Hid _ from o7;clear o6 o7;have W:Hid (∀x∈a,w.ownsRow 0 9 1 x.v x.n (List.replicate x.n (aU x.m))):=fun x o=>(h.each x o).own;have g:=h.lt;have A:=JV y.out;obtain⟨X,f,d⟩:=gY y.out;rw[d]at z y;clear h6 h7 h d;generalize t 7=v7 at Q R;go_enter func42,ntmps42;go_wp2;go_loopw [3,4] (fun s3 _ wr=>∃i:Nat,i<=a.length/\s3= .int .i64 i/\Below w.heap.size w wr) (fun s3 _ _=>a.length-(intOf s3).toNat)
 case atStart=>exact⟨0,dM _,rfl,aF _ _⟩
 case round=>
  obtain⟨i,hi,rfl,b⟩:=hrel;have q:=aA b;have S:wr.cell? ⟨p,6,none⟩=some (.slice X a.length f):=(b.cell (p:=⟨p,6,none⟩) g).trans z;clear b;by_cases C:i<a.length;case neg=>
   have D:¬(i:Int)<(a.length:Int):=by omega
   go_wp2;go_ret;exact⟨rfl,q.out⟩
  have D:(i:Int)<(a.length:Int):=by omega
  obtain⟨x,o⟩:∃x,a[i]?=some x:=⟨_,dP C⟩;obtain⟨E,Y,d,F⟩:=wL (j:=i) (u:=x.v) y.out (by simp[o]);obtain⟨G,H,I,J⟩:=wL (j:=i) (u:=aU x.m) R.out (by simp[o]);have c:=W.out x (fG o);have T:=show Hid _ from c;obtain⟨xv,r,K⟩:=x;dsimp only at F J T c;obtain⟨Z,s,rfl⟩:=gY c;have aa:=JV c;clear c o;cases d;subst I;go_wp2;go_loopw [4] (fun s4 wq=>∃k:Nat,k<=r/\s4= .int .i64 k/\Below w.heap.size w wq) (fun s4 _=>r-(intOf s4).toNat)
  case atStart=>exact⟨0,dM _,rfl,q.out⟩
  case round=>
   clear S q;obtain⟨k,hk,rfl,b⟩:=hrel;have q:=aA b;have S:wr.cell? ⟨p,6,none⟩=some (.slice (some ⟨E,0,none⟩) a.length f):=(b.cell (p:=⟨p,6,none⟩) g).trans z;have d7:wr.cell? ⟨p,7,none⟩=some (.slice (some ⟨G,0,none⟩) a.length H):=(b.cell (p:=⟨p,7,none⟩) g).trans Q;have q6:wr.cell? ⟨E,i,none⟩=some (.slice Z r s):=(b.cell (p:=⟨E,i,none⟩) (block_lt_of_cell F)).trans F;have q7:wr.cell? ⟨G,i,none⟩=some (.string ⟨K.toArray⟩):=(b.cell (p:=⟨G,i,none⟩) (block_lt_of_cell J)).trans J;by_cases M:k<r;case neg=>
    have N:¬(k:Int)<(r:Int):=by omega
    clear b;go_wp2;go_roundw;case rel=>exact⟨i+1,by omega,aY (by simp),q.out⟩
    case measure=>simp[intOf];omega
   have N:(k:Int)<(r:Int):=by omega
   obtain⟨U,ab,O,P⟩:=wL (j:=k) (u:=aU K) T.out (by simp[M]);cases O;have qx:wr.cell? ⟨U,k,none⟩=some (.string ⟨K.toArray⟩):=(b.cell (p:=⟨U,k,none⟩) (block_lt_of_cell P)).trans P;clear b P;go_wp2_with fail;go_quiet(fail)
   go_wp2;go_roundw;case rel=>exact⟨k+1,by omega,aY (by simp),Below.next q.out (aC _) (aT ⟨_,rfl⟩)⟩
   case measure=>simp[intOf];omega
def pI(n:Nat):List UInt8:=[109,105,110,101]++List.replicate n 33
theorem C8(n:Nat):pI n++[33]=pI (n+1):=by
 unfold pI;rw[jH,<-List.replicate_succ']
theorem C9(n:Nat):(pI n).length=n+4:=by simp[pI]
def mC(B p:Nat)(xs0:Nat->List Value)(n:Nat)(I1 I2 I3:World->(Nat->Nat×Nat)->Prop)(w0:World)(m:List UInt8)(L:Nat)(l:Value)(k:Nat)(w:World):Prop:=
 ∃vs xs li ρ,dC B p vs xs n I1 I2 I3 li ρ w/\xs 6=li.map (·.v)/\(xs 7=li.map fun x=>aU x.m)/\(∀j,j<6->xs j=xs0 j)/\li.length=L/\mL w ρ ⟨l,k,m⟩/\(∀y∈li,∀b,y.v.ownBlock=some b->l.ownBlock=some b->y.n<=k)/\Below B w0 w
def rF(B p:Nat)(xs0:Nat->List Value)(n:Nat)(I1 I2 I3:World->(Nat->Nat×Nat)->Prop)(w0:World)(m:List UInt8)(L:Nat)(l:Value)(k:Nat)(w:World):Prop:=
 ∃vs xs li ρ,dC B p vs xs n I1 I2 I3 li ρ w/\(xs 6=li.map (·.v)++[l])/\(xs 7=li.map fun x=>aU x.m)/\(∀j,j<6->xs j=xs0 j)/\li.length=L/\mL w ρ ⟨l,k,m⟩/\(∀y∈li,∀b,y.v.ownBlock=some b->l.ownBlock=some b->y.n<=k)/\Below B w0 w
section
variable {B p : Nat} {xs0 : Nat → List Value} {n : Nat} {I1 I2 I3 : World → (Nat → Nat × Nat) → Prop} {w0 : World} {m : List UInt8} {L : Nat} {l : Value} {k : Nat} {w : World}
theorem mL.app{a:Nat->Value}{xs:Nat->List Value}{q:List nG}{ρ:Nat->Nat×Nat}{x:nG}{j:Nat}{o:Obj}{c d:World}{r:Array Value}(t:j<8)(h:dC B p a xs n I1 I2 I3 q ρ w)(i:mL w ρ x)(u:(w.alloc o).grownBy c (a j).ownBlock)(P:aI c p 142 r d):mL d (lR ρ w.heap.size (j+10,0)) x:=by
 have f:aN (fun k=>(a j).ownBlock=some k) w c:=((aN.refl _ _).alloc o).trans ((aN.of_grown u).mono (T:=fun k=>(a j).ownBlock=some k) (fun _ _ e=>e.symm)) (fun _ _ e=>e);have g:aN (fun k=>k=p∨(a j).ownBlock=some k) w d:=(f.mono (fun _ _ e=> .inr e)).trans P.kept (fun _ _ e=> .inl e);refine i.keep g (fun k g=>oF g) (fun b _ s e=>?_);have h5:=i.role b e;rcases s with s|s
 ·subst s;rw[h.rp]at h5;cases h5
 ·rw[(h.sl j t).role b s]at h5;dsimp only at h5;omega
theorem mC.own6(h:mC B p xs0 n I1 I2 I3 w0 m L l k w):∃e d,w.cell? ⟨p,6,none⟩=some e/\w.ownsRow 0 42 1 e L d/\
  ∀(o:Obj)(v:Value)(b:World),b.ownsRow 0 42 1 v (L+1) (d++[l])->(w.alloc o).grownBy b e.ownBlock->(v.ownBlock=e.ownBlock∨v.ownBlock=some (w.alloc o).heap.size)->
   ∃old,b.heap[p]?=some (.cells old 142 (0,0))/\old.size=9/\∀f,aI b p 142 (old.setIfInBounds 6 v) f->rF B p xs0 n I1 I2 I3 w0 m L l k f:=by
 obtain⟨i,xs,li,ρ,hI,h6,h7,h0,hL,hl,hle,hb⟩:=h;obtain⟨c,g,q⟩:=hI.own (j:=6) (by omega);have a:(xs 6).length=L:=by rw[h6,eS,hL]
 refine⟨i 6,xs 6,c,by rw[a]at g;exact g,fun o v b h1 h2 h3=>?_⟩;obtain⟨old,r,s,t⟩:=q o v b l (by rw[a];exact h1) h2 h3;refine⟨old,r,s,fun f P=>?_⟩;obtain⟨u,x⟩:=t f P;exact⟨_,_,li,_,u,by rw[wJ,h6],by rw[qG _ _ (by decide),h7],fun j y=>by rw[qG _ _ (by omega),h0 j y],hL,mL.app (by omega) hI hl h2 P,hle,hb.trans x⟩
theorem rF.own7(h:rF B p xs0 n I1 I2 I3 w0 m L l k w):∃i f,w.cell? ⟨p,7,none⟩=some i/\w.ownsRow 0 9 1 i L f/\
  ∀(o:Obj)(v:Value)(d:World),d.ownsRow 0 9 1 v (L+1) (f++[aU m])->(w.alloc o).grownBy d i.ownBlock->(v.ownBlock=i.ownBlock∨v.ownBlock=some (w.alloc o).heap.size)->
   ∃old,d.heap[p]?=some (.cells old 142 (0,0))/\old.size=9/\∀q,aI d p 142 (old.setIfInBounds 7 v) q->mC B p xs0 n I1 I2 I3 w0 m (L+1) l k q:=by
 obtain⟨s,xs,li,ρ,hI,h6,h7,h0,hL,hl,hle,hb⟩:=h;obtain⟨c,r,t⟩:=hI.own (j:=7) (by omega);have a:(xs 7).length=L:=by rw[h7,eS,hL]
 refine⟨s 7,xs 7,c,by rw[a]at r;exact r,fun o v d h1 h2 h3=>?_⟩;obtain⟨old,u,x,z⟩:=t o v d (aU m) (by rw[a];exact h1) h2 h3;refine⟨old,u,x,fun q P=>?_⟩;obtain⟨A,C⟩:=z q P;have g:=mL.app (j:=7) (by omega) hI hl h2 P;refine⟨_,_,li++[⟨l,k,m⟩],_,A.add g,by rw[qG _ _ (by decide),h6];simp,by rw[wJ,h7];simp,fun j D=>by rw[qG _ _ (by omega),h0 j D],by simp[hL],g,fun y e b E F=>?_,hb.trans C⟩;rcases jM.1 e with e|e
 ·exact hle y e b E F
 ·simp at e;subst e;exact aC _
theorem mC.more(h:mC B p xs0 n I1 I2 I3 w0 m L l k w):w.ownsRow 0 9 1 l k (List.replicate k (aU m))/\
  ∀(o:Obj)(v:Value)(a:World),a.ownsRow 0 9 1 v (k+1) (List.replicate k (aU m)++[aU m])->(w.alloc o).grownBy a l.ownBlock->(v.ownBlock=l.ownBlock∨v.ownBlock=some (w.alloc o).heap.size)->wI 9 l k (w.alloc o) a->mC B p xs0 n I1 I2 I3 w0 m L v (k+1) a:=by
 obtain⟨b,xs,li,ρ,hI,h6,h7,h0,hL,hl,hle,hb⟩:=h;refine⟨hl.own,fun o v a h1 h2 h3 h4=>?_⟩;obtain⟨c,d,e,f⟩:=hI.appL hl hle h1 h2 h3 h4;exact⟨b,xs,li,_,c,h6,h7,h0,hL,d,e,hb.trans f⟩
end
theorem D6:(prog.info? 42).map (fun i=>(i.zero,i.size,i.bytes))=some (some (.slice none 0 0),1,24):=by kernel_rfl
theorem JW:(prog.info? 140).map (·.size)=some 1:=by kernel_rfl
theorem JX:(prog.info? 42).map (·.size)=some 1:=by kernel_rfl
theorem D7:(prog.info? 3).map (·.size)=some 1:=by kernel_rfl
set_option maxRecDepth 20000 in
set_option maxHeartbeats 8000000 in
theorem D8{B p:Nat}{vs:Nat->Value}{xs:Nat->List Value}{n:Nat}{I1 I2 I3:World->(Nat->Nat×Nat)->Prop}{X:List nG}{ρ:Nat->Nat×Nat}{w:World}(h:dC B p vs xs n I1 I2 I3 X ρ w)(h6:xs 6=X.map (·.v))(h7:xs 7=X.map fun x=>aU x.m)(l:Value)(k:Nat)(ys:List Value)(D:w.ownsRow 0 9 1 l k ys)(E:∀b,l.ownBlock=some b->(ρ b).1=5/\∀x∈X,x.v.ownBlock≠some b)(hn:n<=1000000000)(hk:k<=1000000000)(aS:X.length<=1000000000000):
  Calls prog 117 #[.pointer (some ⟨p,0,none⟩),l] w fun e w'=>(∃u,e= .returned u)/\∃v,mC B p xs (n+1) I1 I2 I3 w (pI (n+1)) (X.length+9) v (k+8) w':=by
 obtain⟨i6,aA,an,ao,ap⟩:=info_parts D6;obtain⟨i7,au,F,G,H⟩:=info_parts qZ;have c8:=h.cell8;have HW:=show Hid _ from h;have aB:Hid (w.heap[p]?=some (.cells (nT vs n) 142 (0,0))):=h.row;obtain⟨al,cl,rfl⟩:=gY D;have HO:=show Hid _ from D;have A:=show Hid _ from E;have H6:=show Hid _ from h6;have H7:=show Hid _ from h7;obtain⟨M,hM⟩:∃M,pI (n+1)=M:=⟨_,rfl⟩;have HM:=show Hid _ from hM;rw[hM];clear h D E h6 h7 hM;generalize aC:X.length=LL at aS;have aD:=show Hid _ from aC;clear aC;go_enter func117,ntmps117;go_wp2_with(refine bK rfl _ _ _ rfl rfl p 8 (.int .i64 ((n:Int)+1)) rfl rfl _ _ (nT vs (n+1)) aB.out D7 (by simp[nT]) rfl rfl ?_;intro w2 p2;have P2:Hid (aI _ _ _ _ w2):=p2;clear p2);have Y:Hid (dC B p vs xs (n+1) I1 I2 I3 X ρ w2):=HW.out.last P2.out;have d8:w2.cell? ⟨p,8,none⟩=some (.int .i64 ((n:Int)+1)):=Y.out.cell8;have aE:Hid (Below B w w2):=P2.out.below HW.out.le;have Z:Hid (w2.ownsRow 0 9 1 (.slice al k cl) k ys):=cQ HO.out P2.out.kept (fun b e s=>by
  have:=(A.out b e).1;rw[s,HW.out.rp]at this;cases this)
 clear c8 HW aB HO P2;go_loopw [4,5] (fun s4 s5 wr=>∃i:Nat,i<=n+1/\s5= .int .i64 i/\s4= .string ⟨(pI i).toArray⟩/\wr=w2) (fun _ s5 _=>n+1-(intOf s5).toNat)
 case atStart=>exact⟨0,dM _,rfl,rfl,rfl⟩
 case round=>
  obtain⟨i,hi,rfl,rfl,av⟩:=hrel;have av:=av.symm;subst av;by_cases C:i<n+1
  ·have aw:(i:Int)<(n:Int)+1:=by omega
   have aF:=show Hid _ from C8 i;have aG:=C9 i;generalize pI i=mi at aF aG;have aW:¬9223372036854775807<mi.length+1:=by omega
   clear aG;go_wp2;go_roundw;case rel=>exact⟨i+1,by omega,aY (by simp),by rw[<-aF.out,<-dY],by first|rfl|trivial⟩
   case measure=>simp[intOf];omega
  have aw:¬(i:Int)<(n:Int)+1:=by omega
  have ax:i=n+1:=by omega
  subst ax;have aH:=HM.out;rw[aH];clear aH hi C;go_wp2;go_loopw [6] (fun s6 wr=>∃i:Nat,i<=k/\s6= .int .i64 i/\wr.ownsRow 0 9 1 (.slice al k cl) k (List.replicate i (aU M)++ys.drop i)/\aN (fun b=>(Value.slice al k cl).ownBlock=some b) w2 wr) (fun s6 _=>k-(intOf s6).toNat)
  case atStart=>exact⟨0,dM _,rfl,by simpa using Z.out,aN.refl _ _⟩
  case round=>
   clear d8;obtain⟨i,hi,rfl,ho,aJ⟩:=hrel;have ay:=show Hid _ from ho;have aa:=show Hid _ from aJ;clear ho aJ;by_cases C:i<k
   ·have aw:(i:Int)<(k:Int):=by omega
    have aT:Hid (ys.length=k):=show _=_ by simpa using Z.out.1
    obtain⟨g,a0,a2,hv,hg,hs,aq⟩:=C3 ay.out C;cases hv;have HG:=show Hid _ from hg;have HS:=show Hid _ from aq;clear hg aq;go_wp2_with(refine bK rfl _ _ _ rfl rfl g i (.string ⟨M.toArray⟩) rfl rfl _ _ _ HG.out fZ hs rfl rfl ?_;intro w3 p3;have P3:Hid (aI _ _ _ _ w3):=p3;clear p3);go_roundw;case rel=>exact⟨i+1,by omega,aY (by simp),by rw[<-C4 C aT.out];exact HS.out _ _ P3.out,aa.out.trans P3.out.kept (fun b _ e=>by rw[e];rfl)⟩
    case measure=>simp[intOf];omega
   have aw:¬(i:Int)<(k:Int):=by omega
   have ax:i=k:=by omega
   subst ax;have ab:Hid (mC B p xs (n+1) I1 I2 I3 w M LL (.slice al i cl) i wr):=⟨vs,xs,X,ρ,Y.out.next aa.out (fun _ _=>rfl) (fun b _ s=> .inr (A.out b s)),H6.out,H7.out,fun _ _=>rfl,aD.out,⟨by
    have h1:=ay.out;have h2:ys.length=i:=by simpa using Z.out.1
    rw[gH (by omega),kZ]at h1;exact h1,fun b e=>(A.out b e).1⟩,fun y hy b e1 e2=>absurd e1 ((A.out b e2).2 y hy),aE.out.trans (Y.out.below aa.out (fun b _ s e=>by have:=(A.out b s).1;omega))⟩
   clear aa ay Z aE Y hi C H6 H7 aD A HM;obtain⟨v6,I,c6,o6,J⟩:=ab.out.own6;have O6:Hid (World.ownsRow _ 0 42 1 v6 _ I):=o6;have ac:=show Hid _ from J;clear o6 J;obtain⟨a6,aK,rfl⟩:=gY O6.out;go_wp2_with(first
     |(at_builtin;refine nF rfl _ _ 140 rfl 42 i6 (.slice none 0 0) 24 underlying140 aA an ao ap rfl _ _ I rfl (O6.out.alloc _) ⟨_,0,none⟩ _ rfl (cell_one_new _ _ _) rfl (by unfold maxLen;omega) (by omega) ?_;intro v5 w5 a K o _;obtain⟨aL,d,q,N⟩:=ac.out _ _ _ a K o;have ad:=show Hid _ from d;have ae:=show Hid _ from N;have af:=show Hid _ from q;obtain⟨a5,O,rfl⟩:=gY a;clear a K o d N q)
     |(refine bK rfl _ _ _ rfl rfl p 6 (.slice a5 _ O) rfl rfl _ _ _ ad.out JW (by rw[af.out];decide) rfl rfl ?_;intro w6 p6;have ag:Hid (rF B p xs (n+1) I1 I2 I3 w M _ _ _ w6):=ae.out _ p6;clear p6 c6;obtain⟨v7,P,c7,o7,Q⟩:=ag.out.own7;have O7:Hid (World.ownsRow _ 0 9 1 v7 _ P):=o7;have ah:=show Hid _ from Q;clear o7 Q;obtain⟨a7,aM,rfl⟩:=gY O7.out)
     |(at_builtin;refine nF rfl _ _ 42 rfl 9 i7 (.string ByteArray.empty) 16 underlying42 au F G H rfl _ _ P rfl (O7.out.alloc _) ⟨_,0,none⟩ (.string ⟨M.toArray⟩) rfl (cell_one_new _ _ _) rfl (by unfold maxLen;omega) (by omega) ?_;intro v8 w8 c R r _;obtain⟨aO,f,t,S⟩:=ah.out _ _ _ c R r;have ai:=show Hid _ from f;have aj:=show Hid _ from S;have ak:=show Hid _ from t;obtain⟨a8,T,rfl⟩:=gY c;clear c R r f S t)
     |(refine bK rfl _ _ _ rfl rfl p 7 (.slice a8 _ T) rfl rfl _ _ _ ai.out JX (by rw[ak.out];decide) rfl rfl ?_;intro w9 p9;have am:Hid (mC B p xs (n+1) I1 I2 I3 w M _ _ _ w9):=aj.out _ p9;clear p9 c7))
   go_loopw [1,7,8] (fun s1 s7 _ wr=>∃(j:Nat)(v1:Value),j<=8/\s7= .int .i64 j/\s1=v1/\mC B p xs (n+1) I1 I2 I3 w M (LL+1+j) v1 (i+j) wr) (fun _ s7 _ _=>8-(intOf s7).toNat)
   case atStart=>exact⟨0,_,dM _,rfl,rfl,am.out⟩
   case round=>
    clear ab ag am O6 O7 ac ah ad ae af ai aj ak;obtain⟨j,v1,hj,rfl,az,aP⟩:=hrel;have az:=az.symm;subst az;have U:Hid (mC B p xs (n+1) I1 I2 I3 w M (LL+1+j) v1 (i+j) wr):=aP;clear aP;by_cases C:j<8;case neg=>
     have aV:j=8:=by omega
     subst aV;go_wp2;refine bodyPost_end (results_none rfl _ _ _) rfl ?_;exact⟨⟨_,rfl⟩,v1,U.out⟩
    have a4:(j:Int)<8:=by omega
    obtain⟨ol,V⟩:=U.out.more;have OL:Hid (World.ownsRow _ 0 9 1 v1 (i+j) (List.replicate (i+j) (aU M))):=ol;have aQ:=show Hid _ from V;clear ol V U;obtain⟨a1,aX,rfl⟩:=gY OL.out;go_wp2_with(first
     |(at_builtin;refine nF rfl _ _ 42 rfl 9 i7 (.string ByteArray.empty) 16 underlying42 au F G H rfl _ _ (List.replicate (i+j) (aU M)) rfl (OL.out.alloc _) ⟨_,0,none⟩ (.string ⟨M.toArray⟩) rfl (cell_one_new _ _ _) rfl (by unfold maxLen;omega) (by omega) ?_;intro v3 w3 z aR ar W;have ab:Hid (mC B p xs (n+1) I1 I2 I3 w M (LL+1+j) v3 (i+j+1) w3):=aQ.out _ _ _ z aR ar W;obtain⟨a3,aZ,rfl⟩:=gY z;clear z aR ar W aQ OL;obtain⟨v6,I,c6,o6,J⟩:=ab.out.own6;have O6:Hid (World.ownsRow _ 0 42 1 v6 _ I):=o6;have ac:=show Hid _ from J;clear o6 J;obtain⟨a6,aK,rfl⟩:=gY O6.out)
     |(at_builtin;refine nF rfl _ _ 140 rfl 42 i6 (.slice none 0 0) 24 underlying140 aA an ao ap rfl _ _ I rfl (O6.out.alloc _) ⟨_,0,none⟩ _ rfl (cell_one_new _ _ _) rfl (by unfold maxLen;omega) (by omega) ?_;intro v5 w5 a K o _;obtain⟨aL,d,q,N⟩:=ac.out _ _ _ a K o;have ad:=show Hid _ from d;have ae:=show Hid _ from N;have af:=show Hid _ from q;obtain⟨a5,O,rfl⟩:=gY a;clear a K o d N q)
     |(refine bK rfl _ _ _ rfl rfl p 6 (.slice a5 _ O) rfl rfl _ _ _ ad.out JW (by rw[af.out];decide) rfl rfl ?_;intro w6 p6;have ag:Hid (rF B p xs (n+1) I1 I2 I3 w M _ _ _ w6):=ae.out _ p6;clear p6 c6;obtain⟨v7,P,c7,o7,Q⟩:=ag.out.own7;have O7:Hid (World.ownsRow _ 0 9 1 v7 _ P):=o7;have ah:=show Hid _ from Q;clear o7 Q;obtain⟨a7,aM,rfl⟩:=gY O7.out)
     |(at_builtin;refine nF rfl _ _ 42 rfl 9 i7 (.string ByteArray.empty) 16 underlying42 au F G H rfl _ _ P rfl (O7.out.alloc _) ⟨_,0,none⟩ (.string ⟨M.toArray⟩) rfl (cell_one_new _ _ _) rfl (by unfold maxLen;omega) (by omega) ?_;intro v8 w8 c R r _;obtain⟨aO,f,t,S⟩:=ah.out _ _ _ c R r;have ai:=show Hid _ from f;have aj:=show Hid _ from S;have ak:=show Hid _ from t;obtain⟨a8,T,rfl⟩:=gY c;clear c R r f S t)
     |(refine bK rfl _ _ _ rfl rfl p 7 (.slice a8 _ T) rfl rfl _ _ _ ai.out JX (by rw[ak.out];decide) rfl rfl ?_;intro w9 p9;have am:Hid (mC B p xs (n+1) I1 I2 I3 w M _ _ _ w9):=aj.out _ p9;clear p9 c7))
    go_roundw;case rel=>exact⟨j+1,_,by omega,aY (by simp),rfl,am.out⟩
    case measure=>simp[intOf];omega
end Go.Proofs.Z

/- Pressed by program out of El Em En. -/
import Derived.Test.YtdlhbmncbmconaaGreatDoorA33
import Derived.Test.YtdlhbmncbmconaaGreatDoorA34
import Derived.Test.YtdlhbmncbmconaaGreatDoorA35
import Derived.Deep.RegionHeld
namespace Go.Hm
theorem KB:∀(k n:Nat)(l:List UInt8)(acc rs:List cF),acc.length=n->n<=12->gX k n l acc= .ok rs->rs.length<=12
 |0,n,l,acc,rs,_,_,h=>by cases h
 |k+1,n,l,acc,rs,ha,hn,h=>by
  unfold gX at h;split at h
  ·cases h;omega
  ·split at h
   ·cases h
   ·next hc=>
    split at h
    ·cases h
    ·next r hr=>
     have:¬n=12:=fun e=>hc (.inl e);exact KB k _ _ _ rs (by simp[ha]) (by omega) h
theorem E9{l:List UInt8}{rs:List cF}(h:nC l= .ok rs):rs.length<=12:=KB (l.length+1) 0 l [] rs rfl (by omega) h
end Go.Hm
namespace Go.Proofs.Z
open Hm Hw Go.RowKit Go.Sort
theorem rH{w:World}{a e size n:Nat}{v:Value}{xs:List Value}(h:w.ownsRow a e size v n xs){k:Nat}(b:v.ownBlock=some k):a<=k:=by
 rcases h.2 with⟨rfl,_⟩|⟨g,c,d,rfl,f,_⟩
 ·cases b
 ·cases b;exact f
structure dJ where
 p:Nat
 q:Nat
 b:Nat
 A:List UInt8
 C:List UInt8
 v:Value
structure wO(w:World)(ρ:Nat->Nat×Nat)(i:Nat)(x:dJ):Prop where
 prog:aW w x.p ((aE.fresh x.b).feed x.A).1 x.v
 ref:w.heap[x.q]?=some (.cells (iF x.b x.C (eC x.b x.C).1.length) 216 (0,0))
 b1:1<=x.b
 b2:x.b<=200
 rp:ρ x.p=(1,3*i)
 rv:∀k,x.v.ownBlock=some k->ρ k=(1,3*i+1)
 rq:ρ x.q=(1,3*i+2)
theorem wO.keep{S:Nat->Prop}{w w':World}{ρ ρ':Nat->Nat×Nat}{i:Nat}{x:dJ}(h:wO w ρ i x)(d:aN S w w')(a:∀k,k<w.heap.size->ρ' k=ρ k)(b:∀k,k<w.heap.size->S k->ρ k≠(1,3*i)/\ρ k≠(1,3*i+1)/\ρ k≠(1,3*i+2)):wO w' ρ' i x:=by
 have f:x.p<w.heap.size:=(aM.1 h.prog.row).1;have c:x.q<w.heap.size:=(aM.1 h.ref).1;exact⟨h.prog.keep d (fun s=>(b _ f s).1 h.rp) (fun k e s=>(b _ (fE h.prog.own e) s).2.1 (h.rv k e)),(d.block _ c (fun s=>(b _ c s).2.2 h.rq)).trans h.ref,h.b1,h.b2,(a _ f).trans h.rp,fun k e=>(a _ (fE h.prog.own e)).trans (h.rv k e),(a _ c).trans h.rq⟩
def nI(frs:List dJ)(w:World)(ρ:Nat->Nat×Nat):Prop:=∀i x,frs[i]?=some x->wO w ρ i x
theorem nI.stable(frs:List dJ):nH 1 (nI frs):=fun _ _ _ _ _ h a c b i x d=>(h i x d).keep a c (fun k a s=>⟨fun e=>b k a s (by rw[e]),fun e=>b k a s (by rw[e]),fun e=>b k a s (by rw[e])⟩)
structure eI where
 p:Nat
 q:Nat
 rs:List cF
 xs:List jV
 v:Value
 u:Value
structure wP(w:World)(ρ:Nat->Nat×Nat)(x:eI):Prop where
 prog:jJ w x.p x.rs x.v
 ref:fM w x.q x.rs x.xs x.u
 small:∀r∈x.rs,r.small
 len:x.rs.length<=1000
 rp:(ρ x.p).1=2
 rv:∀k,x.v.ownBlock=some k->(ρ k).1=2
 rq:(ρ x.q).1=2
 ru:∀k,x.u.ownBlock=some k->(ρ k).1=2
 rx:∀y∈x.xs,∀k,y.v.ownBlock=some k->(ρ k).1=2
def qI(rus:List eI)(w:World)(ρ:Nat->Nat×Nat):Prop:=∀x∈rus,wP w ρ x
theorem wP.keep{S:Nat->Prop}{w w':World}{ρ ρ':Nat->Nat×Nat}{x:eI}(h:wP w ρ x)(b:aN S w w')(i:∀k,k<w.heap.size->ρ' k=ρ k)(d:∀k,k<w.heap.size->S k->(ρ k).1≠2):wP w' ρ' x:=by
 have f:x.p<w.heap.size:=(aM.1 h.prog.row).1;have g:x.q<w.heap.size:=(aM.1 h.ref.row).1;have a:∀k,k<w.heap.size->(ρ' k).1=(ρ k).1:=fun k b=>by rw[i k b]
 exact⟨⟨(b.block _ f (fun s=>d _ f s h.rp)).trans h.prog.row,cQ h.prog.own b (fun k e s=>d _ (fE h.prog.own e) s (h.rv k e))⟩,
  ⟨(b.block _ g (fun s=>d _ g s h.rq)).trans h.ref.row,cQ h.ref.own b (fun k e s=>d _ (fE h.ref.own e) s (h.ru k e)),fun y c=>cQ (h.ref.each y c) b (fun k e s=>d _ (fE (h.ref.each y c) e) s (h.rx y c k e)),h.ref.len,h.ref.alike⟩,
  h.small,h.len,(a _ f).trans h.rp,fun k e=>(a _ (fE h.prog.own e)).trans (h.rv k e),(a _ g).trans h.rq,fun k e=>(a _ (fE h.ref.own e)).trans (h.ru k e),fun y c k e=>(a _ (fE (h.ref.each y c) e)).trans (h.rx y c k e)⟩
theorem qI.stable(rus:List eI):nH 2 (qI rus):=fun _ _ _ _ _ h a b c x d=>(h x d).keep a b c
def bQ(p:Nat):Value:= .pointer (some ⟨p,0,none⟩)
def aV(B p:Nat)(frs:List dJ)(rus:List eI)(X:World->(Nat->Nat×Nat)->Prop)(pe pf:List Value)(L n:Nat)(w:World):Prop:=
 ∃vs xs li ρ,dC B p vs xs n (nI frs) (qI rus) X li ρ w/\(xs 0=frs.map fun x=>bQ x.p)/\(xs 1=frs.map fun x=>bQ x.q)/\(xs 2=rus.map fun x=>bQ x.p)/\(xs 3=rus.map fun x=>bQ x.q)/\xs 4=pe/\xs 5=pf/\xs 6=li.map (·.v)/\(xs 7=li.map fun x=>aU x.m)/\li.length=L
section
variable {B p : Nat} {frs : List dJ} {rus : List eI} {X : World → (Nat → Nat × Nat) → Prop} {pe pf : List Value} {L n : Nat} {w w' : World}
theorem aV.next(h:aV B p frs rus X pe pf L n w)(a:Below w.heap.size w w'):aV B p frs rus X pe pf L n w':=by
 obtain⟨b,xs,li,ρ,hI,h⟩:=h;exact⟨b,xs,li,ρ,hI.next0 a,h⟩
theorem aV.lt(h:aV B p frs rus X pe pf L n w):p<w.heap.size:=by
 obtain⟨a,xs,li,ρ,hI,h⟩:=h;exact hI.lt
theorem aV.le(h:aV B p frs rus X pe pf L n w):B<=p:=by
 obtain⟨a,xs,li,ρ,hI,h⟩:=h;exact hI.le
def iJ(j:Nat)(B p:Nat)(frs:List dJ)(rus:List eI)(X:World->(Nat->Nat×Nat)->Prop)(xs0:Nat->List Value)(L n:Nat)(w0 w:World):Prop:=
 ∃vs xs li ρ,dC B p vs xs n (nI frs) (qI rus) X li ρ w/\xs=xs0/\xs 6=li.map (·.v)/\(xs 7=li.map fun x=>aU x.m)/\li.length=L/\j<6/\Below B w0 w
theorem iJ.own{j:Nat}{a:Nat->List Value}{e:World}(h:iJ j B p frs rus X a L n e w):∃v,w.cell? ⟨p,j,none⟩=some v/\w.ownsRow 0 (pH j) 1 v (a j).length (a j)/\
  ∀(o:Obj)(v':Value)(b:World)(x:Value),b.ownsRow 0 (pH j) 1 v' ((a j).length+1) (a j++[x])->(w.alloc o).grownBy b v.ownBlock->(v'.ownBlock=v.ownBlock∨v'.ownBlock=some (w.alloc o).heap.size)->
   ∃old,b.heap[p]?=some (.cells old 142 (0,0))/\old.size=9/\∀d,aI b p 142 (old.setIfInBounds j v') d->iJ j B p frs rus X (iI a j (a j++[x])) L n e d:=by
 obtain⟨f,xs,li,ρ,hI,rfl,h6,h7,hL,hj,hb⟩:=h;obtain⟨c,g,i⟩:=hI.own (j:=j) (by omega);refine⟨f j,c,g,fun o v' b x h1 h2 h3=>?_⟩;obtain⟨old,k,l,m⟩:=i o v' b x h1 h2 h3;refine⟨old,k,l,fun d P=>?_⟩;obtain⟨q,r⟩:=m d P;exact⟨_,_,li,_,q,rfl,by rw[qG _ _ (by omega),h6],by rw[qG _ _ (by omega),h7],hL,hj,hb.trans r⟩
theorem iJ.turn{j k:Nat}{a:Nat->List Value}{b:World}(h:iJ j B p frs rus X a L n b w)(c:k<6):iJ k B p frs rus X a L n b w:=by
 obtain⟨d,xs,li,ρ,hI,rfl,h6,h7,hL,hj,hb⟩:=h;exact⟨d,xs,li,ρ,hI,rfl,h6,h7,hL,c,hb⟩
theorem iJ.frame{a:Nat->List Value}{b:World}{x:dJ}(h:iJ 1 B p (frs++[x]) rus X (iI (iI a 0 (a 0++[bQ x.p])) 1 (a 1++[bQ x.q])) L n b w)(h0:a 0=frs.map fun x=>bQ x.p)(h1:a 1=frs.map fun x=>bQ x.q)(h2:a 2=rus.map fun x=>bQ x.p)(h3:a 3=rus.map fun x=>bQ x.q)(h4:a 4=pe)(h5:a 5=pf):aV B p (frs++[x]) rus X pe pf L n w:=by
 obtain⟨c,xs,li,ρ,hI,rfl,h6,h7,hL,hj,hb⟩:=h;refine⟨c,_,li,ρ,hI,?_,?_,h2,h3,h4,h5,h6,h7,hL⟩
 ·show a 0++_=_;rw[h0];simp
 ·show a 1++_=_;rw[h1];simp
theorem iJ.rule{a:Nat->List Value}{b:World}{x:eI}(h:iJ 3 B p frs (rus++[x]) X (iI (iI a 2 (a 2++[bQ x.p])) 3 (a 3++[bQ x.q])) L n b w)(h0:a 0=frs.map fun x=>bQ x.p)(h1:a 1=frs.map fun x=>bQ x.q)(h2:a 2=rus.map fun x=>bQ x.p)(h3:a 3=rus.map fun x=>bQ x.q)(h4:a 4=pe)(h5:a 5=pf):aV B p frs (rus++[x]) X pe pf L n w:=by
 obtain⟨c,xs,li,ρ,hI,rfl,h6,h7,hL,hj,hb⟩:=h;refine⟨c,_,li,ρ,hI,h0,h1,?_,?_,h4,h5,h6,h7,hL⟩
 ·show a 2++_=_;rw[h2];simp
 ·show a 3++_=_;rw[h3];simp
theorem aV.newFrame{b d:World}{m:Nat}(h:aV B p frs rus X pe pf L n w)(l:Below w.heap.size w b)(t:aW b w.heap.size (aE.fresh m) (.slice none 0 0))(g:Below b.heap.size b d)(y:d.heap[b.heap.size]?=some (.cells (iF m [] 0) 216 (0,0)))(m1:1<=m)(m2:m<=200):
  ∃a,iJ 0 B p (frs++[⟨w.heap.size,b.heap.size,m,[],[],.slice none 0 0⟩]) rus X a L n w d/\(a 0=frs.map fun x=>bQ x.p)/\(a 1=frs.map fun x=>bQ x.q)/\(a 2=rus.map fun x=>bQ x.p)/\(a 3=rus.map fun x=>bQ x.q)/\a 4=pe/\a 5=pf:=by
 obtain⟨z,xs,li,ρ,hI,h0,h1,h2,h3,h4,h5,h6,h7,hL⟩:=h;have u:Below w.heap.size w d:=Below.next l (aC _) g;have o:w.heap.size<b.heap.size:=(aM.1 t.row).1;obtain⟨ρ',hρ⟩:∃ρ',ρ'=lR (lR ρ w.heap.size (1,3*frs.length)) b.heap.size (1,3*frs.length+2):=⟨_,rfl⟩;have v:∀k,k<w.heap.size->ρ' k=ρ k:=fun k j=>by rw[hρ,oF (by omega),oF j]
 have j:aN (fun _=>False) w d:=aN.of_below u;refine⟨xs,⟨z,xs,li,ρ',hI.set1 j v (fun _ _ f=>f.elim) ?_ (nI.stable _),rfl,h6,h7,hL,by omega,u.mono (by have:=hI.le;have:=hI.lt;omega)⟩,h0,h1,h2,h3,h4,h5⟩;intro i x c;rcases Nat.lt_or_ge i frs.length with hi|hi
 ·rw[List.getElem?_append_left hi]at c;exact nI.stable frs _ _ _ _ _ hI.i1 j v (fun _ _ f=>f.elim) i x c
 ·rw[tH hi]at c;have r:i-frs.length=0:=by
   have:=(iY.1 c).1;simp at this;omega
  rw[r]at c;have c:⟨w.heap.size,b.heap.size,m,[],[],.slice none 0 0⟩=x:=by simpa using c
  subst c;have s:i=frs.length:=by omega
  subst s;refine⟨t.keep (S:=fun _=>False) (aN.of_below g) (fun f=>f) (fun _ _ f=>f),y,m1,m2,?_,fun k e=>(by cases e),?_⟩
  ·rw[hρ,oF o,qF (aC _)]
  ·rw[hρ,qF (aC _)]
theorem aV.newRule{c d:World}{rs:List cF}{z:List jV}{v u:Value}(h:aV B p frs rus X pe pf L n w)(o:Below w.heap.size w c)(m:jJ c w.heap.size rs v)(j:Below c.heap.size c d)(s:fM d c.heap.size rs z u)(D:∀r∈rs,r.small)(G:rs.length<=12):
  ∃a,iJ 2 B p frs (rus++[⟨w.heap.size,c.heap.size,rs,z,v,u⟩]) X a L n w d/\(a 0=frs.map fun x=>bQ x.p)/\(a 1=frs.map fun x=>bQ x.q)/\(a 2=rus.map fun x=>bQ x.p)/\(a 3=rus.map fun x=>bQ x.q)/\a 4=pe/\a 5=pf:=by
 obtain⟨E,xs,li,ρ,hI,h0,h1,h2,h3,h4,h5,h6,h7,hL⟩:=h;have A:Below w.heap.size w d:=Below.next o (aC _) j;have t:w.heap.size<c.heap.size:=(aM.1 m.row).1;have C:∀k,k<w.heap.size->lR ρ w.heap.size (2,0) k=ρ k:=fun k g=>oF g;have g:aN (fun _=>False) w d:=aN.of_below A;have l:aN (fun _=>False) c d:=aN.of_below j;have b:∀k,w.heap.size<=k->(lR ρ w.heap.size (2,0) k).1=2:=fun k g=>by rw[qF g]
 refine⟨xs,⟨E,xs,li,_,hI.set2 g C (fun _ _ f=>f.elim) ?_ (qI.stable _),rfl,h6,h7,hL,by omega,A.mono (by have:=hI.le;have:=hI.lt;omega)⟩,h0,h1,h2,h3,h4,h5⟩;intro x i;rcases jM.1 i with i|i
 ·exact qI.stable rus _ _ _ _ _ hI.i2 g C (fun _ _ f=>f.elim) x i
 ·simp at i;subst i;refine⟨⟨(l.block _ t (fun f=>f)).trans m.row,cQ m.own l (fun _ _ f=>f)⟩,s,D,by dsimp only;omega,b _ (aC _),fun k e=>b k ?_,b _ (by dsimp only;omega),fun k e=>b k ?_,fun y F k e=>b k ?_⟩
  ·have:=rH m.own e;omega
  ·have:=rH s.own e;omega
  ·have:=rH (s.each y F) e;omega
end
end Go.Proofs.Z
namespace Go.Proofs.Z
open Hm Hw Tryz Go.RowKit Go.Sort
theorem oH(e:Int)(w:World):Calls prog 107 #[.int .i64 e] w fun r a=>r= .returned (.int .i64 e)/\a=w:=by
 go_enter func107,ntmps107;go_wp2;go_ret;exact⟨rfl,rfl⟩
theorem F1:(prog.info? 45).map (fun i=>(i.zero,i.size,i.bytes))=some (some (.pointer none),1,8):=by kernel_rfl
theorem F5:(prog.info? 134).map (·.size)=some 1:=by kernel_rfl
theorem F6:(prog.info? 169).map (fun i=>(i.zero,i.size,i.bytes))=some (some (.pointer none),1,8):=by kernel_rfl
theorem G0:(prog.info? 135).map (·.size)=some 1:=by kernel_rfl
theorem G3:(prog.info? 56).map (fun i=>(i.zero,i.size,i.bytes))=some (some (.pointer none),1,8):=by kernel_rfl
theorem G4:(prog.info? 136).map (·.size)=some 1:=by kernel_rfl
theorem G5:(prog.info? 173).map (fun i=>(i.zero,i.size,i.bytes))=some (some (.pointer none),1,8):=by kernel_rfl
theorem G6:(prog.info? 137).map (·.size)=some 1:=by kernel_rfl
theorem rI{w:World}{g:Nat}{i j k l m n o p q r a b c d e f:Value}{t:TypeId}{fr:Nat×Nat}(h:w.heap[g]?=some (.cells #[i,j,k,l,m,n,o,p,q,r,a,b,c,d,e,f] t fr)):
  w.cell? ⟨g,0,none⟩=some i/\w.cell? ⟨g,1,none⟩=some j/\w.cell? ⟨g,2,none⟩=some k/\w.cell? ⟨g,3,none⟩=some l/\w.cell? ⟨g,4,none⟩=some m/\w.cell? ⟨g,5,none⟩=some n/\w.cell? ⟨g,6,none⟩=some o:=
 ⟨aS _ _ _ _ _ _ h,aS _ _ _ _ _ _ h,aS _ _ _ _ _ _ h,aS _ _ _ _ _ _ h,aS _ _ _ _ _ _ h,aS _ _ _ _ _ _ h,aS _ _ _ _ _ _ h⟩
set_option maxRecDepth 20000 in
set_option maxHeartbeats 4000000 in
theorem G7(p:Nat)(o:cK)(j:o.kind=3)(i:o.n<1∨200<o.n)(w:World):Calls prog 70 #[.pointer (some ⟨p,0,none⟩),.agg (bA o)] w fun e h=>e= .returned (.bool true)/\Below w.heap.size w h:=by
 have k:Hid (∀w,Calls prog 27 #[.int .i64 o.n] w fun e h=>e= .returned (.tuple #[.pointer none,.int .i64 10])/\h=w):=fun w=>WZ o.n w i;have l:Hid (∀w,Calls prog 106 #[.int .i64 o.n] w fun e h=>e= .returned (.tuple #[.pointer none,.int .i64 10])/\h=w):=fun w=>ZE o.n i w;have v:Hid (∀w,Calls prog 107 #[.int .i64 10] w fun r h=>r= .returned (.int .i64 10)/\h=w):=fun w=>oH 10 w;clear i;obtain⟨y,a,b,c,m,q,s,⟨f,z,t,h1,h2,h3,h4,d,x⟩⟩:=o;dsimp only at j k l;subst j;unfold bA;dsimp only;go_enter func70,ntmps70;go_wp2_with fail;refine(k.out _).mono ?_;rintro e u⟨rfl,g⟩;subst g;go_wp2_with fail;refine(l.out _).mono ?_;rintro e u⟨rfl,g⟩;subst g;go_wp2_with fail;refine(v.out _).mono ?_;rintro e u⟨rfl,g⟩;subst g;go_wp2;go_ret;exact⟨rfl,(aF _ _).alloc (aC _) _⟩
set_option maxRecDepth 20000 in
set_option maxHeartbeats 8000000 in
theorem KC{B p:Nat}{g:List dJ}{i:List eI}{X:World->(Nat->Nat×Nat)->Prop}{H pf:List Value}{L n:Nat}{w:World}(h:aV B p g i X H pf L n w)(h11:11<=w.heap.size)(hl:g.length<=1000000000000)(o:cK)(hk:o.kind=3)(m:Nat)(hm:o.n=m)(m1:1<=m)(m2:m<=200):
  Calls prog 70 #[.pointer (some ⟨p,0,none⟩),.agg (bA o)] w fun e v=>e= .returned (.bool true)/\Below B w v/\∃x:dJ,x.A=[]/\x.C=[]/\aV B p (g++[x]) i X H pf L n v:=by
 obtain⟨i0,ak,I,J,K⟩:=info_parts F1;obtain⟨i1,al,M,N,O⟩:=info_parts F6;have NF:Hid (∀w:World,11<=w.heap.size->Calls prog 27 #[.int .i64 m] w fun e v=>e= .returned (.tuple #[.pointer (some ⟨w.heap.size,0,none⟩),.int .i64 0])/\aW v w.heap.size (aE.fresh m) (.slice none 0 0)/\Below w.heap.size w v):=fun w hw=>XA m w hw m1 m2;have RN:Hid (∀w:World,Calls prog 106 #[.int .i64 m] w fun e v=>e= .returned (.tuple #[.pointer (some ⟨w.heap.size,0,none⟩),.int .i64 0])/\v.heap[w.heap.size]?=some (.cells (iF m [] 0) 216 (0,0))/\Below w.heap.size w v):=fun w=>ZF m m1 m2 w;have NU:Hid (∀w,Calls prog 107 #[.int .i64 0] w fun r v=>r= .returned (.int .i64 0)/\v=w):=fun w=>oH 0 w;obtain⟨kd,a,b,c,mm,q,s,⟨f,sv,t,h1,h2,h3,h4,d,x⟩⟩:=o;dsimp only at hk hm;subst hk hm;unfold bA;dsimp only;have HH:Hid (aV B p g i X H pf L n w):=h;clear h;go_enter func70,ntmps70;go_wp2_with fail;generalize hW:w.alloc _=W;have P:Hid (Below w.heap.size w W):=by
  show Below _ _ _;rw[<-hW];exact(aF _ _).alloc (aC _) _
 have Q:=show Hid (W.heap[w.heap.size]?=_)from(by rw[<-hW];exact heap_alloc_new _ _);clear hW;have am:w.heap.size<W.heap.size:=(aM.1 Q.out).1;have an:Hid (aV B p g i X H pf L n W):=HH.out.next P.out;refine(NF.out W (by omega)).mono ?_;rintro e w1⟨rfl,R,F⟩;have S:=show Hid _ from R;have T:=show Hid _ from F;obtain⟨y0,y1,y2,y3,y4,y5,y6⟩:=rI ((F.block _ am).trans Q.out);clear R F;go_wp2_with fail;refine(RN.out w1).mono ?_;rintro e w2⟨rfl,U,V⟩;obtain⟨xs0,hM,Y,Z,e2,e3,e4,e5⟩:=an.out.newFrame T.out S.out V U m1 m2;have HM:Hid (iJ 0 B p _ i X xs0 L n W w2):=hM;have HE:Hid ((xs0 0=g.map fun x=>bQ x.p)/\(xs0 1=g.map fun x=>bQ x.q)/\(xs0 2=i.map fun x=>bQ x.p)/\(xs0 3=i.map fun x=>bQ x.q)/\xs0 4=H/\xs0 5=pf):=⟨Y,Z,e2,e3,e4,e5⟩;have n0:(xs0 0).length<=1000000000000:=by rw[Y,eS];exact hl
 have n1:(xs0 1).length<=1000000000000:=by rw[Z,eS];exact hl
 clear Y Z e2 e3 e4 e5 hM U V T S y0 y1 y2 y3 y4 y5 y6 hl;go_wp2_with fail;refine(NU.out _).mono ?_;rintro e w3⟨rfl,G⟩;have G:=G.symm;subst G;obtain⟨v0,c0,o0,aa⟩:=HM.out.own;have O0:Hid (World.ownsRow _ 0 45 1 v0 _ (xs0 0)):=o0;have ao:=show Hid _ from aa;clear o0 aa;obtain⟨a0,aA,rfl⟩:=gY O0.out;go_wp2_with(first
  |(at_builtin;refine nF rfl _ _ 134 rfl 45 i0 (.pointer none) 8 underlying134 ak I J K rfl _ _ (xs0 0) rfl (O0.out.alloc _) ⟨_,0,none⟩ (.pointer (some ⟨W.heap.size,0,none⟩)) rfl (cell_one_new _ _ _) rfl (by unfold maxLen;omega) (by omega) ?_;intro v5 w5 j ab y _;obtain⟨aB,l,z,ac⟩:=ao.out _ _ _ _ j ab y;have ap:=show Hid _ from l;have aq:=show Hid _ from ac;have ar:=show Hid _ from z;obtain⟨a5,ad,rfl⟩:=gY j;clear j ab y l ac z)
  |(refine bK rfl _ _ _ rfl rfl p 0 (.slice a5 _ ad) rfl rfl _ _ _ ap.out F5 (by rw[ar.out];decide) rfl rfl ?_;intro w6 p6;have ae:=aq.out _ p6;have au:Hid (iJ 1 B p _ _ X (iI xs0 0 (xs0 0++[(.pointer (some ⟨W.heap.size,0,none⟩))])) L n W w6):=ae.turn (by omega);clear p6 c0 ae;obtain⟨v7,c7,o7,af⟩:=au.out.own;have O7:Hid (World.ownsRow _ 0 169 1 v7 (xs0 1).length (xs0 1)):=o7;have av:=show Hid _ from af;clear o7 af;obtain⟨a7,aD,rfl⟩:=gY O7.out)
  |(at_builtin;refine nF rfl _ _ 135 rfl 169 i1 (.pointer none) 8 underlying135 al M N O rfl _ _ (xs0 1) rfl (O7.out.alloc _) ⟨_,0,none⟩ (.pointer (some ⟨w1.heap.size,0,none⟩)) rfl (cell_one_new _ _ _) rfl (by unfold maxLen;omega) (by omega) ?_;intro v8 w8 k ag D _;obtain⟨aG,u,E,ah⟩:=av.out _ _ _ _ k ag D;have aw:=show Hid _ from u;have ax:=show Hid _ from ah;have ay:=show Hid _ from E;obtain⟨a8,ai,rfl⟩:=gY k;clear k ag D u ah E)
  |(refine bK rfl _ _ _ rfl rfl p 1 (.slice a8 _ ai) rfl rfl _ _ _ aw.out G0 (by rw[ay.out];decide) rfl rfl ?_;intro w9 p9;have aj:Hid (iJ 1 B p _ _ X (iI (iI xs0 0 (xs0 0++[(.pointer (some ⟨W.heap.size,0,none⟩))])) 1 (xs0 1++[(.pointer (some ⟨w1.heap.size,0,none⟩))])) L n W w9):=ax.out _ p9;clear p9 c7)
  |fail)
 go_ret;obtain⟨Y,Z,e2,e3,e4,e5⟩:=HE.out;have az:Below B W w9:=by
  obtain⟨_,_,_,_,_,_,_,_,_,_,hb⟩:=aj.out;exact hb
 exact⟨rfl,(P.out.mono (by have:=HH.out.le;have:=HH.out.lt;omega)).trans az,_,rfl,rfl,aj.out.frame Y Z e2 e3 e4 e5⟩
set_option maxRecDepth 20000 in
set_option maxHeartbeats 4000000 in
theorem KE(p:Nat)(o:cK)(n:o.kind=5)(E K:Int)(w:World)(z:aJ w)(h1:∀w,aJ w->Calls prog 32 #[.string ⟨o.s.toArray⟩] w fun e h=>e= .returned (.tuple #[.pointer none,.int .i64 E,.int .i64 K])/\Below w.heap.size w h)(h2:∀w,Calls prog 108 #[.string ⟨o.s.toArray⟩] w fun e h=>e= .returned (.tuple #[.pointer none,.int .i64 E,.int .i64 K])/\Below w.heap.size w h):
  Calls prog 70 #[.pointer (some ⟨p,0,none⟩),.agg (bA o)] w fun e h=>e= .returned (.bool true)/\Below w.heap.size w h:=by
 have u:=show Hid _ from h1;have v:=show Hid _ from h2;have A:Hid (∀w,Calls prog 107 #[.int .i64 E] w fun r h=>r= .returned (.int .i64 E)/\h=w):=fun w=>oH E w;clear h1 h2;obtain⟨M,a,b,c,m,q,s,⟨f,N,t,h1,h2,h3,h4,d,x⟩⟩:=o;dsimp only at n u v;subst n;unfold bA;dsimp only;go_enter func70,ntmps70;go_wp2_with fail;refine(u.out _ (z.alloc _)).mono ?_;rintro e y⟨rfl,g⟩;have k:Hid (Below w.heap.size w y):=((aF _ _).alloc (aC _) _).trans (g.mono (by simp));have B:w.heap.size<y.heap.size:=by have:=g.size;simp at this;omega
 obtain⟨C,D,F,G,H,I,J⟩:=rI ((g.block w.heap.size (by simp)).trans (heap_alloc_new _ _));clear g;go_wp2_with fail;refine(v.out _).mono ?_;rintro e L⟨rfl,j⟩;have l:Hid (Below w.heap.size w L):=Below.next k.out (by omega) j;clear j C D F G H I J;go_wp2_with fail;refine(A.out _).mono ?_;rintro e O⟨rfl,i⟩;have i:=i.symm;subst i;go_wp2;go_ret;exact⟨rfl,l.out⟩
set_option maxRecDepth 20000 in
set_option maxHeartbeats 8000000 in
theorem KG{B p:Nat}{g:List dJ}{i:List eI}{X:World->(Nat->Nat×Nat)->Prop}{I pf:List Value}{L n:Nat}{w:World}(h:aV B p g i X I pf L n w)(hT:aJ w)(hl:i.length<=1000000000000)(o:cK)(hk:o.kind=5)(hs:o.s.length<=400)(rs:List cF)(l:nC o.s= .ok rs):
  Calls prog 70 #[.pointer (some ⟨p,0,none⟩),.agg (bA o)] w fun e y=>e= .returned (.bool true)/\Below B w y/\∃x:eI,aV B p g (i++[x]) X I pf L n y:=by
 obtain⟨i0,am,J,K,M⟩:=info_parts G3;obtain⟨i1,an,N,O,P⟩:=info_parts G5;have NF:Hid (∀w:World,aJ w->Calls prog 32 #[.string ⟨o.s.toArray⟩] w fun e y=>e= .returned (.tuple #[.pointer (some ⟨w.heap.size,0,none⟩),.int .i64 0,.int .i64 0])/\(∃v,jJ y w.heap.size rs v)/\Below w.heap.size w y):=fun w hT=>by
  refine(IB ⟨o.s.toArray⟩ w hT (by simpa[ByteArray.size]using hs)).mono ?_;rintro e Q⟨R,E⟩;rw[show(⟨o.s.toArray⟩:ByteArray).data.toList=o.s from rfl,l]at E;exact⟨E.1,E.2,R⟩
 have RN:Hid (∀w:World,Calls prog 108 #[.string ⟨o.s.toArray⟩] w fun e y=>e= .returned (.tuple #[.pointer (some ⟨w.heap.size,0,none⟩),.int .i64 0,.int .i64 0])/\(∃xs v,fM y w.heap.size rs xs v)/\Below w.heap.size w y):=fun w=>by
  refine(JS o.s hs w).mono ?_;rintro e Q⟨R,E⟩;rw[l]at E;exact⟨E.1,E.2,R⟩
 have NU:Hid (∀w,Calls prog 107 #[.int .i64 0] w fun r y=>r= .returned (.int .i64 0)/\y=w):=fun w=>oH 0 w;have S:=XQ l;have T:=E9 l;have ao:=show Hid _ from S;have ap:Hid (rs.length<=12):=T;clear S T l hs;obtain⟨kd,a,b,c,mm,q,s,⟨f,sv,t,h1,h2,h3,h4,d,x⟩⟩:=o;dsimp only at hk NF RN;subst hk;unfold bA;dsimp only;have HH:Hid (aV B p g i X I pf L n w):=h;clear h;go_enter func70,ntmps70;go_wp2_with fail;generalize hW:w.alloc _=W;have F:Hid (Below w.heap.size w W):=by
  show Below _ _ _;rw[<-hW];exact(aF _ _).alloc (aC _) _
 have U:=show Hid (W.heap[w.heap.size]?=_)from(by rw[<-hW];exact heap_alloc_new _ _);clear hW;have aq:w.heap.size<W.heap.size:=(aM.1 U.out).1;have ar:Hid (aV B p g i X I pf L n W):=HH.out.next F.out;refine(NF.out W (hT.next F.out)).mono ?_;rintro e Q⟨rfl,⟨rv,V⟩,G⟩;have Y:=show Hid _ from V;have Z:=show Hid _ from G;obtain⟨y0,y1,y2,y3,y4,y5,y6⟩:=rI ((G.block _ aq).trans U.out);clear V G;go_wp2_with fail;refine(RN.out Q).mono ?_;rintro e w2⟨rfl,⟨ys,ru,aa⟩,ab⟩;obtain⟨xs0,hM,e0,e1,e2,e3,e4,e5⟩:=ar.out.newRule Z.out Y.out ab aa ao.out ap.out;have HM:Hid (iJ 2 B p g _ X xs0 L n W w2):=hM;have HE:Hid ((xs0 0=g.map fun x=>bQ x.p)/\(xs0 1=g.map fun x=>bQ x.q)/\(xs0 2=i.map fun x=>bQ x.p)/\(xs0 3=i.map fun x=>bQ x.q)/\xs0 4=I/\xs0 5=pf):=⟨e0,e1,e2,e3,e4,e5⟩;have n0:(xs0 2).length<=1000000000000:=by rw[e2,eS];exact hl
 have n1:(xs0 3).length<=1000000000000:=by rw[e3,eS];exact hl
 clear e0 e1 e2 e3 e4 e5 hM aa ab Z Y y0 y1 y2 y3 y4 y5 y6 hl;go_wp2_with fail;refine(NU.out _).mono ?_;rintro e w3⟨rfl,H⟩;have H:=H.symm;subst H;obtain⟨v0,c0,o0,ac⟩:=HM.out.own;have O0:Hid (World.ownsRow _ 0 56 1 v0 _ (xs0 2)):=o0;have au:=show Hid _ from ac;clear o0 ac;obtain⟨a0,aG,rfl⟩:=gY O0.out;go_wp2_with(first
  |(at_builtin;refine nF rfl _ _ 136 rfl 56 i0 (.pointer none) 8 underlying136 am J K M rfl _ _ (xs0 2) rfl (O0.out.alloc _) ⟨_,0,none⟩ (.pointer (some ⟨W.heap.size,0,none⟩)) rfl (cell_one_new _ _ _) rfl (by unfold maxLen;omega) (by omega) ?_;intro v5 w5 j ad z _;obtain⟨aH,m,A,ae⟩:=au.out _ _ _ _ j ad z;have av:=show Hid _ from m;have aw:=show Hid _ from ae;have ax:=show Hid _ from A;obtain⟨a5,af,rfl⟩:=gY j;clear j ad z m ae A)
  |(refine bK rfl _ _ _ rfl rfl p 2 (.slice a5 _ af) rfl rfl _ _ _ av.out G4 (by rw[ax.out];decide) rfl rfl ?_;intro w6 p6;have ag:=aw.out _ p6;have ay:Hid (iJ 3 B p _ _ X (iI xs0 2 (xs0 2++[(.pointer (some ⟨W.heap.size,0,none⟩))])) L n W w6):=ag.turn (by omega);clear p6 c0 ag;obtain⟨v7,c7,o7,ah⟩:=ay.out.own;have O7:Hid (World.ownsRow _ 0 173 1 v7 (xs0 3).length (xs0 3)):=o7;have az:=show Hid _ from ah;clear o7 ah;obtain⟨a7,aI,rfl⟩:=gY O7.out)
  |(at_builtin;refine nF rfl _ _ 137 rfl 173 i1 (.pointer none) 8 underlying137 an N O P rfl _ _ (xs0 3) rfl (O7.out.alloc _) ⟨_,0,none⟩ (.pointer (some ⟨Q.heap.size,0,none⟩)) rfl (cell_one_new _ _ _) rfl (by unfold maxLen;omega) (by omega) ?_;intro v8 w8 k ai C _;obtain⟨aK,u,D,aj⟩:=az.out _ _ _ _ k ai C;have aA:=show Hid _ from u;have aB:=show Hid _ from aj;have aD:=show Hid _ from D;obtain⟨a8,ak,rfl⟩:=gY k;clear k ai C u aj D)
  |(refine bK rfl _ _ _ rfl rfl p 3 (.slice a8 _ ak) rfl rfl _ _ _ aA.out G6 (by rw[aD.out];decide) rfl rfl ?_;intro w9 p9;have al:Hid (iJ 3 B p _ _ X (iI (iI xs0 2 (xs0 2++[(.pointer (some ⟨W.heap.size,0,none⟩))])) 3 (xs0 3++[(.pointer (some ⟨Q.heap.size,0,none⟩))])) L n W w9):=aB.out _ p9;clear p9 c7)
  |fail)
 go_ret;obtain⟨e0,e1,e2,e3,e4,e5⟩:=HE.out;have aE:Below B W w9:=by
  obtain⟨_,_,_,_,_,_,_,_,_,_,R⟩:=al.out;exact R
 exact⟨rfl,(F.out.mono (by have:=HH.out.le;have:=HH.out.lt;omega)).trans aE,_,al.out.rule e0 e1 e2 e3 e4 e5⟩
end Go.Proofs.Z
namespace Go.Proofs.Z
open Hm Hw Tryz Go.RowKit Go.Sort
attribute [local go_sem] cN cO
def gC(l:Value)(B p:Nat)(frs:List dJ)(rus:List eI)(X:World->(Nat->Nat×Nat)->Prop)(pe pf:List Value)(L n:Nat)(w:World):Prop:=
 ∃vs xs li ρ,dC B p vs xs n (nI frs) (qI rus) X li ρ w/\(xs 0=frs.map fun x=>bQ x.p)/\(xs 1=frs.map fun x=>bQ x.q)/\(xs 2=rus.map fun x=>bQ x.p)/\(xs 3=rus.map fun x=>bQ x.q)/\xs 4=pe/\xs 5=pf/\xs 6=li.map (·.v)/\(xs 7=li.map fun x=>aU x.m)/\li.length=L/\∀b,l.ownBlock=some b->(ρ b).1=5/\∀x∈li,x.v.ownBlock≠some b
section
variable {B p : Nat} {frs : List dJ} {rus : List eI} {X : World → (Nat → Nat × Nat) → Prop} {pe pf : List Value} {L n : Nat} {w w' : World} {l : Value}
theorem aV.fresh(h:aV B p frs rus X pe pf L n w):gC (.slice none 0 0) B p frs rus X pe pf L n w:=by
 obtain⟨a,xs,li,ρ,hI,h0,h1,h2,h3,h4,h5,h6,h7,hL⟩:=h;exact⟨a,xs,li,ρ,hI,h0,h1,h2,h3,h4,h5,h6,h7,hL,fun b e=>by cases e⟩
theorem gC.next(h:gC l B p frs rus X pe pf L n w)(a:Below w.heap.size w w'):gC l B p frs rus X pe pf L n w':=by
 obtain⟨b,xs,li,ρ,hI,h⟩:=h;exact⟨b,xs,li,ρ,hI.next0 a,h⟩
theorem sV{ρ:Nat->Nat×Nat}{r:Nat->Value}{xs:Nat->List Value}{s t v:World->(Nat->Nat×Nat)->Prop}{x:List nG}(h:dC B p r xs n s t v x ρ w){j:Nat}(m:j<8){e:List Value}(y:xs j=e){i:Nat}{u:Value}(z:e[i]?=some u):
  ∃g a,w.cell? ⟨p,j,none⟩=some (.slice (some ⟨g,0,none⟩) e.length a)/\w.cell? ⟨g,i,none⟩=some u/\∃b,w.heap[g]?=some (.cells b (pH j) (0,0)):=by
 have f:=(h.sl j m).own;have o:=h.cell m;rw[y]at f;obtain⟨g,a,q,c⟩:=wL f z;obtain⟨b,d⟩:=dN f (k:=g) (by rw[q];rfl);rw[q]at o;exact⟨g,a,o,c,b,d⟩
theorem gC.frameAt(h:gC l B p frs rus X pe pf L n w){i:Nat}{x:dJ}(g:frs[i]?=some x):
  ∃e a f c,w.cell? ⟨p,0,none⟩=some (.slice (some ⟨e,0,none⟩) frs.length a)/\w.cell? ⟨e,i,none⟩=some (bQ x.p)/\w.cell? ⟨p,1,none⟩=some (.slice (some ⟨f,0,none⟩) frs.length c)/\w.cell? ⟨f,i,none⟩=some (bQ x.q)/\
   aW w x.p ((aE.fresh x.b).feed x.A).1 x.v/\w.heap[x.q]?=some (.cells (iF x.b x.C (eC x.b x.C).1.length) 216 (0,0))/\1<=x.b/\x.b<=200/\(∃d,w.heap[e]?=some (.cells d 45 (0,0)))/\(∃d,w.heap[f]?=some (.cells d 169 (0,0)))/\∃d,w.heap[p]?=some (.cells d 142 (0,0)):=by
 obtain⟨t,xs,li,ρ,hI,h0,h1,_⟩:=h;obtain⟨e,a,k,o,r⟩:=sV hI (j:=0) (by omega) h0 (i:=i) (u:=bQ x.p) (by simp[g]);obtain⟨f,c,m,d1,s⟩:=sV hI (j:=1) (by omega) h1 (i:=i) (u:=bQ x.q) (by simp[g]);rw[eS]at k m;have hi:=hI.i1 i x g;exact⟨e,a,f,c,k,o,m,d1,hi.prog,hi.ref,hi.b1,hi.b2,r,s,_,hI.row⟩
theorem gC.ruleAt(h:gC l B p frs rus X pe pf L n w){i:Nat}{x:eI}(e:rus[i]?=some x):
  ∃c a d b,w.cell? ⟨p,2,none⟩=some (.slice (some ⟨c,0,none⟩) rus.length a)/\w.cell? ⟨c,i,none⟩=some (bQ x.p)/\w.cell? ⟨p,3,none⟩=some (.slice (some ⟨d,0,none⟩) rus.length b)/\w.cell? ⟨d,i,none⟩=some (bQ x.q)/\
   jJ w x.p x.rs x.v/\fM w x.q x.rs x.xs x.u/\(∀r∈x.rs,r.small)/\x.rs.length<=1000:=by
 obtain⟨m,xs,li,ρ,hI,_,_,h2,h3,_⟩:=h;obtain⟨c,a,f,k,_⟩:=sV hI (j:=2) (by omega) h2 (i:=i) (u:=bQ x.p) (by simp[e]);obtain⟨d,b,g,d1,_⟩:=sV hI (j:=3) (by omega) h3 (i:=i) (u:=bQ x.q) (by simp[e]);rw[eS]at f g;have hi:=hI.i2 x (fG e);exact⟨c,a,d,b,f,k,g,d1,hi.prog,hi.ref,hi.small,hi.len⟩
theorem G8{q:Nat}{f:aE}{v v':Value}(d:aW w q f v)(h:dF q v w v' w'){k:Nat}{a:Array Value}{t:TypeId}(b:w.heap[k]?=some (.cells a t (0,0)))(h1:t≠100)(h2:t≠5):w'.heap[k]?=w.heap[k]?:=by
 refine h.kept.block k (aM.1 b).1 (fun e=>?_);rcases e with e|e
 ·exact dU b d.row h1 e
 ·obtain⟨g,c⟩:=dN d.own e;exact dU b c h2 rfl
theorem qJ{f:dJ->Value}{i:Nat}{x y:dJ}(a:frs[i]?=some x)(b:f y=f x):(frs.set i y).map f=frs.map f:=by
 rw[List.map_set,b];refine List.ext_getElem? fun j=>?_;rw[List.getElem?_set];split
 ·next e=>
  subst e;simp[a];exact(iY.1 a).1
 ·rfl
theorem wQ{i j:Nat}{y z:dJ}(a:(frs.set i y)[j]?=some z):(j=i/\z=y)∨(j≠i/\frs[j]?=some z):=by
 rw[List.getElem?_set]at a;split at a
 ·next e=>
  subst e;split at a
  ·exact .inl ⟨rfl,by simpa using a.symm⟩
  ·cases a
 ·next e=>exact .inr ⟨fun h=>e h.symm,a⟩
theorem aV.feedP{i:Nat}{x:dJ}{s:List UInt8}{v' G:Value}{m:Nat}{J:List Value}(h:aV B p frs rus X pe pf L n w)(t:frs[i]?=some x)(g:dF x.p x.v w v' w')(H:aW w' x.p ((aE.fresh x.b).feed (x.A++s)).1 v')(u:w'.ownsRow w.heap.size 9 1 G m J):gC G B p (frs.set i ⟨x.p,x.q,x.b,x.A++s,x.C,v'⟩) rus X pe pf L n w'/\Below B w w':=by
 obtain⟨K,xs,li,ρ,hI,h0,h1,h2,h3,h4,h5,h6,h7,hL⟩:=h;have a:=hI.i1 i x t;obtain⟨ρ',hρ⟩:∃ρ':Nat->Nat×Nat,ρ'=fun k=>if k<w.heap.size then ρ k else if v'.ownBlock=some k then(1,3*i+1)else(5,0):=⟨_,rfl⟩
 have o:∀k,k<w.heap.size->ρ' k=ρ k:=fun k d=>by rw[hρ];exact aD d
 have f:∀k,k<w.heap.size->(k=x.p∨x.v.ownBlock=some k)->ρ k=(1,3*i)∨ρ k=(1,3*i+1):=fun k _ e=>by
  rcases e with e|e
  ·subst e;exact .inl a.rp
  ·exact .inr (a.rv k e)
 have r:∀k,k<w.heap.size->(k=x.p∨x.v.ownBlock=some k)->(ρ k).1=1:=fun k d e=>by rcases f k d e with e|e <;> rw[e]
 refine⟨⟨K,xs,li,ρ',hI.set1 g.kept o r ?_ (nI.stable _),h0.trans (Eq.symm (qJ t rfl)),h1.trans (Eq.symm (qJ t rfl)),h2,h3,h4,h5,h6,h7,hL,fun b e=>⟨?_,fun y M c=>?_⟩⟩,hI.below g.kept (fun k d s e=>by have:=r k d s;omega)⟩
 ·intro j z D;rcases wQ D with⟨rfl,rfl⟩|⟨R,D⟩
  ·have N:x.p<w.heap.size:=(aM.1 a.prog.row).1;have E:x.q<w.heap.size:=(aM.1 a.ref).1;refine⟨H,(g.kept.block _ E (fun s=>?_)).trans a.ref,a.b1,a.b2,(o _ N).trans a.rp,fun k e=>?_,(o _ E).trans a.rq⟩
   ·have:=f _ E s;rw[a.rq]at this;rcases this with e|e <;> have e:=aQ Prod.snd e <;> dsimp only at e <;> omega
   ·rcases g.lies k e with c|c
    ·rw[o k (fE a.prog.own c)];exact a.rv k c
    ·rw[hρ];show(if k<w.heap.size then _ else _)=_;rw[aB (by omega),aD e]
  ·refine(hI.i1 j z D).keep g.kept o (fun k d s=>?_);rcases f k d s with e|e <;> rw[e] <;> refine⟨fun c=>?_,fun c=>?_,fun c=>?_⟩ <;> have c:=aQ Prod.snd c <;> dsimp only at c <;> omega
 ·have O:=rH u e;obtain⟨P,Q⟩:=dN u e;rw[hρ];show(if b<w.heap.size then _ else _:Nat×Nat).1=_;rw[aB (by omega),aB (fun c=>?_)];obtain⟨I,F⟩:=dN H.own c;exact dU Q F (by decide) rfl
 ·have h1:=fE (hI.each y M).own c;have h2:=rH u e;omega
theorem gC.feedR{i:Nat}{x:dJ}{C:List UInt8}(h:gC l B p frs rus X pe pf L n w)(g:frs[i]?=some x)(c:aN (fun k=>k=x.q) w w')(o:w'.heap[x.q]?=some (.cells (iF x.b C (eC x.b C).1.length) 216 (0,0))):gC l B p (frs.set i ⟨x.p,x.q,x.b,x.A,C,x.v⟩) rus X pe pf L n w'/\Below B w w':=by
 obtain⟨r,xs,li,ρ,hI,h0,h1,h2,h3,h4,h5,h6,h7,hL,hl⟩:=h;have a:=hI.i1 i x g;have d:∀k,k<w.heap.size->k=x.q->ρ k=(1,3*i+2):=fun k _ e=>by subst e;exact a.rq
 refine⟨⟨r,xs,li,ρ,hI.set1 c (fun _ _=>rfl) (fun k c s=>by rw[d k c s]) ?_ (nI.stable _),h0.trans (Eq.symm (qJ g rfl)),h1.trans (Eq.symm (qJ g rfl)),h2,h3,h4,h5,h6,h7,hL,hl⟩,hI.below c (fun k c s e=>by rw[d k c s]at e;cases e)⟩;intro j z m;rcases wQ m with⟨rfl,rfl⟩|⟨t,m⟩
 ·refine⟨a.prog.keep c (fun s=>?_) (fun k e s=>?_),o,a.b1,a.b2,a.rp,a.rv,a.rq⟩
  ·have:=a.rp;rw[s,a.rq]at this;have:=aQ Prod.snd this;dsimp only at this;omega
  ·have:=a.rv k e;rw[s,a.rq]at this;have:=aQ Prod.snd this;dsimp only at this;omega
 ·refine(hI.i1 j z m).keep c (fun _ _=>rfl) (fun k c s=>?_);rw[d k c s];refine⟨fun f=>?_,fun f=>?_,fun f=>?_⟩ <;> have f:=aQ Prod.snd f <;> dsimp only at f <;> omega
theorem gC.keep(h:gC l B p frs rus X pe pf L n w){k:Nat}{f:List Value}(a:w.ownsRow 0 9 1 l k f)(g:n<=1000000000)(i:k<=1000000000)(j:L<=1000000000000):
  Calls prog 117 #[.pointer (some ⟨p,0,none⟩),l] w fun e w'=>(∃u,e= .returned u)/\Below B w w'/\aV B p frs rus X pe pf (L+9) (n+1) w':=by
 obtain⟨o,xs,li,ρ,hI,h0,h1,h2,h3,h4,h5,h6,h7,hL',hl⟩:=h;subst hL';refine(D8 hI h6 h7 l k f a hl g i j).mono ?_;rintro e r⟨m,v,b,c,d,ρ',q,q6,q7,q5,qL,_,_,qb⟩;exact⟨m,qb,b,c,d,ρ',q,by rw[q5 0 (by omega),h0],by rw[q5 1 (by omega),h1],by rw[q5 2 (by omega),h2],by rw[q5 3 (by omega),h3],by rw[q5 4 (by omega),h4],by rw[q5 5 (by omega),h5],q6,q7,qL⟩
theorem aV.kept(h:aV B p frs rus X pe pf L n w):Calls prog 42 #[.pointer (some ⟨p,0,none⟩)] w fun e w'=>e= .returned (.bool true)/\Below w.heap.size w w':=by
 obtain⟨a,xs,li,ρ,hI,h0,h1,h2,h3,h4,h5,h6,h7,hL'⟩:=h;exact C7 hI h6 h7
end
set_option maxRecDepth 20000 in
set_option maxHeartbeats 8000000 in
theorem H2{B p:Nat}{frs:List dJ}{rus:List eI}{X:World->(Nat->Nat×Nat)->Prop}{pe pf:List Value}{L n:Nat}{w:World}(h:aV B p frs rus X pe pf L n w)(o:cK)(T:o.kind=4)(ad: -9223372036854775808<=o.w/\o.w<=9223372036854775807)(K:0<frs.length)(ap:frs.length<=4000000000)(hC:∀x∈frs,x.C=x.A)(hA:∀x∈frs,x.A.length+o.s.length<=1000000000)(hn:n<=1000000000)(hL:L<=1000000000000):
  Calls prog 72 #[.pointer (some ⟨p,0,none⟩),.agg (bA o)] w fun e w'=>e= .returned (.bool true)/\Below B w w'/\
   ∃M:List dJ,M.length=frs.length/\(∀x∈M,x.C=x.A/\∃y∈frs,x.A.length<=y.A.length+o.s.length)/\aV B p M rus X pe pf (L+9) (n+1) w':=by
 have PK:Hid (∀w,Calls prog 114 #[.int .i64 o.w,.int .i64 frs.length] w fun e w'=>e= .returned (.int .i64 (iV o.w frs.length))/\w'=w):=fun w=>pG o.w frs.length K ap ad.1 ad.2 w;have N:=pF o.w K;generalize iV o.w frs.length=i at PK N;obtain⟨x,hx⟩:∃x,frs[i]?=some x:=⟨_,dP N⟩;have aq:=fG hx;have ar:=hC x aq;have au:=hA x aq;have HC:=show Hid _ from hC;clear hC hA ad;obtain⟨kd,a,b,c,mm,q,s,⟨f,sv,t,h1,h2,h3,h4,d,tx⟩⟩:=o;dsimp only at T PK au;subst T;unfold bA;dsimp only;have U:Hid (aV B p frs rus X pe pf L n w):=h;clear h;obtain⟨E,F,j,xA,g,xv⟩:=x;dsimp only at ar au;subst ar;have br:(i:Int)<(frs.length:Int):=by omega
 have av:Hid (((aE.fresh j).feed g).1.Ok):=by
  obtain⟨_,_,_,_,_,_,_,_,_,_,b1,b2,_⟩:=U.out.fresh.frameAt hx;exact aE.feed_ok _ (aE.fresh_ok b1 b2)
 obtain⟨aw,bg,ax⟩:=AH j g s;have V:=wG j s ((aE.fresh j).feed g).1;have ay:((aE.fresh j).feed (g++s)).1=(((aE.fresh j).feed g).1.feed s).1:=by rw[aE.feed_append]
 have FD:Hid (∀w,aW w E ((aE.fresh j).feed g).1 xv->Calls prog 28 #[.pointer (some ⟨E,0,none⟩),.string ⟨s.toArray⟩] w fun e w'=>∃D v',e= .returned (.tuple #[D,.int .i64 (((((aE.fresh j).feed g).1.feed s).1.head+(((aE.fresh j).feed g).1.feed s).1.own.length:Nat):Int)])/\
   aW w' E ((aE.fresh j).feed (g++s)).1 v'/\dF E xv w v' w'/\w'.ownsRow w.heap.size 9 1 D (((aE.fresh j).feed g).1.feed s).2.length ((((aE.fresh j).feed g).1.feed s).2.map aU)):=fun w hf=>by
  rw[ay];exact WY E _ xv ⟨s.toArray⟩ (by simp[ByteArray.size];omega) w hf av.out
 have RF:Hid (∀w:World,w.heap[F]?=some (.cells (iF j g (eC j g).1.length) 216 (0,0))->Calls prog 115 #[.pointer (some ⟨F,0,none⟩),.string ⟨s.toArray⟩] w fun e w'=>∃v:Value,e= .returned (.tuple #[v,.int .i64 (((((aE.fresh j).feed g).1.feed s).1.head+(((aE.fresh j).feed g).1.feed s).1.own.length:Nat):Int)])/\
   eQ w' w.heap.size 9 v ((((aE.fresh j).feed g).1.feed s).2.map aU)/\w'.heap[F]?=some (.cells (iF j (g++s) (eC j (g++s)).1.length) 216 (0,0))/\aN (fun k=>k=F) w w'):=fun w hq=>by
  obtain⟨_,_,_,_,_,_,_,_,_,_,b1,b2,_⟩:=U.out.fresh.frameAt hx;rw[<-aw,<-ax];exact JA F j g s b1 b2 (by simp;omega) w hq
 have SM:Hid (∀(w:World)(va vb:Value)(ba bb:Nat),eQ w ba 9 va ((((aE.fresh j).feed g).1.feed s).2.map aU)->eQ w bb 9 vb ((((aE.fresh j).feed g).1.feed s).2.map aU)->Calls prog 116 #[va,vb] w fun e w'=>e= .returned (.bool true)/\Below w.heap.size w w'):=fun w va vb ba bb ha hb=>by
  have:=JU _ _ va vb ba bb w ha hb (by omega) (by omega);simpa using this
 have az:(((aE.fresh j).feed g).1.feed s).2.length<=1000000000:=by omega
 generalize(((aE.fresh j).feed g).1.feed s).2=m at FD RF SM az;generalize((((aE.fresh j).feed g).1.feed s).1.head+(((aE.fresh j).feed g).1.feed s).1.own.length:Nat)=aA at FD RF;clear aw bg ax V ay av K;go_enter func72,ntmps72;go_wp2_with fail;generalize hW:w.alloc _=W;have ae:Hid (Below w.heap.size w W):=by
  show Below _ _ _;rw[<-hW];exact(aF _ _).alloc (aC _) _
 have Y:Hid (W.heap[w.heap.size]?=some (.cells #[.int .i64 4,.int .i64 a,.int .i64 b,.int .i64 c,.int .i64 mm,.int .i64 q,.string ⟨s.toArray⟩,.int .i64 f,.int .i64 sv,.string ⟨t.toArray⟩,.string ⟨h1.toArray⟩,.string ⟨h2.toArray⟩,.string ⟨h3.toArray⟩,.string ⟨h4.toArray⟩,.string ⟨d.toArray⟩,.string ⟨tx.toArray⟩] 82 (0,0))):=by
  show _=_;rw[<-hW];exact heap_alloc_new _ _
 clear hW;have bs:w.heap.size<W.heap.size:=(aM.1 Y.out).1;have Z:Hid (aV B p frs rus X pe pf L n W):=U.out.next ae.out;obtain⟨g0,aB,J,aD,c0,s0,c1,s1,af,aG,_,_,⟨bt,aH⟩,⟨bu,ag⟩,bv,ah⟩:=Z.out.fresh.frameAt hx;unfold bQ at s0 s1;dsimp only at s0 s1 af aG;have aI:Hid (∀w':World,Below W.heap.size W w'->Calls prog 28 #[.pointer (some ⟨E,0,none⟩),.string ⟨s.toArray⟩] w' fun e r=>∃D G,e= .returned (.tuple #[D,.int .i64 aA])/\gC D B p (frs.set i ⟨E,F,j,g++s,g,G⟩) rus X pe pf L n r/\Below B W r/\
   r.ownsRow W.heap.size 9 1 D m.length (m.map aU)/\r.heap[p]?=W.heap[p]?/\r.heap[g0]?=W.heap[g0]?/\r.heap[J]?=W.heap[J]?/\r.heap[w.heap.size]?=W.heap[w.heap.size]?):=fun w' O=>by
  have aJ:aW w' E ((aE.fresh j).feed g).1 xv:=af.keep (S:=fun _=>False) (aN.of_below O) (fun f=>f) (fun _ _ f=>f);refine(FD.out w' aJ).mono ?_;rintro e r⟨D,G,rfl,bh,aK,P⟩;obtain⟨hF,hb⟩:=(Z.out.next O).feedP hx aK bh P;have tr:∀(k:Nat)(I:Array Value)(t:TypeId),W.heap[k]?=some (.cells I t (0,0))->t≠100->t≠5->r.heap[k]?=W.heap[k]?:=fun k I t T h1 h2=>by
   have e1:=O.block k (aM.1 T).1;exact(G8 aJ aK (e1.trans T) h1 h2).trans e1
  exact⟨D,G,rfl,hF,(O.mono (by have:=Z.out.le;have:=Z.out.lt;omega)).trans hb,uA P O.size,tr _ _ _ ah (by decide) (by decide),tr _ _ _ aH (by decide) (by decide),tr _ _ _ ag (by decide) (by decide),tr _ _ _ Y.out (by decide) (by decide)⟩
 have aL:Hid (∀(w':World)(D G:Value),gC D B p (frs.set i ⟨E,F,j,g++s,g,G⟩) rus X pe pf L n w'->w'.ownsRow W.heap.size 9 1 D m.length (m.map aU)->W.heap.size<=w'.heap.size->w'.heap[p]?=W.heap[p]?->w'.heap[J]?=W.heap[J]?->w'.heap[w.heap.size]?=W.heap[w.heap.size]?->
   Calls prog 115 #[.pointer (some ⟨F,0,none⟩),.string ⟨s.toArray⟩] w' fun e H=>∃mv,e= .returned (.tuple #[mv,.int .i64 aA])/\gC D B p (frs.set i ⟨E,F,j,g++s,g++s,G⟩) rus X pe pf L n H/\Below B w' H/\
   eQ H w'.heap.size 9 mv (m.map aU)/\H.ownsRow W.heap.size 9 1 D m.length (m.map aU)/\H.heap[p]?=W.heap[p]?/\H.heap[J]?=W.heap[J]?/\H.heap[w.heap.size]?=W.heap[w.heap.size]?):=fun w' D G hF ho bw ep e1 eo=>by
  have aO:(frs.set i ⟨E,F,j,g++s,g,G⟩)[i]?=some ⟨E,F,j,g++s,g,G⟩:=by simp[N]
  obtain⟨_,_,_,_,_,_,_,_,_,ai,_⟩:=hF.frameAt aO;refine(RF.out w' ai).mono ?_;rintro e H⟨mv,rfl,aa,bi,aj⟩;obtain⟨Q,ab⟩:=hF.feedR (C:=g++s) aO aj bi;rw[List.set_set]at Q;have tr:∀(k:Nat)(I:Array Value)(t:TypeId),W.heap[k]?=some (.cells I t (0,0))->t≠216->w'.heap[k]?=W.heap[k]?->H.heap[k]?=W.heap[k]?:=fun k I t T h1 e=>by
   rw[<-e]at T;exact(aj.block k (aM.1 T).1 (fun e2=>dU T ai h1 e2)).trans e
  refine⟨mv,rfl,Q,ab,aa,cQ ho aj (fun k e1 e2=>?_),tr _ _ _ ah (by decide) ep,tr _ _ _ ag (by decide) e1,tr _ _ _ Y.out (by decide) eo⟩;obtain⟨I,hc⟩:=dN ho e1;exact dU hc ai (by decide) e2
 have HX:=show Hid _ from hx;clear af aG hx aH ag ah FD RF;obtain⟨y0,y1,y2,y3,y4,y5,y6⟩:=rI Y.out;have HZ:Hid (∀r:World,r.heap[w.heap.size]?=W.heap[w.heap.size]?->r.cell? ⟨w.heap.size,6,none⟩=some (.string ⟨s.toArray⟩)):=fun r e=>(World.cell?_of_block (a:=⟨w.heap.size,6,none⟩) e).trans y6;go_quiet((go_at_call 114;exact Calls.quiet_of_same (PK.out _)))
 go_wp2_with fail;go_region_held (fun w'=>w'.cell? ⟨p,0,none⟩=some (.slice (some ⟨g0,0,none⟩) frs.length aB)/\w'.cell? ⟨g0,i,none⟩=some (.pointer (some ⟨E,0,none⟩))/\w'.cell? ⟨w.heap.size,6,none⟩=some (.string ⟨s.toArray⟩)) (first|exact⟨c0,s0,y6⟩|exact⟨aP,aQ,ak⟩)
  (first|(go_at_call 28;refine(aI.out _ (aT ⟨_,rfl⟩)).mono ?_;rintro e r⟨D,G,rfl,aR,aS,P,al,aX,aY,am⟩;have bj:Hid (gC D B p (frs.set i ⟨E,F,j,g++s,g,G⟩) rus X pe pf L n r):=aR;have aZ:Hid (Below B W r):=aS;have bk:Hid (r.ownsRow W.heap.size 9 1 D m.length (m.map aU)):=P;have R:Hid (r.heap[p]?=W.heap[p]?/\r.heap[J]?=W.heap[J]?/\r.heap[w.heap.size]?=W.heap[w.heap.size]?):=⟨al,aY,am⟩;have aP:=(World.cell?_of_block (a:=⟨p,0,none⟩) al).trans c0;have aQ:=(World.cell?_of_block (a:=⟨g0,i,none⟩) aX).trans s0;have ak:=HZ.out _ am;clear aR aS P al aX aY am))
 have a0:=(World.cell?_of_block (a:=⟨p,1,none⟩) R.out.1).trans c1;have a1:=(World.cell?_of_block (a:=⟨J,i,none⟩) R.out.2.1).trans s1;have an:Hid (W.heap.size<=r.heap.size):=aZ.out.size;have bl:Hid (B<=r.heap.size):=show B<=r.heap.size by have:=U.out.le;have:=U.out.lt;have:=an.out;omega
 clear c0 s0 aP aQ y0 y1 y2 y3 y4 y5 y6 aI;go_wp2_with fail;go_region_held (fun w'=>w'.cell? ⟨p,1,none⟩=some (.slice (some ⟨J,0,none⟩) frs.length aD)/\w'.cell? ⟨J,i,none⟩=some (.pointer (some ⟨F,0,none⟩))/\w'.cell? ⟨w.heap.size,6,none⟩=some (.string ⟨s.toArray⟩)) (first|exact⟨a0,a1,ak⟩|exact⟨a2,a3,a4⟩)
  (first|(go_at_call 115;refine(aL.out _ D G (bj.out.next (aT ⟨1,rfl⟩)) bk.out an.out R.out.1 R.out.2.1 R.out.2.2).mono ?_;rintro e H⟨mv,rfl,Q,ab,a5,aa,a6,a7,a8⟩;have a9:Hid (gC D B p (frs.set i ⟨E,F,j,g++s,g++s,G⟩) rus X pe pf L n H):=Q;have bc:Hid (Below B r H):=((aT (w:=r) ⟨1,rfl⟩).mono bl.out).trans ab;have ao:Hid (H.ownsRow W.heap.size 9 1 D m.length (m.map aU)):=aa;have bd:Hid (eQ H r.heap.size 9 mv (m.map aU)):=a5;have a2:=(World.cell?_of_block (a:=⟨p,1,none⟩) a6).trans c1;have a3:=(World.cell?_of_block (a:=⟨J,i,none⟩) a7).trans s1;have a4:=HZ.out _ a8;clear Q ab aa a5 a6 a7 a8))
 clear c1 s1 a0 a1 ak a2 a3 a4 aL HZ;go_wp2_with fail;refine(SM.out _ _ _ _ _ (qC ao.out) bd.out).mono ?_;rintro e w3⟨rfl,ac⟩;have bm:Hid (gC D B p (frs.set i ⟨E,F,j,g++s,g++s,G⟩) rus X pe pf L n w3):=a9.out.next ac;have bn:Hid (w3.ownsRow 0 9 1 D m.length (m.map aU)):=uA (cQ (S:=fun _=>False) ao.out (aN.of_below ac) (fun _ _ f=>f)) (dM _);have bo:Hid (Below B w w3):=((ae.out.mono (by have:=U.out.le;have:=U.out.lt;omega)).trans (aZ.out.trans bc.out)).trans (ac.mono (by have:=U.out.le;have:=U.out.lt;have:=ae.out.size;have:=an.out;have:=bc.out.size;omega));clear ac a9 ao bd SM;go_wp2_with fail;refine(bm.out.keep bn.out hn az hL).mono ?_;rintro e w4⟨⟨u,rfl⟩,be,bf⟩;have bp:Hid (Below B w w4):=bo.out.trans be;have bq:Hid (aV B p (frs.set i ⟨E,F,j,g++s,g++s,G⟩) rus X pe pf (L+9) (n+1) w4):=bf;clear be bf;go_wp2;go_ret;refine⟨rfl,bp.out,_,by simp,fun z hz=>?_,bq.out⟩;rcases List.mem_or_eq_of_mem_set hz with hz|rfl
 ·exact⟨HC.out z hz,z,hz,by omega⟩
 ·exact⟨rfl,_,fG HX.out,by simp⟩
end Go.Proofs.Z

/- Pressed by program out of Fi Fj. -/
import Derived.Test.YtdlhbmncbmconaaGreatDoorA36
import Derived.Test.YtdlhbmncbmconaaGreatDoorA18
import Derived.Test.YtdlhbmncbmconaaGreatDoorA39
namespace Go.Hm
theorem QE:∀(rs:List iW)(g:aG),g.messages<=65535->(g.backs rs).records.length<=g.records.length+2*(lT rs).length/\(g.backs rs).messages<=65535/\(g.backs rs).room=g.room
 |[],g,h=>⟨by simp[aG.backs],h,rfl⟩
 |r::rs,g,h=>by
  obtain⟨k,a⟩:=r;unfold aG.backs;split
  ·have h1:=QC g k a;have h2:=QE rs (g.back (k,a)).1 (QD h);have h3:(lT ((k,a)::rs)).length=a.length+5+(lT rs).length:=by rw[xE,dL,BB]
   refine⟨?_,h2.2.1,by rw[h2.2.2,h1.2.2]⟩;have:=h2.1;omega
  ·exact⟨by omega,h,rfl⟩
theorem QF(s:List UInt8)(room:Nat):(iQ s room).records.length<=2*s.length/\(iQ s room).messages<=65535/\(iQ s room).room=room:=by
 have h:=QE (recs s) (aG.fresh room) (by simp[aG.fresh,aG.messages]);obtain⟨t,b⟩:=(xF (s.length+1) s).2;have c:=aQ List.length b;rw[dL]at c;have d:(aG.fresh room).records.length=0:=rfl;have a:recs s=kC (s.length+1) s:=rfl;rw[a]at h;refine⟨?_,h.2⟩;have:=h.1;unfold iQ;rw[a];omega
theorem QG(g:aG)(m:aO)(h:g.messages<=65535):(g.put m).1.records.length<=g.records.length+300/\(g.put m).1.messages<=65535/\(g.put m).1.room=g.room:=by
 unfold aG.put;split
 ·exact⟨by dsimp only;omega,h,rfl⟩
 ·next h0=>
  split
  ·exact⟨by dsimp only;omega,h,rfl⟩
  ·next h1=>
   have a:=xB (m:=m) (by simpa using h0);refine⟨?_,?_,rfl⟩
   ·simp[aG.add,mS];omega
   ·simp[aG.add,aG.messages]at h1⊢;omega
theorem aBR(g:aG)(n:Int)(h:g.messages<=65535):(g.ack n).1.records.length<=g.records.length+300/\(g.ack n).1.messages<=65535/\(g.ack n).1.room=g.room:=by
 unfold aG.ack;split
 ·exact⟨by dsimp only;omega,h,rfl⟩
 ·next h1=>
  simp[aG.ackTo,aG.messages,mS,vY]at h1 h⊢;omega
end Go.Hm
namespace Go.Proofs.Z
open Hm Hw Go.RowKit Go.Sort
structure eL where
 p:Nat
 q:Nat
 g:aG
 h:aG
 ls:List (List UInt8)
 rv:Value
 wv:Value
 lv:Value
structure xX(w:World)(ρ:Nat->Nat×Nat)(i:Nat)(x:eL):Prop where
 prog:bD w x.p x.g x.rv x.wv
 ref:bL w x.q x.h x.ls x.lv
 rp:ρ x.p=(3,5*i)
 rr:∀k,x.rv.ownBlock=some k->ρ k=(3,5*i+1)
 rw':∀k,x.wv.ownBlock=some k->ρ k=(3,5*i+2)
 rq:ρ x.q=(3,5*i+3)
 rl:∀k,x.lv.ownBlock=some k->ρ k=(3,5*i+4)
theorem bD.lts{w:World}{p:Nat}{g:aG}{rv wv:Value}(h:bD w p g rv wv):p<w.heap.size/\(∀k,rv.ownBlock=some k->k<w.heap.size)/\∀k,wv.ownBlock=some k->k<w.heap.size:=
 ⟨(aM.1 h.row).1,fun k e=>fE h.recs e,fun k e=>by
  obtain⟨_,a,b⟩:=jF h.wai e;exact(aM.1 b).1⟩
theorem xX.keep{S:Nat->Prop}{w w':World}{ρ ρ':Nat->Nat×Nat}{i:Nat}{x:eL}(h:xX w ρ i x)(c:aN S w w')(a:∀k,k<w.heap.size->ρ' k=ρ k)(b:∀k,k<w.heap.size->S k->ρ k≠(3,5*i)/\ρ k≠(3,5*i+1)/\ρ k≠(3,5*i+2)/\ρ k≠(3,5*i+3)/\ρ k≠(3,5*i+4)):xX w' ρ' i x:=by
 obtain⟨f,g,j⟩:=h.prog.lts;have d:x.q<w.heap.size:=(aM.1 h.ref.row).1;exact⟨h.prog.keep c (fun s=>(b _ f s).1 h.rp) (fun k e s=>(b _ (g k e) s).2.1 (h.rr k e)) (fun k e s=>(b _ (j k e) s).2.2.1 (h.rw' k e)),
  ⟨(c.block _ d (fun s=>(b _ d s).2.2.2.1 h.rq)).trans h.ref.row,cQ h.ref.own c (fun k e s=>(b _ (fE h.ref.own e) s).2.2.2.2 (h.rl k e)),h.ref.wai,h.ref.len⟩,
  (a _ f).trans h.rp,fun k e=>(a _ (g k e)).trans (h.rr k e),fun k e=>(a _ (j k e)).trans (h.rw' k e),(a _ d).trans h.rq,fun k e=>(a _ (fE h.ref.own e)).trans (h.rl k e)⟩
def bJ(lgs:List eL)(w:World)(ρ:Nat->Nat×Nat):Prop:=∀i x,lgs[i]?=some x->xX w ρ i x
theorem bJ.stable(lgs:List eL):nH 3 (bJ lgs):=fun _ _ _ _ _ h a c b i x d=>(h i x d).keep a c (fun k a s=>⟨fun e=>b k a s (by rw[e]),fun e=>b k a s (by rw[e]),fun e=>b k a s (by rw[e]),fun e=>b k a s (by rw[e]),fun e=>b k a s (by rw[e])⟩)
def bS(lgs:List eL):List Value:=lgs.map fun x=>bQ x.p
def bT(lgs:List eL):List Value:=lgs.map fun x=>bQ x.q
theorem qO{α:Type}{xs:List α}{f:α->Value}{i:Nat}{x y:α}(a:xs[i]?=some x)(b:f y=f x):(xs.set i y).map f=xs.map f:=by
 rw[List.map_set,b];refine List.ext_getElem? fun j=>?_;rw[List.getElem?_set];split
 ·next e=>
  subst e;simp[a];exact(iY.1 a).1
 ·rfl
theorem xY{α:Type}{xs:List α}{i j:Nat}{y z:α}(a:(xs.set i y)[j]?=some z):(j=i/\z=y)∨(j≠i/\xs[j]?=some z):=by
 rw[List.getElem?_set]at a;split at a
 ·next e=>
  subst e;split at a
  ·exact .inl ⟨rfl,by simpa using a.symm⟩
  ·cases a
 ·next e=>exact .inr ⟨fun h=>e h.symm,a⟩
section
variable {B p : Nat} {frs : List dJ} {rus : List eI} {lgs : List eL} {L n : Nat} {w w' : World} {l : Value}
theorem gC.logAt(h:gC l B p frs rus (bJ lgs) (bS lgs) (bT lgs) L n w){i:Nat}{x:eL}(e:lgs[i]?=some x):
  ∃c a d b,w.cell? ⟨p,4,none⟩=some (.slice (some ⟨c,0,none⟩) lgs.length a)/\w.cell? ⟨c,i,none⟩=some (bQ x.p)/\w.cell? ⟨p,5,none⟩=some (.slice (some ⟨d,0,none⟩) lgs.length b)/\w.cell? ⟨d,i,none⟩=some (bQ x.q)/\
   bD w x.p x.g x.rv x.wv/\bL w x.q x.h x.ls x.lv:=by
 obtain⟨o,xs,li,ρ,hI,_,_,_,_,h4,h5,_⟩:=h;obtain⟨c,a,f,m,_⟩:=sV hI (j:=4) (by omega) h4 (i:=i) (u:=bQ x.p) (by simp[bS,e]);obtain⟨d,b,k,d1,_⟩:=sV hI (j:=5) (by omega) h5 (i:=i) (u:=bQ x.q) (by simp[bT,e]);unfold bS at f;unfold bT at k;rw[eS]at f k;have hi:=hI.i3 i x e;exact⟨c,a,d,b,f,m,k,d1,hi.prog,hi.ref⟩
theorem aV.logP{i:Nat}{x:eL}{g:aG}{rv wv:Value}(h:aV B p frs rus (bJ lgs) (bS lgs) (bT lgs) L n w)(r:lgs[i]?=some x)(d:bR x.p x.rv x.wv w rv wv w')(v:bD w' x.p g rv wv):
  aV B p frs rus (bJ (lgs.set i ⟨x.p,x.q,g,x.h,x.ls,rv,wv,x.lv⟩)) (bS (lgs.set i ⟨x.p,x.q,g,x.h,x.ls,rv,wv,x.lv⟩)) (bT (lgs.set i ⟨x.p,x.q,g,x.h,x.ls,rv,wv,x.lv⟩)) L n w'/\Below B w w':=by
 obtain⟨y,xs,li,ρ,hI,h0,h1,h2,h3,h4,h5,h6,h7,hL⟩:=h;have a:=hI.i3 i x r;obtain⟨ρ',hρ⟩:∃ρ':Nat->Nat×Nat,ρ'=fun k=>if k<w.heap.size then ρ k else if rv.ownBlock=some k then(3,5*i+1)else(3,5*i+2):=⟨_,rfl⟩
 have f:∀k,k<w.heap.size->ρ' k=ρ k:=fun k m=>by rw[hρ];exact aD m
 have c:∀k,k<w.heap.size->(k=x.p∨x.rv.ownBlock=some k∨x.wv.ownBlock=some k)->ρ k=(3,5*i)∨ρ k=(3,5*i+1)∨ρ k=(3,5*i+2):=fun k _ e=>by
  rcases e with e|e|e
  ·subst e;exact .inl a.rp
  ·exact .inr (.inl (a.rr k e))
  ·exact .inr (.inr (a.rw' k e))
 have o:∀k,k<w.heap.size->(k=x.p∨x.rv.ownBlock=some k∨x.wv.ownBlock=some k)->(ρ k).1=3:=fun k m e=>by rcases c k m e with e|e|e <;> rw[e]
 refine⟨⟨y,xs,li,ρ',hI.set3 d.kept f o ?_ (bJ.stable _),h0,h1,h2,h3,h4.trans (Eq.symm (qO r rfl)),h5.trans (Eq.symm (qO r rfl)),h6,h7,hL⟩,hI.below d.kept (fun k m s e=>by have:=o k m s;omega)⟩;intro j z t;rcases xY t with⟨rfl,rfl⟩|⟨F,t⟩
 ·obtain⟨A,C,D⟩:=a.prog.lts;have u:x.q<w.heap.size:=(aM.1 a.ref.row).1;refine⟨v,⟨(d.kept.block _ u (fun s=>?_)).trans a.ref.row,cQ a.ref.own d.kept (fun k e s=>?_),a.ref.wai,a.ref.len⟩,(f _ A).trans a.rp,fun k e=>?_,fun k e=>?_,(f _ u).trans a.rq,fun k e=>(f _ (fE a.ref.own e)).trans (a.rl k e)⟩
  ·have:=c _ u s;rw[a.rq]at this;rcases this with e|e|e <;> have e:=aQ Prod.snd e <;> dsimp only at e <;> omega
  ·have:=c _ (fE a.ref.own e) s;rw[a.rl k e]at this;rcases this with e|e|e <;> have e:=aQ Prod.snd e <;> dsimp only at e <;> omega
  ·rcases d.lr k e with b|b
   ·rw[f k (C k b)];exact a.rr k b
   ·rw[hρ];show(if k<w.heap.size then _ else _)=_;rw[aB (by omega),aD e]
  ·rcases d.lw k e with b|b
   ·rw[f k (D k b)];exact a.rw' k b
   ·rw[hρ];show(if k<w.heap.size then _ else _)=_;rw[aB (by omega),aB (fun E=>v.apart.2.2 k E e)]
 ·refine(hI.i3 j z t).keep d.kept f (fun k m s=>?_);rcases c k m s with e|e|e <;> rw[e] <;> refine⟨fun b=>?_,fun b=>?_,fun b=>?_,fun b=>?_,fun b=>?_⟩ <;> have b:=aQ Prod.snd b <;> dsimp only at b <;> omega
theorem aV.logR{i:Nat}{x:eL}{g:aG}{ls:List (List UInt8)}{lv:Value}(h:aV B p frs rus (bJ lgs) (bS lgs) (bT lgs) L n w)(r:lgs[i]?=some x)(m:cV x.q x.lv w lv w')(A:bL w' x.q g ls lv):
  aV B p frs rus (bJ (lgs.set i ⟨x.p,x.q,x.g,g,ls,x.rv,x.wv,lv⟩)) (bS (lgs.set i ⟨x.p,x.q,x.g,g,ls,x.rv,x.wv,lv⟩)) (bT (lgs.set i ⟨x.p,x.q,x.g,g,ls,x.rv,x.wv,lv⟩)) L n w'/\Below B w w':=by
 obtain⟨C,xs,li,ρ,hI,h0,h1,h2,h3,h4,h5,h6,h7,hL⟩:=h;have a:=hI.i3 i x r;have d:∀k,k<w.heap.size->lR ρ w.heap.size (3,5*i+4) k=ρ k:=fun k c=>oF c;have f:∀k,k<w.heap.size->(k=x.q∨x.lv.ownBlock=some k)->ρ k=(3,5*i+3)∨ρ k=(3,5*i+4):=fun k _ e=>by
  rcases e with e|e
  ·subst e;exact .inl a.rq
  ·exact .inr (a.rl k e)
 have o:∀k,k<w.heap.size->(k=x.q∨x.lv.ownBlock=some k)->(ρ k).1=3:=fun k c e=>by rcases f k c e with e|e <;> rw[e]
 refine⟨⟨C,xs,li,_,hI.set3 m.kept d o ?_ (bJ.stable _),h0,h1,h2,h3,h4.trans (Eq.symm (qO r rfl)),h5.trans (Eq.symm (qO r rfl)),h6,h7,hL⟩,hI.below m.kept (fun k c s e=>by have:=o k c s;omega)⟩;intro j z t;rcases xY t with⟨rfl,rfl⟩|⟨E,t⟩
 ·obtain⟨u,v,y⟩:=a.prog.lts;have D:x.q<w.heap.size:=(aM.1 a.ref.row).1;have no:∀k,k<w.heap.size->(k=x.q∨x.lv.ownBlock=some k)->ρ k≠(3,5*j)/\ρ k≠(3,5*j+1)/\ρ k≠(3,5*j+2):=fun k c s=>by
   rcases f k c s with e|e <;> rw[e] <;> refine⟨fun b=>?_,fun b=>?_,fun b=>?_⟩ <;> have b:=aQ Prod.snd b <;> dsimp only at b <;> omega
  refine⟨a.prog.keep m.kept (fun s=>(no _ u s).1 a.rp) (fun k e s=>(no _ (v k e) s).2.1 (a.rr k e)) (fun k e s=>(no _ (y k e) s).2.2 (a.rw' k e)),A,(d _ u).trans a.rp,fun k e=>(d _ (v k e)).trans (a.rr k e),fun k e=>(d _ (y k e)).trans (a.rw' k e),(d _ D).trans a.rq,fun k e=>?_⟩;rcases m.lies k e with b|b
  ·rw[d k (fE a.ref.own b)];exact a.rl k b
  ·rw[qF b]
 ·refine(hI.i3 j z t).keep m.kept d (fun k c s=>?_);rcases f k c s with e|e <;> rw[e] <;> refine⟨fun b=>?_,fun b=>?_,fun b=>?_,fun b=>?_,fun b=>?_⟩ <;> have b:=aQ Prod.snd b <;> dsimp only at b <;> omega
end
theorem aV.newList{B p:Nat}{frs:List dJ}{rus:List eI}{X:World->(Nat->Nat×Nat)->Prop}{a pf:List Value}{L n:Nat}{w w':World}{v:Value}{m:Nat}{d:List Value}(h:aV B p frs rus X a pf L n w)(g:Below w.heap.size w w')(c:w'.ownsRow w.heap.size 9 1 v m d):gC v B p frs rus X a pf L n w':=by
 obtain⟨i,xs,li,ρ,hI,h0,h1,h2,h3,h4,h5,h6,h7,hL⟩:=h;refine⟨i,xs,li,lR ρ w.heap.size (5,0),hI.next (S:=fun _=>False) (aN.of_below g) (fun k j=>oF j) (fun _ _ f=>f.elim),h0,h1,h2,h3,h4,h5,h6,h7,hL,fun b e=>⟨?_,fun y o q=>?_⟩⟩
 ·rw[qF (rH c e)]
 ·have:=rH c e;have:=fE (hI.each y o).own q;omega
theorem aV.newLog{B p:Nat}{frs:List dJ}{rus:List eI}{lgs:List eL}{L n:Nat}{w b m:World}{a:Nat}{g:aG}{ls:List (List UInt8)}{rv wv lv:Value}(h:aV B p frs rus (bJ lgs) (bS lgs) (bT lgs) L n w)(j:Below w.heap.size w b)(J:w.heap.size<=a)(o:bD b a g rv wv)(h1:∀k,rv.ownBlock=some k->a<=k)(h2:∀k,wv.ownBlock=some k->a<=k)(r:Below b.heap.size b m)(u:bL m b.heap.size g ls lv)(h3:∀k,lv.ownBlock=some k->b.heap.size<=k):
  ∃c,iJ 4 B p frs rus (bJ (lgs++[⟨a,b.heap.size,g,g,ls,rv,wv,lv⟩])) c L n w m/\(c 0=frs.map fun x=>bQ x.p)/\(c 1=frs.map fun x=>bQ x.q)/\(c 2=rus.map fun x=>bQ x.p)/\(c 3=rus.map fun x=>bQ x.q)/\c 4=bS lgs/\c 5=bT lgs:=by
 obtain⟨E,xs,li,ρ,hI,h0,h1',h2',h3',h4,h5,h6,h7,hL⟩:=h;have C:Below w.heap.size w m:=Below.next j (aC _) r;obtain⟨F,G,H⟩:=o.lts;have K:b.heap.size<m.heap.size:=(aM.1 u.row).1;obtain⟨ρ',hρ⟩:∃ρ':Nat->Nat×Nat,ρ'=fun k=>if k<w.heap.size then ρ k else if k<b.heap.size then(if k=a then(3,5*lgs.length)else if rv.ownBlock=some k then(3,5*lgs.length+1)else(3,5*lgs.length+2))else if k=b.heap.size then(3,5*lgs.length+3)else(3,5*lgs.length+4):=⟨_,rfl⟩
 have D:∀k,k<w.heap.size->ρ' k=ρ k:=fun k t=>by rw[hρ];exact aD t
 have t:aN (fun _=>False) w m:=aN.of_below C;refine⟨xs,⟨E,xs,li,ρ',hI.set3 t D (fun _ _ f=>f.elim) ?_ (bJ.stable _),rfl,h6,h7,hL,by omega,C.mono (by have:=hI.le;have:=hI.lt;omega)⟩,h0,h1',h2',h3',h4,h5⟩;intro i x d;rcases Nat.lt_or_ge i lgs.length with hi|hi
 ·rw[List.getElem?_append_left hi]at d;exact bJ.stable lgs _ _ _ _ _ hI.i3 t D (fun _ _ f=>f.elim) i x d
 ·rw[tH hi]at d;have v:i-lgs.length=0:=by
   have:=(iY.1 d).1;simp at this;omega
  rw[v]at d;have d:(⟨a,b.heap.size,g,g,ls,rv,wv,lv⟩:eL)=x:=by simpa using d
  subst d;have y:i=lgs.length:=by omega
  subst y;have z:=u.ne;refine⟨o.below r,u,?_,fun k e=>?_,fun k e=>?_,?_,fun k e=>?_⟩
  ·rw[hρ];show(if a<w.heap.size then _ else if a<b.heap.size then(if a=a then _ else _)else _)=_;rw[aB (by omega),aD F,aD rfl]
  ·have h8:=h1 k e;have h9:=G k e;rw[hρ];show(if k<w.heap.size then _ else if k<b.heap.size then(if k=a then _ else if rv.ownBlock=some k then _ else _)else _)=_;rw[aB (by omega),aD h9,aB (fun s=>o.apart.1 (by rw[<-s];exact e)),aD e]
  ·have h8:=h2 k e;have h9:=H k e;rw[hρ];show(if k<w.heap.size then _ else if k<b.heap.size then(if k=a then _ else if rv.ownBlock=some k then _ else _)else _)=_;rw[aB (by omega),aD h9,aB (fun s=>o.apart.2.1 (by rw[<-s];exact e)),aB (fun I=>o.apart.2.2 k I e)]
  ·have A:=j.size;rw[hρ];show(if b.heap.size<w.heap.size then _ else if b.heap.size<b.heap.size then _ else if b.heap.size=b.heap.size then _ else _)=_;rw[aB (by omega),aB (by omega),aD rfl]
  ·have h8:=h3 k e;have A:=j.size;rw[hρ];show(if k<w.heap.size then _ else if k<b.heap.size then _ else if k=b.heap.size then _ else _)=_;rw[aB (by omega),aB (by omega),aB (fun s=>z (by rw[<-s];exact e))]
theorem iJ.log{B p:Nat}{frs:List dJ}{rus:List eI}{lgs:List eL}{L n:Nat}{w:World}{a:Nat->List Value}{b:World}{x:eL}(h:iJ 5 B p frs rus (bJ (lgs++[x])) (iI (iI a 4 (a 4++[bQ x.p])) 5 (a 5++[bQ x.q])) L n b w)(h0:a 0=frs.map fun x=>bQ x.p)(h1:a 1=frs.map fun x=>bQ x.q)(h2:a 2=rus.map fun x=>bQ x.p)(h3:a 3=rus.map fun x=>bQ x.q)(h4:a 4=bS lgs)(h5:a 5=bT lgs):aV B p frs rus (bJ (lgs++[x])) (bS (lgs++[x])) (bT (lgs++[x])) L n w:=by
 obtain⟨c,xs,li,ρ,hI,rfl,h6,h7,hL,hj,hb⟩:=h;refine⟨c,_,li,ρ,hI,h0,h1,h2,h3,?_,?_,h6,h7,hL⟩
 ·show a 4++_=_;rw[h4];simp[bS]
 ·show a 5++_=_;rw[h5];simp[bT]
end Go.Proofs.Z
namespace Go.Proofs.Z
open Hm Hw Tryz Go.RowKit Go.Sort
theorem aBS:(prog.info? 63).map (fun i=>(i.zero,i.size,i.bytes))=some (some (.pointer none),1,8):=by kernel_rfl
theorem aBT:(prog.info? 176).map (fun i=>(i.zero,i.size,i.bytes))=some (some (.pointer none),1,8):=by kernel_rfl
theorem aBU:(prog.info? 138).map (·.size)=some 1:=by kernel_rfl
theorem aBV:(prog.info? 139).map (·.size)=some 1:=by kernel_rfl
theorem aBW(s:ByteArray)(room:Int)(h:room<1∨8<room)(w:World):Calls prog 34 #[.string s,.int .i64 room] w fun e a=>e= .returned (.tuple #[.pointer none,.int .i64 10])/\Below w.heap.size w a:=by
 by_cases h1:room<1
 ·clear h;go_enter func34,ntmps34;go_wp2;go_ret2;exact⟨rfl,by first|exact aF _ _|exact(aF _ _).alloc (aC _) _⟩
 ·have h2:8<room:=by omega
  clear h;go_enter func34,ntmps34;go_wp2;go_ret2;exact⟨rfl,by first|exact aF _ _|exact(aF _ _).alloc (aC _) _⟩
set_option maxRecDepth 20000 in
set_option maxHeartbeats 4000000 in
theorem aBX(p:Nat)(o:cK)(l:o.kind=7)(j:o.n<1∨8<o.n)(w:World):Calls prog 70 #[.pointer (some ⟨p,0,none⟩),.agg (bA o)] w fun e h=>e= .returned (.bool true)/\Below w.heap.size w h:=by
 have u:Hid (∀w,Calls prog 34 #[.string ⟨o.s.toArray⟩,.int .i64 o.n] w fun e h=>e= .returned (.tuple #[.pointer none,.int .i64 10])/\Below w.heap.size w h):=fun w=>aBW ⟨o.s.toArray⟩ o.n j w;have v:Hid (∀w,Calls prog 109 #[.string ⟨o.s.toArray⟩,.int .i64 o.n] w fun e h=>e= .returned (.tuple #[.pointer none,.int .i64 10])/\h=w):=fun w=>aBP o.s o.n j w;have y:Hid (∀w,Calls prog 107 #[.int .i64 10] w fun r h=>r= .returned (.int .i64 10)/\h=w):=fun w=>oH 10 w;clear j;obtain⟨I,a,b,c,m,q,s,⟨f,J,t,h1,h2,h3,h4,d,x⟩⟩:=o;dsimp only at l u v;subst l;unfold bA;dsimp only;go_enter func70,ntmps70;go_wp2_with fail;refine(u.out _).mono ?_;rintro e z⟨rfl,i⟩;have k:Hid (Below w.heap.size w z):=((aF _ _).alloc (aC _) _).trans (i.mono (by simp));obtain⟨A,B,C,D,E,F,G⟩:=rI ((i.block w.heap.size (by simp)).trans (heap_alloc_new _ _));clear i;go_wp2_with fail;refine(v.out _).mono ?_;rintro e H⟨rfl,g⟩;have g:=g.symm;subst g;clear A B C D E F G;go_wp2_with fail;refine(y.out _).mono ?_;rintro e H⟨rfl,g⟩;have g:=g.symm;subst g;go_wp2;go_ret;exact⟨rfl,k.out⟩
set_option maxRecDepth 20000 in
set_option maxHeartbeats 8000000 in
theorem QH{B p:Nat}{i:List dJ}{j:List eI}{lgs:List eL}{L n:Nat}{w:World}(h:aV B p i j (bJ lgs) (bS lgs) (bT lgs) L n w)(hT:aJ w)(hl:lgs.length<=1000000000000)(o:cK)(hk:o.kind=7)(hs:o.s.length<=1048576)(m:Nat)(hm:o.n=m)(m1:1<=m)(m2:m<=8):
  Calls prog 70 #[.pointer (some ⟨p,0,none⟩),.agg (bA o)] w fun e z=>e= .returned (.bool true)/\Below B w z/\∃x:eL,x.g=iQ o.s m/\x.h=x.g/\aV B p i j (bJ (lgs++[x])) (bS (lgs++[x])) (bT (lgs++[x])) L n z:=by
 obtain⟨i0,am,O,P,Q⟩:=info_parts aBS;obtain⟨i1,an,R,S,T⟩:=info_parts aBT;have NF:Hid (∀w:World,aJ w->Calls prog 34 #[.string ⟨o.s.toArray⟩,.int .i64 m] w fun e z=>∃p rv wv,e= .returned (.tuple #[.pointer (some ⟨p,0,none⟩),.int .i64 0])/\w.heap.size<=p/\bD z p (iQ o.s m) rv wv/\Below w.heap.size w z/\(∀k,rv.ownBlock=some k->p<=k)/\(∀k,wv.ownBlock=some k->p<=k)):=fun w hT=>V1 ⟨o.s.toArray⟩ (by simp[ByteArray.size];omega) m m1 m2 w hT;have RN:Hid (∀w:World,Calls prog 109 #[.string ⟨o.s.toArray⟩,.int .i64 m] w fun e z=>e= .returned (.tuple #[.pointer (some ⟨w.heap.size,0,none⟩),.int .i64 0])/\∃ls lv,bL z w.heap.size (iQ o.s m) ls lv/\(∀b,lv.ownBlock=some b->w.heap.size<=b)/\Below w.heap.size w z):=fun w=>aBQ o.s (by omega) m m1 m2 w;have NU:Hid (∀w,Calls prog 107 #[.int .i64 0] w fun r z=>r= .returned (.int .i64 0)/\z=w):=fun w=>oH 0 w;clear hs;obtain⟨kd,a,b,c,mm,q,s,⟨f,sv,t,h1,h2,h3,h4,d,x⟩⟩:=o;dsimp only at hk hm NF RN⊢;subst hk hm;generalize iQ s m=aN at NF RN⊢;unfold bA;dsimp only;have HH:Hid (aV B p i j (bJ lgs) (bS lgs) (bT lgs) L n w):=h;clear h;go_enter func70,ntmps70;go_wp2_with fail;generalize hW:w.alloc _=W;have J:Hid (Below w.heap.size w W):=by
  show Below _ _ _;rw[<-hW];exact(aF _ _).alloc (aC _) _
 have U:=show Hid (W.heap[w.heap.size]?=_)from(by rw[<-hW];exact heap_alloc_new _ _);clear hW;have ao:w.heap.size<W.heap.size:=(aM.1 U.out).1;have aq:Hid (aV B p i j (bJ lgs) (bS lgs) (bT lgs) L n W):=HH.out.next J.out;refine(NF.out W (hT.next J.out)).mono ?_;rintro e w1⟨N,ar,au,rfl,V,X,K,C,D⟩;have Y:=show Hid _ from X;have Z:Hid (Below W.heap.size W w1):=K;have A:Hid (W.heap.size<=N/\(∀k,ar.ownBlock=some k->N<=k)/\(∀k,au.ownBlock=some k->N<=k)):=⟨V,C,D⟩;obtain⟨y0,y1,y2,y3,y4,y5,y6⟩:=rI ((K.block _ ao).trans U.out);clear X K V C D;go_wp2_with fail;refine(RN.out w1).mono ?_;rintro e w2⟨rfl,aO,aP,aa,E,ab⟩;obtain⟨xs0,hM,e0,e1,e2,e3,e4,e5⟩:=aq.out.newLog Z.out A.out.1 Y.out A.out.2.1 A.out.2.2 ab aa E;have HM:Hid (iJ 4 B p i j _ xs0 L n W w2):=hM;have HE:Hid ((xs0 0=i.map fun x=>bQ x.p)/\(xs0 1=i.map fun x=>bQ x.q)/\(xs0 2=j.map fun x=>bQ x.p)/\(xs0 3=j.map fun x=>bQ x.q)/\xs0 4=bS lgs/\xs0 5=bT lgs):=⟨e0,e1,e2,e3,e4,e5⟩;have n0:(xs0 4).length<=1000000000000:=by rw[e4,bS,eS];exact hl
 have n1:(xs0 5).length<=1000000000000:=by rw[e5,bT,eS];exact hl
 clear e0 e1 e2 e3 e4 e5 hM aa ab Z Y y0 y1 y2 y3 y4 y5 y6 hl E A;go_wp2_with fail;refine(NU.out _).mono ?_;rintro e w3⟨rfl,M⟩;have M:=M.symm;subst M;obtain⟨v0,c0,o0,ac⟩:=HM.out.own;have O0:Hid (World.ownsRow _ 0 63 1 v0 _ (xs0 4)):=o0;have av:=show Hid _ from ac;clear o0 ac;obtain⟨a0,aH,rfl⟩:=gY O0.out;go_wp2_with(first
  |(at_builtin;refine nF rfl _ _ 138 rfl 63 i0 (.pointer none) 8 underlying138 am O P Q rfl _ _ (xs0 4) rfl (O0.out.alloc _) ⟨_,0,none⟩ (.pointer (some ⟨N,0,none⟩)) rfl (cell_one_new _ _ _) rfl (by unfold maxLen;omega) (by omega) ?_;intro v5 w5 l ad F _;obtain⟨aI,v,G,ae⟩:=av.out _ _ _ _ l ad F;have aw:=show Hid _ from v;have ax:=show Hid _ from ae;have ay:=show Hid _ from G;obtain⟨a5,af,rfl⟩:=gY l;clear l ad F v ae G)
  |(refine bK rfl _ _ _ rfl rfl p 4 (.slice a5 _ af) rfl rfl _ _ _ aw.out aBU (by rw[ay.out];decide) rfl rfl ?_;intro w6 p6;have ag:=ax.out _ p6;have az:Hid (iJ 5 B p _ _ _ (iI xs0 4 (xs0 4++[(.pointer (some ⟨N,0,none⟩))])) L n W w6):=ag.turn (by omega);clear p6 c0 ag;obtain⟨v7,c7,o7,ah⟩:=az.out.own;have O7:Hid (World.ownsRow _ 0 176 1 v7 (xs0 5).length (xs0 5)):=o7;have aA:=show Hid _ from ah;clear o7 ah;obtain⟨a7,aK,rfl⟩:=gY O7.out)
  |(at_builtin;refine nF rfl _ _ 139 rfl 176 i1 (.pointer none) 8 underlying139 an R S T rfl _ _ (xs0 5) rfl (O7.out.alloc _) ⟨_,0,none⟩ (.pointer (some ⟨w1.heap.size,0,none⟩)) rfl (cell_one_new _ _ _) rfl (by unfold maxLen;omega) (by omega) ?_;intro v8 w8 u ai H _;obtain⟨aL,y,I,aj⟩:=aA.out _ _ _ _ u ai H;have aB:=show Hid _ from y;have aD:=show Hid _ from aj;have aE:=show Hid _ from I;obtain⟨a8,ak,rfl⟩:=gY u;clear u ai H y aj I)
  |(refine bK rfl _ _ _ rfl rfl p 5 (.slice a8 _ ak) rfl rfl _ _ _ aB.out aBV (by rw[aE.out];decide) rfl rfl ?_;intro w9 p9;have al:Hid (iJ 5 B p _ _ _ (iI (iI xs0 4 (xs0 4++[(.pointer (some ⟨N,0,none⟩))])) 5 (xs0 5++[(.pointer (some ⟨w1.heap.size,0,none⟩))])) L n W w9):=aD.out _ p9;clear p9 c7)
  |fail)
 go_ret;obtain⟨e0,e1,e2,e3,e4,e5⟩:=HE.out;have aG:Below B W w9:=by
  obtain⟨_,_,_,_,_,_,_,_,_,_,hb⟩:=al.out;exact hb
 exact⟨rfl,(J.out.mono (by have:=HH.out.le;have:=HH.out.lt;omega)).trans aG,_,rfl,rfl,al.out.log e0 e1 e2 e3 e4 e5⟩
end Go.Proofs.Z

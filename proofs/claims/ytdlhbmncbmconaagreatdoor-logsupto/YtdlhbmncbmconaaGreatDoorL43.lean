/- Pressed by program out of Fi Fj. -/
import Derived.Test.YtdlhbmncbmconaaGreatDoorL35
import Derived.Test.YtdlhbmncbmconaaGreatDoorL16
import Derived.Test.YtdlhbmncbmconaaGreatDoorL42
namespace Go.Hm
theorem backs_fine:∀ (rs:List Rec) (g:Lg),g.messages<=65535->(g.backs rs).records.length<=g.records.length+2 * (flatR rs).length/\(g.backs rs).messages<=65535/\(g.backs rs).room=g.room
 | [],g,h=>⟨by simp [Lg.backs],h,rfl⟩
 | r :: rs,g,h=>by
  obtain ⟨k,bs⟩:=r
  unfold Lg.backs
  split
  ·have h1:=back_grows g k bs
   have h2:=backs_fine rs (g.back (k,bs)).1 (back_few h)
   have h3:(flatR ((k,bs) :: rs)).length=bs.length+5+(flatR rs).length:=by rw [flatR_cons,List.length_append,recB_length]
   refine ⟨?_,h2.2.1,by rw [h2.2.2,h1.2.2]⟩
   have:=h2.1
   omega
  ·exact ⟨by omega,h,rfl⟩
theorem opens_fine (s:List UInt8) (room:Nat):(opens s room).records.length<=2 * s.length/\(opens s room).messages<=65535/\(opens s room).room=room:=by
 have h:=backs_fine (recs s) (Lg.fresh room) (by simp [Lg.fresh,Lg.messages])
 obtain ⟨t,ht⟩:=(recs_text (s.length+1) s).2
 have hl:=congrArg List.length ht
 rw [List.length_append] at hl
 have hz:(Lg.fresh room).records.length=0:=rfl
 have he:recs s=recsF (s.length+1) s:=rfl
 rw [he] at h
 refine ⟨?_,h.2⟩
 have:=h.1
 unfold opens
 rw [he]
 omega
theorem put_fine (g:Lg) (m:Msg) (h:g.messages<=65535):(g.put m).1.records.length<=g.records.length+300/\(g.put m).1.messages<=65535/\(g.put m).1.room=g.room:=by
 unfold Lg.put
 split
 ·exact ⟨by dsimp only;omega,h,rfl⟩
 ·next h0=>
  split
  ·exact ⟨by dsimp only;omega,h,rfl⟩
  ·next h1=>
   have hl:=line_lenL (m:=m) (by simpa using h0)
   refine ⟨?_,?_,rfl⟩
   ·simp [Lg.add,writeRec_length]
    omega
   ·simp [Lg.add,Lg.messages] at h1 ⊢
    omega
theorem ack_fine (g:Lg) (n:Int) (h:g.messages<=65535):(g.ack n).1.records.length<=g.records.length+300/\(g.ack n).1.messages<=65535/\(g.ack n).1.room=g.room:=by
 unfold Lg.ack
 split
 ·exact ⟨by dsimp only;omega,h,rfl⟩
 ·next h1=>
  simp [Lg.ackTo,Lg.messages,writeRec_length,twoB_length] at h1 h ⊢
  omega
end Go.Hm
namespace Go.Proofs.YtdlhbmncbmconaaGreatDoor
open Go.RowKit Go.Sort
structure LLg where
 p:Nat
 q:Nat
 g:Hm.Lg
 h:Hm.Lg
 ls:List (List UInt8)
 rv:Value
 wv:Value
 lv:Value
structure LgItem (w:World) (ρ:Nat->Nat × Nat) (i:Nat) (x:LLg):Prop where
 prog:LogIn w x.p x.g x.rv x.wv
 ref:RLogAt w x.q x.h x.ls x.lv
 rp:ρ x.p=(3,5 * i)
 rr:∀ k,x.rv.ownBlock=some k->ρ k=(3,5 * i+1)
 rw':∀ k,x.wv.ownBlock=some k->ρ k=(3,5 * i+2)
 rq:ρ x.q=(3,5 * i+3)
 rl:∀ k,x.lv.ownBlock=some k->ρ k=(3,5 * i+4)
theorem LogIn.lts {w:World} {p:Nat} {g:Hm.Lg} {rv wv:Value} (h:LogIn w p g rv wv):p < w.heap.size/\(∀ k,rv.ownBlock=some k->k < w.heap.size)/\∀ k,wv.ownBlock=some k->k < w.heap.size:=
 ⟨(Array.getElem?_eq_some_iff.1 h.row).1,fun k e=>own_lt h.recs e,fun k e=>by
  obtain ⟨_,cur,hc⟩:=Hw.ownsFrom_cells h.wai e
  exact (Array.getElem?_eq_some_iff.1 hc).1⟩
theorem LgItem.keep {S:Nat->Prop} {w w':World} {ρ ρ':Nat->Nat × Nat} {i:Nat} {x:LLg} (h:LgItem w ρ i x) (hk:Hw.Kept S w w') (ag:∀ k,k < w.heap.size->ρ' k=ρ k) (hS:∀ k,k < w.heap.size->S k->ρ k ≠ (3,5 * i)/\ρ k ≠ (3,5 * i+1)/\ρ k ≠ (3,5 * i+2)/\ρ k ≠ (3,5 * i+3)/\ρ k ≠ (3,5 * i+4)):LgItem w' ρ' i x:=by
 obtain ⟨l1,l2,l3⟩:=h.prog.lts
 have l4:x.q < w.heap.size:=(Array.getElem?_eq_some_iff.1 h.ref.row).1
 exact ⟨h.prog.keep hk (fun s=>(hS _ l1 s).1 h.rp) (fun k e s=>(hS _ (l2 k e) s).2.1 (h.rr k e)) (fun k e s=>(hS _ (l3 k e) s).2.2.1 (h.rw' k e)),
  ⟨(hk.block _ l4 (fun s=>(hS _ l4 s).2.2.2.1 h.rq)).trans h.ref.row,Hw.ownsRow_keptS h.ref.own hk (fun k e s=>(hS _ (own_lt h.ref.own e) s).2.2.2.2 (h.rl k e)),h.ref.wai,h.ref.len⟩,
  (ag _ l1).trans h.rp,fun k e=>(ag _ (l2 k e)).trans (h.rr k e),fun k e=>(ag _ (l3 k e)).trans (h.rw' k e),(ag _ l4).trans h.rq,fun k e=>(ag _ (own_lt h.ref.own e)).trans (h.rl k e)⟩
def LgP (lgs:List LLg) (w:World) (ρ:Nat->Nat × Nat):Prop:=∀ i x,lgs[i]?=some x->LgItem w ρ i x
theorem LgP.stable (lgs:List LLg):Stable 3 (LgP lgs):=fun _ _ _ _ _ h hk ag hS i x hx=>(h i x hx).keep hk ag (fun k hk s=>⟨fun e=>hS k hk s (by rw [e]),fun e=>hS k hk s (by rw [e]),fun e=>hS k hk s (by rw [e]),fun e=>hS k hk s (by rw [e]),fun e=>hS k hk s (by rw [e])⟩)
def pes (lgs:List LLg):List Value:=lgs.map fun x=>ptrV x.p
def pfs (lgs:List LLg):List Value:=lgs.map fun x=>ptrV x.q
theorem mapG_set {α:Type} {xs:List α} {f:α->Value} {i:Nat} {x y:α} (hx:xs[i]?=some x) (hf:f y=f x):(xs.set i y).map f=xs.map f:=by
 rw [List.map_set,hf]
 refine List.ext_getElem? fun j=>?_
 rw [List.getElem?_set]
 split
 ·next e=>
  subst e
  simp [hx]
  exact (List.getElem?_eq_some_iff.1 hx).1
 ·rfl
theorem setG_cases {α:Type} {xs:List α} {i j:Nat} {y z:α} (hz:(xs.set i y)[j]?=some z):(j=i/\z=y)∨(j ≠ i/\xs[j]?=some z):=by
 rw [List.getElem?_set] at hz
 split at hz
 ·next e=>
  subst e
  split at hz
  ·exact .inl ⟨rfl,by simpa using hz.symm⟩
  ·cases hz
 ·next e=>exact .inr ⟨fun h=>e h.symm,hz⟩
section
variable {B p:Nat} {frs:List LFr} {rus:List LRu} {lgs:List LLg} {L n:Nat} {w w':World} {l:Value}
theorem FInv.logAt (h:FInv l B p frs rus (LgP lgs) (pes lgs) (pfs lgs) L n w) {i:Nat} {x:LLg} (hx:lgs[i]?=some x) :
  ∃ g0 cap0 g1 cap1,w.cell? ⟨p,4,none⟩=some (.slice (some ⟨g0,0,none⟩) lgs.length cap0)/\w.cell? ⟨g0,i,none⟩=some (ptrV x.p)/\w.cell? ⟨p,5,none⟩=some (.slice (some ⟨g1,0,none⟩) lgs.length cap1)/\w.cell? ⟨g1,i,none⟩=some (ptrV x.q) /\
   LogIn w x.p x.g x.rv x.wv/\RLogAt w x.q x.h x.ls x.lv:=by
 obtain ⟨vs,xs,li,ρ,hI,_,_,_,_,h4,h5,_⟩:=h
 obtain ⟨g0,cap0,c0,d0,_⟩:=slice_at hI (j:=4) (by omega) h4 (i:=i) (u:=ptrV x.p) (by simp [pes,hx])
 obtain ⟨g1,cap1,c1,d1,_⟩:=slice_at hI (j:=5) (by omega) h5 (i:=i) (u:=ptrV x.q) (by simp [pfs,hx])
 unfold pes at c0
 unfold pfs at c1
 rw [List.length_map] at c0 c1
 have hi:=hI.i3 i x hx
 exact ⟨g0,cap0,g1,cap1,c0,d0,c1,d1,hi.prog,hi.ref⟩
theorem LInv.logP {i:Nat} {x:LLg} {g:Hm.Lg} {rv wv:Value} (h:LInv B p frs rus (LgP lgs) (pes lgs) (pfs lgs) L n w) (hx:lgs[i]?=some x) (hS:StepL x.p x.rv x.wv w rv wv w') (hf:LogIn w' x.p g rv wv) :
  LInv B p frs rus (LgP (lgs.set i ⟨x.p,x.q,g,x.h,x.ls,rv,wv,x.lv⟩)) (pes (lgs.set i ⟨x.p,x.q,g,x.h,x.ls,rv,wv,x.lv⟩)) (pfs (lgs.set i ⟨x.p,x.q,g,x.h,x.ls,rv,wv,x.lv⟩)) L n w'/\Below B w w':=by
 obtain ⟨vs,xs,li,ρ,hI,h0,h1,h2,h3,h4,h5,h6,h7,hL⟩:=h
 have hit:=hI.i3 i x hx
 obtain ⟨ρ',hρ⟩:∃ ρ':Nat->Nat × Nat,ρ'=fun k=>if k < w.heap.size then ρ k else if rv.ownBlock=some k then (3,5 * i+1) else (3,5 * i+2):=⟨_,rfl⟩
 have ag:∀ k,k < w.heap.size->ρ' k=ρ k:=fun k hk=>by rw [hρ];exact if_pos hk
 have hro:∀ k,k < w.heap.size->(k=x.p∨x.rv.ownBlock=some k∨x.wv.ownBlock=some k)->ρ k=(3,5 * i)∨ρ k=(3,5 * i+1)∨ρ k=(3,5 * i+2):=fun k _ e=>by
  rcases e with e | e | e
  ·subst e;exact .inl hit.rp
  ·exact .inr (.inl (hit.rr k e))
  ·exact .inr (.inr (hit.rw' k e))
 have hr3:∀ k,k < w.heap.size->(k=x.p∨x.rv.ownBlock=some k∨x.wv.ownBlock=some k)->(ρ k).1=3:=fun k hk e=>by rcases hro k hk e with e | e | e<;>rw [e]
 refine ⟨⟨vs,xs,li,ρ',hI.set3 hS.kept ag hr3 ?_ (LgP.stable _),h0,h1,h2,h3,h4.trans (Eq.symm (mapG_set hx rfl)),h5.trans (Eq.symm (mapG_set hx rfl)),h6,h7,hL⟩,hI.below hS.kept (fun k hk s e=>by have:=hr3 k hk s;omega)⟩
 intro j z hz
 rcases setG_cases hz with ⟨rfl,rfl⟩ | ⟨hj,hz⟩
 ·obtain ⟨l1,l2,l3⟩:=hit.prog.lts
  have l4:x.q < w.heap.size:=(Array.getElem?_eq_some_iff.1 hit.ref.row).1
  refine ⟨hf,⟨(hS.kept.block _ l4 (fun s=>?_)).trans hit.ref.row,Hw.ownsRow_keptS hit.ref.own hS.kept (fun k e s=>?_),hit.ref.wai,hit.ref.len⟩,(ag _ l1).trans hit.rp,fun k e=>?_,fun k e=>?_,(ag _ l4).trans hit.rq,fun k e=>(ag _ (own_lt hit.ref.own e)).trans (hit.rl k e)⟩
  ·have:=hro _ l4 s
   rw [hit.rq] at this
   rcases this with e | e | e<;>have e:=congrArg Prod.snd e<;>dsimp only at e<;>omega
  ·have:=hro _ (own_lt hit.ref.own e) s
   rw [hit.rl k e] at this
   rcases this with e | e | e<;>have e:=congrArg Prod.snd e<;>dsimp only at e<;>omega
  ·rcases hS.lr k e with e2 | e2
   ·rw [ag k (l2 k e2)]
    exact hit.rr k e2
   ·rw [hρ]
    show (if k < w.heap.size then _ else _)=_
    rw [if_neg (by omega),if_pos e]
  ·rcases hS.lw k e with e2 | e2
   ·rw [ag k (l3 k e2)]
    exact hit.rw' k e2
   ·rw [hρ]
    show (if k < w.heap.size then _ else _)=_
    rw [if_neg (by omega),if_neg (fun e3=>hf.apart.2.2 k e3 e)]
 ·refine (hI.i3 j z hz).keep hS.kept ag (fun k hk s=>?_)
  rcases hro k hk s with e | e | e<;>rw [e]<;>refine ⟨fun e2=>?_,fun e2=>?_,fun e2=>?_,fun e2=>?_,fun e2=>?_⟩<;>have e2:=congrArg Prod.snd e2<;>dsimp only at e2<;>omega
theorem LInv.logR {i:Nat} {x:LLg} {g:Hm.Lg} {ls:List (List UInt8)} {lv:Value} (h:LInv B p frs rus (LgP lgs) (pes lgs) (pfs lgs) L n w) (hx:lgs[i]?=some x) (hS:StepR x.q x.lv w lv w') (hf:RLogAt w' x.q g ls lv) :
  LInv B p frs rus (LgP (lgs.set i ⟨x.p,x.q,x.g,g,ls,x.rv,x.wv,lv⟩)) (pes (lgs.set i ⟨x.p,x.q,x.g,g,ls,x.rv,x.wv,lv⟩)) (pfs (lgs.set i ⟨x.p,x.q,x.g,g,ls,x.rv,x.wv,lv⟩)) L n w'/\Below B w w':=by
 obtain ⟨vs,xs,li,ρ,hI,h0,h1,h2,h3,h4,h5,h6,h7,hL⟩:=h
 have hit:=hI.i3 i x hx
 have ag:∀ k,k < w.heap.size->ext ρ w.heap.size (3,5 * i+4) k=ρ k:=fun k hk=>ext_lt hk
 have hro:∀ k,k < w.heap.size->(k=x.q∨x.lv.ownBlock=some k)->ρ k=(3,5 * i+3)∨ρ k=(3,5 * i+4):=fun k _ e=>by
  rcases e with e | e
  ·subst e;exact .inl hit.rq
  ·exact .inr (hit.rl k e)
 have hr3:∀ k,k < w.heap.size->(k=x.q∨x.lv.ownBlock=some k)->(ρ k).1=3:=fun k hk e=>by rcases hro k hk e with e | e<;>rw [e]
 refine ⟨⟨vs,xs,li,_,hI.set3 hS.kept ag hr3 ?_ (LgP.stable _),h0,h1,h2,h3,h4.trans (Eq.symm (mapG_set hx rfl)),h5.trans (Eq.symm (mapG_set hx rfl)),h6,h7,hL⟩,hI.below hS.kept (fun k hk s e=>by have:=hr3 k hk s;omega)⟩
 intro j z hz
 rcases setG_cases hz with ⟨rfl,rfl⟩ | ⟨hj,hz⟩
 ·obtain ⟨l1,l2,l3⟩:=hit.prog.lts
  have l4:x.q < w.heap.size:=(Array.getElem?_eq_some_iff.1 hit.ref.row).1
  have no:∀ k,k < w.heap.size->(k=x.q∨x.lv.ownBlock=some k)->ρ k ≠ (3,5 * j)/\ρ k ≠ (3,5 * j+1)/\ρ k ≠ (3,5 * j+2):=fun k hk s=>by
   rcases hro k hk s with e | e<;>rw [e]<;>refine ⟨fun e2=>?_,fun e2=>?_,fun e2=>?_⟩<;>have e2:=congrArg Prod.snd e2<;>dsimp only at e2<;>omega
  refine ⟨hit.prog.keep hS.kept (fun s=>(no _ l1 s).1 hit.rp) (fun k e s=>(no _ (l2 k e) s).2.1 (hit.rr k e)) (fun k e s=>(no _ (l3 k e) s).2.2 (hit.rw' k e)),hf,(ag _ l1).trans hit.rp,fun k e=>(ag _ (l2 k e)).trans (hit.rr k e),fun k e=>(ag _ (l3 k e)).trans (hit.rw' k e),(ag _ l4).trans hit.rq,fun k e=>?_⟩
  rcases hS.lies k e with e2 | e2
  ·rw [ag k (own_lt hit.ref.own e2)]
   exact hit.rl k e2
  ·rw [ext_ge e2]
 ·refine (hI.i3 j z hz).keep hS.kept ag (fun k hk s=>?_)
  rcases hro k hk s with e | e<;>rw [e]<;>refine ⟨fun e2=>?_,fun e2=>?_,fun e2=>?_,fun e2=>?_,fun e2=>?_⟩<;>have e2:=congrArg Prod.snd e2<;>dsimp only at e2<;>omega
end
theorem LInv.newList {B p:Nat} {frs:List LFr} {rus:List LRu} {X:World->(Nat->Nat × Nat)->Prop} {pe pf:List Value} {L n:Nat} {w w':World} {v:Value} {m:Nat} {ys:List Value} (h:LInv B p frs rus X pe pf L n w) (hb:Below w.heap.size w w') (ho:w'.ownsRow w.heap.size 9 1 v m ys):FInv v B p frs rus X pe pf L n w':=by
 obtain ⟨vs,xs,li,ρ,hI,h0,h1,h2,h3,h4,h5,h6,h7,hL⟩:=h
 refine ⟨vs,xs,li,ext ρ w.heap.size (5,0),hI.next (S:=fun _=>False) (Hw.Kept.of_below hb) (fun k hk=>ext_lt hk) (fun _ _ f=>f.elim),h0,h1,h2,h3,h4,h5,h6,h7,hL,fun b e=>⟨?_,fun y hy e2=>?_⟩⟩
 ·rw [ext_ge (own_ge ho e)]
 ·have:=own_ge ho e
  have:=own_lt (hI.each y hy).own e2
  omega
theorem LInv.newLog {B p:Nat} {frs:List LFr} {rus:List LRu} {lgs:List LLg} {L n:Nat} {w w1 w2:World} {a:Nat} {g:Hm.Lg} {ls:List (List UInt8)} {rv wv lv:Value} (h:LInv B p frs rus (LgP lgs) (pes lgs) (pfs lgs) L n w) (hb1:Below w.heap.size w w1) (ha:w.heap.size<=a) (hf:LogIn w1 a g rv wv) (h1:∀ k,rv.ownBlock=some k->a<=k) (h2:∀ k,wv.ownBlock=some k->a<=k)
  (hb2:Below w1.heap.size w1 w2) (hr:RLogAt w2 w1.heap.size g ls lv) (h3:∀ k,lv.ownBlock=some k->w1.heap.size<=k) :
  ∃ xs0,LMid 4 B p frs rus (LgP (lgs ++ [⟨a,w1.heap.size,g,g,ls,rv,wv,lv⟩])) xs0 L n w w2/\(xs0 0=frs.map fun x=>ptrV x.p)/\(xs0 1=frs.map fun x=>ptrV x.q)/\(xs0 2=rus.map fun x=>ptrV x.p)/\(xs0 3=rus.map fun x=>ptrV x.q)/\xs0 4=pes lgs/\xs0 5=pfs lgs:=by
 obtain ⟨vs,xs,li,ρ,hI,h0,h1',h2',h3',h4,h5,h6,h7,hL⟩:=h
 have hb:Below w.heap.size w w2:=Below.next hb1 (Nat.le_refl _) hb2
 obtain ⟨l1,l2,l3⟩:=hf.lts
 have l4:w1.heap.size < w2.heap.size:=(Array.getElem?_eq_some_iff.1 hr.row).1
 obtain ⟨ρ',hρ⟩:∃ ρ':Nat->Nat × Nat,ρ'=fun k=>if k < w.heap.size then ρ k else if k < w1.heap.size then (if k=a then (3,5 * lgs.length) else if rv.ownBlock=some k then (3,5 * lgs.length+1) else (3,5 * lgs.length+2)) else if k=w1.heap.size then (3,5 * lgs.length+3) else (3,5 * lgs.length+4):=⟨_,rfl⟩
 have ag:∀ k,k < w.heap.size->ρ' k=ρ k:=fun k hk=>by rw [hρ];exact if_pos hk
 have hk:Hw.Kept (fun _=>False) w w2:=Hw.Kept.of_below hb
 refine ⟨xs,⟨vs,xs,li,ρ',hI.set3 hk ag (fun _ _ f=>f.elim) ?_ (LgP.stable _),rfl,h6,h7,hL,by omega,hb.mono (by have:=hI.le;have:=hI.lt;omega)⟩,h0,h1',h2',h3',h4,h5⟩
 intro i x hx
 rcases Nat.lt_or_ge i lgs.length with hi | hi
 ·rw [List.getElem?_append_left hi] at hx
  exact LgP.stable lgs _ _ _ _ _ hI.i3 hk ag (fun _ _ f=>f.elim) i x hx
 ·rw [List.getElem?_append_right hi] at hx
  have hi0:i - lgs.length=0:=by
   have:=(List.getElem?_eq_some_iff.1 hx).1
   simp at this
   omega
  rw [hi0] at hx
  have hx:(⟨a,w1.heap.size,g,g,ls,rv,wv,lv⟩:LLg)=x:=by simpa using hx
  subst hx
  have hie:i=lgs.length:=by omega
  subst hie
  have hne:=hr.ne
  refine ⟨hf.below hb2,hr,?_,fun k e=>?_,fun k e=>?_,?_,fun k e=>?_⟩
  ·rw [hρ]
   show (if a < w.heap.size then _ else if a < w1.heap.size then (if a=a then _ else _) else _)=_
   rw [if_neg (by omega),if_pos l1,if_pos rfl]
  ·have h8:=h1 k e
   have h9:=l2 k e
   rw [hρ]
   show (if k < w.heap.size then _ else if k < w1.heap.size then (if k=a then _ else if rv.ownBlock=some k then _ else _) else _)=_
   rw [if_neg (by omega),if_pos h9,if_neg (fun ek=>hf.apart.1 (by rw [<-ek];exact e)),if_pos e]
  ·have h8:=h2 k e
   have h9:=l3 k e
   rw [hρ]
   show (if k < w.heap.size then _ else if k < w1.heap.size then (if k=a then _ else if rv.ownBlock=some k then _ else _) else _)=_
   rw [if_neg (by omega),if_pos h9,if_neg (fun ek=>hf.apart.2.1 (by rw [<-ek];exact e)),if_neg (fun e3=>hf.apart.2.2 k e3 e)]
  ·have hs1:=hb1.size
   rw [hρ]
   show (if w1.heap.size < w.heap.size then _ else if w1.heap.size < w1.heap.size then _ else if w1.heap.size=w1.heap.size then _ else _)=_
   rw [if_neg (by omega),if_neg (by omega),if_pos rfl]
  ·have h8:=h3 k e
   have hs1:=hb1.size
   rw [hρ]
   show (if k < w.heap.size then _ else if k < w1.heap.size then _ else if k=w1.heap.size then _ else _)=_
   rw [if_neg (by omega),if_neg (by omega),if_neg (fun ek=>hne (by rw [<-ek];exact e))]
theorem LMid.log {B p:Nat} {frs:List LFr} {rus:List LRu} {lgs:List LLg} {L n:Nat} {w:World} {xs0:Nat->List Value} {w0:World} {x:LLg} (h:LMid 5 B p frs rus (LgP (lgs ++ [x])) (up (up xs0 4 (xs0 4 ++ [ptrV x.p])) 5 (xs0 5 ++ [ptrV x.q])) L n w0 w)
  (h0:xs0 0=frs.map fun x=>ptrV x.p) (h1:xs0 1=frs.map fun x=>ptrV x.q) (h2:xs0 2=rus.map fun x=>ptrV x.p) (h3:xs0 3=rus.map fun x=>ptrV x.q) (h4:xs0 4=pes lgs) (h5:xs0 5=pfs lgs):LInv B p frs rus (LgP (lgs ++ [x])) (pes (lgs ++ [x])) (pfs (lgs ++ [x])) L n w:=by
 obtain ⟨vs,xs,li,ρ,hI,rfl,h6,h7,hL,hj,hb⟩:=h
 refine ⟨vs,_,li,ρ,hI,h0,h1,h2,h3,?_,?_,h6,h7,hL⟩
 ·show xs0 4 ++ _=_
  rw [h4];simp [pes]
 ·show xs0 5 ++ _=_
  rw [h5];simp [pfs]
end Go.Proofs.YtdlhbmncbmconaaGreatDoor
namespace Go.Proofs.YtdlhbmncbmconaaGreatDoor
open Go.RowKit Go.Sort
theorem linfo_4:(Tryz.prog.info? 63).map (fun i=>(i.zero,i.size,i.bytes))=some (some (.pointer none),1,8):=by kernel_rfl
theorem linfo_5:(Tryz.prog.info? 176).map (fun i=>(i.zero,i.size,i.bytes))=some (some (.pointer none),1,8):=by kernel_rfl
theorem lsize_4:(Tryz.prog.info? 138).map (·.size)=some 1:=by kernel_rfl
theorem lsize_5:(Tryz.prog.info? 139).map (·.size)=some 1:=by kernel_rfl
theorem Open_bad (s:ByteArray) (room:Int) (h:room < 1∨8 < room) (w:World):Calls Tryz.prog 34 #[.string s,.int .i64 room] w fun e w'=>e=.returned (.tuple #[.pointer none,.int .i64 10])/\Below w.heap.size w w':=by
 by_cases h1:room < 1
 ·clear h
  go_enter Tryz.func34,Tryz.ntmps34
  go_wp2
  go_ret2
  exact ⟨rfl,by first | exact Below.refl _ _ | exact (Below.refl _ _).alloc (Nat.le_refl _) _⟩
 ·have h2:8 < room:=by omega
  clear h
  go_enter Tryz.func34,Tryz.ntmps34
  go_wp2
  go_ret2
  exact ⟨rfl,by first | exact Below.refl _ _ | exact (Below.refl _ _).alloc (Nat.le_refl _) _⟩
set_option maxRecDepth 20000 in
set_option maxHeartbeats 4000000 in
theorem made_logs_no (p:Nat) (o:OpV) (hk:o.kind=7) (ho:o.n < 1∨8 < o.n) (w:World):Calls Tryz.prog 70 #[.pointer (some ⟨p,0,none⟩),.agg (opCells o)] w fun e w'=>e=.returned (.bool true)/\Below w.heap.size w w':=by
 have NF:Hid (∀ w,Calls Tryz.prog 34 #[.string ⟨o.s.toArray⟩,.int .i64 o.n] w fun e w'=>e=.returned (.tuple #[.pointer none,.int .i64 10])/\Below w.heap.size w w'):=fun w=>Open_bad ⟨o.s.toArray⟩ o.n ho w
 have RN:Hid (∀ w,Calls Tryz.prog 109 #[.string ⟨o.s.toArray⟩,.int .i64 o.n] w fun e w'=>e=.returned (.tuple #[.pointer none,.int .i64 10])/\w'=w):=fun w=>rOpen_no o.s o.n ho w
 have NU:Hid (∀ w,Calls Tryz.prog 107 #[.int .i64 10] w fun r w'=>r=.returned (.int .i64 10)/\w'=w):=fun w=>lnum_any 10 w
 clear ho
 obtain ⟨kd,a,b,c,m,q,s,⟨f,sv,t,h1,h2,h3,h4,d,x⟩⟩:=o
 dsimp only at hk NF RN
 subst hk
 unfold opCells
 dsimp only
 go_enter Tryz.func70,Tryz.ntmps70
 go_wp2_with fail
 refine (NF.out _).mono ?_
 rintro e w1 ⟨rfl,hb1⟩
 have HB1:Hid (Below w.heap.size w w1):=((Below.refl _ _).alloc (Nat.le_refl _) _).trans (hb1.mono (by simp))
 obtain ⟨y0,y1,y2,y3,y4,y5,y6⟩:=ocells ((hb1.block w.heap.size (by simp)).trans (heap_alloc_new _ _))
 clear hb1
 go_wp2_with fail
 refine (RN.out _).mono ?_
 rintro e w2 ⟨rfl,hw2⟩
 have hw2:=hw2.symm
 subst hw2
 clear y0 y1 y2 y3 y4 y5 y6
 go_wp2_with fail
 refine (NU.out _).mono ?_
 rintro e w2 ⟨rfl,hw2⟩
 have hw2:=hw2.symm
 subst hw2
 go_wp2
 go_ret
 exact ⟨rfl,HB1.out⟩
set_option maxRecDepth 20000 in
set_option maxHeartbeats 8000000 in
theorem made_logs {B p:Nat} {frs:List LFr} {rus:List LRu} {lgs:List LLg} {L n:Nat} {w:World} (h:LInv B p frs rus (LgP lgs) (pes lgs) (pfs lgs) L n w) (hT:Tabs w) (hl:lgs.length<=1000000000000)
  (o:OpV) (hk:o.kind=7) (hs:o.s.length<=1048576) (m:Nat) (hm:o.n=m) (m1:1<=m) (m2:m<=8) :
  Calls Tryz.prog 70 #[.pointer (some ⟨p,0,none⟩),.agg (opCells o)] w fun e w'=>e=.returned (.bool true)/\Below B w w'/\∃ x:LLg,x.g=Hm.opens o.s m/\x.h=x.g/\LInv B p frs rus (LgP (lgs ++ [x])) (pes (lgs ++ [x])) (pfs (lgs ++ [x])) L n w':=by
 obtain ⟨i0,hi0,hz00,hz01,hz02⟩:=info_parts linfo_4
 obtain ⟨i1,hi1,hz10,hz11,hz12⟩:=info_parts linfo_5
 have NF:Hid (∀ w:World,Tabs w->Calls Tryz.prog 34 #[.string ⟨o.s.toArray⟩,.int .i64 m] w fun e w'=>∃ p rv wv,e=.returned (.tuple #[.pointer (some ⟨p,0,none⟩),.int .i64 0])/\w.heap.size<=p/\LogIn w' p (Hm.opens o.s m) rv wv/\Below w.heap.size w w'/\(∀ k,rv.ownBlock=some k->p<=k)/\(∀ k,wv.ownBlock=some k->p<=k)):=fun w hT=>Open_own ⟨o.s.toArray⟩ (by simp [ByteArray.size];omega) m m1 m2 w hT
 have RN:Hid (∀ w:World,Calls Tryz.prog 109 #[.string ⟨o.s.toArray⟩,.int .i64 m] w fun e w'=>e=.returned (.tuple #[.pointer (some ⟨w.heap.size,0,none⟩),.int .i64 0])/\∃ ls lv,RLogAt w' w.heap.size (Hm.opens o.s m) ls lv/\(∀ b,lv.ownBlock=some b->w.heap.size<=b)/\Below w.heap.size w w'):=fun w=>rOpen_any o.s (by omega) m m1 m2 w
 have NU:Hid (∀ w,Calls Tryz.prog 107 #[.int .i64 0] w fun r w'=>r=.returned (.int .i64 0)/\w'=w):=fun w=>lnum_any 0 w
 clear hs
 obtain ⟨kd,a,b,c,mm,q,s,⟨f,sv,t,h1,h2,h3,h4,d,x⟩⟩:=o
 dsimp only at hk hm NF RN ⊢
 subst hk hm
 generalize Hm.opens s m=OPN at NF RN ⊢
 unfold opCells
 dsimp only
 have HH:Hid (LInv B p frs rus (LgP lgs) (pes lgs) (pfs lgs) L n w):=h
 clear h
 go_enter Tryz.func70,Tryz.ntmps70
 go_wp2_with fail
 generalize hW:w.alloc _=W
 have HB0:Hid (Below w.heap.size w W):=by
  show Below _ _ _
  rw [<-hW]
  exact (Below.refl _ _).alloc (Nat.le_refl _) _
 have HR0:=show Hid (W.heap[w.heap.size]?=_) from (by rw [<-hW];exact heap_alloc_new _ _)
 clear hW
 have hz0:w.heap.size < W.heap.size:=(Array.getElem?_eq_some_iff.1 HR0.out).1
 have HL0:Hid (LInv B p frs rus (LgP lgs) (pes lgs) (pfs lgs) L n W):=HH.out.next HB0.out
 refine (NF.out W (hT.next HB0.out)).mono ?_
 rintro e w1 ⟨ap,rv1,wv1,rfl,ha1,hf1,hb1,hrv1,hwv1⟩
 have HF1:=show Hid _ from hf1
 have HB1:Hid (Below W.heap.size W w1):=hb1
 have HA1:Hid (W.heap.size<=ap/\(∀ k,rv1.ownBlock=some k->ap<=k)/\(∀ k,wv1.ownBlock=some k->ap<=k)):=⟨ha1,hrv1,hwv1⟩
 obtain ⟨y0,y1,y2,y3,y4,y5,y6⟩:=ocells ((hb1.block _ hz0).trans HR0.out)
 clear hf1 hb1 ha1 hrv1 hwv1
 go_wp2_with fail
 refine (RN.out w1).mono ?_
 rintro e w2 ⟨rfl,ls2,lv2,hr2,hlv2,hb2⟩
 obtain ⟨xs0,hM,e0,e1,e2,e3,e4,e5⟩:=HL0.out.newLog HB1.out HA1.out.1 HF1.out HA1.out.2.1 HA1.out.2.2 hb2 hr2 hlv2
 have HM:Hid (LMid 4 B p frs rus _ xs0 L n W w2):=hM
 have HE:Hid ((xs0 0=frs.map fun x=>ptrV x.p)/\(xs0 1=frs.map fun x=>ptrV x.q)/\(xs0 2=rus.map fun x=>ptrV x.p)/\(xs0 3=rus.map fun x=>ptrV x.q)/\xs0 4=pes lgs/\xs0 5=pfs lgs):=⟨e0,e1,e2,e3,e4,e5⟩
 have n0:(xs0 4).length<=1000000000000:=by rw [e4,pes,List.length_map];exact hl
 have n1:(xs0 5).length<=1000000000000:=by rw [e5,pfs,List.length_map];exact hl
 clear e0 e1 e2 e3 e4 e5 hM hr2 hb2 HB1 HF1 y0 y1 y2 y3 y4 y5 y6 hl hlv2 HA1
 go_wp2_with fail
 refine (NU.out _).mono ?_
 rintro e w3 ⟨rfl,hw3⟩
 have hw3:=hw3.symm
 subst hw3
 obtain ⟨v0,c0,o0,hk0⟩:=HM.out.own
 have O0:Hid (World.ownsRow _ 0 63 1 v0 _ (xs0 4)):=o0
 have HK0:=show Hid _ from hk0
 clear o0 hk0
 obtain ⟨a0,cap0,rfl⟩:=own_form1 O0.out
 go_wp2_with (first
  | (at_builtin;refine Hw.wpList_append_item rfl _ _ 138 rfl 63 i0 (.pointer none) 8 Tryz.underlying138 hi0 hz00 hz01 hz02 rfl _ _ (xs0 4) rfl (O0.out.alloc _) ⟨_,0,none⟩ (.pointer (some ⟨ap,0,none⟩)) rfl (cell_one_new _ _ _) rfl (by unfold maxLen;omega) (by omega) ?_;intro v5 w5 hown5 hg5 hat5 _;obtain ⟨old5,hrow5,hsz5,hn5⟩:=HK0.out _ _ _ _ hown5 hg5 hat5;have HR5:=show Hid _ from hrow5;have HN5:=show Hid _ from hn5;have HS5:=show Hid _ from hsz5;obtain ⟨a5,cap5,rfl⟩:=own_form1 hown5;clear hown5 hg5 hat5 hrow5 hn5 hsz5)
  | (refine Hw.wpList_store_fieldP rfl _ _ _ rfl rfl p 4 (.slice a5 _ cap5) rfl rfl _ _ _ HR5.out lsize_4 (by rw [HS5.out];decide) rfl rfl ?_;intro w6 p6;have hM6:=HN5.out _ p6;have HM6:Hid (LMid 5 B p _ _ _ (up xs0 4 (xs0 4 ++ [(.pointer (some ⟨ap,0,none⟩))])) L n W w6):=hM6.turn (by omega);clear p6 c0 hM6;obtain ⟨v7,c7,o7,hk7⟩:=HM6.out.own;have O7:Hid (World.ownsRow _ 0 176 1 v7 (xs0 5).length (xs0 5)):=o7;have HK7:=show Hid _ from hk7;clear o7 hk7;obtain ⟨a7,cap7,rfl⟩:=own_form1 O7.out)
  | (at_builtin;refine Hw.wpList_append_item rfl _ _ 139 rfl 176 i1 (.pointer none) 8 Tryz.underlying139 hi1 hz10 hz11 hz12 rfl _ _ (xs0 5) rfl (O7.out.alloc _) ⟨_,0,none⟩ (.pointer (some ⟨w1.heap.size,0,none⟩)) rfl (cell_one_new _ _ _) rfl (by unfold maxLen;omega) (by omega) ?_;intro v8 w8 hown8 hg8 hat8 _;obtain ⟨old8,hrow8,hsz8,hn8⟩:=HK7.out _ _ _ _ hown8 hg8 hat8;have HR8:=show Hid _ from hrow8;have HN8:=show Hid _ from hn8;have HS8:=show Hid _ from hsz8;obtain ⟨a8,cap8,rfl⟩:=own_form1 hown8;clear hown8 hg8 hat8 hrow8 hn8 hsz8)
  | (refine Hw.wpList_store_fieldP rfl _ _ _ rfl rfl p 5 (.slice a8 _ cap8) rfl rfl _ _ _ HR8.out lsize_5 (by rw [HS8.out];decide) rfl rfl ?_;intro w9 p9;have HM9:Hid (LMid 5 B p _ _ _ (up (up xs0 4 (xs0 4 ++ [(.pointer (some ⟨ap,0,none⟩))])) 5 (xs0 5 ++ [(.pointer (some ⟨w1.heap.size,0,none⟩))])) L n W w9):=HN8.out _ p9;clear p9 c7)
  | fail)
 go_ret
 obtain ⟨e0,e1,e2,e3,e4,e5⟩:=HE.out
 have hb9:Below B W w9:=by
  obtain ⟨_,_,_,_,_,_,_,_,_,_,hb⟩:=HM9.out
  exact hb
 exact ⟨rfl,(HB0.out.mono (by have:=HH.out.le;have:=HH.out.lt;omega)).trans hb9,_,rfl,rfl,HM9.out.log e0 e1 e2 e3 e4 e5⟩
end Go.Proofs.YtdlhbmncbmconaaGreatDoor

/- Pressed by program out of El Em En. -/
import Derived.Test.YtdlhbmncbmconaaGreatDoorL10
import Derived.Test.YtdlhbmncbmconaaGreatDoorL11
import Derived.Test.YtdlhbmncbmconaaGreatDoorL30
import Derived.Test.YtdlhbmncbmconaaGreatDoorL32
import Derived.Test.YtdlhbmncbmconaaGreatDoorL33
import Derived.Test.YtdlhbmncbmconaaGreatDoorL34
import Derived.Deep.RegionHeld
namespace Go.Hm
theorem rulesFrom_len:∀ (k n:Nat) (l:List UInt8) (acc rs:List Rl),acc.length=n->n<=12->rulesFrom k n l acc=.ok rs->rs.length<=12
 | 0,n,l,acc,rs,_,_,h=>by cases h
 | k+1,n,l,acc,rs,ha,hn,h=>by
  unfold rulesFrom at h
  split at h
  ·cases h;omega
  ·split at h
   ·cases h
   ·next hc=>
    split at h
    ·cases h
    ·next r hr=>
     have:¬ n=12:=fun e=>hc (.inl e)
     exact rulesFrom_len k _ _ _ rs (by simp [ha]) (by omega) h
theorem newRules_len {l:List UInt8} {rs:List Rl} (h:newRules l=.ok rs):rs.length<=12:=rulesFrom_len (l.length+1) 0 l [] rs rfl (by omega) h
end Go.Hm
namespace Go.Proofs.YtdlhbmncbmconaaGreatDoor
open Go.RowKit Go.Sort
theorem own_ge {w:World} {base e size n:Nat} {v:Value} {xs:List Value} (h:w.ownsRow base e size v n xs) {k:Nat} (hk:v.ownBlock=some k):base<=k:=by
 rcases h.2 with ⟨rfl,_⟩ | ⟨g,cap,cur,rfl,hb,_⟩
 ·cases hk
 ·cases hk
  exact hb
structure LFr where
 p:Nat
 q:Nat
 b:Nat
 A:List UInt8
 C:List UInt8
 v:Value
structure FrItem (w:World) (ρ:Nat->Nat × Nat) (i:Nat) (x:LFr):Prop where
 prog:FramesAt w x.p ((Hm.Frs.fresh x.b).feed x.A).1 x.v
 ref:w.heap[x.q]?=some (.cells (rfrCells x.b x.C (Hm.splitOf x.b x.C).1.length) 216 (0,0))
 b1:1<=x.b
 b2:x.b<=200
 rp:ρ x.p=(1,3 * i)
 rv:∀ k,x.v.ownBlock=some k->ρ k=(1,3 * i+1)
 rq:ρ x.q=(1,3 * i+2)
theorem FrItem.keep {S:Nat->Prop} {w w':World} {ρ ρ':Nat->Nat × Nat} {i:Nat} {x:LFr} (h:FrItem w ρ i x) (hk:Hw.Kept S w w') (ag:∀ k,k < w.heap.size->ρ' k=ρ k) (hS:∀ k,k < w.heap.size->S k->ρ k ≠ (1,3 * i)/\ρ k ≠ (1,3 * i+1)/\ρ k ≠ (1,3 * i+2)):FrItem w' ρ' i x:=by
 have hp:x.p < w.heap.size:=(Array.getElem?_eq_some_iff.1 h.prog.row).1
 have hq:x.q < w.heap.size:=(Array.getElem?_eq_some_iff.1 h.ref).1
 exact ⟨h.prog.keep hk (fun s=>(hS _ hp s).1 h.rp) (fun k e s=>(hS _ (own_lt h.prog.own e) s).2.1 (h.rv k e)),(hk.block _ hq (fun s=>(hS _ hq s).2.2 h.rq)).trans h.ref,h.b1,h.b2,(ag _ hp).trans h.rp,fun k e=>(ag _ (own_lt h.prog.own e)).trans (h.rv k e),(ag _ hq).trans h.rq⟩
def FrP (frs:List LFr) (w:World) (ρ:Nat->Nat × Nat):Prop:=∀ i x,frs[i]?=some x->FrItem w ρ i x
theorem FrP.stable (frs:List LFr):Stable 1 (FrP frs):=fun _ _ _ _ _ h hk ag hS i x hx=>(h i x hx).keep hk ag (fun k hk s=>⟨fun e=>hS k hk s (by rw [e]),fun e=>hS k hk s (by rw [e]),fun e=>hS k hk s (by rw [e])⟩)
structure LRu where
 p:Nat
 q:Nat
 rs:List Hm.Rl
 xs:List RIt
 v:Value
 u:Value
structure RuItem (w:World) (ρ:Nat->Nat × Nat) (x:LRu):Prop where
 prog:RulesAt w x.p x.rs x.v
 ref:RRulesAt w x.q x.rs x.xs x.u
 small:∀ r ∈ x.rs,r.small
 len:x.rs.length<=1000
 rp:(ρ x.p).1=2
 rv:∀ k,x.v.ownBlock=some k->(ρ k).1=2
 rq:(ρ x.q).1=2
 ru:∀ k,x.u.ownBlock=some k->(ρ k).1=2
 rx:∀ y ∈ x.xs,∀ k,y.v.ownBlock=some k->(ρ k).1=2
def RuP (rus:List LRu) (w:World) (ρ:Nat->Nat × Nat):Prop:=∀ x ∈ rus,RuItem w ρ x
theorem RuItem.keep {S:Nat->Prop} {w w':World} {ρ ρ':Nat->Nat × Nat} {x:LRu} (h:RuItem w ρ x) (hk:Hw.Kept S w w') (ag:∀ k,k < w.heap.size->ρ' k=ρ k) (hS:∀ k,k < w.heap.size->S k->(ρ k).1 ≠ 2):RuItem w' ρ' x:=by
 have hp:x.p < w.heap.size:=(Array.getElem?_eq_some_iff.1 h.prog.row).1
 have hq:x.q < w.heap.size:=(Array.getElem?_eq_some_iff.1 h.ref.row).1
 have ag1:∀ k,k < w.heap.size->(ρ' k).1=(ρ k).1:=fun k hk=>by rw [ag k hk]
 exact ⟨⟨(hk.block _ hp (fun s=>hS _ hp s h.rp)).trans h.prog.row,Hw.ownsRow_keptS h.prog.own hk (fun k e s=>hS _ (own_lt h.prog.own e) s (h.rv k e))⟩,
  ⟨(hk.block _ hq (fun s=>hS _ hq s h.rq)).trans h.ref.row,Hw.ownsRow_keptS h.ref.own hk (fun k e s=>hS _ (own_lt h.ref.own e) s (h.ru k e)),fun y hy=>Hw.ownsRow_keptS (h.ref.each y hy) hk (fun k e s=>hS _ (own_lt (h.ref.each y hy) e) s (h.rx y hy k e)),h.ref.len,h.ref.alike⟩,
  h.small,h.len,(ag1 _ hp).trans h.rp,fun k e=>(ag1 _ (own_lt h.prog.own e)).trans (h.rv k e),(ag1 _ hq).trans h.rq,fun k e=>(ag1 _ (own_lt h.ref.own e)).trans (h.ru k e),fun y hy k e=>(ag1 _ (own_lt (h.ref.each y hy) e)).trans (h.rx y hy k e)⟩
theorem RuP.stable (rus:List LRu):Stable 2 (RuP rus):=fun _ _ _ _ _ h hk ag hS x hx=>(h x hx).keep hk ag hS
def ptrV (p:Nat):Value:=.pointer (some ⟨p,0,none⟩)
def LInv (B p:Nat) (frs:List LFr) (rus:List LRu) (X:World->(Nat->Nat × Nat)->Prop) (pe pf:List Value) (L n:Nat) (w:World):Prop:=
 ∃ vs xs li ρ,WIn B p vs xs n (FrP frs) (RuP rus) X li ρ w/\(xs 0=frs.map fun x=>ptrV x.p)/\(xs 1=frs.map fun x=>ptrV x.q)/\(xs 2=rus.map fun x=>ptrV x.p)/\(xs 3=rus.map fun x=>ptrV x.q)/\xs 4=pe/\xs 5=pf/\xs 6=li.map (·.v)/\(xs 7=li.map fun x=>strV x.m)/\li.length=L
section
variable {B p:Nat} {frs:List LFr} {rus:List LRu} {X:World->(Nat->Nat × Nat)->Prop} {pe pf:List Value} {L n:Nat} {w w':World}
theorem LInv.next (h:LInv B p frs rus X pe pf L n w) (hb:Below w.heap.size w w'):LInv B p frs rus X pe pf L n w':=by
 obtain ⟨vs,xs,li,ρ,hI,h⟩:=h
 exact ⟨vs,xs,li,ρ,hI.next0 hb,h⟩
theorem LInv.lt (h:LInv B p frs rus X pe pf L n w):p < w.heap.size:=by
 obtain ⟨vs,xs,li,ρ,hI,h⟩:=h
 exact hI.lt
theorem LInv.le (h:LInv B p frs rus X pe pf L n w):B<=p:=by
 obtain ⟨vs,xs,li,ρ,hI,h⟩:=h
 exact hI.le
def LMid (j:Nat) (B p:Nat) (frs:List LFr) (rus:List LRu) (X:World->(Nat->Nat × Nat)->Prop) (xs0:Nat->List Value) (L n:Nat) (w0 w:World):Prop:=
 ∃ vs xs li ρ,WIn B p vs xs n (FrP frs) (RuP rus) X li ρ w/\xs=xs0/\xs 6=li.map (·.v)/\(xs 7=li.map fun x=>strV x.m)/\li.length=L/\j < 6/\Below B w0 w
theorem LMid.own {j:Nat} {xs0:Nat->List Value} {w0:World} (h:LMid j B p frs rus X xs0 L n w0 w):∃ v,w.cell? ⟨p,j,none⟩=some v/\w.ownsRow 0 (wty j) 1 v (xs0 j).length (xs0 j) /\
  ∀ (o:Obj) (v':Value) (w5:World) (x:Value),w5.ownsRow 0 (wty j) 1 v' ((xs0 j).length+1) (xs0 j ++ [x])->(w.alloc o).grownBy w5 v.ownBlock->(v'.ownBlock=v.ownBlock∨v'.ownBlock=some (w.alloc o).heap.size) ->
   ∃ old,w5.heap[p]?=some (.cells old 142 (0,0))/\old.size=9/\∀ w6,Hw.Put w5 p 142 (old.setIfInBounds j v') w6->LMid j B p frs rus X (up xs0 j (xs0 j ++ [x])) L n w0 w6:=by
 obtain ⟨vs,xs,li,ρ,hI,rfl,h6,h7,hL,hj,hb⟩:=h
 obtain ⟨c,ow,hc⟩:=hI.own (j:=j) (by omega)
 refine ⟨vs j,c,ow,fun o v' w5 x h1 h2 h3=>?_⟩
 obtain ⟨old,r1,r2,r3⟩:=hc o v' w5 x h1 h2 h3
 refine ⟨old,r1,r2,fun w6 P=>?_⟩
 obtain ⟨q1,q2⟩:=r3 w6 P
 exact ⟨_,_,li,_,q1,rfl,by rw [up_ne _ _ (by omega),h6],by rw [up_ne _ _ (by omega),h7],hL,hj,hb.trans q2⟩
theorem LMid.turn {j k:Nat} {xs0:Nat->List Value} {w0:World} (h:LMid j B p frs rus X xs0 L n w0 w) (hk:k < 6):LMid k B p frs rus X xs0 L n w0 w:=by
 obtain ⟨vs,xs,li,ρ,hI,rfl,h6,h7,hL,hj,hb⟩:=h
 exact ⟨vs,xs,li,ρ,hI,rfl,h6,h7,hL,hk,hb⟩
theorem LMid.frame {xs0:Nat->List Value} {w0:World} {x:LFr} (h:LMid 1 B p (frs ++ [x]) rus X (up (up xs0 0 (xs0 0 ++ [ptrV x.p])) 1 (xs0 1 ++ [ptrV x.q])) L n w0 w)
  (h0:xs0 0=frs.map fun x=>ptrV x.p) (h1:xs0 1=frs.map fun x=>ptrV x.q) (h2:xs0 2=rus.map fun x=>ptrV x.p) (h3:xs0 3=rus.map fun x=>ptrV x.q) (h4:xs0 4=pe) (h5:xs0 5=pf):LInv B p (frs ++ [x]) rus X pe pf L n w:=by
 obtain ⟨vs,xs,li,ρ,hI,rfl,h6,h7,hL,hj,hb⟩:=h
 refine ⟨vs,_,li,ρ,hI,?_,?_,h2,h3,h4,h5,h6,h7,hL⟩
 ·show xs0 0 ++ _=_
  rw [h0];simp
 ·show xs0 1 ++ _=_
  rw [h1];simp
theorem LMid.rule {xs0:Nat->List Value} {w0:World} {x:LRu} (h:LMid 3 B p frs (rus ++ [x]) X (up (up xs0 2 (xs0 2 ++ [ptrV x.p])) 3 (xs0 3 ++ [ptrV x.q])) L n w0 w)
  (h0:xs0 0=frs.map fun x=>ptrV x.p) (h1:xs0 1=frs.map fun x=>ptrV x.q) (h2:xs0 2=rus.map fun x=>ptrV x.p) (h3:xs0 3=rus.map fun x=>ptrV x.q) (h4:xs0 4=pe) (h5:xs0 5=pf):LInv B p frs (rus ++ [x]) X pe pf L n w:=by
 obtain ⟨vs,xs,li,ρ,hI,rfl,h6,h7,hL,hj,hb⟩:=h
 refine ⟨vs,_,li,ρ,hI,h0,h1,?_,?_,h4,h5,h6,h7,hL⟩
 ·show xs0 2 ++ _=_
  rw [h2];simp
 ·show xs0 3 ++ _=_
  rw [h3];simp
theorem LInv.newFrame {w1 w2:World} {m:Nat} (h:LInv B p frs rus X pe pf L n w) (hb1:Below w.heap.size w w1) (hf:FramesAt w1 w.heap.size (Hm.Frs.fresh m) (.slice none 0 0)) (hb2:Below w1.heap.size w1 w2)
  (hr:w2.heap[w1.heap.size]?=some (.cells (rfrCells m [] 0) 216 (0,0))) (m1:1<=m) (m2:m<=200) :
  ∃ xs0,LMid 0 B p (frs ++ [⟨w.heap.size,w1.heap.size,m,[],[],.slice none 0 0⟩]) rus X xs0 L n w w2/\(xs0 0=frs.map fun x=>ptrV x.p)/\(xs0 1=frs.map fun x=>ptrV x.q)/\(xs0 2=rus.map fun x=>ptrV x.p)/\(xs0 3=rus.map fun x=>ptrV x.q)/\xs0 4=pe/\xs0 5=pf:=by
 obtain ⟨vs,xs,li,ρ,hI,h0,h1,h2,h3,h4,h5,h6,h7,hL⟩:=h
 have hb:Below w.heap.size w w2:=Below.next hb1 (Nat.le_refl _) hb2
 have hz1:w.heap.size < w1.heap.size:=(Array.getElem?_eq_some_iff.1 hf.row).1
 obtain ⟨ρ',hρ⟩:∃ ρ',ρ'=ext (ext ρ w.heap.size (1,3 * frs.length)) w1.heap.size (1,3 * frs.length+2):=⟨_,rfl⟩
 have ag:∀ k,k < w.heap.size->ρ' k=ρ k:=fun k hk=>by rw [hρ,ext_lt (by omega),ext_lt hk]
 have hk:Hw.Kept (fun _=>False) w w2:=Hw.Kept.of_below hb
 refine ⟨xs,⟨vs,xs,li,ρ',hI.set1 hk ag (fun _ _ f=>f.elim) ?_ (FrP.stable _),rfl,h6,h7,hL,by omega,hb.mono (by have:=hI.le;have:=hI.lt;omega)⟩,h0,h1,h2,h3,h4,h5⟩
 intro i x hx
 rcases Nat.lt_or_ge i frs.length with hi | hi
 ·rw [List.getElem?_append_left hi] at hx
  exact FrP.stable frs _ _ _ _ _ hI.i1 hk ag (fun _ _ f=>f.elim) i x hx
 ·rw [List.getElem?_append_right hi] at hx
  have hi0:i - frs.length=0:=by
   have:=(List.getElem?_eq_some_iff.1 hx).1
   simp at this
   omega
  rw [hi0] at hx
  have hx:⟨w.heap.size,w1.heap.size,m,[],[],.slice none 0 0⟩=x:=by simpa using hx
  subst hx
  have hie:i=frs.length:=by omega
  subst hie
  refine ⟨hf.keep (S:=fun _=>False) (Hw.Kept.of_below hb2) (fun f=>f) (fun _ _ f=>f),hr,m1,m2,?_,fun k e=>(by cases e),?_⟩
  ·rw [hρ,ext_lt hz1,ext_ge (Nat.le_refl _)]
  ·rw [hρ,ext_ge (Nat.le_refl _)]
theorem LInv.newRule {w1 w2:World} {rs:List Hm.Rl} {ys:List RIt} {v u:Value} (h:LInv B p frs rus X pe pf L n w) (hb1:Below w.heap.size w w1) (hf:RulesAt w1 w.heap.size rs v) (hb2:Below w1.heap.size w1 w2)
  (hr:RRulesAt w2 w1.heap.size rs ys u) (hs:∀ r ∈ rs,r.small) (hl:rs.length<=12) :
  ∃ xs0,LMid 2 B p frs (rus ++ [⟨w.heap.size,w1.heap.size,rs,ys,v,u⟩]) X xs0 L n w w2/\(xs0 0=frs.map fun x=>ptrV x.p)/\(xs0 1=frs.map fun x=>ptrV x.q)/\(xs0 2=rus.map fun x=>ptrV x.p)/\(xs0 3=rus.map fun x=>ptrV x.q)/\xs0 4=pe/\xs0 5=pf:=by
 obtain ⟨vs,xs,li,ρ,hI,h0,h1,h2,h3,h4,h5,h6,h7,hL⟩:=h
 have hb:Below w.heap.size w w2:=Below.next hb1 (Nat.le_refl _) hb2
 have hz1:w.heap.size < w1.heap.size:=(Array.getElem?_eq_some_iff.1 hf.row).1
 have ag:∀ k,k < w.heap.size->ext ρ w.heap.size (2,0) k=ρ k:=fun k hk=>ext_lt hk
 have hk:Hw.Kept (fun _=>False) w w2:=Hw.Kept.of_below hb
 have hk2:Hw.Kept (fun _=>False) w1 w2:=Hw.Kept.of_below hb2
 have new:∀ k,w.heap.size<=k->(ext ρ w.heap.size (2,0) k).1=2:=fun k hk=>by rw [ext_ge hk]
 refine ⟨xs,⟨vs,xs,li,_,hI.set2 hk ag (fun _ _ f=>f.elim) ?_ (RuP.stable _),rfl,h6,h7,hL,by omega,hb.mono (by have:=hI.le;have:=hI.lt;omega)⟩,h0,h1,h2,h3,h4,h5⟩
 intro x hx
 rcases List.mem_append.1 hx with hx | hx
 ·exact RuP.stable rus _ _ _ _ _ hI.i2 hk ag (fun _ _ f=>f.elim) x hx
 ·simp at hx
  subst hx
  refine ⟨⟨(hk2.block _ hz1 (fun f=>f)).trans hf.row,Hw.ownsRow_keptS hf.own hk2 (fun _ _ f=>f)⟩,hr,hs,by dsimp only;omega,new _ (Nat.le_refl _),fun k e=>new k ?_,new _ (by dsimp only;omega),fun k e=>new k ?_,fun y hy k e=>new k ?_⟩
  ·have:=own_ge hf.own e;omega
  ·have:=own_ge hr.own e;omega
  ·have:=own_ge (hr.each y hy) e;omega
end
end Go.Proofs.YtdlhbmncbmconaaGreatDoor
namespace Go.Proofs.YtdlhbmncbmconaaGreatDoor
open Go.RowKit Go.Sort
theorem lnum_any (e:Int) (w:World):Calls Tryz.prog 107 #[.int .i64 e] w fun r w'=>r=.returned (.int .i64 e)/\w'=w:=by
 go_enter Tryz.func107,Tryz.ntmps107
 go_wp2
 go_ret
 exact ⟨rfl,rfl⟩
theorem linfo_0:(Tryz.prog.info? 45).map (fun i=>(i.zero,i.size,i.bytes))=some (some (.pointer none),1,8):=by kernel_rfl
theorem lsize_0:(Tryz.prog.info? 134).map (·.size)=some 1:=by kernel_rfl
theorem linfo_1:(Tryz.prog.info? 169).map (fun i=>(i.zero,i.size,i.bytes))=some (some (.pointer none),1,8):=by kernel_rfl
theorem lsize_1:(Tryz.prog.info? 135).map (·.size)=some 1:=by kernel_rfl
theorem linfo_2:(Tryz.prog.info? 56).map (fun i=>(i.zero,i.size,i.bytes))=some (some (.pointer none),1,8):=by kernel_rfl
theorem lsize_2:(Tryz.prog.info? 136).map (·.size)=some 1:=by kernel_rfl
theorem linfo_3:(Tryz.prog.info? 173).map (fun i=>(i.zero,i.size,i.bytes))=some (some (.pointer none),1,8):=by kernel_rfl
theorem lsize_3:(Tryz.prog.info? 137).map (·.size)=some 1:=by kernel_rfl
theorem ocells {w:World} {g:Nat} {a0 a1 a2 a3 a4 a5 a6 a7 a8 a9 a10 a11 a12 a13 a14 a15:Value} {t:TypeId} {fr:Nat × Nat} (h:w.heap[g]?=some (.cells #[a0,a1,a2,a3,a4,a5,a6,a7,a8,a9,a10,a11,a12,a13,a14,a15] t fr)) :
  w.cell? ⟨g,0,none⟩=some a0/\w.cell? ⟨g,1,none⟩=some a1/\w.cell? ⟨g,2,none⟩=some a2/\w.cell? ⟨g,3,none⟩=some a3/\w.cell? ⟨g,4,none⟩=some a4/\w.cell? ⟨g,5,none⟩=some a5/\w.cell? ⟨g,6,none⟩=some a6:=
 ⟨cell_of_row _ _ _ _ _ _ h,cell_of_row _ _ _ _ _ _ h,cell_of_row _ _ _ _ _ _ h,cell_of_row _ _ _ _ _ _ h,cell_of_row _ _ _ _ _ _ h,cell_of_row _ _ _ _ _ _ h,cell_of_row _ _ _ _ _ _ h⟩
set_option maxRecDepth 20000 in
set_option maxHeartbeats 8000000 in
theorem made_frames {B p:Nat} {frs:List LFr} {rus:List LRu} {X:World->(Nat->Nat × Nat)->Prop} {pe pf:List Value} {L n:Nat} {w:World} (h:LInv B p frs rus X pe pf L n w) (h11:11<=w.heap.size) (hl:frs.length<=1000000000000)
  (o:OpV) (hk:o.kind=3) (m:Nat) (hm:o.n=m) (m1:1<=m) (m2:m<=200) :
  Calls Tryz.prog 70 #[.pointer (some ⟨p,0,none⟩),.agg (opCells o)] w fun e w'=>e=.returned (.bool true)/\Below B w w'/\∃ x:LFr,x.A=[]/\x.C=[]/\LInv B p (frs ++ [x]) rus X pe pf L n w':=by
 obtain ⟨i0,hi0,hz00,hz01,hz02⟩:=info_parts linfo_0
 obtain ⟨i1,hi1,hz10,hz11,hz12⟩:=info_parts linfo_1
 have NF:Hid (∀ w:World,11<=w.heap.size->Calls Tryz.prog 27 #[.int .i64 m] w fun e w'=>e=.returned (.tuple #[.pointer (some ⟨w.heap.size,0,none⟩),.int .i64 0])/\FramesAt w' w.heap.size (Hm.Frs.fresh m) (.slice none 0 0)/\Below w.heap.size w w'):=fun w hw=>NewFrames_any m w hw m1 m2
 have RN:Hid (∀ w:World,Calls Tryz.prog 106 #[.int .i64 m] w fun e w'=>e=.returned (.tuple #[.pointer (some ⟨w.heap.size,0,none⟩),.int .i64 0])/\w'.heap[w.heap.size]?=some (.cells (rfrCells m [] 0) 216 (0,0))/\Below w.heap.size w w'):=fun w=>rNewFrames_yes m m1 m2 w
 have NU:Hid (∀ w,Calls Tryz.prog 107 #[.int .i64 0] w fun r w'=>r=.returned (.int .i64 0)/\w'=w):=fun w=>lnum_any 0 w
 obtain ⟨kd,a,b,c,mm,q,s,⟨f,sv,t,h1,h2,h3,h4,d,x⟩⟩:=o
 dsimp only at hk hm
 subst hk hm
 unfold opCells
 dsimp only
 have HH:Hid (LInv B p frs rus X pe pf L n w):=h
 clear h
 go_enter Tryz.func70,Tryz.ntmps70
 go_wp2_with fail
 generalize hW:w.alloc _=W
 have HB0:Hid (Below w.heap.size w W):=by
  show Below _ _ _
  rw [<-hW]
  exact (Below.refl _ _).alloc (Nat.le_refl _) _
 have HR0:=show Hid (W.heap[w.heap.size]?=_) from (by rw [<-hW];exact heap_alloc_new _ _)
 clear hW
 have hz0:w.heap.size < W.heap.size:=(Array.getElem?_eq_some_iff.1 HR0.out).1
 have HL0:Hid (LInv B p frs rus X pe pf L n W):=HH.out.next HB0.out
 refine (NF.out W (by omega)).mono ?_
 rintro e w1 ⟨rfl,hf1,hb1⟩
 have HF1:=show Hid _ from hf1
 have HB1:=show Hid _ from hb1
 obtain ⟨y0,y1,y2,y3,y4,y5,y6⟩:=ocells ((hb1.block _ hz0).trans HR0.out)
 clear hf1 hb1
 go_wp2_with fail
 refine (RN.out w1).mono ?_
 rintro e w2 ⟨rfl,hr2,hb2⟩
 obtain ⟨xs0,hM,e0,e1,e2,e3,e4,e5⟩:=HL0.out.newFrame HB1.out HF1.out hb2 hr2 m1 m2
 have HM:Hid (LMid 0 B p _ rus X xs0 L n W w2):=hM
 have HE:Hid ((xs0 0=frs.map fun x=>ptrV x.p)/\(xs0 1=frs.map fun x=>ptrV x.q)/\(xs0 2=rus.map fun x=>ptrV x.p)/\(xs0 3=rus.map fun x=>ptrV x.q)/\xs0 4=pe/\xs0 5=pf):=⟨e0,e1,e2,e3,e4,e5⟩
 have n0:(xs0 0).length<=1000000000000:=by rw [e0,List.length_map];exact hl
 have n1:(xs0 1).length<=1000000000000:=by rw [e1,List.length_map];exact hl
 clear e0 e1 e2 e3 e4 e5 hM hr2 hb2 HB1 HF1 y0 y1 y2 y3 y4 y5 y6 hl
 go_wp2_with fail
 refine (NU.out _).mono ?_
 rintro e w3 ⟨rfl,hw3⟩
 have hw3:=hw3.symm
 subst hw3
 obtain ⟨v0,c0,o0,hk0⟩:=HM.out.own
 have O0:Hid (World.ownsRow _ 0 45 1 v0 _ (xs0 0)):=o0
 have HK0:=show Hid _ from hk0
 clear o0 hk0
 obtain ⟨a0,cap0,rfl⟩:=own_form1 O0.out
 go_wp2_with (first
  | (at_builtin;refine Hw.wpList_append_item rfl _ _ 134 rfl 45 i0 (.pointer none) 8 Tryz.underlying134 hi0 hz00 hz01 hz02 rfl _ _ (xs0 0) rfl (O0.out.alloc _) ⟨_,0,none⟩ (.pointer (some ⟨W.heap.size,0,none⟩)) rfl (cell_one_new _ _ _) rfl (by unfold maxLen;omega) (by omega) ?_;intro v5 w5 hown5 hg5 hat5 _;obtain ⟨old5,hrow5,hsz5,hn5⟩:=HK0.out _ _ _ _ hown5 hg5 hat5;have HR5:=show Hid _ from hrow5;have HN5:=show Hid _ from hn5;have HS5:=show Hid _ from hsz5;obtain ⟨a5,cap5,rfl⟩:=own_form1 hown5;clear hown5 hg5 hat5 hrow5 hn5 hsz5)
  | (refine Hw.wpList_store_fieldP rfl _ _ _ rfl rfl p 0 (.slice a5 _ cap5) rfl rfl _ _ _ HR5.out lsize_0 (by rw [HS5.out];decide) rfl rfl ?_;intro w6 p6;have hM6:=HN5.out _ p6;have HM6:Hid (LMid 1 B p _ _ X (up xs0 0 (xs0 0 ++ [(.pointer (some ⟨W.heap.size,0,none⟩))])) L n W w6):=hM6.turn (by omega);clear p6 c0 hM6;obtain ⟨v7,c7,o7,hk7⟩:=HM6.out.own;have O7:Hid (World.ownsRow _ 0 169 1 v7 (xs0 1).length (xs0 1)):=o7;have HK7:=show Hid _ from hk7;clear o7 hk7;obtain ⟨a7,cap7,rfl⟩:=own_form1 O7.out)
  | (at_builtin;refine Hw.wpList_append_item rfl _ _ 135 rfl 169 i1 (.pointer none) 8 Tryz.underlying135 hi1 hz10 hz11 hz12 rfl _ _ (xs0 1) rfl (O7.out.alloc _) ⟨_,0,none⟩ (.pointer (some ⟨w1.heap.size,0,none⟩)) rfl (cell_one_new _ _ _) rfl (by unfold maxLen;omega) (by omega) ?_;intro v8 w8 hown8 hg8 hat8 _;obtain ⟨old8,hrow8,hsz8,hn8⟩:=HK7.out _ _ _ _ hown8 hg8 hat8;have HR8:=show Hid _ from hrow8;have HN8:=show Hid _ from hn8;have HS8:=show Hid _ from hsz8;obtain ⟨a8,cap8,rfl⟩:=own_form1 hown8;clear hown8 hg8 hat8 hrow8 hn8 hsz8)
  | (refine Hw.wpList_store_fieldP rfl _ _ _ rfl rfl p 1 (.slice a8 _ cap8) rfl rfl _ _ _ HR8.out lsize_1 (by rw [HS8.out];decide) rfl rfl ?_;intro w9 p9;have HM9:Hid (LMid 1 B p _ _ X (up (up xs0 0 (xs0 0 ++ [(.pointer (some ⟨W.heap.size,0,none⟩))])) 1 (xs0 1 ++ [(.pointer (some ⟨w1.heap.size,0,none⟩))])) L n W w9):=HN8.out _ p9;clear p9 c7)
  | fail)
 go_ret
 obtain ⟨e0,e1,e2,e3,e4,e5⟩:=HE.out
 have hb9:Below B W w9:=by
  obtain ⟨_,_,_,_,_,_,_,_,_,_,hb⟩:=HM9.out
  exact hb
 exact ⟨rfl,(HB0.out.mono (by have:=HH.out.le;have:=HH.out.lt;omega)).trans hb9,_,rfl,rfl,HM9.out.frame e0 e1 e2 e3 e4 e5⟩
set_option maxRecDepth 20000 in
set_option maxHeartbeats 8000000 in
theorem made_rules {B p:Nat} {frs:List LFr} {rus:List LRu} {X:World->(Nat->Nat × Nat)->Prop} {pe pf:List Value} {L n:Nat} {w:World} (h:LInv B p frs rus X pe pf L n w) (hT:Tabs w) (hl:rus.length<=1000000000000)
  (o:OpV) (hk:o.kind=5) (hs:o.s.length<=400) (rs:List Hm.Rl) (hrs:Hm.newRules o.s=.ok rs) :
  Calls Tryz.prog 70 #[.pointer (some ⟨p,0,none⟩),.agg (opCells o)] w fun e w'=>e=.returned (.bool true)/\Below B w w'/\∃ x:LRu,LInv B p frs (rus ++ [x]) X pe pf L n w':=by
 obtain ⟨i0,hi0,hz00,hz01,hz02⟩:=info_parts linfo_2
 obtain ⟨i1,hi1,hz10,hz11,hz12⟩:=info_parts linfo_3
 have NF:Hid (∀ w:World,Tabs w->Calls Tryz.prog 32 #[.string ⟨o.s.toArray⟩] w fun e w'=>e=.returned (.tuple #[.pointer (some ⟨w.heap.size,0,none⟩),.int .i64 0,.int .i64 0])/\(∃ v,RulesAt w' w.heap.size rs v)/\Below w.heap.size w w'):=fun w hT=>by
  refine (NewRules_any ⟨o.s.toArray⟩ w hT (by simpa [ByteArray.size] using hs)).mono ?_
  rintro e w1 ⟨hb,hp⟩
  rw [show (⟨o.s.toArray⟩:ByteArray).data.toList=o.s from rfl,hrs] at hp
  exact ⟨hp.1,hp.2,hb⟩
 have RN:Hid (∀ w:World,Calls Tryz.prog 108 #[.string ⟨o.s.toArray⟩] w fun e w'=>e=.returned (.tuple #[.pointer (some ⟨w.heap.size,0,none⟩),.int .i64 0,.int .i64 0])/\(∃ xs v,RRulesAt w' w.heap.size rs xs v)/\Below w.heap.size w w'):=fun w=>by
  refine (rNewRules_any o.s hs w).mono ?_
  rintro e w1 ⟨hb,hp⟩
  rw [hrs] at hp
  exact ⟨hp.1,hp.2,hb⟩
 have NU:Hid (∀ w,Calls Tryz.prog 107 #[.int .i64 0] w fun r w'=>r=.returned (.int .i64 0)/\w'=w):=fun w=>lnum_any 0 w
 have hsm:=Hm.newRules_small hrs
 have hln:=Hm.newRules_len hrs
 have HSM:=show Hid _ from hsm
 have HLN:Hid (rs.length<=12):=hln
 clear hsm hln hrs hs
 obtain ⟨kd,a,b,c,mm,q,s,⟨f,sv,t,h1,h2,h3,h4,d,x⟩⟩:=o
 dsimp only at hk NF RN
 subst hk
 unfold opCells
 dsimp only
 have HH:Hid (LInv B p frs rus X pe pf L n w):=h
 clear h
 go_enter Tryz.func70,Tryz.ntmps70
 go_wp2_with fail
 generalize hW:w.alloc _=W
 have HB0:Hid (Below w.heap.size w W):=by
  show Below _ _ _
  rw [<-hW]
  exact (Below.refl _ _).alloc (Nat.le_refl _) _
 have HR0:=show Hid (W.heap[w.heap.size]?=_) from (by rw [<-hW];exact heap_alloc_new _ _)
 clear hW
 have hz0:w.heap.size < W.heap.size:=(Array.getElem?_eq_some_iff.1 HR0.out).1
 have HL0:Hid (LInv B p frs rus X pe pf L n W):=HH.out.next HB0.out
 refine (NF.out W (hT.next HB0.out)).mono ?_
 rintro e w1 ⟨rfl,⟨rv,hf1⟩,hb1⟩
 have HF1:=show Hid _ from hf1
 have HB1:=show Hid _ from hb1
 obtain ⟨y0,y1,y2,y3,y4,y5,y6⟩:=ocells ((hb1.block _ hz0).trans HR0.out)
 clear hf1 hb1
 go_wp2_with fail
 refine (RN.out w1).mono ?_
 rintro e w2 ⟨rfl,⟨ys,ru,hr2⟩,hb2⟩
 obtain ⟨xs0,hM,e0,e1,e2,e3,e4,e5⟩:=HL0.out.newRule HB1.out HF1.out hb2 hr2 HSM.out HLN.out
 have HM:Hid (LMid 2 B p frs _ X xs0 L n W w2):=hM
 have HE:Hid ((xs0 0=frs.map fun x=>ptrV x.p)/\(xs0 1=frs.map fun x=>ptrV x.q)/\(xs0 2=rus.map fun x=>ptrV x.p)/\(xs0 3=rus.map fun x=>ptrV x.q)/\xs0 4=pe/\xs0 5=pf):=⟨e0,e1,e2,e3,e4,e5⟩
 have n0:(xs0 2).length<=1000000000000:=by rw [e2,List.length_map];exact hl
 have n1:(xs0 3).length<=1000000000000:=by rw [e3,List.length_map];exact hl
 clear e0 e1 e2 e3 e4 e5 hM hr2 hb2 HB1 HF1 y0 y1 y2 y3 y4 y5 y6 hl
 go_wp2_with fail
 refine (NU.out _).mono ?_
 rintro e w3 ⟨rfl,hw3⟩
 have hw3:=hw3.symm
 subst hw3
 obtain ⟨v0,c0,o0,hk0⟩:=HM.out.own
 have O0:Hid (World.ownsRow _ 0 56 1 v0 _ (xs0 2)):=o0
 have HK0:=show Hid _ from hk0
 clear o0 hk0
 obtain ⟨a0,cap0,rfl⟩:=own_form1 O0.out
 go_wp2_with (first
  | (at_builtin;refine Hw.wpList_append_item rfl _ _ 136 rfl 56 i0 (.pointer none) 8 Tryz.underlying136 hi0 hz00 hz01 hz02 rfl _ _ (xs0 2) rfl (O0.out.alloc _) ⟨_,0,none⟩ (.pointer (some ⟨W.heap.size,0,none⟩)) rfl (cell_one_new _ _ _) rfl (by unfold maxLen;omega) (by omega) ?_;intro v5 w5 hown5 hg5 hat5 _;obtain ⟨old5,hrow5,hsz5,hn5⟩:=HK0.out _ _ _ _ hown5 hg5 hat5;have HR5:=show Hid _ from hrow5;have HN5:=show Hid _ from hn5;have HS5:=show Hid _ from hsz5;obtain ⟨a5,cap5,rfl⟩:=own_form1 hown5;clear hown5 hg5 hat5 hrow5 hn5 hsz5)
  | (refine Hw.wpList_store_fieldP rfl _ _ _ rfl rfl p 2 (.slice a5 _ cap5) rfl rfl _ _ _ HR5.out lsize_2 (by rw [HS5.out];decide) rfl rfl ?_;intro w6 p6;have hM6:=HN5.out _ p6;have HM6:Hid (LMid 3 B p _ _ X (up xs0 2 (xs0 2 ++ [(.pointer (some ⟨W.heap.size,0,none⟩))])) L n W w6):=hM6.turn (by omega);clear p6 c0 hM6;obtain ⟨v7,c7,o7,hk7⟩:=HM6.out.own;have O7:Hid (World.ownsRow _ 0 173 1 v7 (xs0 3).length (xs0 3)):=o7;have HK7:=show Hid _ from hk7;clear o7 hk7;obtain ⟨a7,cap7,rfl⟩:=own_form1 O7.out)
  | (at_builtin;refine Hw.wpList_append_item rfl _ _ 137 rfl 173 i1 (.pointer none) 8 Tryz.underlying137 hi1 hz10 hz11 hz12 rfl _ _ (xs0 3) rfl (O7.out.alloc _) ⟨_,0,none⟩ (.pointer (some ⟨w1.heap.size,0,none⟩)) rfl (cell_one_new _ _ _) rfl (by unfold maxLen;omega) (by omega) ?_;intro v8 w8 hown8 hg8 hat8 _;obtain ⟨old8,hrow8,hsz8,hn8⟩:=HK7.out _ _ _ _ hown8 hg8 hat8;have HR8:=show Hid _ from hrow8;have HN8:=show Hid _ from hn8;have HS8:=show Hid _ from hsz8;obtain ⟨a8,cap8,rfl⟩:=own_form1 hown8;clear hown8 hg8 hat8 hrow8 hn8 hsz8)
  | (refine Hw.wpList_store_fieldP rfl _ _ _ rfl rfl p 3 (.slice a8 _ cap8) rfl rfl _ _ _ HR8.out lsize_3 (by rw [HS8.out];decide) rfl rfl ?_;intro w9 p9;have HM9:Hid (LMid 3 B p _ _ X (up (up xs0 2 (xs0 2 ++ [(.pointer (some ⟨W.heap.size,0,none⟩))])) 3 (xs0 3 ++ [(.pointer (some ⟨w1.heap.size,0,none⟩))])) L n W w9):=HN8.out _ p9;clear p9 c7)
  | fail)
 go_ret
 obtain ⟨e0,e1,e2,e3,e4,e5⟩:=HE.out
 have hb9:Below B W w9:=by
  obtain ⟨_,_,_,_,_,_,_,_,_,_,hb⟩:=HM9.out
  exact hb
 exact ⟨rfl,(HB0.out.mono (by have:=HH.out.le;have:=HH.out.lt;omega)).trans hb9,_,HM9.out.rule e0 e1 e2 e3 e4 e5⟩
end Go.Proofs.YtdlhbmncbmconaaGreatDoor
namespace Go.Proofs.YtdlhbmncbmconaaGreatDoor
open Go.RowKit Go.Sort
attribute [local go_sem] alloc_drewN setCell_drewN
def FInv (l:Value) (B p:Nat) (frs:List LFr) (rus:List LRu) (X:World->(Nat->Nat × Nat)->Prop) (pe pf:List Value) (L n:Nat) (w:World):Prop:=
 ∃ vs xs li ρ,WIn B p vs xs n (FrP frs) (RuP rus) X li ρ w/\(xs 0=frs.map fun x=>ptrV x.p)/\(xs 1=frs.map fun x=>ptrV x.q)/\(xs 2=rus.map fun x=>ptrV x.p)/\(xs 3=rus.map fun x=>ptrV x.q)/\xs 4=pe/\xs 5=pf/\xs 6=li.map (·.v)/\(xs 7=li.map fun x=>strV x.m)/\li.length=L/\∀ b,l.ownBlock=some b->(ρ b).1=5/\∀ x ∈ li,x.v.ownBlock ≠ some b
section
variable {B p:Nat} {frs:List LFr} {rus:List LRu} {X:World->(Nat->Nat × Nat)->Prop} {pe pf:List Value} {L n:Nat} {w w':World} {l:Value}
theorem LInv.fresh (h:LInv B p frs rus X pe pf L n w):FInv (.slice none 0 0) B p frs rus X pe pf L n w:=by
 obtain ⟨vs,xs,li,ρ,hI,h0,h1,h2,h3,h4,h5,h6,h7,hL⟩:=h
 exact ⟨vs,xs,li,ρ,hI,h0,h1,h2,h3,h4,h5,h6,h7,hL,fun b e=>by cases e⟩
theorem FInv.next (h:FInv l B p frs rus X pe pf L n w) (hb:Below w.heap.size w w'):FInv l B p frs rus X pe pf L n w':=by
 obtain ⟨vs,xs,li,ρ,hI,h⟩:=h
 exact ⟨vs,xs,li,ρ,hI.next0 hb,h⟩
theorem slice_at {ρ:Nat->Nat × Nat} {vs:Nat->Value} {xs:Nat->List Value} {I1 I2 I3:World->(Nat->Nat × Nat)->Prop} {li:List LiI} (h:WIn B p vs xs n I1 I2 I3 li ρ w) {j:Nat} (hj:j < 8) {ys:List Value} (hy:xs j=ys) {i:Nat} {u:Value} (hu:ys[i]?=some u) :
  ∃ g cap,w.cell? ⟨p,j,none⟩=some (.slice (some ⟨g,0,none⟩) ys.length cap)/\w.cell? ⟨g,i,none⟩=some u/\∃ cur,w.heap[g]?=some (.cells cur (wty j) (0,0)):=by
 have ho:=(h.sl j hj).own
 have hc:=h.cell hj
 rw [hy] at ho
 obtain ⟨g,cap,hv,hcell⟩:=own_at ho hu
 obtain ⟨cur,hcur⟩:=Hw.ownsRow_cells ho (k:=g) (by rw [hv];rfl)
 rw [hv] at hc
 exact ⟨g,cap,hc,hcell,cur,hcur⟩
theorem FInv.frameAt (h:FInv l B p frs rus X pe pf L n w) {i:Nat} {x:LFr} (hx:frs[i]?=some x) :
  ∃ g0 cap0 g1 cap1,w.cell? ⟨p,0,none⟩=some (.slice (some ⟨g0,0,none⟩) frs.length cap0)/\w.cell? ⟨g0,i,none⟩=some (ptrV x.p)/\w.cell? ⟨p,1,none⟩=some (.slice (some ⟨g1,0,none⟩) frs.length cap1)/\w.cell? ⟨g1,i,none⟩=some (ptrV x.q) /\
   FramesAt w x.p ((Hm.Frs.fresh x.b).feed x.A).1 x.v/\w.heap[x.q]?=some (.cells (rfrCells x.b x.C (Hm.splitOf x.b x.C).1.length) 216 (0,0))/\1<=x.b/\x.b<=200/\(∃ cur,w.heap[g0]?=some (.cells cur 45 (0,0)))/\(∃ cur,w.heap[g1]?=some (.cells cur 169 (0,0)))/\∃ cur,w.heap[p]?=some (.cells cur 142 (0,0)):=by
 obtain ⟨vs,xs,li,ρ,hI,h0,h1,_⟩:=h
 obtain ⟨g0,cap0,c0,d0,e0⟩:=slice_at hI (j:=0) (by omega) h0 (i:=i) (u:=ptrV x.p) (by simp [hx])
 obtain ⟨g1,cap1,c1,d1,e1⟩:=slice_at hI (j:=1) (by omega) h1 (i:=i) (u:=ptrV x.q) (by simp [hx])
 rw [List.length_map] at c0 c1
 have hi:=hI.i1 i x hx
 exact ⟨g0,cap0,g1,cap1,c0,d0,c1,d1,hi.prog,hi.ref,hi.b1,hi.b2,e0,e1,_,hI.row⟩
theorem FInv.ruleAt (h:FInv l B p frs rus X pe pf L n w) {i:Nat} {x:LRu} (hx:rus[i]?=some x) :
  ∃ g0 cap0 g1 cap1,w.cell? ⟨p,2,none⟩=some (.slice (some ⟨g0,0,none⟩) rus.length cap0)/\w.cell? ⟨g0,i,none⟩=some (ptrV x.p)/\w.cell? ⟨p,3,none⟩=some (.slice (some ⟨g1,0,none⟩) rus.length cap1)/\w.cell? ⟨g1,i,none⟩=some (ptrV x.q) /\
   RulesAt w x.p x.rs x.v/\RRulesAt w x.q x.rs x.xs x.u/\(∀ r ∈ x.rs,r.small)/\x.rs.length<=1000:=by
 obtain ⟨vs,xs,li,ρ,hI,_,_,h2,h3,_⟩:=h
 obtain ⟨g0,cap0,c0,d0,_⟩:=slice_at hI (j:=2) (by omega) h2 (i:=i) (u:=ptrV x.p) (by simp [hx])
 obtain ⟨g1,cap1,c1,d1,_⟩:=slice_at hI (j:=3) (by omega) h3 (i:=i) (u:=ptrV x.q) (by simp [hx])
 rw [List.length_map] at c0 c1
 have hi:=hI.i2 x (List.mem_of_getElem? hx)
 exact ⟨g0,cap0,g1,cap1,c0,d0,c1,d1,hi.prog,hi.ref,hi.small,hi.len⟩
theorem FInv.keep (h:FInv l B p frs rus X pe pf L n w) {k:Nat} {ys:List Value} (hown:w.ownsRow 0 9 1 l k ys) (hn:n<=1000000000) (hk:k<=1000000000) (hL:L<=1000000000000) :
  Calls Tryz.prog 117 #[.pointer (some ⟨p,0,none⟩),l] w fun e w'=>(∃ u,e=.returned u)/\Below B w w'/\LInv B p frs rus X pe pf (L+9) (n+1) w':=by
 obtain ⟨vs,xs,li,ρ,hI,h0,h1,h2,h3,h4,h5,h6,h7,hL',hl⟩:=h
 subst hL'
 refine (keep_any hI h6 h7 l k ys hown hl hn hk hL).mono ?_
 rintro e w1 ⟨he,v,vs',xs',li',ρ',q,q6,q7,q5,qL,_,_,qb⟩
 exact ⟨he,qb,vs',xs',li',ρ',q,by rw [q5 0 (by omega),h0],by rw [q5 1 (by omega),h1],by rw [q5 2 (by omega),h2],by rw [q5 3 (by omega),h3],by rw [q5 4 (by omega),h4],by rw [q5 5 (by omega),h5],q6,q7,qL⟩
theorem LInv.kept (h:LInv B p frs rus X pe pf L n w):Calls Tryz.prog 42 #[.pointer (some ⟨p,0,none⟩)] w fun e w'=>e=.returned (.bool true)/\Below w.heap.size w w':=by
 obtain ⟨vs,xs,li,ρ,hI,h0,h1,h2,h3,h4,h5,h6,h7,hL'⟩:=h
 exact kept_any hI h6 h7
end
end Go.Proofs.YtdlhbmncbmconaaGreatDoor

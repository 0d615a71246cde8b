/- Contracts of the statements' package: sorts. -/
import Derived.Test.YtdlhbmncbmconaaGreatDoorEm
import Derived.Deep.RegionHeld
namespace Go.Proofs.YtdlhbmncbmconaaGreatDoor
open Go.RowKit Go.Sort
attribute [local go_sem] alloc_drewN setCell_drewN
def FInv (l : Value) (B p : Nat) (frs : List LFr) (rus : List LRu) (X : World → (Nat → Nat × Nat) → Prop) (pe pf : List Value) (L n : Nat) (w : World) : Prop :=
  ∃ vs xs li ρ, WIn B p vs xs n (FrP frs) (RuP rus) X li ρ w ∧ (xs 0 = frs.map fun x => ptrV x.p) ∧ (xs 1 = frs.map fun x => ptrV x.q) ∧ (xs 2 = rus.map fun x => ptrV x.p) ∧ (xs 3 = rus.map fun x => ptrV x.q) ∧ xs 4 = pe ∧ xs 5 = pf ∧ xs 6 = li.map (·.v) ∧ (xs 7 = li.map fun x => strV x.m) ∧ li.length = L ∧ ∀ b, l.ownBlock = some b → (ρ b).1 = 5 ∧ ∀ x ∈ li, x.v.ownBlock ≠ some b
section
variable {B p : Nat} {frs : List LFr} {rus : List LRu} {X : World → (Nat → Nat × Nat) → Prop} {pe pf : List Value} {L n : Nat} {w w' : World} {l : Value}
theorem LInv.fresh (h : LInv B p frs rus X pe pf L n w) : FInv (.slice none 0 0) B p frs rus X pe pf L n w := by
  obtain ⟨vs, xs, li, ρ, hI, h0, h1, h2, h3, h4, h5, h6, h7, hL⟩ := h
  exact ⟨vs, xs, li, ρ, hI, h0, h1, h2, h3, h4, h5, h6, h7, hL, fun b e => by cases e⟩
theorem FInv.next (h : FInv l B p frs rus X pe pf L n w) (hb : Below w.heap.size w w') : FInv l B p frs rus X pe pf L n w' := by
  obtain ⟨vs, xs, li, ρ, hI, h⟩ := h
  exact ⟨vs, xs, li, ρ, hI.next0 hb, h⟩
theorem slice_at {ρ : Nat → Nat × Nat} {vs : Nat → Value} {xs : Nat → List Value} {I1 I2 I3 : World → (Nat → Nat × Nat) → Prop} {li : List LiI} (h : WIn B p vs xs n I1 I2 I3 li ρ w) {j : Nat} (hj : j < 8) {ys : List Value} (hy : xs j = ys) {i : Nat} {u : Value} (hu : ys[i]? = some u) :
    ∃ g cap, w.cell? ⟨p, j, none⟩ = some (.slice (some ⟨g, 0, none⟩) ys.length cap) ∧ w.cell? ⟨g, i, none⟩ = some u ∧ ∃ cur, w.heap[g]? = some (.cells cur (wty j) (0, 0)) := by
  have ho := (h.sl j hj).own
  have hc := h.cell hj
  rw [hy] at ho
  obtain ⟨g, cap, hv, hcell⟩ := own_at ho hu
  obtain ⟨cur, hcur⟩ := Hw.ownsRow_cells ho (k := g) (by rw [hv]; rfl)
  rw [hv] at hc
  exact ⟨g, cap, hc, hcell, cur, hcur⟩
theorem FInv.frameAt (h : FInv l B p frs rus X pe pf L n w) {i : Nat} {x : LFr} (hx : frs[i]? = some x) :
    ∃ g0 cap0 g1 cap1, w.cell? ⟨p, 0, none⟩ = some (.slice (some ⟨g0, 0, none⟩) frs.length cap0) ∧ w.cell? ⟨g0, i, none⟩ = some (ptrV x.p) ∧ w.cell? ⟨p, 1, none⟩ = some (.slice (some ⟨g1, 0, none⟩) frs.length cap1) ∧ w.cell? ⟨g1, i, none⟩ = some (ptrV x.q) ∧
      FramesAt w x.p ((Hm.Frs.fresh x.b).feed x.A).1 x.v ∧ w.heap[x.q]? = some (.cells (rfrCells x.b x.C (Hm.splitOf x.b x.C).1.length) 216 (0, 0)) ∧ 1 ≤ x.b ∧ x.b ≤ 200 ∧ (∃ cur, w.heap[g0]? = some (.cells cur 45 (0, 0))) ∧ (∃ cur, w.heap[g1]? = some (.cells cur 169 (0, 0))) ∧ ∃ cur, w.heap[p]? = some (.cells cur 142 (0, 0)) := by
  obtain ⟨vs, xs, li, ρ, hI, h0, h1, _⟩ := h
  obtain ⟨g0, cap0, c0, d0, e0⟩ := slice_at hI (j := 0) (by omega) h0 (i := i) (u := ptrV x.p) (by simp [hx])
  obtain ⟨g1, cap1, c1, d1, e1⟩ := slice_at hI (j := 1) (by omega) h1 (i := i) (u := ptrV x.q) (by simp [hx])
  rw [List.length_map] at c0 c1
  have hi := hI.i1 i x hx
  exact ⟨g0, cap0, g1, cap1, c0, d0, c1, d1, hi.prog, hi.ref, hi.b1, hi.b2, e0, e1, _, hI.row⟩
theorem FInv.ruleAt (h : FInv l B p frs rus X pe pf L n w) {i : Nat} {x : LRu} (hx : rus[i]? = some x) :
    ∃ g0 cap0 g1 cap1, w.cell? ⟨p, 2, none⟩ = some (.slice (some ⟨g0, 0, none⟩) rus.length cap0) ∧ w.cell? ⟨g0, i, none⟩ = some (ptrV x.p) ∧ w.cell? ⟨p, 3, none⟩ = some (.slice (some ⟨g1, 0, none⟩) rus.length cap1) ∧ w.cell? ⟨g1, i, none⟩ = some (ptrV x.q) ∧
      RulesAt w x.p x.rs x.v ∧ RRulesAt w x.q x.rs x.xs x.u ∧ (∀ r ∈ x.rs, r.small) ∧ x.rs.length ≤ 1000 := by
  obtain ⟨vs, xs, li, ρ, hI, _, _, h2, h3, _⟩ := h
  obtain ⟨g0, cap0, c0, d0, _⟩ := slice_at hI (j := 2) (by omega) h2 (i := i) (u := ptrV x.p) (by simp [hx])
  obtain ⟨g1, cap1, c1, d1, _⟩ := slice_at hI (j := 3) (by omega) h3 (i := i) (u := ptrV x.q) (by simp [hx])
  rw [List.length_map] at c0 c1
  have hi := hI.i2 x (List.mem_of_getElem? hx)
  exact ⟨g0, cap0, g1, cap1, c0, d0, c1, d1, hi.prog, hi.ref, hi.small, hi.len⟩
theorem stepF_other {q : Nat} {f : Hm.Frs} {v v' : Value} (hf : FramesAt w q f v) (hS : StepF q v w v' w') {k : Nat} {cur : Array Value} {t : TypeId} (hk : w.heap[k]? = some (.cells cur t (0, 0))) (h1 : t ≠ 100) (h2 : t ≠ 5) : w'.heap[k]? = w.heap[k]? := by
  refine hS.kept.block k (Array.getElem?_eq_some_iff.1 hk).1 (fun e => ?_)
  rcases e with e | e
  · exact ne_types hk hf.row h1 e
  · obtain ⟨cur2, hc2⟩ := Hw.ownsRow_cells hf.own e
    exact ne_types hk hc2 h2 rfl
theorem map_set {f : LFr → Value} {i : Nat} {x y : LFr} (hx : frs[i]? = some x) (hf : f y = f x) : (frs.set i y).map f = frs.map f := by
  rw [List.map_set, hf]
  refine List.ext_getElem? fun j => ?_
  rw [List.getElem?_set]
  split
  · next e =>
    subst e
    simp [hx]
    exact (List.getElem?_eq_some_iff.1 hx).1
  · rfl
theorem set_cases {i j : Nat} {y z : LFr} (hz : (frs.set i y)[j]? = some z) : (j = i ∧ z = y) ∨ (j ≠ i ∧ frs[j]? = some z) := by
  rw [List.getElem?_set] at hz
  split at hz
  · next e =>
    subst e
    split at hz
    · exact .inl ⟨rfl, by simpa using hz.symm⟩
    · cases hz
  · next e => exact .inr ⟨fun h => e h.symm, hz⟩
/- The program's frames have taken more bytes; the list that came out lies in a block of its own. -/
theorem LInv.feedP {i : Nat} {x : LFr} {s : List UInt8} {v' tv : Value} {m : Nat} {ys : List Value} (h : LInv B p frs rus X pe pf L n w) (hx : frs[i]? = some x) (hS : StepF x.p x.v w v' w') (hf : FramesAt w' x.p ((Hm.Frs.fresh x.b).feed (x.A ++ s)).1 v')
    (ho : w'.ownsRow w.heap.size 9 1 tv m ys) : FInv tv B p (frs.set i ⟨x.p, x.q, x.b, x.A ++ s, x.C, v'⟩) rus X pe pf L n w' ∧ Below B w w' := by
  obtain ⟨vs, xs, li, ρ, hI, h0, h1, h2, h3, h4, h5, h6, h7, hL⟩ := h
  have hit := hI.i1 i x hx
  obtain ⟨ρ', hρ⟩ : ∃ ρ' : Nat → Nat × Nat, ρ' = fun k => if k < w.heap.size then ρ k else if v'.ownBlock = some k then (1, 3 * i + 1) else (5, 0) := ⟨_, rfl⟩
  have ag : ∀ k, k < w.heap.size → ρ' k = ρ k := fun k hk => by rw [hρ]; exact if_pos hk
  have hro : ∀ k, k < w.heap.size → (k = x.p ∨ x.v.ownBlock = some k) → ρ k = (1, 3 * i) ∨ ρ k = (1, 3 * i + 1) := fun k _ e => by
    rcases e with e | e
    · subst e; exact .inl hit.rp
    · exact .inr (hit.rv k e)
  have hr1 : ∀ k, k < w.heap.size → (k = x.p ∨ x.v.ownBlock = some k) → (ρ k).1 = 1 := fun k hk e => by rcases hro k hk e with e | e <;> rw [e]
  refine ⟨⟨vs, xs, li, ρ', hI.set1 hS.kept ag hr1 ?_ (FrP.stable _), h0.trans (Eq.symm (map_set hx rfl)), h1.trans (Eq.symm (map_set hx rfl)), h2, h3, h4, h5, h6, h7, hL, fun b e => ⟨?_, fun y hy e2 => ?_⟩⟩, hI.below hS.kept (fun k hk s e => by have := hr1 k hk s; omega)⟩
  · intro j z hz
    rcases set_cases hz with ⟨rfl, rfl⟩ | ⟨hj, hz⟩
    · have hp : x.p < w.heap.size := (Array.getElem?_eq_some_iff.1 hit.prog.row).1
      have hq : x.q < w.heap.size := (Array.getElem?_eq_some_iff.1 hit.ref).1
      refine ⟨hf, (hS.kept.block _ hq (fun s => ?_)).trans hit.ref, hit.b1, hit.b2, (ag _ hp).trans hit.rp, fun k e => ?_, (ag _ hq).trans hit.rq⟩
      · have := hro _ hq s
        rw [hit.rq] at this
        rcases this with e | e <;> have e := congrArg Prod.snd e <;> dsimp only at e <;> omega
      · rcases hS.lies k e with e2 | e2
        · rw [ag k (own_lt hit.prog.own e2)]
          exact hit.rv k e2
        · rw [hρ]
          show (if k < w.heap.size then _ else _) = _
          rw [if_neg (by omega), if_pos e]
    · refine (hI.i1 j z hz).keep hS.kept ag (fun k hk s => ?_)
      rcases hro k hk s with e | e <;> rw [e] <;> refine ⟨fun e2 => ?_, fun e2 => ?_, fun e2 => ?_⟩ <;> have e2 := congrArg Prod.snd e2 <;> dsimp only at e2 <;> omega
  · have hge := own_ge ho e
    obtain ⟨cur, hc⟩ := Hw.ownsRow_cells ho e
    rw [hρ]
    show (if b < w.heap.size then _ else _ : Nat × Nat).1 = _
    rw [if_neg (by omega), if_neg (fun e2 => ?_)]
    obtain ⟨cur2, hc2⟩ := Hw.ownsRow_cells hf.own e2
    exact ne_types hc hc2 (by decide) rfl
  · have h1 := own_lt (hI.each y hy).own e2
    have h2 := own_ge ho e
    omega
/- The reference's frames have taken more bytes. -/
theorem FInv.feedR {i : Nat} {x : LFr} {C : List UInt8} (h : FInv l B p frs rus X pe pf L n w) (hx : frs[i]? = some x) (hk : Hw.Kept (fun k => k = x.q) w w')
    (hr : w'.heap[x.q]? = some (.cells (rfrCells x.b C (Hm.splitOf x.b C).1.length) 216 (0, 0))) : FInv l B p (frs.set i ⟨x.p, x.q, x.b, x.A, C, x.v⟩) rus X pe pf L n w' ∧ Below B w w' := by
  obtain ⟨vs, xs, li, ρ, hI, h0, h1, h2, h3, h4, h5, h6, h7, hL, hl⟩ := h
  have hit := hI.i1 i x hx
  have hro : ∀ k, k < w.heap.size → k = x.q → ρ k = (1, 3 * i + 2) := fun k _ e => by subst e; exact hit.rq
  refine ⟨⟨vs, xs, li, ρ, hI.set1 hk (fun _ _ => rfl) (fun k hk s => by rw [hro k hk s]) ?_ (FrP.stable _), h0.trans (Eq.symm (map_set hx rfl)), h1.trans (Eq.symm (map_set hx rfl)), h2, h3, h4, h5, h6, h7, hL, hl⟩, hI.below hk (fun k hk s e => by rw [hro k hk s] at e; cases e)⟩
  intro j z hz
  rcases set_cases hz with ⟨rfl, rfl⟩ | ⟨hj, hz⟩
  · refine ⟨hit.prog.keep hk (fun s => ?_) (fun k e s => ?_), hr, hit.b1, hit.b2, hit.rp, hit.rv, hit.rq⟩
    · have := hit.rp
      rw [s, hit.rq] at this
      have := congrArg Prod.snd this
      dsimp only at this
      omega
    · have := hit.rv k e
      rw [s, hit.rq] at this
      have := congrArg Prod.snd this
      dsimp only at this
      omega
  · refine (hI.i1 j z hz).keep hk (fun _ _ => rfl) (fun k hk s => ?_)
    rw [hro k hk s]
    refine ⟨fun e2 => ?_, fun e2 => ?_, fun e2 => ?_⟩ <;> have e2 := congrArg Prod.snd e2 <;> dsimp only at e2 <;> omega
theorem FInv.keep (h : FInv l B p frs rus X pe pf L n w) {k : Nat} {ys : List Value} (hown : w.ownsRow 0 9 1 l k ys) (hn : n ≤ 1000000000) (hk : k ≤ 1000000000) (hL : L ≤ 1000000000000) :
    Calls Tryz.prog 117 #[.pointer (some ⟨p, 0, none⟩), l] w fun e w' => (∃ u, e = .returned u) ∧ Below B w w' ∧ LInv B p frs rus X pe pf (L + 9) (n + 1) w' := by
  obtain ⟨vs, xs, li, ρ, hI, h0, h1, h2, h3, h4, h5, h6, h7, hL', hl⟩ := h
  subst hL'
  refine (keep_any hI h6 h7 l k ys hown hl hn hk hL).mono ?_
  rintro e w1 ⟨he, v, vs', xs', li', ρ', q, q6, q7, q5, qL, _, _, qb⟩
  exact ⟨he, qb, vs', xs', li', ρ', q, by rw [q5 0 (by omega), h0], by rw [q5 1 (by omega), h1], by rw [q5 2 (by omega), h2], by rw [q5 3 (by omega), h3], by rw [q5 4 (by omega), h4], by rw [q5 5 (by omega), h5], q6, q7, qL⟩
theorem LInv.kept (h : LInv B p frs rus X pe pf L n w) : Calls Tryz.prog 42 #[.pointer (some ⟨p, 0, none⟩)] w fun e w' => e = .returned (.bool true) ∧ Below w.heap.size w w' := by
  obtain ⟨vs, xs, li, ρ, hI, h0, h1, h2, h3, h4, h5, h6, h7, hL'⟩ := h
  exact kept_any hI h6 h7
end
set_option maxRecDepth 20000 in
set_option maxHeartbeats 8000000 in
theorem sorts_feed {B p : Nat} {frs : List LFr} {rus : List LRu} {X : World → (Nat → Nat × Nat) → Prop} {pe pf : List Value} {L n : Nat} {w : World} (h : LInv B p frs rus X pe pf L n w)
    (o : OpV) (hk : o.kind = 4) (how : -9223372036854775808 ≤ o.w ∧ o.w ≤ 9223372036854775807) (hpos : 0 < frs.length) (hlen : frs.length ≤ 4000000000) (hC : ∀ x ∈ frs, x.C = x.A) (hA : ∀ x ∈ frs, x.A.length + o.s.length ≤ 1000000000) (hn : n ≤ 1000000000) (hL : L ≤ 1000000000000) :
    Calls Tryz.prog 72 #[.pointer (some ⟨p, 0, none⟩), .agg (opCells o)] w fun e w' => e = .returned (.bool true) ∧ Below B w w' ∧
      ∃ frs' : List LFr, frs'.length = frs.length ∧ (∀ x ∈ frs', x.C = x.A ∧ ∃ y ∈ frs, x.A.length ≤ y.A.length + o.s.length) ∧ LInv B p frs' rus X pe pf (L + 9) (n + 1) w' := by
  have PK : Hid (∀ w, Calls Tryz.prog 114 #[.int .i64 o.w, .int .i64 frs.length] w fun e w' => e = .returned (.int .i64 (Hm.pick o.w frs.length)) ∧ w' = w) := fun w => lpick_any o.w frs.length hpos hlen how.1 how.2 w
  have hilt := Hm.pick_lt o.w hpos
  generalize Hm.pick o.w frs.length = i at PK hilt
  obtain ⟨x, hx⟩ : ∃ x, frs[i]? = some x := ⟨_, List.getElem?_eq_getElem hilt⟩
  have hxm := List.mem_of_getElem? hx
  have hCx := hC x hxm
  have hAx := hA x hxm
  have HC := show Hid _ from hC
  clear hC hA how
  obtain ⟨kd, a, b, c, mm, q, s, ⟨f, sv, t, h1, h2, h3, h4, d, tx⟩⟩ := o
  dsimp only at hk PK hAx
  subst hk
  unfold opCells
  dsimp only
  have HH : Hid (LInv B p frs rus X pe pf L n w) := h
  clear h
  obtain ⟨xp, xq, xb, xA, xC, xv⟩ := x
  dsimp only at hCx hAx
  subst hCx
  have hii : (i : Int) < (frs.length : Int) := by omega
  have hok : Hid (((Hm.Frs.fresh xb).feed xC).1.Ok) := by
    obtain ⟨_, _, _, _, _, _, _, _, _, _, b1, b2, _⟩ := HH.out.fresh.frameAt hx
    exact Hm.Frs.feed_ok _ (Hm.Frs.fresh_ok b1 b2)
  obtain ⟨sp1, sp2, sp3⟩ := Hm.split_more xb xC s
  have hcount := Hm.split_count xb s ((Hm.Frs.fresh xb).feed xC).1
  have hfa : ((Hm.Frs.fresh xb).feed (xC ++ s)).1 = (((Hm.Frs.fresh xb).feed xC).1.feed s).1 := by rw [Hm.Frs.feed_append]
  have FD : Hid (∀ w, FramesAt w xp ((Hm.Frs.fresh xb).feed xC).1 xv → Calls Tryz.prog 28 #[.pointer (some ⟨xp, 0, none⟩), .string ⟨s.toArray⟩] w fun e w' => ∃ tv v', e = .returned (.tuple #[tv, .int .i64 (((((Hm.Frs.fresh xb).feed xC).1.feed s).1.head + (((Hm.Frs.fresh xb).feed xC).1.feed s).1.own.length : Nat) : Int)]) ∧
      FramesAt w' xp ((Hm.Frs.fresh xb).feed (xC ++ s)).1 v' ∧ StepF xp xv w v' w' ∧ w'.ownsRow w.heap.size 9 1 tv (((Hm.Frs.fresh xb).feed xC).1.feed s).2.length ((((Hm.Frs.fresh xb).feed xC).1.feed s).2.map strV)) := fun w hf => by
    rw [hfa]
    exact Feed_any xp _ xv ⟨s.toArray⟩ (by simp [ByteArray.size]; omega) w hf hok.out
  have RF : Hid (∀ w : World, w.heap[xq]? = some (.cells (rfrCells xb xC (Hm.splitOf xb xC).1.length) 216 (0, 0)) → Calls Tryz.prog 115 #[.pointer (some ⟨xq, 0, none⟩), .string ⟨s.toArray⟩] w fun e w' => ∃ v : Value, e = .returned (.tuple #[v, .int .i64 (((((Hm.Frs.fresh xb).feed xC).1.feed s).1.head + (((Hm.Frs.fresh xb).feed xC).1.feed s).1.own.length : Nat) : Int)]) ∧
      Hw.ownsFrom w' w.heap.size 9 v ((((Hm.Frs.fresh xb).feed xC).1.feed s).2.map strV) ∧ w'.heap[xq]? = some (.cells (rfrCells xb (xC ++ s) (Hm.splitOf xb (xC ++ s)).1.length) 216 (0, 0)) ∧ Hw.Kept (fun k => k = xq) w w') := fun w hq => by
    obtain ⟨_, _, _, _, _, _, _, _, _, _, b1, b2, _⟩ := HH.out.fresh.frameAt hx
    rw [← sp1, ← sp3]
    exact rFeed_any xq xb xC s b1 b2 (by simp; omega) w hq
  have SM : Hid (∀ (w : World) (va vb : Value) (ba bb : Nat), Hw.ownsFrom w ba 9 va ((((Hm.Frs.fresh xb).feed xC).1.feed s).2.map strV) → Hw.ownsFrom w bb 9 vb ((((Hm.Frs.fresh xb).feed xC).1.feed s).2.map strV) → Calls Tryz.prog 116 #[va, vb] w fun e w' => e = .returned (.bool true) ∧ Below w.heap.size w w') := fun w va vb ba bb ha hb => by
    have := lsame_from _ _ va vb ba bb w ha hb (by omega) (by omega)
    simpa using this
  have hcl : (((Hm.Frs.fresh xb).feed xC).1.feed s).2.length ≤ 1000000000 := by omega
  generalize (((Hm.Frs.fresh xb).feed xC).1.feed s).2 = OUT at FD RF SM hcl
  generalize ((((Hm.Frs.fresh xb).feed xC).1.feed s).1.head + (((Hm.Frs.fresh xb).feed xC).1.feed s).1.own.length : Nat) = NUM at FD RF
  clear sp1 sp2 sp3 hcount hfa hok hpos
  go_enter Tryz.func72, Tryz.ntmps72
  go_wp2_with fail
  generalize hW : w.alloc _ = W
  have HB0 : Hid (Below w.heap.size w W) := by
    show Below _ _ _
    rw [← hW]
    exact (Below.refl _ _).alloc (Nat.le_refl _) _
  have HR0 : Hid (W.heap[w.heap.size]? = some (.cells #[.int .i64 4, .int .i64 a, .int .i64 b, .int .i64 c, .int .i64 mm, .int .i64 q, .string ⟨s.toArray⟩, .int .i64 f, .int .i64 sv, .string ⟨t.toArray⟩, .string ⟨h1.toArray⟩, .string ⟨h2.toArray⟩, .string ⟨h3.toArray⟩, .string ⟨h4.toArray⟩, .string ⟨d.toArray⟩, .string ⟨tx.toArray⟩] 82 (0, 0))) := by
    show _ = _
    rw [← hW]
    exact heap_alloc_new _ _
  clear hW
  have hz0 : w.heap.size < W.heap.size := (Array.getElem?_eq_some_iff.1 HR0.out).1
  have HL0 : Hid (LInv B p frs rus X pe pf L n W) := HH.out.next HB0.out
  obtain ⟨g0, cap0, g1, cap1, c0, s0, c1, s1, hf0, hr0, _, _, ⟨cu0, hg0⟩, ⟨cu1, hg1⟩, cup, hgp⟩ := HL0.out.fresh.frameAt hx
  unfold ptrV at s0 s1
  dsimp only at s0 s1 hf0 hr0
  have FD2 : Hid (∀ w' : World, Below W.heap.size W w' → Calls Tryz.prog 28 #[.pointer (some ⟨xp, 0, none⟩), .string ⟨s.toArray⟩] w' fun e w1 => ∃ tv v1, e = .returned (.tuple #[tv, .int .i64 NUM]) ∧ FInv tv B p (frs.set i ⟨xp, xq, xb, xC ++ s, xC, v1⟩) rus X pe pf L n w1 ∧ Below B W w1 ∧
      w1.ownsRow W.heap.size 9 1 tv OUT.length (OUT.map strV) ∧ w1.heap[p]? = W.heap[p]? ∧ w1.heap[g0]? = W.heap[g0]? ∧ w1.heap[g1]? = W.heap[g1]? ∧ w1.heap[w.heap.size]? = W.heap[w.heap.size]?) := fun w' hb' => by
    have hf' : FramesAt w' xp ((Hm.Frs.fresh xb).feed xC).1 xv := hf0.keep (S := fun _ => False) (Hw.Kept.of_below hb') (fun f => f) (fun _ _ f => f)
    refine (FD.out w' hf').mono ?_
    rintro e w1 ⟨tv, v1, rfl, hf1, hS1, ho1⟩
    obtain ⟨hF, hb⟩ := (HL0.out.next hb').feedP hx hS1 hf1 ho1
    have tr : ∀ (k : Nat) (cur : Array Value) (t : TypeId), W.heap[k]? = some (.cells cur t (0, 0)) → t ≠ 100 → t ≠ 5 → w1.heap[k]? = W.heap[k]? := fun k cur t hk h1 h2 => by
      have e1 := hb'.block k (Array.getElem?_eq_some_iff.1 hk).1
      exact (stepF_other hf' hS1 (e1.trans hk) h1 h2).trans e1
    exact ⟨tv, v1, rfl, hF, (hb'.mono (by have := HL0.out.le; have := HL0.out.lt; omega)).trans hb, own_base ho1 hb'.size, tr _ _ _ hgp (by decide) (by decide), tr _ _ _ hg0 (by decide) (by decide), tr _ _ _ hg1 (by decide) (by decide), tr _ _ _ HR0.out (by decide) (by decide)⟩
  have RF2 : Hid (∀ (w' : World) (tv v1 : Value), FInv tv B p (frs.set i ⟨xp, xq, xb, xC ++ s, xC, v1⟩) rus X pe pf L n w' → w'.ownsRow W.heap.size 9 1 tv OUT.length (OUT.map strV) → W.heap.size ≤ w'.heap.size → w'.heap[p]? = W.heap[p]? → w'.heap[g1]? = W.heap[g1]? → w'.heap[w.heap.size]? = W.heap[w.heap.size]? →
      Calls Tryz.prog 115 #[.pointer (some ⟨xq, 0, none⟩), .string ⟨s.toArray⟩] w' fun e w2 => ∃ mv, e = .returned (.tuple #[mv, .int .i64 NUM]) ∧ FInv tv B p (frs.set i ⟨xp, xq, xb, xC ++ s, xC ++ s, v1⟩) rus X pe pf L n w2 ∧ Below B w' w2 ∧
      Hw.ownsFrom w2 w'.heap.size 9 mv (OUT.map strV) ∧ w2.ownsRow W.heap.size 9 1 tv OUT.length (OUT.map strV) ∧ w2.heap[p]? = W.heap[p]? ∧ w2.heap[g1]? = W.heap[g1]? ∧ w2.heap[w.heap.size]? = W.heap[w.heap.size]?) := fun w' tv v1 hF ho hsz ep e1 eo => by
    have hx1 : (frs.set i ⟨xp, xq, xb, xC ++ s, xC, v1⟩)[i]? = some ⟨xp, xq, xb, xC ++ s, xC, v1⟩ := by simp [hilt]
    obtain ⟨_, _, _, _, _, _, _, _, _, hr1, _⟩ := hF.frameAt hx1
    refine (RF.out w' hr1).mono ?_
    rintro e w2 ⟨mv, rfl, ho2, hr2, hk2⟩
    obtain ⟨hF2, hb2⟩ := hF.feedR (C := xC ++ s) hx1 hk2 hr2
    rw [List.set_set] at hF2
    have tr : ∀ (k : Nat) (cur : Array Value) (t : TypeId), W.heap[k]? = some (.cells cur t (0, 0)) → t ≠ 216 → w'.heap[k]? = W.heap[k]? → w2.heap[k]? = W.heap[k]? := fun k cur t hk h1 e => by
      rw [← e] at hk
      exact (hk2.block k (Array.getElem?_eq_some_iff.1 hk).1 (fun e2 => ne_types hk hr1 h1 e2)).trans e
    refine ⟨mv, rfl, hF2, hb2, ho2, Hw.ownsRow_keptS ho hk2 (fun k e1 e2 => ?_), tr _ _ _ hgp (by decide) ep, tr _ _ _ hg1 (by decide) e1, tr _ _ _ HR0.out (by decide) eo⟩
    obtain ⟨cur, hc⟩ := Hw.ownsRow_cells ho e1
    exact ne_types hc hr1 (by decide) e2
  have HX := show Hid _ from hx
  clear hf0 hr0 hx hg0 hg1 hgp FD RF
  obtain ⟨y0, y1, y2, y3, y4, y5, y6⟩ := ocells HR0.out
  have HZ : Hid (∀ w1 : World, w1.heap[w.heap.size]? = W.heap[w.heap.size]? → w1.cell? ⟨w.heap.size, 6, none⟩ = some (.string ⟨s.toArray⟩)) := fun w1 e => (World.cell?_of_block (a := ⟨w.heap.size, 6, none⟩) e).trans y6
  go_quiet ((go_at_call 114; exact Calls.quiet_of_same (PK.out _)))
  go_wp2_with fail
  go_region_held (fun w' => w'.cell? ⟨p, 0, none⟩ = some (.slice (some ⟨g0, 0, none⟩) frs.length cap0) ∧ w'.cell? ⟨g0, i, none⟩ = some (.pointer (some ⟨xp, 0, none⟩)) ∧ w'.cell? ⟨w.heap.size, 6, none⟩ = some (.string ⟨s.toArray⟩)) (first | exact ⟨c0, s0, y6⟩ | exact ⟨c0', s0', y6'⟩)
    (first | (go_at_call 28; refine (FD2.out _ (drew_below ⟨_, rfl⟩)).mono ?_; rintro e w1 ⟨tv, v1, rfl, hF1, hb1, ho1, ep1, eg0, eg1, eo1⟩; have HF1 : Hid (FInv tv B p (frs.set i ⟨xp, xq, xb, xC ++ s, xC, v1⟩) rus X pe pf L n w1) := hF1; have HB1 : Hid (Below B W w1) := hb1; have HO1 : Hid (w1.ownsRow W.heap.size 9 1 tv OUT.length (OUT.map strV)) := ho1; have HE1 : Hid (w1.heap[p]? = W.heap[p]? ∧ w1.heap[g1]? = W.heap[g1]? ∧ w1.heap[w.heap.size]? = W.heap[w.heap.size]?) := ⟨ep1, eg1, eo1⟩; have c0' := (World.cell?_of_block (a := ⟨p, 0, none⟩) ep1).trans c0; have s0' := (World.cell?_of_block (a := ⟨g0, i, none⟩) eg0).trans s0; have y6' := HZ.out _ eo1; clear hF1 hb1 ho1 ep1 eg0 eg1 eo1))
  have c1' := (World.cell?_of_block (a := ⟨p, 1, none⟩) HE1.out.1).trans c1
  have s1' := (World.cell?_of_block (a := ⟨g1, i, none⟩) HE1.out.2.1).trans s1
  have hz1 : Hid (W.heap.size ≤ w1.heap.size) := HB1.out.size
  have hBz : Hid (B ≤ w1.heap.size) := show B ≤ w1.heap.size by have := HH.out.le; have := HH.out.lt; have := hz1.out; omega
  clear c0 s0 c0' s0' y0 y1 y2 y3 y4 y5 y6 FD2
  go_wp2_with fail
  go_region_held (fun w' => w'.cell? ⟨p, 1, none⟩ = some (.slice (some ⟨g1, 0, none⟩) frs.length cap1) ∧ w'.cell? ⟨g1, i, none⟩ = some (.pointer (some ⟨xq, 0, none⟩)) ∧ w'.cell? ⟨w.heap.size, 6, none⟩ = some (.string ⟨s.toArray⟩)) (first | exact ⟨c1', s1', y6'⟩ | exact ⟨c2', s2', z6'⟩)
    (first | (go_at_call 115; refine (RF2.out _ tv v1 (HF1.out.next (drew_below ⟨1, rfl⟩)) HO1.out hz1.out HE1.out.1 HE1.out.2.1 HE1.out.2.2).mono ?_; rintro e w2 ⟨mv, rfl, hF2, hb2, hm2, ho2, ep2, eg2, eo2⟩; have HF2 : Hid (FInv tv B p (frs.set i ⟨xp, xq, xb, xC ++ s, xC ++ s, v1⟩) rus X pe pf L n w2) := hF2; have HB2 : Hid (Below B w1 w2) := ((drew_below (w := w1) ⟨1, rfl⟩).mono hBz.out).trans hb2; have HO2 : Hid (w2.ownsRow W.heap.size 9 1 tv OUT.length (OUT.map strV)) := ho2; have HM2 : Hid (Hw.ownsFrom w2 w1.heap.size 9 mv (OUT.map strV)) := hm2; have c2' := (World.cell?_of_block (a := ⟨p, 1, none⟩) ep2).trans c1; have s2' := (World.cell?_of_block (a := ⟨g1, i, none⟩) eg2).trans s1; have z6' := HZ.out _ eo2; clear hF2 hb2 ho2 hm2 ep2 eg2 eo2))
  clear c1 s1 c1' s1' y6' c2' s2' z6' RF2 HZ
  go_wp2_with fail
  refine (SM.out _ _ _ _ _ (Hw.ownsFrom_row HO2.out) HM2.out).mono ?_
  rintro e w3 ⟨rfl, hb3⟩
  have HF3 : Hid (FInv tv B p (frs.set i ⟨xp, xq, xb, xC ++ s, xC ++ s, v1⟩) rus X pe pf L n w3) := HF2.out.next hb3
  have HO3 : Hid (w3.ownsRow 0 9 1 tv OUT.length (OUT.map strV)) := own_base (Hw.ownsRow_keptS (S := fun _ => False) HO2.out (Hw.Kept.of_below hb3) (fun _ _ f => f)) (Nat.zero_le _)
  have HB3 : Hid (Below B w w3) := ((HB0.out.mono (by have := HH.out.le; have := HH.out.lt; omega)).trans (HB1.out.trans HB2.out)).trans (hb3.mono (by have := HH.out.le; have := HH.out.lt; have := HB0.out.size; have := hz1.out; have := HB2.out.size; omega))
  clear hb3 HF2 HO2 HM2 SM
  go_wp2_with fail
  refine (HF3.out.keep HO3.out hn hcl hL).mono ?_
  rintro e w4 ⟨⟨u, rfl⟩, hb4, hl4⟩
  have HB4 : Hid (Below B w w4) := HB3.out.trans hb4
  have HL4 : Hid (LInv B p (frs.set i ⟨xp, xq, xb, xC ++ s, xC ++ s, v1⟩) rus X pe pf (L + 9) (n + 1) w4) := hl4
  clear hb4 hl4
  go_wp2
  go_ret
  refine ⟨rfl, HB4.out, _, by simp, fun z hz => ?_, HL4.out⟩
  rcases List.mem_or_eq_of_mem_set hz with hz | rfl
  · exact ⟨HC.out z hz, z, hz, by omega⟩
  · exact ⟨rfl, _, List.mem_of_getElem? HX.out, by simp⟩
end Go.Proofs.YtdlhbmncbmconaaGreatDoor

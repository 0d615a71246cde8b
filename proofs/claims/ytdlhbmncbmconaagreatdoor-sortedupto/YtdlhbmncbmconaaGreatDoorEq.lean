/- Contracts of the statements' package: sorts, of rules. -/
import Derived.Test.YtdlhbmncbmconaaGreatDoorEn
namespace Go.Proofs.YtdlhbmncbmconaaGreatDoor
open Go.RowKit Go.Sort
attribute [local go_sem] alloc_drewN setCell_drewN
theorem keeps_both {B p : Nat} {frs : List LFr} {rus : List LRu} {X : World → (Nat → Nat × Nat) → Prop} {pe pf : List Value} {L n : Nat} {W : World} (h : LInv B p frs rus X pe pf L n W) {i : Nat} {x : LRu} (hx : rus[i]? = some x) (f s : Int) :
    ∃ (b : Bool) (E : Int), (∀ w : World, Below W.heap.size W w → Calls Tryz.prog 33 #[.pointer (some ⟨x.p, 0, none⟩), .int .i64 f, .int .i64 s] w fun e w' => e = .returned (.tuple #[.bool b, .int .i64 E]) ∧ Below w.heap.size w w') ∧
      (∀ w : World, Below W.heap.size W w → Calls Tryz.prog 118 #[.pointer (some ⟨x.q, 0, none⟩), .int .i64 f, .int .i64 s] w fun e w' => e = .returned (.tuple #[.bool b, .int .i64 E]) ∧ Below w.heap.size w w') := by
  cases hsrc : Hm.isSource f s with
  | false =>
    refine ⟨false, 10, fun w _ => Keeps_no x.p f s w hsrc, fun w _ => (rKeeps_no x.q f s w hsrc).mono ?_⟩
    rintro e w' ⟨rfl, rfl⟩
    exact ⟨rfl, Below.refl _ _⟩
  | true =>
    have hb : ((0 ≤ f ∧ f < 24) ∧ 0 ≤ s) ∧ s < 8 := by simpa [Hm.isSource] using hsrc
    obtain ⟨f', rfl⟩ : ∃ f' : Nat, f = f' := ⟨f.toNat, by omega⟩
    obtain ⟨s', rfl⟩ : ∃ s' : Nat, s = s' := ⟨s.toNat, by omega⟩
    refine ⟨Hm.keeps x.rs f' s', 0, fun w hw => ?_, fun w hw => ?_⟩
    · obtain ⟨_, _, _, _, _, _, _, _, hr, _, hs, hl⟩ := (h.next hw).fresh.ruleAt hx
      exact Keeps_any x.p x.rs x.v f' s' w hr hs (by omega) (by omega) hl
    · obtain ⟨_, _, _, _, _, _, _, _, _, hr, _, hl⟩ := (h.next hw).fresh.ruleAt hx
      exact rKeeps_any x.q x.rs x.xs x.u f' s' (by omega) (by omega) hl w hr
set_option maxRecDepth 20000 in
set_option maxHeartbeats 8000000 in
theorem sorts_keeps {B p : Nat} {frs : List LFr} {rus : List LRu} {X : World → (Nat → Nat × Nat) → Prop} {pe pf : List Value} {L n : Nat} {w : World} (h : LInv B p frs rus X pe pf L n w)
    (o : OpV) (hk : o.kind = 6) (hov : -9223372036854775808 ≤ o.v ∧ o.v ≤ 9223372036854775807) (hpos : 0 < rus.length) (hlen : rus.length ≤ 4000000000) :
    Calls Tryz.prog 72 #[.pointer (some ⟨p, 0, none⟩), .agg (opCells o)] w fun e w' => e = .returned (.bool true) ∧ Below w.heap.size w w' := by
  have PK : Hid (∀ w, Calls Tryz.prog 114 #[.int .i64 o.v, .int .i64 rus.length] w fun e w' => e = .returned (.int .i64 (Hm.pick o.v rus.length)) ∧ w' = w) := fun w => lpick_any o.v rus.length hpos hlen hov.1 hov.2 w
  have hilt := Hm.pick_lt o.v hpos
  generalize Hm.pick o.v rus.length = i at PK hilt
  obtain ⟨x, hx⟩ : ∃ x, rus[i]? = some x := ⟨_, List.getElem?_eq_getElem hilt⟩
  clear hov
  obtain ⟨kd, a, b, c, mm, q, s, ⟨f, sv, t, h1, h2, h3, h4, d, tx⟩⟩ := o
  dsimp only at hk PK
  subst hk
  unfold opCells
  dsimp only
  have HH : Hid (LInv B p frs rus X pe pf L n w) := h
  clear h
  have hii : (i : Int) < (rus.length : Int) := by omega
  go_enter Tryz.func72, Tryz.ntmps72
  go_wp2_with fail
  generalize hW : w.alloc _ = W
  have HB0 : Hid (Below w.heap.size w W) := by
    show Below _ _ _
    rw [← hW]
    exact (Below.refl _ _).alloc (Nat.le_refl _) _
  have HR0 : Hid (W.heap[w.heap.size]? = some (.cells #[.int .i64 6, .int .i64 a, .int .i64 b, .int .i64 c, .int .i64 mm, .int .i64 q, .string ⟨s.toArray⟩, .int .i64 f, .int .i64 sv, .string ⟨t.toArray⟩, .string ⟨h1.toArray⟩, .string ⟨h2.toArray⟩, .string ⟨h3.toArray⟩, .string ⟨h4.toArray⟩, .string ⟨d.toArray⟩, .string ⟨tx.toArray⟩] 82 (0, 0))) := by
    show _ = _
    rw [← hW]
    exact heap_alloc_new _ _
  clear hW
  have hz0 : w.heap.size < W.heap.size := (Array.getElem?_eq_some_iff.1 HR0.out).1
  have HL0 : Hid (LInv B p frs rus X pe pf L n W) := HH.out.next HB0.out
  obtain ⟨bb, E, k1, k2⟩ := keeps_both HL0.out hx mm q
  have K1 := show Hid _ from k1
  have K2 := show Hid _ from k2
  have NU : Hid (∀ w, Calls Tryz.prog 107 #[.int .i64 E] w fun r w' => r = .returned (.int .i64 E) ∧ w' = w) := fun w => lnum_any E w
  obtain ⟨g0, cap0, g1, cap1, c0, s0, c1, s1, _⟩ := HL0.out.fresh.ruleAt hx
  unfold ptrV at s0 s1
  clear k1 k2 hx
  obtain ⟨y0, y1, y2, y3, y4, y5, y6⟩ := ocells HR0.out
  go_quiet ((go_at_call 114; exact Calls.quiet_of_same (PK.out _)))
  go_wp2_with fail
  go_region_held (fun w' => w'.cell? ⟨p, 2, none⟩ = some (.slice (some ⟨g0, 0, none⟩) rus.length cap0) ∧ w'.cell? ⟨g0, i, none⟩ = some (.pointer (some ⟨x.p, 0, none⟩)) ∧ w'.cell? ⟨w.heap.size, 4, none⟩ = some (.int .i64 mm) ∧ w'.cell? ⟨w.heap.size, 5, none⟩ = some (.int .i64 q)) (first | exact ⟨c0, s0, y4, y5⟩ | exact ⟨c0', s0', y4', y5'⟩)
    (first | (go_at_call 33; refine (K1.out _ (drew_below ⟨_, rfl⟩)).mono ?_; rintro e w1 ⟨rfl, hb1⟩; have HB1 : Hid (Below W.heap.size W w1) := Below.next (drew_below ⟨_, rfl⟩) (Nat.le_refl _) hb1; have c0' := (HB1.out.cell (p := ⟨p, 2, none⟩) (block_lt_of_cell c0)).trans c0; have s0' := (HB1.out.cell (p := ⟨g0, i, none⟩) (block_lt_of_cell s0)).trans s0; have y4' := (HB1.out.cell (p := ⟨w.heap.size, 4, none⟩) hz0).trans y4; have y5' := (HB1.out.cell (p := ⟨w.heap.size, 5, none⟩) hz0).trans y5; clear hb1))
  have c1' := (HB1.out.cell (p := ⟨p, 3, none⟩) (block_lt_of_cell c1)).trans c1
  have s1' := (HB1.out.cell (p := ⟨g1, i, none⟩) (block_lt_of_cell s1)).trans s1
  clear c0 s0 c0' s0'
  go_wp2_with fail
  go_region_held (fun w' => w'.cell? ⟨p, 3, none⟩ = some (.slice (some ⟨g1, 0, none⟩) rus.length cap1) ∧ w'.cell? ⟨g1, i, none⟩ = some (.pointer (some ⟨x.q, 0, none⟩)) ∧ w'.cell? ⟨w.heap.size, 4, none⟩ = some (.int .i64 mm) ∧ w'.cell? ⟨w.heap.size, 5, none⟩ = some (.int .i64 q)) (first | exact ⟨c1', s1', y4', y5'⟩ | exact ⟨c2', s2', z4', z5'⟩)
    (first | (go_at_call 118; refine (K2.out _ (Below.next HB1.out (Nat.le_refl _) (drew_below ⟨1, rfl⟩))).mono ?_; rintro e w2 ⟨rfl, hb2⟩; have HB2 : Hid (Below W.heap.size W w2) := Below.next (Below.next HB1.out (Nat.le_refl _) (drew_below ⟨1, rfl⟩)) (Nat.le_refl _) hb2; have c2' := (HB2.out.cell (p := ⟨p, 3, none⟩) (block_lt_of_cell c1)).trans c1; have s2' := (HB2.out.cell (p := ⟨g1, i, none⟩) (block_lt_of_cell s1)).trans s1; have z4' := (HB2.out.cell (p := ⟨w.heap.size, 4, none⟩) hz0).trans y4; have z5' := (HB2.out.cell (p := ⟨w.heap.size, 5, none⟩) hz0).trans y5; clear hb2))
  clear c1 s1 c1' s1' c2' s2' y0 y1 y2 y3 y4 y5 y6 y4' y5' z4' z5'
  go_wp2_with fail
  refine (NU.out _).mono ?_
  rintro e w3 ⟨rfl, hw3⟩
  have hw3 := hw3.symm
  subst hw3
  go_wp2
  go_ret
  exact ⟨rfl, Below.next HB0.out (Nat.le_refl _) HB2.out⟩
end Go.Proofs.YtdlhbmncbmconaaGreatDoor

/- Contracts of the statements' package: made, of frames and of rules: the walks. -/
import Derived.Test.YtdlhbmncbmconaaGreatDoorEl
namespace Go.Proofs.YtdlhbmncbmconaaGreatDoor
open Go.RowKit Go.Sort
theorem lnum_any (e : Int) (w : World) : Calls Tryz.prog 107 #[.int .i64 e] w fun r w' => r = .returned (.int .i64 e) ∧ w' = w := by
  go_enter Tryz.func107, Tryz.ntmps107
  go_wp2
  go_ret
  exact ⟨rfl, rfl⟩
theorem linfo_0 : (Tryz.prog.info? 45).map (fun i => (i.zero, i.size, i.bytes)) = some (some (.pointer none), 1, 8) := by kernel_rfl
theorem lsize_0 : (Tryz.prog.info? 134).map (·.size) = some 1 := by kernel_rfl
theorem linfo_1 : (Tryz.prog.info? 169).map (fun i => (i.zero, i.size, i.bytes)) = some (some (.pointer none), 1, 8) := by kernel_rfl
theorem lsize_1 : (Tryz.prog.info? 135).map (·.size) = some 1 := by kernel_rfl
theorem linfo_2 : (Tryz.prog.info? 56).map (fun i => (i.zero, i.size, i.bytes)) = some (some (.pointer none), 1, 8) := by kernel_rfl
theorem lsize_2 : (Tryz.prog.info? 136).map (·.size) = some 1 := by kernel_rfl
theorem linfo_3 : (Tryz.prog.info? 173).map (fun i => (i.zero, i.size, i.bytes)) = some (some (.pointer none), 1, 8) := by kernel_rfl
theorem lsize_3 : (Tryz.prog.info? 137).map (·.size) = some 1 := by kernel_rfl
theorem ocells {w : World} {g : Nat} {a0 a1 a2 a3 a4 a5 a6 a7 a8 a9 a10 a11 a12 a13 a14 a15 : Value} {t : TypeId} {fr : Nat × Nat} (h : w.heap[g]? = some (.cells #[a0, a1, a2, a3, a4, a5, a6, a7, a8, a9, a10, a11, a12, a13, a14, a15] t fr)) :
    w.cell? ⟨g, 0, none⟩ = some a0 ∧ w.cell? ⟨g, 1, none⟩ = some a1 ∧ w.cell? ⟨g, 2, none⟩ = some a2 ∧ w.cell? ⟨g, 3, none⟩ = some a3 ∧ w.cell? ⟨g, 4, none⟩ = some a4 ∧ w.cell? ⟨g, 5, none⟩ = some a5 ∧ w.cell? ⟨g, 6, none⟩ = some a6 :=
  ⟨cell_of_row _ _ _ _ _ _ h, cell_of_row _ _ _ _ _ _ h, cell_of_row _ _ _ _ _ _ h, cell_of_row _ _ _ _ _ _ h, cell_of_row _ _ _ _ _ _ h, cell_of_row _ _ _ _ _ _ h, cell_of_row _ _ _ _ _ _ h⟩
set_option maxRecDepth 20000 in
set_option maxHeartbeats 4000000 in
theorem made_frames_no (p : Nat) (o : OpV) (hk : o.kind = 3) (ho : o.n < 1 ∨ 200 < o.n) (w : World) : Calls Tryz.prog 70 #[.pointer (some ⟨p, 0, none⟩), .agg (opCells o)] w fun e w' => e = .returned (.bool true) ∧ Below w.heap.size w w' := by
  have NF : Hid (∀ w, Calls Tryz.prog 27 #[.int .i64 o.n] w fun e w' => e = .returned (.tuple #[.pointer none, .int .i64 10]) ∧ w' = w) := fun w => NewFrames_no o.n w ho
  have RN : Hid (∀ w, Calls Tryz.prog 106 #[.int .i64 o.n] w fun e w' => e = .returned (.tuple #[.pointer none, .int .i64 10]) ∧ w' = w) := fun w => rNewFrames_no o.n ho w
  have NU : Hid (∀ w, Calls Tryz.prog 107 #[.int .i64 10] w fun r w' => r = .returned (.int .i64 10) ∧ w' = w) := fun w => lnum_any 10 w
  clear ho
  obtain ⟨kd, a, b, c, m, q, s, ⟨f, sv, t, h1, h2, h3, h4, d, x⟩⟩ := o
  dsimp only at hk NF RN
  subst hk
  unfold opCells
  dsimp only
  go_enter Tryz.func70, Tryz.ntmps70
  go_wp2_with fail
  refine (NF.out _).mono ?_
  rintro e w1 ⟨rfl, hw1⟩
  subst hw1
  go_wp2_with fail
  refine (RN.out _).mono ?_
  rintro e w1 ⟨rfl, hw1⟩
  subst hw1
  go_wp2_with fail
  refine (NU.out _).mono ?_
  rintro e w1 ⟨rfl, hw1⟩
  subst hw1
  go_wp2
  go_ret
  exact ⟨rfl, (Below.refl _ _).alloc (Nat.le_refl _) _⟩
set_option maxRecDepth 20000 in
set_option maxHeartbeats 8000000 in
theorem made_frames {B p : Nat} {frs : List LFr} {rus : List LRu} {X : World → (Nat → Nat × Nat) → Prop} {pe pf : List Value} {L n : Nat} {w : World} (h : LInv B p frs rus X pe pf L n w) (h11 : 11 ≤ w.heap.size) (hl : frs.length ≤ 1000000000000)
    (o : OpV) (hk : o.kind = 3) (m : Nat) (hm : o.n = m) (m1 : 1 ≤ m) (m2 : m ≤ 200) :
    Calls Tryz.prog 70 #[.pointer (some ⟨p, 0, none⟩), .agg (opCells o)] w fun e w' => e = .returned (.bool true) ∧ Below B w w' ∧ ∃ x : LFr, x.A = [] ∧ x.C = [] ∧ LInv B p (frs ++ [x]) rus X pe pf L n w' := by
  obtain ⟨i0, hi0, hz00, hz01, hz02⟩ := info_parts linfo_0
  obtain ⟨i1, hi1, hz10, hz11, hz12⟩ := info_parts linfo_1
  have NF : Hid (∀ w : World, 11 ≤ w.heap.size → Calls Tryz.prog 27 #[.int .i64 m] w fun e w' => e = .returned (.tuple #[.pointer (some ⟨w.heap.size, 0, none⟩), .int .i64 0]) ∧ FramesAt w' w.heap.size (Hm.Frs.fresh m) (.slice none 0 0) ∧ Below w.heap.size w w') := fun w hw => NewFrames_any m w hw m1 m2
  have RN : Hid (∀ w : World, Calls Tryz.prog 106 #[.int .i64 m] w fun e w' => e = .returned (.tuple #[.pointer (some ⟨w.heap.size, 0, none⟩), .int .i64 0]) ∧ w'.heap[w.heap.size]? = some (.cells (rfrCells m [] 0) 216 (0, 0)) ∧ Below w.heap.size w w') := fun w => rNewFrames_yes m m1 m2 w
  have NU : Hid (∀ w, Calls Tryz.prog 107 #[.int .i64 0] w fun r w' => r = .returned (.int .i64 0) ∧ w' = w) := fun w => lnum_any 0 w
  obtain ⟨kd, a, b, c, mm, q, s, ⟨f, sv, t, h1, h2, h3, h4, d, x⟩⟩ := o
  dsimp only at hk hm
  subst hk hm
  unfold opCells
  dsimp only
  have HH : Hid (LInv B p frs rus X pe pf L n w) := h
  clear h
  go_enter Tryz.func70, Tryz.ntmps70
  go_wp2_with fail
  generalize hW : w.alloc _ = W
  have HB0 : Hid (Below w.heap.size w W) := by
    show Below _ _ _
    rw [← hW]
    exact (Below.refl _ _).alloc (Nat.le_refl _) _
  have HR0 := show Hid (W.heap[w.heap.size]? = _) from (by rw [← hW]; exact heap_alloc_new _ _)
  clear hW
  have hz0 : w.heap.size < W.heap.size := (Array.getElem?_eq_some_iff.1 HR0.out).1
  have HL0 : Hid (LInv B p frs rus X pe pf L n W) := HH.out.next HB0.out
  refine (NF.out W (by omega)).mono ?_
  rintro e w1 ⟨rfl, hf1, hb1⟩
  have HF1 := show Hid _ from hf1
  have HB1 := show Hid _ from hb1
  obtain ⟨y0, y1, y2, y3, y4, y5, y6⟩ := ocells ((hb1.block _ hz0).trans HR0.out)
  clear hf1 hb1
  go_wp2_with fail
  refine (RN.out w1).mono ?_
  rintro e w2 ⟨rfl, hr2, hb2⟩
  obtain ⟨xs0, hM, e0, e1, e2, e3, e4, e5⟩ := HL0.out.newFrame HB1.out HF1.out hb2 hr2 m1 m2
  have HM : Hid (LMid 0 B p _ rus X xs0 L n W w2) := hM
  have HE : Hid ((xs0 0 = frs.map fun x => ptrV x.p) ∧ (xs0 1 = frs.map fun x => ptrV x.q) ∧ (xs0 2 = rus.map fun x => ptrV x.p) ∧ (xs0 3 = rus.map fun x => ptrV x.q) ∧ xs0 4 = pe ∧ xs0 5 = pf) := ⟨e0, e1, e2, e3, e4, e5⟩
  have n0 : (xs0 0).length ≤ 1000000000000 := by rw [e0, List.length_map]; exact hl
  have n1 : (xs0 1).length ≤ 1000000000000 := by rw [e1, List.length_map]; exact hl
  clear e0 e1 e2 e3 e4 e5 hM hr2 hb2 HB1 HF1 y0 y1 y2 y3 y4 y5 y6 hl
  go_wp2_with fail
  refine (NU.out _).mono ?_
  rintro e w3 ⟨rfl, hw3⟩
  have hw3 := hw3.symm
  subst hw3
  obtain ⟨v0, c0, o0, hk0⟩ := HM.out.own
  have O0 : Hid (World.ownsRow _ 0 45 1 v0 _ (xs0 0)) := o0
  have HK0 := show Hid _ from hk0
  clear o0 hk0
  obtain ⟨a0, cap0, rfl⟩ := own_form1 O0.out
  go_wp2_with (first
    | (at_builtin; refine Hw.wpList_append_item rfl _ _ 134 rfl 45 i0 (.pointer none) 8 Tryz.underlying134 hi0 hz00 hz01 hz02 rfl _ _ (xs0 0) rfl (O0.out.alloc _) ⟨_, 0, none⟩ (.pointer (some ⟨W.heap.size, 0, none⟩)) rfl (cell_one_new _ _ _) rfl (by unfold maxLen; omega) (by omega) ?_; intro v5 w5 hown5 hg5 hat5 _; obtain ⟨old5, hrow5, hsz5, hn5⟩ := HK0.out _ _ _ _ hown5 hg5 hat5; have HR5 := show Hid _ from hrow5; have HN5 := show Hid _ from hn5; have HS5 := show Hid _ from hsz5; obtain ⟨a5, cap5, rfl⟩ := own_form1 hown5; clear hown5 hg5 hat5 hrow5 hn5 hsz5)
    | (refine Hw.wpList_store_fieldP rfl _ _ _ rfl rfl p 0 (.slice a5 _ cap5) rfl rfl _ _ _ HR5.out lsize_0 (by rw [HS5.out]; decide) rfl rfl ?_; intro w6 p6; have hM6 := HN5.out _ p6; have HM6 : Hid (LMid 1 B p _ _ X (up xs0 0 (xs0 0 ++ [(.pointer (some ⟨W.heap.size, 0, none⟩))])) L n W w6) := hM6.turn (by omega); clear p6 c0 hM6; obtain ⟨v7, c7, o7, hk7⟩ := HM6.out.own; have O7 : Hid (World.ownsRow _ 0 169 1 v7 (xs0 1).length (xs0 1)) := o7; have HK7 := show Hid _ from hk7; clear o7 hk7; obtain ⟨a7, cap7, rfl⟩ := own_form1 O7.out)
    | (at_builtin; refine Hw.wpList_append_item rfl _ _ 135 rfl 169 i1 (.pointer none) 8 Tryz.underlying135 hi1 hz10 hz11 hz12 rfl _ _ (xs0 1) rfl (O7.out.alloc _) ⟨_, 0, none⟩ (.pointer (some ⟨w1.heap.size, 0, none⟩)) rfl (cell_one_new _ _ _) rfl (by unfold maxLen; omega) (by omega) ?_; intro v8 w8 hown8 hg8 hat8 _; obtain ⟨old8, hrow8, hsz8, hn8⟩ := HK7.out _ _ _ _ hown8 hg8 hat8; have HR8 := show Hid _ from hrow8; have HN8 := show Hid _ from hn8; have HS8 := show Hid _ from hsz8; obtain ⟨a8, cap8, rfl⟩ := own_form1 hown8; clear hown8 hg8 hat8 hrow8 hn8 hsz8)
    | (refine Hw.wpList_store_fieldP rfl _ _ _ rfl rfl p 1 (.slice a8 _ cap8) rfl rfl _ _ _ HR8.out lsize_1 (by rw [HS8.out]; decide) rfl rfl ?_; intro w9 p9; have HM9 : Hid (LMid 1 B p _ _ X (up (up xs0 0 (xs0 0 ++ [(.pointer (some ⟨W.heap.size, 0, none⟩))])) 1 (xs0 1 ++ [(.pointer (some ⟨w1.heap.size, 0, none⟩))])) L n W w9) := HN8.out _ p9; clear p9 c7)
    | fail)
  go_ret
  obtain ⟨e0, e1, e2, e3, e4, e5⟩ := HE.out
  have hb9 : Below B W w9 := by
    obtain ⟨_, _, _, _, _, _, _, _, _, _, hb⟩ := HM9.out
    exact hb
  exact ⟨rfl, (HB0.out.mono (by have := HH.out.le; have := HH.out.lt; omega)).trans hb9, _, rfl, rfl, HM9.out.frame e0 e1 e2 e3 e4 e5⟩
set_option maxRecDepth 20000 in
set_option maxHeartbeats 4000000 in
theorem made_rules_no (p : Nat) (o : OpV) (hk : o.kind = 5) (E K : Int) (w : World) (hT : Tabs w)
    (h1 : ∀ w, Tabs w → Calls Tryz.prog 32 #[.string ⟨o.s.toArray⟩] w fun e w' => e = .returned (.tuple #[.pointer none, .int .i64 E, .int .i64 K]) ∧ Below w.heap.size w w')
    (h2 : ∀ w, Calls Tryz.prog 108 #[.string ⟨o.s.toArray⟩] w fun e w' => e = .returned (.tuple #[.pointer none, .int .i64 E, .int .i64 K]) ∧ Below w.heap.size w w') :
    Calls Tryz.prog 70 #[.pointer (some ⟨p, 0, none⟩), .agg (opCells o)] w fun e w' => e = .returned (.bool true) ∧ Below w.heap.size w w' := by
  have NF := show Hid _ from h1
  have RN := show Hid _ from h2
  have NU : Hid (∀ w, Calls Tryz.prog 107 #[.int .i64 E] w fun r w' => r = .returned (.int .i64 E) ∧ w' = w) := fun w => lnum_any E w
  clear h1 h2
  obtain ⟨kd, a, b, c, m, q, s, ⟨f, sv, t, h1, h2, h3, h4, d, x⟩⟩ := o
  dsimp only at hk NF RN
  subst hk
  unfold opCells
  dsimp only
  go_enter Tryz.func70, Tryz.ntmps70
  go_wp2_with fail
  refine (NF.out _ (hT.alloc _)).mono ?_
  rintro e w1 ⟨rfl, hb1⟩
  have HB1 : Hid (Below w.heap.size w w1) := ((Below.refl _ _).alloc (Nat.le_refl _) _).trans (hb1.mono (by simp))
  have hz1 : w.heap.size < w1.heap.size := by have := hb1.size; simp at this; omega
  obtain ⟨y0, y1, y2, y3, y4, y5, y6⟩ := ocells ((hb1.block w.heap.size (by simp)).trans (heap_alloc_new _ _))
  clear hb1
  go_wp2_with fail
  refine (RN.out _).mono ?_
  rintro e w2 ⟨rfl, hb2⟩
  have HB2 : Hid (Below w.heap.size w w2) := Below.next HB1.out (by omega) hb2
  clear hb2 y0 y1 y2 y3 y4 y5 y6
  go_wp2_with fail
  refine (NU.out _).mono ?_
  rintro e w3 ⟨rfl, hw3⟩
  have hw3 := hw3.symm
  subst hw3
  go_wp2
  go_ret
  exact ⟨rfl, HB2.out⟩
set_option maxRecDepth 20000 in
set_option maxHeartbeats 8000000 in
theorem made_rules {B p : Nat} {frs : List LFr} {rus : List LRu} {X : World → (Nat → Nat × Nat) → Prop} {pe pf : List Value} {L n : Nat} {w : World} (h : LInv B p frs rus X pe pf L n w) (hT : Tabs w) (hl : rus.length ≤ 1000000000000)
    (o : OpV) (hk : o.kind = 5) (hs : o.s.length ≤ 400) (rs : List Hm.Rl) (hrs : Hm.newRules o.s = .ok rs) :
    Calls Tryz.prog 70 #[.pointer (some ⟨p, 0, none⟩), .agg (opCells o)] w fun e w' => e = .returned (.bool true) ∧ Below B w w' ∧ ∃ x : LRu, LInv B p frs (rus ++ [x]) X pe pf L n w' := by
  obtain ⟨i0, hi0, hz00, hz01, hz02⟩ := info_parts linfo_2
  obtain ⟨i1, hi1, hz10, hz11, hz12⟩ := info_parts linfo_3
  have NF : Hid (∀ w : World, Tabs w → Calls Tryz.prog 32 #[.string ⟨o.s.toArray⟩] w fun e w' => e = .returned (.tuple #[.pointer (some ⟨w.heap.size, 0, none⟩), .int .i64 0, .int .i64 0]) ∧ (∃ v, RulesAt w' w.heap.size rs v) ∧ Below w.heap.size w w') := fun w hT => by
    refine (NewRules_any ⟨o.s.toArray⟩ w hT (by simpa [ByteArray.size] using hs)).mono ?_
    rintro e w1 ⟨hb, hp⟩
    rw [show (⟨o.s.toArray⟩ : ByteArray).data.toList = o.s from rfl, hrs] at hp
    exact ⟨hp.1, hp.2, hb⟩
  have RN : Hid (∀ w : World, Calls Tryz.prog 108 #[.string ⟨o.s.toArray⟩] w fun e w' => e = .returned (.tuple #[.pointer (some ⟨w.heap.size, 0, none⟩), .int .i64 0, .int .i64 0]) ∧ (∃ xs v, RRulesAt w' w.heap.size rs xs v) ∧ Below w.heap.size w w') := fun w => by
    refine (rNewRules_any o.s hs w).mono ?_
    rintro e w1 ⟨hb, hp⟩
    rw [hrs] at hp
    exact ⟨hp.1, hp.2, hb⟩
  have NU : Hid (∀ w, Calls Tryz.prog 107 #[.int .i64 0] w fun r w' => r = .returned (.int .i64 0) ∧ w' = w) := fun w => lnum_any 0 w
  have hsm := Hm.newRules_small hrs
  have hln := Hm.newRules_len hrs
  have HSM := show Hid _ from hsm
  have HLN : Hid (rs.length ≤ 12) := hln
  clear hsm hln hrs hs
  obtain ⟨kd, a, b, c, mm, q, s, ⟨f, sv, t, h1, h2, h3, h4, d, x⟩⟩ := o
  dsimp only at hk NF RN
  subst hk
  unfold opCells
  dsimp only
  have HH : Hid (LInv B p frs rus X pe pf L n w) := h
  clear h
  go_enter Tryz.func70, Tryz.ntmps70
  go_wp2_with fail
  generalize hW : w.alloc _ = W
  have HB0 : Hid (Below w.heap.size w W) := by
    show Below _ _ _
    rw [← hW]
    exact (Below.refl _ _).alloc (Nat.le_refl _) _
  have HR0 := show Hid (W.heap[w.heap.size]? = _) from (by rw [← hW]; exact heap_alloc_new _ _)
  clear hW
  have hz0 : w.heap.size < W.heap.size := (Array.getElem?_eq_some_iff.1 HR0.out).1
  have HL0 : Hid (LInv B p frs rus X pe pf L n W) := HH.out.next HB0.out
  refine (NF.out W (hT.next HB0.out)).mono ?_
  rintro e w1 ⟨rfl, ⟨rv, hf1⟩, hb1⟩
  have HF1 := show Hid _ from hf1
  have HB1 := show Hid _ from hb1
  obtain ⟨y0, y1, y2, y3, y4, y5, y6⟩ := ocells ((hb1.block _ hz0).trans HR0.out)
  clear hf1 hb1
  go_wp2_with fail
  refine (RN.out w1).mono ?_
  rintro e w2 ⟨rfl, ⟨ys, ru, hr2⟩, hb2⟩
  obtain ⟨xs0, hM, e0, e1, e2, e3, e4, e5⟩ := HL0.out.newRule HB1.out HF1.out hb2 hr2 HSM.out HLN.out
  have HM : Hid (LMid 2 B p frs _ X xs0 L n W w2) := hM
  have HE : Hid ((xs0 0 = frs.map fun x => ptrV x.p) ∧ (xs0 1 = frs.map fun x => ptrV x.q) ∧ (xs0 2 = rus.map fun x => ptrV x.p) ∧ (xs0 3 = rus.map fun x => ptrV x.q) ∧ xs0 4 = pe ∧ xs0 5 = pf) := ⟨e0, e1, e2, e3, e4, e5⟩
  have n0 : (xs0 2).length ≤ 1000000000000 := by rw [e2, List.length_map]; exact hl
  have n1 : (xs0 3).length ≤ 1000000000000 := by rw [e3, List.length_map]; exact hl
  clear e0 e1 e2 e3 e4 e5 hM hr2 hb2 HB1 HF1 y0 y1 y2 y3 y4 y5 y6 hl
  go_wp2_with fail
  refine (NU.out _).mono ?_
  rintro e w3 ⟨rfl, hw3⟩
  have hw3 := hw3.symm
  subst hw3
  obtain ⟨v0, c0, o0, hk0⟩ := HM.out.own
  have O0 : Hid (World.ownsRow _ 0 56 1 v0 _ (xs0 2)) := o0
  have HK0 := show Hid _ from hk0
  clear o0 hk0
  obtain ⟨a0, cap0, rfl⟩ := own_form1 O0.out
  go_wp2_with (first
    | (at_builtin; refine Hw.wpList_append_item rfl _ _ 136 rfl 56 i0 (.pointer none) 8 Tryz.underlying136 hi0 hz00 hz01 hz02 rfl _ _ (xs0 2) rfl (O0.out.alloc _) ⟨_, 0, none⟩ (.pointer (some ⟨W.heap.size, 0, none⟩)) rfl (cell_one_new _ _ _) rfl (by unfold maxLen; omega) (by omega) ?_; intro v5 w5 hown5 hg5 hat5 _; obtain ⟨old5, hrow5, hsz5, hn5⟩ := HK0.out _ _ _ _ hown5 hg5 hat5; have HR5 := show Hid _ from hrow5; have HN5 := show Hid _ from hn5; have HS5 := show Hid _ from hsz5; obtain ⟨a5, cap5, rfl⟩ := own_form1 hown5; clear hown5 hg5 hat5 hrow5 hn5 hsz5)
    | (refine Hw.wpList_store_fieldP rfl _ _ _ rfl rfl p 2 (.slice a5 _ cap5) rfl rfl _ _ _ HR5.out lsize_2 (by rw [HS5.out]; decide) rfl rfl ?_; intro w6 p6; have hM6 := HN5.out _ p6; have HM6 : Hid (LMid 3 B p _ _ X (up xs0 2 (xs0 2 ++ [(.pointer (some ⟨W.heap.size, 0, none⟩))])) L n W w6) := hM6.turn (by omega); clear p6 c0 hM6; obtain ⟨v7, c7, o7, hk7⟩ := HM6.out.own; have O7 : Hid (World.ownsRow _ 0 173 1 v7 (xs0 3).length (xs0 3)) := o7; have HK7 := show Hid _ from hk7; clear o7 hk7; obtain ⟨a7, cap7, rfl⟩ := own_form1 O7.out)
    | (at_builtin; refine Hw.wpList_append_item rfl _ _ 137 rfl 173 i1 (.pointer none) 8 Tryz.underlying137 hi1 hz10 hz11 hz12 rfl _ _ (xs0 3) rfl (O7.out.alloc _) ⟨_, 0, none⟩ (.pointer (some ⟨w1.heap.size, 0, none⟩)) rfl (cell_one_new _ _ _) rfl (by unfold maxLen; omega) (by omega) ?_; intro v8 w8 hown8 hg8 hat8 _; obtain ⟨old8, hrow8, hsz8, hn8⟩ := HK7.out _ _ _ _ hown8 hg8 hat8; have HR8 := show Hid _ from hrow8; have HN8 := show Hid _ from hn8; have HS8 := show Hid _ from hsz8; obtain ⟨a8, cap8, rfl⟩ := own_form1 hown8; clear hown8 hg8 hat8 hrow8 hn8 hsz8)
    | (refine Hw.wpList_store_fieldP rfl _ _ _ rfl rfl p 3 (.slice a8 _ cap8) rfl rfl _ _ _ HR8.out lsize_3 (by rw [HS8.out]; decide) rfl rfl ?_; intro w9 p9; have HM9 : Hid (LMid 3 B p _ _ X (up (up xs0 2 (xs0 2 ++ [(.pointer (some ⟨W.heap.size, 0, none⟩))])) 3 (xs0 3 ++ [(.pointer (some ⟨w1.heap.size, 0, none⟩))])) L n W w9) := HN8.out _ p9; clear p9 c7)
    | fail)
  go_ret
  obtain ⟨e0, e1, e2, e3, e4, e5⟩ := HE.out
  have hb9 : Below B W w9 := by
    obtain ⟨_, _, _, _, _, _, _, _, _, _, hb⟩ := HM9.out
    exact hb
  exact ⟨rfl, (HB0.out.mono (by have := HH.out.le; have := HH.out.lt; omega)).trans hb9, _, HM9.out.rule e0 e1 e2 e3 e4 e5⟩
end Go.Proofs.YtdlhbmncbmconaaGreatDoor

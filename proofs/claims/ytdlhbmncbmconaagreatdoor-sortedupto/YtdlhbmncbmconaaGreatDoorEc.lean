/- Contracts of the reference: NewFrames, Feed. -/
import Derived.Test.YtdlhbmncbmconaaGreatDoorEb
import Derived.Test.YtdlhbmncbmconaaGreatDoorBi
import Derived.Test.YtdlhbmncbmconaaGreatDoorRc
import Derived.Test.YtdlhbmncbmconaaGreatDoorWs
namespace Go.Hm
theorem split_more (b : Nat) (A s : List UInt8) : (splitOf b (A ++ s)).1.drop (splitOf b A).1.length = (((Frs.fresh b).feed A).1.feed s).2 ∧ (splitOf b A).1.length ≤ (splitOf b (A ++ s)).1.length ∧ (splitOf b (A ++ s)).2 = (((Frs.fresh b).feed A).1.feed s).1.head + (((Frs.fresh b).feed A).1.feed s).1.own.length := by
  unfold splitOf
  rw [Frs.feed_append]
  dsimp only
  refine ⟨by simp, by simp, rfl⟩
theorem split_count (b : Nat) : ∀ (l : List UInt8) (f : Frs), (f.feed l).2.length ≤ l.length
  | [], f => by simp [Frs.feed]
  | c :: t, f => by
    have := split_count b t (f.take c).1
    rw [Frs.feed_cons]
    dsimp only
    split <;> simp <;> omega
end Go.Hm
namespace Go.Proofs.YtdlhbmncbmconaaGreatDoor
open Go.RowKit Go.Sort
attribute [local go_sem] app_mk rcut rbyte
attribute [local go_sem high] run_cut_l
def rfrCells (b : Nat) (A : List UInt8) (T : Nat) : Array Value := #[.int .i64 b, .string ⟨A.toArray⟩, .int .i64 T]
theorem rNewFrames_no (n : Int) (h : n < 1 ∨ 200 < n) (w : World) : Calls Tryz.prog 106 #[.int .i64 n] w fun e w' => e = .returned (.tuple #[.pointer none, .int .i64 10]) ∧ w' = w := by
  by_cases h1 : n < 1
  · clear h
    go_enter Tryz.func106, Tryz.ntmps106
    go_wp2
    go_ret2
    exact ⟨rfl, rfl⟩
  · have h2 : 200 < n := by omega
    clear h
    go_enter Tryz.func106, Tryz.ntmps106
    go_wp2
    go_ret2
    exact ⟨rfl, rfl⟩
theorem rNewFrames_yes (n : Nat) (h1 : 1 ≤ n) (h2 : n ≤ 200) (w : World) : Calls Tryz.prog 106 #[.int .i64 n] w fun e w' => e = .returned (.tuple #[.pointer (some ⟨w.heap.size, 0, none⟩), .int .i64 0]) ∧ w'.heap[w.heap.size]? = some (.cells (rfrCells n [] 0) 216 (0, 0)) ∧ Below w.heap.size w w' := by
  have i1 : ¬ (n : Int) < 1 := by omega
  have i2 : ¬ 200 < (n : Int) := by omega
  go_enter Tryz.func106, Tryz.ntmps106
  go_wp2
  go_ret2
  exact ⟨rfl, heap_alloc_new _ _, (Below.refl _ _).alloc (Nat.le_refl _) _⟩
def fdV (q b : Nat) (B : List UInt8) : Nat → Value
  | 0 => .pointer (some ⟨q, 0, none⟩)
  | 1 => .pointer (some ⟨q, 0, none⟩)
  | 2 => .pointer (some ⟨q, 1, none⟩)
  | 3 => .string ⟨B.toArray⟩
  | 4 => .pointer (some ⟨q, 0, none⟩)
  | 5 => .pointer (some ⟨q, 0, none⟩)
  | 6 => .pointer (some ⟨q, 0, none⟩)
  | _ => .int .i64 b
def fdW (v : Value) (left : Nat) : Nat → Value
  | 8 => .tuple #[v, .int .i64 left]
  | 9 => .tuple #[v, .int .i64 left]
  | 10 => v
  | 12 => v
  | _ => .int .i64 left
structure FdR (q b : Nat) (B : List UInt8) (out : List (List UInt8)) (left : Nat) (W : World) (L : Array Bool) (X : Nat → Value) (w' : World) : Prop where
  f : ∀ i, i < 8 → L.getD i false = true → X i = fdV q b B i
  no : L.getD 8 true = false → w' = W
  ord : ∀ i, 8 < i → L.getD i false = true → L.getD 8 false = true
  bel : Below W.heap.size W w'
  yes : L.getD 8 false = true → ∃ v, (∀ i, 8 ≤ i → L.getD i false = true → X i = fdW v left i) ∧ w'.ownsRow W.heap.size 9 1 v out.length (out.map strV) ∧ Below W.heap.size W w'
theorem set_getD {L : Array Bool} {i j : Nat} (h : j ≠ i) : (L.setIfInBounds i true).getD j false = L.getD j false := by
  simp [Array.getD_eq_getD_getElem?, Ne.symm h]
theorem set_getDt {L : Array Bool} {i j : Nat} (h : j ≠ i) : (L.setIfInBounds i true).getD j true = L.getD j true := by
  simp [Array.getD_eq_getD_getElem?, Ne.symm h]
theorem set_self {L : Array Bool} {i : Nat} : (L.setIfInBounds i true).getD i true = true := by
  simp only [Array.getD_eq_getD_getElem?, Array.getElem?_setIfInBounds, if_true]
  split <;> rfl
theorem getD_ft {L : Array Bool} {i : Nat} (h : L.getD i true = false) : L.getD i false = false := by
  simp only [Array.getD_eq_getD_getElem?] at h ⊢
  cases hg : L[i]? with
  | none => rw [hg] at h; cases h
  | some x => rw [hg] at h; exact h
theorem FdR.start {q b : Nat} {B : List UInt8} {out : List (List UInt8)} {left n : Nat} {W : World} {X : Nat → Value} : FdR q b B out left W (Array.replicate n false) X W :=
  ⟨fun _ _ e => (Hw.getD_rep e).elim, fun _ => rfl, fun _ _ e => (Hw.getD_rep e).elim, Below.refl _ _, fun e => (Hw.getD_rep e).elim⟩
theorem FdR.step {q b : Nat} {B : List UInt8} {out : List (List UInt8)} {left : Nat} {W w' : World} {L : Array Bool} {X : Nat → Value} (h : FdR q b B out left W L X w') (i : Nat) (hi : i < 8) {y : Value} (hy : y = fdV q b B i) : FdR q b B out left W (L.setIfInBounds i true) (Hw.upd X i y) w' where
  f j hj e := by
    unfold Hw.upd
    split
    · next hj => rw [hj]; exact hy
    · next hne => exact h.f j hj (by rwa [set_getD hne] at e)
  no e := h.no (by rwa [set_getDt (by omega)] at e)
  ord j hj e := by rw [set_getD (by omega)] at e ⊢; exact h.ord j hj e
  bel := h.bel
  yes e := by
    rw [set_getD (by omega)] at e
    obtain ⟨v, h1, h2⟩ := h.yes e
    refine ⟨v, fun j hj e => ?_, h2⟩
    rw [set_getD (by omega)] at e
    unfold Hw.upd
    rw [if_neg (by omega)]
    exact h1 j hj e
theorem FdR.call {q b : Nat} {B : List UInt8} {out : List (List UInt8)} {left : Nat} {W w' : World} {L : Array Bool} {X : Nat → Value} (h : FdR q b B out left W L X w') (h8t : L.getD 8 true = false) {v : Value} {w2 : World} (ho : w2.ownsRow W.heap.size 9 1 v out.length (out.map strV)) (hb : Below W.heap.size W w2) : FdR q b B out left W (L.setIfInBounds 8 true) (Hw.upd X 8 (.tuple #[v, .int .i64 left])) w2 where
  f j hj e := by
    unfold Hw.upd
    rw [if_neg (by omega)]
    exact h.f j hj (by rwa [set_getD (by omega)] at e)
  no e := by rw [set_self] at e; cases e
  ord j hj e := by
    rw [set_getD (by omega)] at e
    have := h.ord j hj e
    rw [getD_ft h8t] at this
    cases this
  bel := hb
  yes _ := ⟨v, (fun j hj e => by
    unfold Hw.upd
    split
    · next hj => rw [hj]; rfl
    · next hne =>
      rw [set_getD hne] at e
      have := h.ord j (by omega) e
      rw [getD_ft h8t] at this
      cases this), ho, hb⟩
theorem FdR.tail {q b : Nat} {B : List UInt8} {out : List (List UInt8)} {left : Nat} {W w' : World} {L : Array Bool} {X : Nat → Value} (h : FdR q b B out left W L X w') (i : Nat) (hi : 8 < i) (h8 : L.getD 8 false = true) {v y : Value} (hv : ∀ i, 8 ≤ i → L.getD i false = true → X i = fdW v left i) (ho : w'.ownsRow W.heap.size 9 1 v out.length (out.map strV)) (hb : Below W.heap.size W w') (hy : y = fdW v left i) : FdR q b B out left W (L.setIfInBounds i true) (Hw.upd X i y) w' where
  f j hj e := by
    unfold Hw.upd
    rw [if_neg (by omega)]
    exact h.f j hj (by rwa [set_getD (by omega)] at e)
  no e := by
    rw [set_getDt (by omega)] at e
    rw [getD_ft e] at h8
    cases h8
  ord j hj e := by rw [set_getD (by omega)]; exact h8
  bel := hb
  yes _ := ⟨v, (fun j hj e => by
    unfold Hw.upd
    split
    · next hj => rw [hj]; exact hy
    · next hne => rw [set_getD hne] at e; exact hv j hj e), ho, hb⟩
set_option maxRecDepth 20000 in
set_option maxHeartbeats 4000000 in
theorem rFeed_any (q b : Nat) (A s : List UInt8) (hb : 1 ≤ b) (hb2 : b ≤ 200) (hl : (A ++ s).length ≤ 4000000000) (w : World) (hq : w.heap[q]? = some (.cells (rfrCells b A (Hm.splitOf b A).1.length) 216 (0, 0))) :
    Calls Tryz.prog 115 #[.pointer (some ⟨q, 0, none⟩), .string ⟨s.toArray⟩] w fun e w' => ∃ v : Value, e = .returned (.tuple #[v, .int .i64 (Hm.splitOf b (A ++ s)).2]) ∧
      Hw.ownsFrom w' w.heap.size 9 v (((Hm.splitOf b (A ++ s)).1.drop (Hm.splitOf b A).1.length).map strV) ∧
      w'.heap[q]? = some (.cells (rfrCells b (A ++ s) (Hm.splitOf b (A ++ s)).1.length) 216 (0, 0)) ∧ Hw.Kept (fun k => k = q) w w' := by
  have SP : Hid (∀ w, Calls Tryz.prog 165 #[.string ⟨(A ++ s).toArray⟩, .int .i64 b] w fun e w' => ∃ v : Value, e = .returned (.tuple #[v, .int .i64 (Hm.splitOf b (A ++ s)).2]) ∧ w'.ownsRow w.heap.size 9 1 v (Hm.splitOf b (A ++ s)).1.length ((Hm.splitOf b (A ++ s)).1.map strV) ∧ Below w.heap.size w w') := fun w => rSplit_any (A ++ s) hl b hb hb2 w
  have hT := (Hm.split_more b A s).2.1
  generalize Hm.splitOf b (A ++ s) = N at SP hT ⊢
  generalize (Hm.splitOf b A).1.length = T at hq hT ⊢
  obtain ⟨out, left⟩ := N
  dsimp only at SP hT ⊢
  have HQ := show Hid _ from hq
  have hqs := (Array.getElem?_eq_some_iff.1 hq).1
  unfold rfrCells at hq
  have c1 : w.cell? ⟨q, 1, none⟩ = some (.string ⟨A.toArray⟩) := cell_of_row _ _ _ _ _ _ hq
  have r1 : ¬ 9223372036854775807 < A.length + s.length := by rw [List.length_append] at hl; omega
  clear hq
  go_enter Tryz.func115, Tryz.ntmps115
  go_wp2_with (first
    | (refine Hw.wpList_store_fieldP rfl _ _ _ rfl rfl q 1 _ rfl rfl _ _ (rfrCells b (A ++ s) T) HQ.out size_str (by simp [rfrCells]) rfl rfl ?_; intro w2 p2; have P2 : Hid (Hw.Put w _ _ _ w2) := p2; clear p2)
    | fail)
  have hrow2 := P2.out.row
  unfold rfrCells at hrow2
  have d0 : w2.cell? ⟨q, 0, none⟩ = some (.int .i64 b) := cell_of_row _ _ _ _ _ _ hrow2
  have d1 : w2.cell? ⟨q, 1, none⟩ = some (.string ⟨(A ++ s).toArray⟩) := cell_of_row _ _ _ _ _ _ hrow2
  clear hrow2 c1
  have hqs2 : q < w2.drew.heap.size := by show q < w2.heap.size; rw [P2.out.size]; exact hqs
  refine Hw.region_slots0 [(19, 0), (20, 1), (21, 2), (22, 3), (23, 4), (24, 5), (25, 6), (26, 7), (27, 8), (18, 9), (28, 10), (29, 11), (6, 12), (7, 13)] (fun _ => undef) (FdR q b (A ++ s) out left w2.drew) mixed (by kernel_rfl) (by simp only [Hw.putAll, List.setIfInBounds_toArray, List.set_cons_succ, List.set_cons_zero]) FdR.start ?_ ?_
  · rintro LD X w' i hD hi hdep hno
    have hi14 : i < 14 := hi
    have HD : Hid (FdR q b (A ++ s) out left w2.drew LD X w') := hD
    clear hD hi
    rcases (by omega : i = 0 ∨ i = 1 ∨ i = 2 ∨ i = 3 ∨ i = 4 ∨ i = 5 ∨ i = 6 ∨ i = 7 ∨ i = 8 ∨ i = 9 ∨ i = 10 ∨ i = 11 ∨ i = 12 ∨ i = 13) with h | h | h | h | h | h | h | h | h | h | h | h | h | h <;> subst h
    · clear hdep
      simp only [Hw.putAll, List.setIfInBounds_toArray, List.set_cons_succ, List.set_cons_zero]
      refine wpOp_step rfl (fun K hK => ?_)
      go_simp
      exact hK _ _ ⟨Hw.upd X 0 (fdV q b (A ++ s) 0), by simp [Hw.upd, fdV], HD.out.step 0 (by decide) rfl⟩
    · have hd := hdep _ rfl
      have e0 := HD.out.f 0 (by decide) (hd ⟨0, .data⟩ (by simp) rfl)
      simp only [fdV] at e0
      clear hdep hd
      simp only [Hw.putAll, List.setIfInBounds_toArray, List.set_cons_succ, List.set_cons_zero]
      refine wpOp_step rfl (fun K hK => ?_)
      try simp only [e0]
      go_wp2_with fail
      exact ⟨Hw.upd X 1 (fdV q b (A ++ s) 1), by simp [Hw.upd, fdV, e0], HD.out.step 1 (by decide) rfl⟩
    · have hd := hdep _ rfl
      have e1 := HD.out.f 1 (by decide) (hd ⟨1, .data⟩ (by simp) rfl)
      simp only [fdV] at e1
      clear hdep hd
      simp only [Hw.putAll, List.setIfInBounds_toArray, List.set_cons_succ, List.set_cons_zero]
      refine wpOp_step rfl (fun K hK => ?_)
      try simp only [e1]
      go_wp2_with fail
      exact ⟨Hw.upd X 2 (fdV q b (A ++ s) 2), by simp [Hw.upd, fdV, e1], HD.out.step 2 (by decide) rfl⟩
    · have hd := hdep _ rfl
      have e2 := HD.out.f 2 (by decide) (hd ⟨2, .data⟩ (by simp) rfl)
      simp only [fdV] at e2
      clear hdep hd
      simp only [Hw.putAll, List.setIfInBounds_toArray, List.set_cons_succ, List.set_cons_zero]
      refine wpOp_step rfl (fun K hK => ?_)
      try simp only [e2]
      have hcw : w'.cell? ⟨q, 1, none⟩ = some (.string ⟨(A ++ s).toArray⟩) := (HD.out.bel.cell (p := ⟨q, 1, none⟩) hqs2).trans d1
      go_wp2_with fail
      exact ⟨Hw.upd X 3 (fdV q b (A ++ s) 3), by simp [Hw.upd, fdV, e2], HD.out.step 3 (by decide) rfl⟩
    · clear hdep
      simp only [Hw.putAll, List.setIfInBounds_toArray, List.set_cons_succ, List.set_cons_zero]
      refine wpOp_step rfl (fun K hK => ?_)
      go_simp
      exact hK _ _ ⟨Hw.upd X 4 (fdV q b (A ++ s) 4), by simp [Hw.upd, fdV], HD.out.step 4 (by decide) rfl⟩
    · have hd := hdep _ rfl
      have e4 := HD.out.f 4 (by decide) (hd ⟨4, .data⟩ (by simp) rfl)
      simp only [fdV] at e4
      clear hdep hd
      simp only [Hw.putAll, List.setIfInBounds_toArray, List.set_cons_succ, List.set_cons_zero]
      refine wpOp_step rfl (fun K hK => ?_)
      try simp only [e4]
      go_wp2_with fail
      exact ⟨Hw.upd X 5 (fdV q b (A ++ s) 5), by simp [Hw.upd, fdV, e4], HD.out.step 5 (by decide) rfl⟩
    · have hd := hdep _ rfl
      have e5 := HD.out.f 5 (by decide) (hd ⟨5, .data⟩ (by simp) rfl)
      simp only [fdV] at e5
      clear hdep hd
      simp only [Hw.putAll, List.setIfInBounds_toArray, List.set_cons_succ, List.set_cons_zero]
      refine wpOp_step rfl (fun K hK => ?_)
      try simp only [e5]
      go_wp2_with fail
      exact ⟨Hw.upd X 6 (fdV q b (A ++ s) 6), by simp [Hw.upd, fdV, e5], HD.out.step 6 (by decide) rfl⟩
    · have hd := hdep _ rfl
      have e6 := HD.out.f 6 (by decide) (hd ⟨6, .data⟩ (by simp) rfl)
      simp only [fdV] at e6
      clear hdep hd
      simp only [Hw.putAll, List.setIfInBounds_toArray, List.set_cons_succ, List.set_cons_zero]
      refine wpOp_step rfl (fun K hK => ?_)
      try simp only [e6]
      have hcw : w'.cell? ⟨q, 0, none⟩ = some (.int .i64 b) := (HD.out.bel.cell (p := ⟨q, 0, none⟩) hqs2).trans d0
      go_wp2_with fail
      exact ⟨Hw.upd X 7 (fdV q b (A ++ s) 7), by simp [Hw.upd, fdV, e6], HD.out.step 7 (by decide) rfl⟩
    · have hd := hdep _ rfl
      have e3 := HD.out.f 3 (by decide) (hd ⟨3, .data⟩ (by simp) rfl)
      simp only [fdV] at e3
      have e7 := HD.out.f 7 (by decide) (hd ⟨7, .data⟩ (by simp) rfl)
      simp only [fdV] at e7
      clear hdep hd
      have hw' := HD.out.no hno
      simp only [Hw.putAll, List.setIfInBounds_toArray, List.set_cons_succ, List.set_cons_zero]
      refine wpOp_step rfl (fun K hK => ?_)
      try simp only [e3]
      try simp only [e7]
      subst hw'
      go_wp2_with fail
      refine (SP.out _).mono ?_
      rintro e w5 ⟨v, rfl, hov, hbv⟩
      go_wp2_with fail
      exact ⟨Hw.upd X 8 (.tuple #[v, .int .i64 left]), by simp [Hw.upd, e3, e7], HD.out.call hno hov hbv⟩
    · have hd := hdep _ rfl
      have l8 : LD.getD 8 false = true := hd ⟨8, .data⟩ (by simp) rfl
      clear hdep hd
      have h8 : LD.getD 8 false = true := l8
      obtain ⟨v, hv, hov, hbv⟩ := HD.out.yes h8
      have e8 := hv 8 (by decide) l8
      simp only [fdW] at e8
      simp only [Hw.putAll, List.setIfInBounds_toArray, List.set_cons_succ, List.set_cons_zero]
      refine wpOp_step rfl (fun K hK => ?_)
      try simp only [e8]
      go_wp2_with fail
      exact ⟨Hw.upd X 9 (fdW v left 9), by simp [Hw.upd, fdW, e8], HD.out.tail 9 (by decide) h8 hv hov hbv rfl⟩
    · have hd := hdep _ rfl
      have l9 : LD.getD 9 false = true := hd ⟨9, .data⟩ (by simp) rfl
      clear hdep hd
      have h8 : LD.getD 8 false = true := HD.out.ord 9 (by decide) l9
      obtain ⟨v, hv, hov, hbv⟩ := HD.out.yes h8
      have e9 := hv 9 (by decide) l9
      simp only [fdW] at e9
      simp only [Hw.putAll, List.setIfInBounds_toArray, List.set_cons_succ, List.set_cons_zero]
      refine wpOp_step rfl (fun K hK => ?_)
      try simp only [e9]
      go_wp2_with fail
      exact ⟨Hw.upd X 10 (fdW v left 10), by simp [Hw.upd, fdW, e9], HD.out.tail 10 (by decide) h8 hv hov hbv rfl⟩
    · have hd := hdep _ rfl
      have l9 : LD.getD 9 false = true := hd ⟨9, .data⟩ (by simp) rfl
      clear hdep hd
      have h8 : LD.getD 8 false = true := HD.out.ord 9 (by decide) l9
      obtain ⟨v, hv, hov, hbv⟩ := HD.out.yes h8
      have e9 := hv 9 (by decide) l9
      simp only [fdW] at e9
      simp only [Hw.putAll, List.setIfInBounds_toArray, List.set_cons_succ, List.set_cons_zero]
      refine wpOp_step rfl (fun K hK => ?_)
      try simp only [e9]
      go_wp2_with fail
      exact ⟨Hw.upd X 11 (fdW v left 11), by simp [Hw.upd, fdW, e9], HD.out.tail 11 (by decide) h8 hv hov hbv rfl⟩
    · have hd := hdep _ rfl
      have l10 : LD.getD 10 false = true := hd ⟨10, .data⟩ (by simp) rfl
      clear hdep hd
      have h8 : LD.getD 8 false = true := HD.out.ord 10 (by decide) l10
      obtain ⟨v, hv, hov, hbv⟩ := HD.out.yes h8
      have e10 := hv 10 (by decide) l10
      simp only [fdW] at e10
      simp only [Hw.putAll, List.setIfInBounds_toArray, List.set_cons_succ, List.set_cons_zero]
      refine wpOp_step rfl (fun K hK => ?_)
      try simp only [e10]
      go_wp2_with fail
      exact ⟨Hw.upd X 12 (fdW v left 12), by simp [Hw.upd, fdW, e10], HD.out.tail 12 (by decide) h8 hv hov hbv rfl⟩
    · have hd := hdep _ rfl
      have l11 : LD.getD 11 false = true := hd ⟨11, .data⟩ (by simp) rfl
      clear hdep hd
      have h8 : LD.getD 8 false = true := HD.out.ord 11 (by decide) l11
      obtain ⟨v, hv, hov, hbv⟩ := HD.out.yes h8
      have e11 := hv 11 (by decide) l11
      simp only [fdW] at e11
      simp only [Hw.putAll, List.setIfInBounds_toArray, List.set_cons_succ, List.set_cons_zero]
      refine wpOp_step rfl (fun K hK => ?_)
      try simp only [e11]
      go_wp2_with fail
      exact ⟨Hw.upd X 13 (fdW v left 13), by simp [Hw.upd, fdW, e11], HD.out.tail 13 (by decide) h8 hv hov hbv rfl⟩
  · intro LD X w5 hD hall
    obtain ⟨v, hv, hov, hbv⟩ := hD.yes (hall 8 (by decide))
    have e12 := hv 12 (by decide) (hall 12 (by decide))
    have e13 := hv 13 (by decide) (hall 13 (by decide))
    simp only [fdW] at e12 e13
    obtain ⟨ad, cap, rfl⟩ := own_form hov
    have HOV := show Hid _ from hov
    have HBV := show Hid _ from hbv
    have hrow5 := (hbv.block q hqs2).trans P2.out.row
    have HR5 := show Hid _ from hrow5
    unfold rfrCells at hrow5
    have f2 : w5.cell? ⟨q, 2, none⟩ = some (.int .i64 T) := cell_of_row _ _ _ _ _ _ hrow5
    have t0 : (0 : Int) ≤ (T : Int) := by omega
    have t1 : (T : Int) ≤ (out.length : Int) := by omega
    clear hD hall hv hov hbv hrow5
    simp only [Hw.putAll, List.setIfInBounds_toArray, List.set_cons_succ, List.set_cons_zero, e12, e13]
    go_wp2_with (first
      | (refine Hw.wpList_store_fieldP rfl _ _ _ rfl rfl q 2 _ rfl rfl _ _ (rfrCells b (A ++ s) out.length) HR5.out size_int (by simp [rfrCells]) rfl rfl ?_; intro w6 p6; have P6 : Hid (Hw.Put w5 _ _ _ w6) := p6; clear p6)
      | fail)
    have hz2 : w2.drew.heap.size = w.heap.size := P2.out.size
    have hK : Hw.Kept (fun k => k = q) w w6 := (P2.out.kept.next ((Below.refl w2.heap.size w2).drew.trans HBV.out)).trans P6.out.kept (fun _ _ h => h)
    have hO : Hw.ownsFrom w5 w.heap.size 9 (cutV ad T out.length cap) ((out.drop T).map strV) := by
      have h := Hw.ownsFrom_row HOV.out
      rw [hz2] at h
      have h2 := ownsFrom_cut h (lo := T) (hi := out.length) hT (by simp)
      have e : (((out.map strV).drop T).take (out.length - T)) = (out.drop T).map strV := by
        rw [← List.map_drop]
        exact List.take_of_length_le (by simp)
      rw [e] at h2
      exact h2
    go_ret2
    refine ⟨_, rfl, Hw.ownsFrom_keptS hO P6.out.kept (fun k e hk => ?_), P6.out.row, hK⟩
    have := (Hw.ownsFrom_cells hO e).1
    omega
end Go.Proofs.YtdlhbmncbmconaaGreatDoor

/- Sorted, of any script. -/
import Derived.Test.YtdlhbmncbmconaaGreatDoorEp
import Derived.Test.YtdlhbmncbmconaaGreatDoorEq
namespace Go.Proofs.YtdlhbmncbmconaaGreatDoor
open Go.RowKit Go.Sort
def sumS (ops : List OpV) (k : Nat) : Nat := ((ops.take k).map fun o => o.s.length).sum
theorem sumS_next {ops : List OpV} {k : Nat} {o : OpV} (h : ops[k]? = some o) : sumS ops (k + 1) = sumS ops k + o.s.length := by
  unfold sumS
  rw [List.take_add_one, h]
  simp
theorem sumS_le (ops : List OpV) (k : Nat) : sumS ops k ≤ (ops.map fun o => o.s.length).sum := by
  have h := congrArg (fun l : List OpV => (l.map fun o => o.s.length).sum) (List.take_append_drop k ops)
  simp only [List.map_append, List.sum_append] at h
  unfold sumS
  omega
theorem OpsAt.mono {A B : Nat} {W : World} {ad : Option Addr} {ops : List OpV} (h : OpsAt A W ad ops) (hB : A ≤ B) : OpsAt B W ad ops :=
  ⟨h.cells, fun o ho => (h.small o ho).mono hB, Nat.le_trans h.most hB, Nat.le_trans h.sum hB⟩
def SPI (w0 : World) (ops : List OpV) (k : Nat) (w : World) : Prop :=
  ∃ frs rus L n, LInv w0.heap.size w0.heap.size frs rus XT [] [] L n w ∧ 0 < frs.length ∧ frs.length ≤ k + 1 ∧ 0 < rus.length ∧ rus.length ≤ k + 1 ∧ (∀ x ∈ frs, x.C = x.A ∧ x.A.length ≤ sumS ops k) ∧ n ≤ k ∧ L ≤ 9 * k ∧ Below w0.heap.size w0 w
theorem SPI.more {w0 : World} {ops : List OpV} {k : Nat} {w : World} (h : SPI w0 ops k w) (hk : k < ops.length) : SPI w0 ops (k + 1) w := by
  obtain ⟨frs, rus, L, n, hL, f1, f2, r1, r2, hA, hn, hl, hb⟩ := h
  obtain ⟨o, ho⟩ : ∃ o, ops[k]? = some o := ⟨_, List.getElem?_eq_getElem hk⟩
  have := sumS_next ho
  exact ⟨frs, rus, L, n, hL, f1, by omega, r1, by omega, fun x hx => ⟨(hA x hx).1, by have := (hA x hx).2; omega⟩, by omega, by omega, hb⟩
theorem SPI.next {w0 : World} {ops : List OpV} {k : Nat} {w w' : World} (h : SPI w0 ops k w) (hb' : Below w.heap.size w w') : SPI w0 ops k w' := by
  obtain ⟨frs, rus, L, n, hL, f1, f2, r1, r2, hA, hn, hl, hb⟩ := h
  exact ⟨frs, rus, L, n, hL.next hb', f1, f2, r1, r2, hA, hn, hl, Below.next hb (Nat.le_refl _) hb'⟩
theorem SPI.kept {w0 : World} {ops : List OpV} {k : Nat} {w : World} (h : SPI w0 ops k w) : Calls Tryz.prog 42 #[.pointer (some ⟨w0.heap.size, 0, none⟩)] w fun r w2 => r = .returned (.bool true) ∧ SPI w0 ops k w2 := by
  have h' := h
  obtain ⟨frs, rus, L, n, hL, _⟩ := h'
  refine hL.kept.mono ?_
  rintro e w' ⟨rfl, hb⟩
  exact ⟨rfl, h.next hb⟩
theorem SPI.step {w0 : World} (hT0 : Tabs w0) (h11 : 11 ≤ w0.heap.size) {ad : Option Addr} {ops : List OpV} (hO : OpsAt 1048576 w0 ad ops) {k : Nat} {w : World} {o : OpV} (ho : ops[k]? = some o) (h3 : 3 ≤ o.kind) (h6 : o.kind ≤ 6) (h : SPI w0 ops k w) :
    Calls Tryz.prog 41 #[.pointer (some ⟨w0.heap.size, 0, none⟩), .agg (opCells o)] w fun r w2 => r = .returned (.bool true) ∧ SPI w0 ops (k + 1) w2 := by
  have hk : k < ops.length := (List.getElem?_eq_some_iff.1 ho).1
  have hmost := hO.most
  have hsm := hO.small o (List.mem_of_getElem? ho)
  have hsum := sumS_next ho
  have htot := Nat.le_trans (sumS_le ops (k + 1)) hO.sum
  obtain ⟨W, hW⟩ : ∃ W, w.alloc (.cells (opCells o) 82) = W := ⟨_, rfl⟩
  have hbW : Below w.heap.size w W := by rw [← hW]; exact (Below.refl _ _).alloc (Nat.le_refl _) _
  have h' := (h.next hbW).more hk
  have hN := h.next hbW
  obtain ⟨frs, rus, L, n, hL, f1, f2, r1, r2, hA, hn, hl, hb⟩ := hN
  have hT : Tabs W := hT0.next hb
  have hz : 11 ≤ W.heap.size := by have := hb.size; omega
  have quiet : ∀ {fn : Nat} {args : Array Value}, (Calls Tryz.prog fn args W fun e w' => e = .returned (.bool true) ∧ Below W.heap.size W w') → Calls Tryz.prog fn args W fun e w' => e = .returned (.bool true) ∧ SPI w0 ops (k + 1) w' := fun hc => hc.mono (by rintro e w' ⟨rfl, hb⟩; exact ⟨rfl, h'.next hb⟩)
  rcases (by omega : o.kind = 3 ∨ o.kind = 4 ∨ o.kind = 5 ∨ o.kind = 6) with hkd | hkd | hkd | hkd
  · refine step_3 _ o hkd w _ ?_
    rw [hW]
    by_cases hr : o.n < 1 ∨ 200 < o.n
    · exact quiet (made_frames_no _ o hkd hr W)
    · refine (made_frames hL hz (by omega) o hkd o.n.toNat (by omega) (by omega) (by omega)).mono ?_
      rintro e w' ⟨rfl, hb2, x, hxA, hxC, hL2⟩
      refine ⟨rfl, _, _, _, _, hL2, by simp, by simp; omega, r1, by omega, fun y hy => ?_, by omega, by omega, hb.trans hb2⟩
      rcases List.mem_append.1 hy with hy | hy
      · exact ⟨(hA y hy).1, by have := (hA y hy).2; omega⟩
      · simp at hy
        subst hy
        rw [hxA, hxC]
        exact ⟨rfl, Nat.zero_le _⟩
  · refine step_4 _ o hkd w _ ?_
    rw [hW]
    refine (sorts_feed hL o hkd hsm.iw f1 (by omega) (fun x hx => (hA x hx).1) (fun x hx => by have := (hA x hx).2; omega) (by omega) (by omega)).mono ?_
    rintro e w' ⟨rfl, hb2, frs', hl2, hA2, hL2⟩
    refine ⟨rfl, _, _, _, _, hL2, by omega, by omega, r1, by omega, fun y hy => ?_, by omega, by omega, hb.trans hb2⟩
    obtain ⟨hc, z, hz, hle⟩ := hA2 y hy
    have := (hA z hz).2
    exact ⟨hc, by omega⟩
  · refine step_5 _ o hkd w _ ?_
    rw [hW]
    have hs := hsm.s
    by_cases h4 : 400 < o.s.length
    · refine quiet (made_rules_no _ o hkd 1 0 W hT (fun w _ => (NewRules_long ⟨o.s.toArray⟩ w (by simpa [ByteArray.size] using h4) (by simp [ByteArray.size]; omega)).mono ?_) (fun w => (rNewRules_long o.s h4 (by omega) w).mono ?_))
      · rintro e w' ⟨rfl, rfl⟩
        exact ⟨rfl, Below.refl _ _⟩
      · rintro e w' ⟨rfl, rfl⟩
        exact ⟨rfl, Below.refl _ _⟩
    · cases hr : Hm.newRules o.s with
      | error m =>
        refine quiet (made_rules_no _ o hkd 11 m W hT (fun w hT => (NewRules_any ⟨o.s.toArray⟩ w hT (by simp [ByteArray.size]; omega)).mono ?_) (fun w => (rNewRules_any o.s (by omega) w).mono ?_))
        · rintro e w' ⟨hb, hp⟩
          rw [show (⟨o.s.toArray⟩ : ByteArray).data.toList = o.s from rfl, hr] at hp
          exact ⟨hp, hb⟩
        · rintro e w' ⟨hb, hp⟩
          rw [hr] at hp
          exact ⟨hp, hb⟩
      | ok rs =>
        refine (made_rules hL hT (by omega) o hkd (by omega) rs hr).mono ?_
        rintro e w' ⟨rfl, hb2, x, hL2⟩
        exact ⟨rfl, _, _, _, _, hL2, f1, by omega, by simp, by simp; omega, fun y hy => ⟨(hA y hy).1, by have := (hA y hy).2; omega⟩, by omega, by omega, hb.trans hb2⟩
  · refine step_6 _ o hkd w _ ?_
    rw [hW]
    exact quiet (sorts_keeps hL o hkd hsm.iv r1 (by omega))
theorem Sorted_any (ad : Option Addr) (ops : List OpV) (cap : Nat) (w : World) (hT : Tabs w) (h11 : 11 ≤ w.heap.size) (hO : OpsAt 1048576 w ad ops) : Calls Tryz.prog 4 #[.slice ad ops.length cap] w fun e w' => e = .returned (.bool true) ∧ Below w.heap.size w w' := by
  have PL : Hid (Calls Tryz.prog 17 #[.slice ad ops.length cap, .int .i64 3, .int .i64 6] w fun e w' => e = .returned (.bool true) ∧ Below w.heap.size w w') := plays_any 3 6 ad ops cap w (hO.mono (by omega)) (SPI w ops)
    ((begun_sorted 3 w hT h11).mono (by
      rintro e w' ⟨rfl, hb, x, y, hxA, hxC, hL⟩
      exact ⟨rfl, _, _, _, _, hL, by simp, by simp, by simp, by simp, fun z hz => by simp at hz; subst hz; rw [hxA, hxC]; exact ⟨rfl, Nat.zero_le _⟩, by omega, by omega, hb⟩))
    (fun k o w' ho h3 h6 h => SPI.step hT h11 hO ho h3 h6 h) (fun k w' hk h => h.more hk) (fun k w' h => h.kept) (fun k w' h => by obtain ⟨_, _, _, _, _, _, _, _, _, _, _, _, hb⟩ := h; exact hb)
  clear hO
  go_enter Tryz.func4, Tryz.ntmps4
  go_wp2_with fail
  refine PL.out.mono ?_
  rintro e w1 ⟨rfl, hb1⟩
  have HB1 : Hid (Below w.heap.size w w1) := hb1
  clear hb1
  go_wp2
  go_ret
  exact ⟨rfl, HB1.out⟩
end Go.Proofs.YtdlhbmncbmconaaGreatDoor

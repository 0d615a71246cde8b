/- Contracts: values, texts (heraldkeep). -/
import Derived.Test.YtdlhbmncbmconaaGreatDoorR5
namespace Go.Proofs.YtdlhbmncbmconaaGreatDoor
open Go.RowKit Go.Sort
attribute [local go_sem] alloc_drewN setCell_drewN

theorem strs_cell {w : World} {ls : List (List UInt8)} {t : TypeId} {j : Nat} (hj : j < ls.length) : (w.alloc (.cells (ls.map fun l => Value.string ⟨l.toArray⟩).toArray t)).cell? ⟨w.heap.size, j, none⟩ = some (.string ⟨(ls.getD j []).toArray⟩) := by
  unfold World.cell?
  rw [show (⟨w.heap.size, j, none⟩ : Addr).block = w.heap.size from rfl, heap_alloc_new]
  simp [hj, List.getD_eq_getElem?_getD]

set_option maxRecDepth 20000 in
theorem kvalue_any (c : Int) (h0 : -9223372036854775808 ≤ c) (h1 : c ≤ 9223372036854775807) (w : World) :
    Calls Tryz.prog 77 #[.int .i64 c] w fun e w' => e = .returned (.string ⟨(Hm.kvalue c).toArray⟩) ∧ Below w.heap.size w w' := by
  have PK : Hid (∀ w, Calls Tryz.prog 22 #[.int .i64 c, .int .i64 1000] w fun e w' => e = .returned (.int .i64 (Hm.pick c 1000)) ∧ w' = w) := fun w => pick_any c 1000 (by decide) (by decide) h0 h1 w
  have hq := Hm.pick_lt c (n := 1000) (by decide)
  have HV : Hid (Hm.kvalue c = Hm.kvals.getD (Hm.pick c 1000 % 10) [] ++ Hm.kvals.getD (Hm.pick c 1000 / 10 % 10) [] ++ Hm.kvals.getD (Hm.pick c 1000 / 100) []) := rfl
  generalize Hm.pick c 1000 = q at PK hq HV
  have hlen : ∀ j, j < 10 → (Hm.kvals.getD j []).length ≤ 3 := by
    intro j hj
    rcases (by omega : j = 0 ∨ j = 1 ∨ j = 2 ∨ j = 3 ∨ j = 4 ∨ j = 5 ∨ j = 6 ∨ j = 7 ∨ j = 8 ∨ j = 9) with h | h | h | h | h | h | h | h | h | h <;> subst h <;> decide
  obtain ⟨W, hW⟩ : ∃ W, w.alloc (.cells (Hm.kvals.map fun l => Value.string ⟨l.toArray⟩).toArray 9) = W := ⟨_, rfl⟩
  have hB : Below w.heap.size w W := by rw [← hW]; exact (Below.refl _ _).alloc (Nat.le_refl _) _
  have c0 : W.cell? ⟨w.heap.size, q % 10, none⟩ = some (.string ⟨(Hm.kvals.getD (q % 10) []).toArray⟩) := by rw [← hW]; exact strs_cell (show q % 10 < 10 by omega)
  have c1 : W.cell? ⟨w.heap.size, q / 10 % 10, none⟩ = some (.string ⟨(Hm.kvals.getD (q / 10 % 10) []).toArray⟩) := by rw [← hW]; exact strs_cell (show q / 10 % 10 < 10 by omega)
  have c2 : W.cell? ⟨w.heap.size, q / 100, none⟩ = some (.string ⟨(Hm.kvals.getD (q / 100) []).toArray⟩) := by rw [← hW]; exact strs_cell (show q / 100 < 10 by omega)
  have l0 := hlen (q % 10) (by omega)
  have l1 := hlen (q / 10 % 10) (by omega)
  have l2 := hlen (q / 100) (by omega)
  clear hlen
  generalize Hm.kvals.getD (q % 10) [] = A at HV c0 l0
  generalize Hm.kvals.getD (q / 10 % 10) [] = B at HV c1 l1
  generalize Hm.kvals.getD (q / 100) [] = C at HV c2 l2
  have HW : Hid (w.alloc (.cells (Hm.kvals.map fun l => Value.string ⟨l.toArray⟩).toArray 9) = W) := hW
  clear hW
  go_enter Tryz.func77, Tryz.ntmps77
  go_wp2_with fail
  have hW := HW.out
  simp only [Hm.kvals, List.map_cons, List.map_nil] at hW
  rw [hW]
  clear hW
  refine (PK.out _).mono ?_
  rintro e w1 ⟨rfl, rfl⟩
  go_wp2_with fail
  go_region
  go_wp2
  go_ret
  exact ⟨by rw [HV.out, ← app_list, ← app_list]; rfl, hB.drew⟩

set_option maxRecDepth 20000 in
theorem ktext_any (c : Int) (h0 : -9223372036854775808 ≤ c) (h1 : c ≤ 9223372036854775807) (w : World) :
    Calls Tryz.prog 45 #[.int .i64 c] w fun e w' => e = .returned (.string ⟨(Hm.ktext c).toArray⟩) ∧ Below w.heap.size w w' := by
  have PK : Hid (∀ w, Calls Tryz.prog 22 #[.int .i64 c, .int .i64 81] w fun e w' => e = .returned (.int .i64 (Hm.pick c 81)) ∧ w' = w) := fun w => pick_any c 81 (by decide) (by decide) h0 h1 w
  have hq := Hm.pick_lt c (n := 81) (by decide)
  have HV : Hid (Hm.ktext c = Hm.ktexts.getD (Hm.pick c 81 % 9) [] ++ Hm.ktexts.getD (Hm.pick c 81 / 9) []) := rfl
  generalize Hm.pick c 81 = q at PK hq HV
  have hlen : ∀ j, j < 9 → (Hm.ktexts.getD j []).length ≤ 13 := by
    intro j hj
    rcases (by omega : j = 0 ∨ j = 1 ∨ j = 2 ∨ j = 3 ∨ j = 4 ∨ j = 5 ∨ j = 6 ∨ j = 7 ∨ j = 8) with h | h | h | h | h | h | h | h | h <;> subst h <;> decide
  obtain ⟨W, hW⟩ : ∃ W, w.alloc (.cells (Hm.ktexts.map fun l => Value.string ⟨l.toArray⟩).toArray 9) = W := ⟨_, rfl⟩
  have hB : Below w.heap.size w W := by rw [← hW]; exact (Below.refl _ _).alloc (Nat.le_refl _) _
  have c0 : W.cell? ⟨w.heap.size, q % 9, none⟩ = some (.string ⟨(Hm.ktexts.getD (q % 9) []).toArray⟩) := by rw [← hW]; exact strs_cell (show q % 9 < 9 by omega)
  have c1 : W.cell? ⟨w.heap.size, q / 9, none⟩ = some (.string ⟨(Hm.ktexts.getD (q / 9) []).toArray⟩) := by rw [← hW]; exact strs_cell (show q / 9 < 9 by omega)
  have l0 := hlen (q % 9) (by omega)
  have l1 := hlen (q / 9) (by omega)
  clear hlen
  generalize Hm.ktexts.getD (q % 9) [] = A at HV c0 l0
  generalize Hm.ktexts.getD (q / 9) [] = B at HV c1 l1
  have HW : Hid (w.alloc (.cells (Hm.ktexts.map fun l => Value.string ⟨l.toArray⟩).toArray 9) = W) := hW
  clear hW
  go_enter Tryz.func45, Tryz.ntmps45
  go_wp2_with fail
  have hW := HW.out
  simp only [Hm.ktexts, List.map_cons, List.map_nil] at hW
  rw [hW]
  clear hW
  refine (PK.out _).mono ?_
  rintro e w1 ⟨rfl, rfl⟩
  go_wp2_with fail
  go_region
  go_wp2
  go_ret
  exact ⟨by rw [HV.out, ← app_list]; rfl, hB.drew⟩
end Go.Proofs.YtdlhbmncbmconaaGreatDoor

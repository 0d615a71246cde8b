/- Contracts: facility, severity (heraldkeep); Decided. -/
import Derived.Test.YtdlhbmncbmconaaGreatDoorBq
import Derived.Test.YtdlhbmncbmconaaGreatDoorR6
import Derived.Test.YtdlhbmncbmconaaGreatDoorR7
import Derived.Test.YtdlhbmncbmconaaGreatDoorMd
import Derived.Test.YtdlhbmncbmconaaGreatDoorVr
namespace Go.Hm
theorem pick_small {a n : Nat} (h : a < n) : pick (a : Int) n = a := by
  unfold pick
  rw [if_neg (by omega), Int.emod_eq_of_lt (by omega) (by omega)]
  simp
theorem step_want (rs : List RRaw) (r : RRaw) (x y : Nat) {d ft : Bool} (hd : rs.any (·.fits x y) = d) (hf : r.fits x y = ft) : rWant (rs ++ [r]) x y = (if ft = true ∧ d = false then rKeep r.keep else rWant rs x y) ∧ (rs ++ [r]).any (·.fits x y) = (d || ft) := by
  subst hd hf
  constructor
  · rw [rWant_snoc]
    cases h : rs.any (·.fits x y)
    · cases r.fits x y
      · simp [rWant_none rs x y h]
      · simp
    · simp
  · simp
end Go.Hm
namespace Go.Proofs.YtdlhbmncbmconaaGreatDoor
open Go.RowKit Go.Sort
attribute [local go_sem] alloc_drewN setCell_drewN

set_option maxRecDepth 20000 in
theorem kfacility_any (c : Int) (h0 : -9223372036854775808 ≤ c) (h1 : c ≤ 9223372036854775807) (w : World) :
    Calls Tryz.prog 30 #[.int .i64 c] w fun e w' => e = .returned (.string ⟨(Hm.facName (Hm.pick c 24)).toArray⟩) ∧ Below w.heap.size w w' := by
  have PK : Hid (∀ w, Calls Tryz.prog 22 #[.int .i64 c, .int .i64 24] w fun e w' => e = .returned (.int .i64 (Hm.pick c 24)) ∧ w' = w) := fun w => pick_any c 24 (by decide) (by decide) h0 h1 w
  have hq := Hm.pick_lt c (n := 24) (by decide)
  generalize Hm.pick c 24 = q at PK hq
  obtain ⟨W, hW⟩ : ∃ W, w.alloc (.cells (Hm.ownNames.map fun l => Value.string ⟨l.toArray⟩).toArray 9) = W := ⟨_, rfl⟩
  have hB : Below w.heap.size w W := by rw [← hW]; exact (Below.refl _ _).alloc (Nat.le_refl _) _
  have HW : Hid (w.alloc (.cells (Hm.ownNames.map fun l => Value.string ⟨l.toArray⟩).toArray 9) = W) := hW
  by_cases hlt : q < 16
  · have c0 : W.cell? ⟨w.heap.size, q, none⟩ = some (.string ⟨(Hm.ownNames.getD q []).toArray⟩) := by rw [← hW]; exact strs_cell (show q < 16 by omega)
    have HV : Hid (Hm.facName q = Hm.ownNames.getD q []) := by show _ = _; unfold Hm.facName; rw [if_pos hlt]
    have hqi : (q : Int) < 16 := by omega
    generalize Hm.ownNames.getD q [] = A at HV c0
    clear hW
    go_enter Tryz.func30, Tryz.ntmps30
    go_wp2_with fail
    have hW := HW.out
    simp only [Hm.ownNames, List.map_cons, List.map_nil] at hW
    rw [hW]
    clear hW
    refine (PK.out _).mono ?_
    rintro e w1 ⟨rfl, rfl⟩
    go_wp2
    go_ret
    exact ⟨by rw [HV.out]; rfl, hB⟩
  · have HV : Hid (Hm.facName q = [108, 111, 99, 97, 108] ++ Lib.decDigits (q - 16)) := by show _ = _; unfold Hm.facName; rw [if_neg hlt]
    have hqi : ¬ (q : Int) < 16 := by omega
    have KD : Hid (∀ w, Calls Tryz.prog 26 #[.int .i64 ((q : Int) - 16)] w fun e w' => e = .returned (.string ⟨(Lib.decDigits (q - 16)).toArray⟩) ∧ w' = w) := fun w => kdecimal_int _ _ (by omega) (by omega) w
    have hl : (Lib.decDigits (q - 16)).length ≤ 3 := Hm.dd_len3 (by omega)
    generalize Lib.decDigits (q - 16) = D at KD HV hl
    clear hW
    go_enter Tryz.func30, Tryz.ntmps30
    go_wp2_with fail
    have hW := HW.out
    simp only [Hm.ownNames, List.map_cons, List.map_nil] at hW
    rw [hW]
    clear hW
    refine (PK.out _).mono ?_
    rintro e w1 ⟨rfl, rfl⟩
    go_wp2_with fail
    refine (KD.out _).mono ?_
    rintro e w2 ⟨rfl, rfl⟩
    go_wp2
    go_ret
    exact ⟨by rw [HV.out, ← app_list]; rfl, hB⟩
set_option maxRecDepth 20000 in
theorem kseverity_any (c : Int) (h0 : -9223372036854775808 ≤ c) (h1 : c ≤ 9223372036854775807) (w : World) :
    Calls Tryz.prog 31 #[.int .i64 c] w fun e w' => e = .returned (.string ⟨(Hm.sevName (Hm.pick c 8)).toArray⟩) ∧ Below w.heap.size w w' := by
  have PK : Hid (∀ w, Calls Tryz.prog 22 #[.int .i64 c, .int .i64 8] w fun e w' => e = .returned (.int .i64 (Hm.pick c 8)) ∧ w' = w) := fun w => pick_any c 8 (by decide) (by decide) h0 h1 w
  have hq := Hm.pick_lt c (n := 8) (by decide)
  generalize Hm.pick c 8 = q at PK hq
  obtain ⟨W, hW⟩ : ∃ W, w.alloc (.cells (Hm.severityNames.map fun l => Value.string ⟨l.toArray⟩).toArray 9) = W := ⟨_, rfl⟩
  have hB : Below w.heap.size w W := by rw [← hW]; exact (Below.refl _ _).alloc (Nat.le_refl _) _
  have HW : Hid (w.alloc (.cells (Hm.severityNames.map fun l => Value.string ⟨l.toArray⟩).toArray 9) = W) := hW
  have c0 : W.cell? ⟨w.heap.size, q, none⟩ = some (.string ⟨(Hm.severityNames.getD q []).toArray⟩) := by rw [← hW]; exact strs_cell (show q < 8 by omega)
  have HV : Hid (Hm.sevName q = Hm.severityNames.getD q []) := rfl
  generalize Hm.severityNames.getD q [] = A at HV c0
  clear hW
  go_enter Tryz.func31, Tryz.ntmps31
  go_wp2_with fail
  have hW := HW.out
  simp only [Hm.severityNames, List.map_cons, List.map_nil] at hW
  rw [hW]
  clear hW
  refine (PK.out _).mono ?_
  rintro e w1 ⟨rfl, rfl⟩
  go_wp2
  go_ret
  exact ⟨by rw [HV.out]; rfl, hB⟩
end Go.Proofs.YtdlhbmncbmconaaGreatDoor

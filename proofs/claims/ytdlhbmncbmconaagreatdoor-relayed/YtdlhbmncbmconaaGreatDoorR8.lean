/- Contracts: data (heraldkeep). -/
import Derived.Test.YtdlhbmncbmconaaGreatDoorR7
namespace Go.Hm
theorem kvals_len : ∀ j, j < 10 → (kvals.getD j []).length ≤ 3 := by
  intro j hj
  rcases (by omega : j = 0 ∨ j = 1 ∨ j = 2 ∨ j = 3 ∨ j = 4 ∨ j = 5 ∨ j = 6 ∨ j = 7 ∨ j = 8 ∨ j = 9) with h | h | h | h | h | h | h | h | h | h <;> subst h <;> decide
theorem kvalue_len (c : Int) : (kvalue c).length ≤ 9 := by
  have hp := pick_lt c (n := 1000) (by decide)
  have a := kvals_len (pick c 1000 % 10) (by omega)
  have b := kvals_len (pick c 1000 / 10 % 10) (by omega)
  have d := kvals_len (pick c 1000 / 100) (by omega)
  unfold kvalue
  simp only [List.length_append]
  omega
end Go.Hm
namespace Go.Proofs.YtdlhbmncbmconaaGreatDoor
open Go.RowKit Go.Sort
attribute [local go_sem] alloc_drewN setCell_drewN

set_option maxRecDepth 20000 in
set_option maxHeartbeats 2000000 in
theorem kdata_any (c : Int) (h0 : -9223372036854775808 ≤ c) (h1 : c ≤ 9223372036854775807) (w : World) :
    Calls Tryz.prog 44 #[.int .i64 c] w fun e w' => e = .returned (.string ⟨(Hm.kdata c).toArray⟩) ∧ Below w.heap.size w w' := by
  have PK : Hid (∀ w, Calls Tryz.prog 22 #[.int .i64 c, .int .i64 4] w fun e w' => e = .returned (.int .i64 (Hm.pick c 4)) ∧ w' = w) := fun w => pick_any c 4 (by decide) (by decide) h0 h1 w
  have hq := Hm.pick_lt c (n := 4) (by decide)
  have t5 := Hm.tdiv_bd (d := 5) h0 h1 (by omega)
  have t13 := Hm.tdiv_bd (d := 13) h0 h1 (by omega)
  have HD : Hid (Hm.kdata c = (List.range (Hm.pick c 4)).flatMap fun i => Hm.kelem c i) := rfl
  generalize Hm.pick c 4 = q at PK hq HD
  go_enter Tryz.func44, Tryz.ntmps44
  go_wp2_with fail
  refine (PK.out _).mono ?_
  rintro e w1 ⟨rfl, rfl⟩
  go_wp2_with fail
  go_loopw [4, 5] (fun sv iv wr => ∃ (i : Nat) (t : List UInt8), i ≤ q ∧ iv = .int .i64 i ∧ sv = .string ⟨t.toArray⟩ ∧ t = ((List.range i).flatMap fun i => Hm.kelem c i) ∧ t.length ≤ 1000 * i ∧ Below w1.heap.size w1 wr) (fun _ iv _ => q - (intOf iv).toNat)
  case atStart => exact ⟨0, [], by omega, rfl, rfl, rfl, by simp, Below.refl _ _⟩
  case round =>
    obtain ⟨i, t, hi, rfl, rfl, ht, htl, hb⟩ := hrel
    have HB : Hid (Below w1.heap.size w1 wr) := hb
    have HT : Hid (t = ((List.range i).flatMap fun i => Hm.kelem c i)) := ht
    clear hb ht
    by_cases hlt : i < q
    · have hli : (i : Int) < (q : Int) := by omega
      have D1 : Hid (∀ w, Calls Tryz.prog 26 #[.int .i64 (i : Int)] w fun e w' => e = .returned (.string ⟨(Lib.decDigits i).toArray⟩) ∧ w' = w) := fun w => kdecimal_any i (by omega) w
      have PK2 : Hid (∀ w, Calls Tryz.prog 22 #[.int .i64 (c.tdiv 5 + (i : Int)), .int .i64 3] w fun e w' => e = .returned (.int .i64 (Hm.pick (c.tdiv 5 + (i : Int)) 3)) ∧ w' = w) := fun w => pick_any _ 3 (by decide) (by decide) (by omega) (by omega) w
      have hk := Hm.pick_lt (c.tdiv 5 + (i : Int)) (n := 3) (by decide)
      have HE : Hid (Hm.kelem c i = 91 :: ((101 :: Lib.decDigits i) ++ (Hm.kpairs c i (Hm.pick (c.tdiv 5 + i) 3) ++ [93]))) := rfl
      have ld : (Lib.decDigits i).length = 1 := by rw [Hm.dd1 (by omega)]; rfl
      generalize Hm.pick (c.tdiv 5 + (i : Int)) 3 = k at PK2 hk HE
      generalize Lib.decDigits i = di at D1 ld HE
      go_wp2_with fail
      refine (D1.out _).mono ?_
      rintro e w2 ⟨rfl, rfl⟩
      go_wp2_with fail
      refine (PK2.out _).mono ?_
      rintro e w3 ⟨rfl, rfl⟩
      go_wp2_with fail
      go_loopw [4, 7] (fun sv jv wx => ∃ (j : Nat) (u : List UInt8), j ≤ k ∧ jv = .int .i64 j ∧ sv = .string ⟨u.toArray⟩ ∧ u = t ++ (91 :: 101 :: (di ++ Hm.kpairs c i j)) ∧ u.length ≤ 1000 * i + 10 + 100 * j ∧ Below w3.heap.size w3 wx) (fun _ jv _ => k - (intOf jv).toNat)
      case atStart =>
        refine ⟨0, t ++ (91 :: 101 :: di), by omega, rfl, ?_, by simp [Hm.kpairs], by simp [ld]; omega, Below.refl _ _⟩
        exact congrArg Value.string (ByteArray.ext (by simp))
      case round =>
        obtain ⟨j, u, hj, rfl, rfl, hu, hul, hb2⟩ := hrel
        have HB2 : Hid (Below w3.heap.size w3 wr) := hb2
        have HU : Hid (u = t ++ (91 :: 101 :: (di ++ Hm.kpairs c i j))) := hu
        clear hb2 hu
        by_cases hjk : j < k
        · have hjl : (j : Int) < (k : Int) := by omega
          have D2 : Hid (∀ w, Calls Tryz.prog 26 #[.int .i64 (j : Int)] w fun e w' => e = .returned (.string ⟨(Lib.decDigits j).toArray⟩) ∧ w' = w) := fun w => kdecimal_any j (by omega) w
          have V2 : Hid (∀ w, Calls Tryz.prog 77 #[.int .i64 (c.tdiv 13 + (i : Int) + (j : Int))] w fun e w' => e = .returned (.string ⟨(Hm.kvalue (c.tdiv 13 + i + j)).toArray⟩) ∧ Below w.heap.size w w') := fun w => kvalue_any _ (by omega) (by omega) w
          have lv := Hm.kvalue_len (c.tdiv 13 + i + j)
          have HP : Hid (Hm.kpairs c i (j + 1) = Hm.kpairs c i j ++ 32 :: ((110 :: Lib.decDigits j) ++ 61 :: 34 :: (Hm.kvalue (c.tdiv 13 + i + j) ++ [34]))) := by
            show _ = _
            unfold Hm.kpairs
            rw [List.range_succ, List.flatMap_append]
            simp [Hm.kpair, Hm.pairB]
          have lj : (Lib.decDigits j).length = 1 := by rw [Hm.dd1 (by omega)]; rfl
          generalize Hm.kvalue (c.tdiv 13 + i + j) = vj at V2 lv HP
          generalize Lib.decDigits j = dj at D2 lj HP
          go_wp2_with fail
          refine (D2.out _).mono ?_
          rintro e w4 ⟨rfl, rfl⟩
          go_wp2_with fail
          refine (V2.out _).mono ?_
          rintro e w5 ⟨rfl, hb5⟩
          have HB5 : Hid (Below w3.heap.size w3 w5) := Below.next HB2.out (Nat.le_refl _) hb5
          clear hb5
          go_wp2
          go_roundw
          case rel =>
            refine ⟨j + 1, u ++ (32 :: 110 :: (dj ++ 61 :: 34 :: (vj ++ [34]))), by omega, int_eq (by simp), ?_, ?_, by simp; omega, HB5.out⟩
            · exact congrArg Value.string (ByteArray.ext (by simp))
            · rw [HU.out, HP.out]
              simp
          case measure => simp [intOf]; omega
        · have hjl : ¬ (j : Int) < (k : Int) := by omega
          have hjk2 : j = k := by omega
          subst hjk2
          go_wp2
          go_roundw
          case rel =>
            refine ⟨i + 1, u ++ [93], by omega, int_eq (by simp), ?_, ?_, by simp; omega, Below.next HB.out (Nat.le_refl _) HB2.out⟩
            · exact congrArg Value.string (ByteArray.ext (by simp))
            · rw [HU.out, HT.out, List.range_succ, List.flatMap_append]
              simp [HE.out]
          case measure => simp [intOf]; omega
    · have hli : ¬ (i : Int) < (q : Int) := by omega
      have hiq : i = q := by omega
      subst hiq
      go_wp2
      go_ret
      exact ⟨by rw [HD.out, ← HT.out]; rfl, HB.out⟩
end Go.Proofs.YtdlhbmncbmconaaGreatDoor

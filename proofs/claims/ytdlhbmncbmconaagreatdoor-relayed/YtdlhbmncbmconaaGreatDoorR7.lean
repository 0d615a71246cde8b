/- Contracts: moments, data (heraldkeep). -/
import Derived.Test.YtdlhbmncbmconaaGreatDoorR6
namespace Go.Proofs.YtdlhbmncbmconaaGreatDoor
open Go.RowKit Go.Sort
attribute [local go_sem] alloc_drewN setCell_drewN

theorem ktwo_int (z : Int) (n : Nat) (hz : z = n) (hn : n < 100) (w : World) :
    Calls Tryz.prog 24 #[.int .i64 z] w fun e w' => e = .returned (.string ⟨(Hm.d2 n).toArray⟩) ∧ Below w.heap.size w w' := by
  subst hz
  have h := ktwo_any n (by omega) w
  rw [Nat.mod_eq_of_lt hn] at h
  exact h.mono fun e w' ⟨he, k, hk⟩ => ⟨he, drew_below ⟨k, hk⟩⟩
theorem kdecimal_int (z : Int) (n : Nat) (hz : z = n) (hn : n ≤ 9223372036854775807) (w : World) :
    Calls Tryz.prog 26 #[.int .i64 z] w fun e w' => e = .returned (.string ⟨(Lib.decDigits n).toArray⟩) ∧ w' = w := by
  subst hz
  exact kdecimal_any n hn w

theorem mill_no {q : Nat} (h : Hid (1000000 ≤ q)) : ((q : Int) < 1000000) = False := by
  have := h.out
  exact eq_false (by omega)
attribute [local go_sem] mill_no
set_option maxRecDepth 20000 in
set_option maxHeartbeats 2000000 in
theorem kmoment_any (day second part : Int) (a0 : -9223372036854775808 ≤ day) (a1 : day ≤ 9223372036854775807) (b0 : -9223372036854775808 ≤ second) (b1 : second ≤ 9223372036854775807) (c0 : -9223372036854775808 ≤ part) (c1 : part ≤ 9223372036854775807) (w : World) :
    Calls Tryz.prog 23 #[.int .i64 day, .int .i64 second, .int .i64 part] w fun e w' => e = .returned (.string ⟨(Hm.kmoment day second part).toArray⟩) ∧ Below w.heap.size w w' := by
  have t7 := Hm.tdiv_bd (d := 7) a0 a1 (by omega)
  have t11 := Hm.tdiv_bd (d := 11) a0 a1 (by omega)
  have hmo := Hm.kmonth_bd day
  have hyr := Hm.kyear_bd day
  have hdy := Hm.kday_bd day
  have hdd := Hm.daysOf_bd (Hm.kyear day) (Hm.kmonth day) (by omega) (by omega)
  have P1 : Hid (∀ w, Calls Tryz.prog 22 #[.int .i64 day, .int .i64 9999] w fun e w' => e = .returned (.int .i64 (Hm.pick day 9999)) ∧ w' = w) := fun w => pick_any day 9999 (by decide) (by decide) a0 a1 w
  have P2 : Hid (∀ w, Calls Tryz.prog 22 #[.int .i64 (day.tdiv 7), .int .i64 12] w fun e w' => e = .returned (.int .i64 (Hm.pick (day.tdiv 7) 12)) ∧ w' = w) := fun w => pick_any _ 12 (by decide) (by decide) (by omega) (by omega) w
  have P3 : Hid (∀ w, Calls Tryz.prog 25 #[.int .i64 (1 + (Hm.pick day 9999 : Int)), .int .i64 (1 + (Hm.pick (day.tdiv 7) 12 : Int))] w fun e w' => e = .returned (.int .i64 ((Hm.daysOf (Hm.kyear day) (Hm.kmonth day)).toNat : Int)) ∧ w' = w) := fun w => by
    have := kdays_any (Hm.kyear day) (Hm.kmonth day) (by omega) hmo.1 hmo.2 w
    rw [Int.toNat_of_nonneg (by omega)]
    have e1 : (1 + (Hm.pick day 9999 : Int)) = (Hm.kyear day : Int) := by unfold Hm.kyear; omega
    have e2 : (1 + (Hm.pick (day.tdiv 7) 12 : Int)) = (Hm.kmonth day : Int) := by unfold Hm.kmonth; omega
    rw [e1, e2]
    exact this
  have P4 : Hid (∀ w, Calls Tryz.prog 22 #[.int .i64 (day.tdiv 11), .int .i64 ((Hm.daysOf (Hm.kyear day) (Hm.kmonth day)).toNat : Int)] w fun e w' => e = .returned (.int .i64 (Hm.pick (day.tdiv 11) (Hm.daysOf (Hm.kyear day) (Hm.kmonth day)).toNat)) ∧ w' = w) := fun w => pick_any _ _ (by omega) (by omega) (by omega) (by omega) w
  have P5 : Hid (∀ w, Calls Tryz.prog 22 #[.int .i64 second, .int .i64 86400] w fun e w' => e = .returned (.int .i64 (Hm.pick second 86400)) ∧ w' = w) := fun w => pick_any second 86400 (by decide) (by decide) b0 b1 w
  have P6 : Hid (∀ w, Calls Tryz.prog 22 #[.int .i64 part, .int .i64 2000000] w fun e w' => e = .returned (.int .i64 (Hm.pick part 2000000)) ∧ w' = w) := fun w => pick_any part 2000000 (by decide) (by decide) c0 c1 w
  have hs := Hm.pick_lt second (n := 86400) (by decide)
  have hn := Hm.pick_lt part (n := 2000000) (by decide)
  have HK : Hid (Hm.kmoment day second part = (Hm.d2 (Hm.kyear day / 100) ++ Hm.d2 (Hm.kyear day % 100) ++ [45] ++ Hm.d2 (Hm.kmonth day) ++ [45] ++ Hm.d2 (Hm.kday day) ++ [84] ++ Hm.d2 (Hm.pick second 86400 / 3600) ++ [58] ++ Hm.d2 (Hm.pick second 86400 / 60 % 60) ++ [58] ++ Hm.d2 (Hm.pick second 86400 % 60)) ++ ((if Hm.pick part 2000000 < 1000000 ∧ 0 < Hm.pick part 2000000 % 10 then 46 :: Lib.decDigits (Hm.pick part 2000000 % 1000000) else []) ++ [90])) := rfl
  have ey : (Hm.kyear day : Int) = 1 + (Hm.pick day 9999 : Int) := by unfold Hm.kyear; omega
  have em : (Hm.kmonth day : Int) = 1 + (Hm.pick (day.tdiv 7) 12 : Int) := by unfold Hm.kmonth; omega
  have ed : (Hm.kday day : Int) = 1 + (Hm.pick (day.tdiv 11) (Hm.daysOf (Hm.kyear day) (Hm.kmonth day)).toNat : Int) := by unfold Hm.kday; omega
  have hdb : Hm.kday day ≤ 31 := by omega
  generalize hD : (Hm.daysOf (Hm.kyear day) (Hm.kmonth day)).toNat = D at P3 P4 ed
  have hD2 : D ≤ 31 ∧ 28 ≤ D := by omega
  clear hD hdd hdy
  generalize Hm.pick (day.tdiv 11) D = q4 at P4 ed
  generalize Hm.pick (day.tdiv 7) 12 = q2 at P2 P3 em
  generalize Hm.pick day 9999 = q1 at P1 P3 ey
  generalize Hm.pick second 86400 = q5 at P5 hs HK
  generalize Hm.pick part 2000000 = q6 at P6 hn HK
  generalize Hm.kyear day = Y at HK ey hyr
  generalize Hm.kmonth day = M at HK em hmo
  generalize Hm.kday day = Dy at HK ed hdb
  have T1 : Hid (∀ w, Calls Tryz.prog 24 #[.int .i64 ((1 + (q1 : Int)) / 100)] w fun e w' => e = .returned (.string ⟨(Hm.d2 (Y / 100)).toArray⟩) ∧ Below w.heap.size w w') := fun w => ktwo_int _ _ (by omega) (by omega) w
  have T2 : Hid (∀ w, Calls Tryz.prog 24 #[.int .i64 ((1 + (q1 : Int)) % 100)] w fun e w' => e = .returned (.string ⟨(Hm.d2 (Y % 100)).toArray⟩) ∧ Below w.heap.size w w') := fun w => ktwo_int _ _ (by omega) (by omega) w
  have T3 : Hid (∀ w, Calls Tryz.prog 24 #[.int .i64 (1 + (q2 : Int))] w fun e w' => e = .returned (.string ⟨(Hm.d2 M).toArray⟩) ∧ Below w.heap.size w w') := fun w => ktwo_int _ _ (by omega) (by omega) w
  have T4 : Hid (∀ w, Calls Tryz.prog 24 #[.int .i64 (1 + (q4 : Int))] w fun e w' => e = .returned (.string ⟨(Hm.d2 Dy).toArray⟩) ∧ Below w.heap.size w w') := fun w => ktwo_int _ _ (by omega) (by omega) w
  have T5 : Hid (∀ w, Calls Tryz.prog 24 #[.int .i64 ((q5 : Int) / 3600)] w fun e w' => e = .returned (.string ⟨(Hm.d2 (q5 / 3600)).toArray⟩) ∧ Below w.heap.size w w') := fun w => ktwo_int _ _ (by omega) (by omega) w
  have T6 : Hid (∀ w, Calls Tryz.prog 24 #[.int .i64 ((q5 : Int) / 60 % 60)] w fun e w' => e = .returned (.string ⟨(Hm.d2 (q5 / 60 % 60)).toArray⟩) ∧ Below w.heap.size w w') := fun w => ktwo_int _ _ (by omega) (by omega) w
  have T7 : Hid (∀ w, Calls Tryz.prog 24 #[.int .i64 ((q5 : Int) % 60)] w fun e w' => e = .returned (.string ⟨(Hm.d2 (q5 % 60)).toArray⟩) ∧ Below w.heap.size w w') := fun w => ktwo_int _ _ (by omega) (by omega) w
  have T8 : Hid (∀ w, Calls Tryz.prog 26 #[.int .i64 ((q6 : Int) % 1000000)] w fun e w' => e = .returned (.string ⟨(Lib.decDigits (q6 % 1000000)).toArray⟩) ∧ w' = w) := fun w => kdecimal_int _ _ (by omega) (by omega) w
  have hl8 : (Lib.decDigits (q6 % 1000000)).length ≤ 6 := Hm.dd_len6 (by omega)
  have n1 : (Hm.d2 (Y / 100)).length = 2 := rfl
  have n2 : (Hm.d2 (Y % 100)).length = 2 := rfl
  have n3 : (Hm.d2 M).length = 2 := rfl
  have n4 : (Hm.d2 Dy).length = 2 := rfl
  have n5 : (Hm.d2 (q5 / 3600)).length = 2 := rfl
  have n6 : (Hm.d2 (q5 / 60 % 60)).length = 2 := rfl
  have n7 : (Hm.d2 (q5 % 60)).length = 2 := rfl
  generalize Hm.d2 (Y / 100) = X1 at HK T1 n1
  generalize Hm.d2 (Y % 100) = X2 at HK T2 n2
  generalize Hm.d2 M = X3 at HK T3 n3
  generalize Hm.d2 Dy = X4 at HK T4 n4
  generalize Hm.d2 (q5 / 3600) = X5 at HK T5 n5
  generalize Hm.d2 (q5 / 60 % 60) = X6 at HK T6 n6
  generalize Hm.d2 (q5 % 60) = X7 at HK T7 n7
  generalize Lib.decDigits (q6 % 1000000) = X8 at HK T8 hl8
  have hq1 : q1 ≤ 9999 := by omega
  have hq2 : q2 ≤ 12 := by omega
  have hq4 : q4 ≤ 31 := by omega
  clear a0 a1 b0 b1 c0 c1 hmo hyr ey em ed hdb
  go_enter Tryz.func23, Tryz.ntmps23
  go_wp2_with fail
  refine (P1.out _).mono ?_
  rintro e w1 ⟨rfl, rfl⟩
  go_wp2_with fail
  refine (P2.out _).mono ?_
  rintro e w2 ⟨rfl, rfl⟩
  go_wp2_with fail
  refine (P3.out _).mono ?_
  rintro e w3 ⟨rfl, rfl⟩
  go_wp2_with fail
  refine (P4.out _).mono ?_
  rintro e w4 ⟨rfl, rfl⟩
  go_wp2_with fail
  refine (P5.out _).mono ?_
  rintro e w5 ⟨rfl, rfl⟩
  go_wp2_with fail
  refine (T1.out _).mono ?_
  rintro e v1 ⟨rfl, k1⟩
  go_wp2_with fail
  refine (T2.out _).mono ?_
  rintro e v2 ⟨rfl, k2⟩
  go_wp2_with fail
  refine (T3.out _).mono ?_
  rintro e v3 ⟨rfl, k3⟩
  go_wp2_with fail
  refine (T4.out _).mono ?_
  rintro e v4 ⟨rfl, k4⟩
  go_wp2_with fail
  refine (T5.out _).mono ?_
  rintro e v5 ⟨rfl, k5⟩
  go_wp2_with fail
  refine (T6.out _).mono ?_
  rintro e v6 ⟨rfl, k6⟩
  go_wp2_with fail
  refine (T7.out _).mono ?_
  rintro e v7 ⟨rfl, k7⟩
  have HB : Hid (Below w5.heap.size w5 v7) := Below.next (Below.next (Below.next (Below.next (Below.next (Below.next k1 (Nat.le_refl _) k2) (Nat.le_refl _) k3) (Nat.le_refl _) k4) (Nat.le_refl _) k5) (Nat.le_refl _) k6) (Nat.le_refl _) k7
  clear k1 k2 k3 k4 k5 k6 k7
  go_wp2_with fail
  refine (P6.out _).mono ?_
  rintro e w6 ⟨rfl, rfl⟩
  by_cases hc : q6 < 1000000
  · have hc' : (q6 : Int) < 1000000 := by omega
    by_cases hd : 0 < q6 % 10
    · have hd' : (0 : Int) < (q6 : Int) % 10 := by omega
      rw [if_pos ⟨hc, hd⟩] at HK
      clear hc hd
      go_wp2_with fail
      refine (T8.out _).mono ?_
      rintro e w7 ⟨rfl, rfl⟩
      go_wp2
      go_ret
      refine ⟨?_, HB.out⟩
      rw [HK.out]
      refine congrArg (fun b => Ending.returned (.string b)) (ByteArray.ext ?_)
      simp
    · have hd' : (q6 : Int) % 10 = 0 := by omega
      rw [if_neg (fun h => hd h.2)] at HK
      clear hc hd hs hn t7 t11 hD2 hq1 hq2 hq4 hl8 T1 T2 T3 T4 T5 T6 T7 T8 P1 P2 P3 P4 P5 P6
      go_wp2_with fail
      go_ret
      refine ⟨?_, HB.out⟩
      rw [HK.out]
      refine congrArg (fun b => Ending.returned (.string b)) (ByteArray.ext ?_)
      simp
  · have HN : Hid (1000000 ≤ q6) := Nat.le_of_not_lt hc
    rw [if_neg (fun h => hc h.1)] at HK
    clear hc hs hn t7 t11 hD2 hq1 hq2 hq4 hl8 T1 T2 T3 T4 T5 T6 T7 T8 P1 P2 P3 P4 P5 P6
    go_wp2
    go_ret
    refine ⟨?_, HB.out⟩
    rw [HK.out]
    refine congrArg (fun b => Ending.returned (.string b)) (ByteArray.ext ?_)
    simp
end Go.Proofs.YtdlhbmncbmconaaGreatDoor

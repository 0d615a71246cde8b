/- Contracts: numbers in words (heraldkeep). -/
import Derived.Test.YtdlhbmncbmconaaGreatDoorBe
import Derived.Test.YtdlhbmncbmconaaGreatDoorMb
import Derived.Test.YtdlhbmncbmconaaGreatDoorBq
import Derived.BigRegion
namespace Go.Hm
theorem dd_pow : ∀ (k n : Nat), n < 10 ^ (k + 1) → (Lib.decDigits n).length ≤ k + 1
  | 0, n, h => by rw [dd1 (by simpa using h)]; simp
  | k + 1, n, h => by
    by_cases h1 : n < 10
    · rw [dd1 h1]; simp
    · rw [dd2 h1]
      have := dd_pow k (n / 10) (by rw [Nat.pow_succ] at h; omega)
      simp only [List.length_append, List.length_cons, List.length_nil]
      omega
theorem dd_len19 {n : Nat} (h : n ≤ 9223372036854775807) : (Lib.decDigits n).length ≤ 20 := by
  have := dd_pow 18 n (by omega)
  omega
theorem tdiv_bd {c d : Int} (h0 : -9223372036854775808 ≤ c) (h1 : c ≤ 9223372036854775807) (hd : d = 3 ∨ d = 5 ∨ d = 7 ∨ d = 11 ∨ d = 13 ∨ d = 24) : -4000000000000000000 ≤ c.tdiv d ∧ c.tdiv d ≤ 4000000000000000000 := by
  rcases Int.le_total 0 c with hc | hc
  · have e := Int.tdiv_eq_ediv_of_nonneg (a := c) (b := d) hc
    rcases hd with rfl | rfl | rfl | rfl | rfl | rfl <;> omega
  · have e := Int.neg_tdiv (-c) d
    have e2 := Int.tdiv_eq_ediv_of_nonneg (a := -c) (b := d) (by omega)
    rw [Int.neg_neg] at e
    rcases hd with rfl | rfl | rfl | rfl | rfl | rfl <;> omega
end Go.Hm
namespace Go.Proofs.YtdlhbmncbmconaaGreatDoor
open Go.RowKit Go.Sort
attribute [local go_sem] alloc_drewN setCell_drewN

theorem ten_at {k : Nat} (h : k < 10) : (⟨#[48, 49, 50, 51, 52, 53, 54, 55, 56, 57]⟩ : ByteArray).extract k (k + 1) = ⟨#[UInt8.ofNat (48 + k)]⟩ := by
  rcases (by omega : k = 0 ∨ k = 1 ∨ k = 2 ∨ k = 3 ∨ k = 4 ∨ k = 5 ∨ k = 6 ∨ k = 7 ∨ k = 8 ∨ k = 9) with h | h | h | h | h | h | h | h | h | h <;> subst h <;> decide
theorem app_list (a b : List UInt8) : (⟨a.toArray⟩ : ByteArray) ++ ⟨b.toArray⟩ = ⟨(a ++ b).toArray⟩ := by
  apply ByteArray.ext
  simp

theorem kdecimal_any (n : Nat) (hn : n ≤ 9223372036854775807) (w : World) :
    Calls Tryz.prog 26 #[.int .i64 n] w fun e w' => e = .returned (.string ⟨(Lib.decDigits n).toArray⟩) ∧ w' = w := by
  have hl := Hm.dd_len19 hn
  go_enter Tryz.func26, Tryz.ntmps26
  go_wp2_with fail
  go_loopw [0, 3] (fun nv sv wr => ∃ (k : Nat) (t : List UInt8), k ≤ n ∧ nv = .int .i64 k ∧ sv = .string ⟨t.toArray⟩ ∧ Lib.decDigits n = Lib.decDigits k ++ t ∧ wr = w) (fun nv _ _ => (intOf nv).toNat)
  case atStart => exact ⟨n, [], Nat.le_refl _, rfl, rfl, by simp, rfl⟩
  case round =>
    obtain ⟨k, t, hk, rfl, rfl, hd, rfl⟩ := hrel
    have htl : t.length ≤ 20 := by
      have := congrArg List.length hd
      rw [List.length_append] at this
      omega
    have HD : Hid (Lib.decDigits n = Lib.decDigits k ++ t) := hd
    clear hd hl
    by_cases h9 : 9 < k
    · have hi : (9 : Int) < (k : Int) := by omega
      have hcl : ¬ 9223372036854775807 < min (k % 10 + 1) 10 - k % 10 + t.length := by omega
      go_wp2
      go_roundw
      case rel =>
        refine ⟨k / 10, UInt8.ofNat (48 + k % 10) :: t, by omega, int_eq (by simp), ?_, ?_, trivial⟩
        · rw [ten_at (by omega), show (⟨#[UInt8.ofNat (48 + k % 10)]⟩ : ByteArray) = ⟨[UInt8.ofNat (48 + k % 10)].toArray⟩ from rfl, app_list]
          rfl
        · rw [HD.out, Hm.dd2 (show ¬ k < 10 by omega)]
          simp
      case measure => simp [intOf]; omega
    · have hi : ¬ (9 : Int) < (k : Int) := by omega
      have hcl : ¬ 9223372036854775807 < min (k + 1) 10 - k + t.length := by omega
      have hkk : (k : Int) ≤ 9 := by omega
      go_wp2
      go_ret
      refine ⟨?_, rfl⟩
      rw [ten_at (by omega), show (⟨#[UInt8.ofNat (48 + k)]⟩ : ByteArray) = ⟨[UInt8.ofNat (48 + k)].toArray⟩ from rfl, app_list, HD.out, Hm.dd1 (by omega)]
      rfl

theorem ktwo_any (n : Nat) (hn : n ≤ 9223372036854775807) (w : World) :
    Calls Tryz.prog 24 #[.int .i64 n] w fun e w' => e = .returned (.string ⟨(Hm.d2 (n % 100)).toArray⟩) ∧ ∃ k, w' = w.drewN k := by
  have HE : Hid ((⟨#[48, 49, 50, 51, 52, 53, 54, 55, 56, 57]⟩ : ByteArray).extract (n / 10 % 10) (n / 10 % 10 + 1) ++ (⟨#[48, 49, 50, 51, 52, 53, 54, 55, 56, 57]⟩ : ByteArray).extract (n % 10) (n % 10 + 1) = ⟨(Hm.d2 (n % 100)).toArray⟩) := by
    show _ = _
    rw [ten_at (by omega), ten_at (by omega), show (⟨#[UInt8.ofNat (48 + n / 10 % 10)]⟩ : ByteArray) = ⟨[UInt8.ofNat (48 + n / 10 % 10)].toArray⟩ from rfl, show (⟨#[UInt8.ofNat (48 + n % 10)]⟩ : ByteArray) = ⟨[UInt8.ofNat (48 + n % 10)].toArray⟩ from rfl, app_list]
    unfold Hm.d2
    rw [show n % 100 / 10 = n / 10 % 10 by omega, show n % 100 % 10 = n % 10 by omega]
    rfl
  go_enter Tryz.func24, Tryz.ntmps24
  go_wp2_with fail
  go_region
  go_wp2
  go_ret
  exact ⟨by rw [← HE.out]; rfl, 1, rfl⟩

theorem one_back (w : World) (x : UInt8) (u : Int) (hu : u = x.toNat) :
    (convert 72 9 (.slice (some ⟨w.heap.size, 0, none⟩) 1 1)).run Tryz.prog (w.alloc (.cells #[.int .u8 u] 5)) = .ok (.string ⟨#[x]⟩) (w.alloc (.cells #[.int .u8 u] 5)) := by
  subst hu
  exact run_convert_bytes_back _ 72 9 5 ⟨w.heap.size, 0, none⟩ 1 [x] Tryz.underlying72 Tryz.underlying5 Tryz.underlying9 (fun j hj => by
    obtain rfl : j = 0 := by simpa using hj
    simp [Addr.add])
set_option maxRecDepth 20000 in
theorem kplain_any (c : Int) (h0 : -9223372036854775808 ≤ c) (h1 : c ≤ 9223372036854775807) (most : Nat) (hm : most ≤ 100) (w : World) :
    Calls Tryz.prog 46 #[.int .i64 c, .int .i64 most] w fun e w' => e = .returned (.string ⟨(Hm.kplain c most).toArray⟩) ∧ Below w.heap.size w w' := by
  have PK : Hid (∀ w, Calls Tryz.prog 22 #[.int .i64 c, .int .i64 40] w fun e w' => e = .returned (.int .i64 (Hm.pick c 40)) ∧ w' = w) := fun w => pick_any c 40 (by decide) (by decide) h0 h1 w
  have hq := Hm.pick_lt c (n := 40) (by decide)
  have HP : Hid (Hm.kplain c most = if Hm.kbytes c (min (Hm.pick c 40) most) = [45] then [] else Hm.kbytes c (min (Hm.pick c 40) most)) := rfl
  generalize Hm.pick c 40 = q at PK hq HP
  go_enter Tryz.func46, Tryz.ntmps46
  go_wp2_with fail
  refine (PK.out _).mono ?_
  rintro e w1 ⟨rfl, rfl⟩
  go_wp2_with fail
  go_loopw [6, 7] (fun sv iv wr => ∃ k : Nat, k ≤ min q most ∧ iv = .int .i64 k ∧ sv = .string ⟨(Hm.kbytes c k).toArray⟩ ∧ Below w1.heap.size w1 wr) (fun _ iv _ => min q most - (intOf iv).toNat)
  case atStart => exact ⟨0, by omega, rfl, rfl, Below.refl _ _⟩
  case round =>
    obtain ⟨k, hk, rfl, rfl, hb⟩ := hrel
    have HB : Hid (Below w1.heap.size w1 wr) := hb
    clear hb
    by_cases hlt : k < min q most
    · have l1 : (k : Int) < (q : Int) := by omega
      have l2 : (k : Int) < (most : Int) := by omega
      have hd := Hm.tdiv_bd (d := 7) h0 h1 (by omega)
      have hkk : (k : Int) * (k : Int) ≤ 1600 := by
        have : k * k ≤ 40 * 40 := Nat.mul_le_mul (by omega) (by omega)
        have e : (k : Int) * (k : Int) = ((k * k : Nat) : Int) := by simp
        omega
      have hk0 : (0 : Int) ≤ (k : Int) * (k : Int) := by
        have e : (k : Int) * (k : Int) = ((k * k : Nat) : Int) := by simp
        omega
      have PK2 : Hid (∀ w, Calls Tryz.prog 22 #[.int .i64 (c.tdiv 7 + (k : Int) * (k : Int)), .int .i64 94] w fun e w' => e = .returned (.int .i64 (Hm.pick (c.tdiv 7 + (k : Int) * (k : Int)) 94)) ∧ w' = w) := fun w => pick_any _ 94 (by decide) (by decide) (by omega) (by omega) w
      have hp2 := Hm.pick_lt (c.tdiv 7 + (k : Int) * (k : Int)) (n := 94) (by decide)
      have HK : Hid (Hm.kbytes c (k + 1) = Hm.kbytes c k ++ [UInt8.ofNat (33 + Hm.pick (c.tdiv 7 + (k : Int) * (k : Int)) 94)]) := by
        show _ = _
        unfold Hm.kbytes
        rw [List.range_succ, List.map_append]
        rfl
      generalize Hm.pick (c.tdiv 7 + (k : Int) * (k : Int)) 94 = p2 at PK2 hp2 HK
      have hlen : (Hm.kbytes c k).length ≤ 100 := by simp [Hm.kbytes]; omega
      generalize Hm.kbytes c k = B at HK hlen
      clear hlt
      go_wp2_with fail
      refine (PK2.out _).mono ?_
      rintro e w2 ⟨rfl, rfl⟩
      have hu : (UInt8.ofNat (33 + p2)).toNat = 33 + p2 := by rw [UInt8.toNat_ofNat']; omega
      have hbk := one_back w2 (UInt8.ofNat (33 + p2)) (33 + (p2 : Int)) (by omega)
      have hbk2 := one_back w2 (UInt8.ofNat (33 + p2)) ((33 + (p2 : Int)) % 256) (by omega)
      clear hu
      generalize UInt8.ofNat (33 + p2) = bb at hbk hbk2 HK
      go_wp2
      go_roundw
      case rel =>
        refine ⟨k + 1, by omega, int_eq (by simp), ?_, HB.out.alloc HB.out.size _⟩
        rw [HK.out, ← app_list]
      case measure => simp [intOf]; omega
    · have hk2 : k = min q most := by omega
      subst hk2
      by_cases hd : Hm.kbytes c (min q most) = [45]
      · rw [if_pos hd] at HP
        rw [hd]
        by_cases l1 : (min q most : Nat) < q
        · have l1' : ((min q most : Nat) : Int) < (q : Int) := by omega
          have l2' : ¬ ((min q most : Nat) : Int) < (most : Int) := by omega
          generalize min q most = z at l1' l2' 
          go_wp2
          go_ret
          exact ⟨by rw [HP.out]; rfl, HB.out⟩
        · have l1' : ¬ ((min q most : Nat) : Int) < (q : Int) := by omega
          generalize min q most = z at l1'
          go_wp2
          go_ret
          exact ⟨by rw [HP.out]; rfl, HB.out⟩
      · rw [if_neg hd] at HP
        have hd2 : (Hm.kbytes c (min q most) == [45]) = false := by simpa using hd
        by_cases l1 : (min q most : Nat) < q
        · have l1' : ((min q most : Nat) : Int) < (q : Int) := by omega
          have l2' : ¬ ((min q most : Nat) : Int) < (most : Int) := by omega
          generalize Hm.kbytes c (min q most) = B at HP hd2
          generalize min q most = z at l1' l2'
          clear hd
          go_wp2
          go_ret
          exact ⟨by rw [HP.out]; rfl, HB.out⟩
        · have l1' : ¬ ((min q most : Nat) : Int) < (q : Int) := by omega
          generalize Hm.kbytes c (min q most) = B at HP hd2
          generalize min q most = z at l1'
          clear hd
          go_wp2
          go_ret
          exact ⟨by rw [HP.out]; rfl, HB.out⟩

theorem kdays_any (y mo : Nat) (hy : y ≤ 100000) (h1 : 1 ≤ mo) (h2 : mo ≤ 12) (w : World) :
    Calls Tryz.prog 25 #[.int .i64 y, .int .i64 mo] w fun e w' => e = .returned (.int .i64 (Hm.daysOf y mo)) ∧ w' = w := by
  have HL : Hid (Hm.daysOf y mo = if mo = 4 ∨ mo = 6 ∨ mo = 9 ∨ mo = 11 then 30 else if ¬ mo = 2 then 31 else if y % 4 = 0 ∧ (¬ y % 100 = 0 ∨ y % 400 = 0) then 29 else 28) := by
    show _ = _
    unfold Hm.daysOf Hm.leap
    rcases (by omega : mo = 1 ∨ mo = 2 ∨ mo = 3 ∨ mo = 4 ∨ mo = 5 ∨ mo = 6 ∨ mo = 7 ∨ mo = 8 ∨ mo = 9 ∨ mo = 10 ∨ mo = 11 ∨ mo = 12) with h | h | h | h | h | h | h | h | h | h | h | h <;> subst h
    case inr.inl =>
      rw [if_neg (show ¬ ((2 : Nat) = 4 ∨ (2 : Nat) = 6 ∨ (2 : Nat) = 9 ∨ (2 : Nat) = 11) by decide), if_neg (show ¬ ¬ (2 : Nat) = 2 by decide)]
      by_cases hl : y % 4 = 0 ∧ (¬ y % 100 = 0 ∨ y % 400 = 0)
      · rw [if_pos hl, if_pos]
        refine ⟨rfl, ?_⟩
        simp only [Bool.and_eq_true, Bool.or_eq_true, Bool.not_eq_true', decide_eq_true_eq, decide_eq_false_iff_not]
        omega
      · rw [if_neg hl, if_neg]
        · rfl
        · rintro ⟨_, hh⟩
          simp only [Bool.and_eq_true, Bool.or_eq_true, Bool.not_eq_true', decide_eq_true_eq, decide_eq_false_iff_not] at hh
          omega
    all_goals (first | rfl | (simp [Hm.monthDays]))
  have key : ∀ v : Int, Hm.daysOf y mo = v → Calls Tryz.prog 25 #[.int .i64 y, .int .i64 mo] w (fun e w' => e = .returned (.int .i64 v) ∧ w' = w) → Calls Tryz.prog 25 #[.int .i64 y, .int .i64 mo] w fun e w' => e = .returned (.int .i64 (Hm.daysOf y mo)) ∧ w' = w := fun v h k => by rw [h]; exact k
  by_cases a : mo = 4 ∨ mo = 6 ∨ mo = 9 ∨ mo = 11
  · refine key 30 (by rw [HL.out, if_pos a]) ?_
    clear key HL
    rcases a with rfl | rfl | rfl | rfl
    all_goals
      go_enter Tryz.func25, Tryz.ntmps25
      go_wp2
      go_ret
      exact ⟨rfl, rfl⟩
  · by_cases b : mo = 2
    · subst b
      by_cases c : y % 4 = 0
      · by_cases d : y % 100 = 0
        · by_cases e : y % 400 = 0
          · refine key 29 (by rw [HL.out, if_neg a, if_neg (by simp), if_pos ⟨c, .inr e⟩]) ?_
            clear key HL a
            have f1 : (y : Int) % 4 = 0 := by omega
            have f2 : (y : Int) % 100 = 0 := by omega
            have f3 : (y : Int) % 400 = 0 := by omega
            clear c d e
            go_enter Tryz.func25, Tryz.ntmps25
            go_wp2
            go_ret
            exact ⟨rfl, rfl⟩
          · refine key 28 (by rw [HL.out, if_neg a, if_neg (by simp), if_neg (by omega)]) ?_
            clear key HL a
            have f1 : (y : Int) % 4 = 0 := by omega
            have f2 : (y : Int) % 100 = 0 := by omega
            have f3 : ¬ (y : Int) % 400 = 0 := by omega
            have f4 : ((y : Int) % 400 == 0) = false := beq_eq_false_iff_ne.2 f3
            clear c d e
            go_enter Tryz.func25, Tryz.ntmps25
            go_wp2
            go_ret
            exact ⟨rfl, rfl⟩
        · refine key 29 (by rw [HL.out, if_neg a, if_neg (by simp), if_pos ⟨c, .inl d⟩]) ?_
          clear key HL a
          have f1 : (y : Int) % 4 = 0 := by omega
          have f2 : ¬ (y : Int) % 100 = 0 := by omega
          have f4 : ((y : Int) % 100 == 0) = false := beq_eq_false_iff_ne.2 f2
          clear c d
          go_enter Tryz.func25, Tryz.ntmps25
          go_wp2
          go_ret
          exact ⟨rfl, rfl⟩
      · refine key 28 (by rw [HL.out, if_neg a, if_neg (by simp), if_neg (by omega)]) ?_
        clear key HL a
        have f1 : ¬ (y : Int) % 4 = 0 := by omega
        have f4 : ((y : Int) % 4 == 0) = false := beq_eq_false_iff_ne.2 f1
        clear c
        go_enter Tryz.func25, Tryz.ntmps25
        go_wp2
        go_ret
        exact ⟨rfl, rfl⟩
    · refine key 31 (by rw [HL.out, if_neg a, if_pos b]) ?_
      clear key HL
      rcases (by omega : mo = 1 ∨ mo = 3 ∨ mo = 5 ∨ mo = 7 ∨ mo = 8 ∨ mo = 10 ∨ mo = 12) with rfl | rfl | rfl | rfl | rfl | rfl | rfl
      all_goals
        clear a b h1 h2
        go_enter Tryz.func25, Tryz.ntmps25
        go_wp2
        go_ret
        exact ⟨rfl, rfl⟩
end Go.Proofs.YtdlhbmncbmconaaGreatDoor

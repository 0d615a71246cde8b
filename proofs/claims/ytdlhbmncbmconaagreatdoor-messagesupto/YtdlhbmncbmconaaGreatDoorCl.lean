/- Contract of the reference: head. -/
import Derived.Test.YtdlhbmncbmconaaGreatDoorCj
import Derived.Test.YtdlhbmncbmconaaGreatDoorCk
import Derived.Test.YtdlhbmncbmconaaGreatDoorCf
import Derived.Test.YtdlhbmncbmconaaGreatDoorCb
namespace Go.Proofs.YtdlhbmncbmconaaGreatDoor
open Go.RowKit Go.Sort
attribute [local go_sem] app_mk rcut rbyte
set_option maxRecDepth 20000 in
set_option maxHeartbeats 4000000 in
theorem rhead_any (l : List UInt8) (hl : l.length ≤ 1000000000000000) (y : Nat) (hy : 1 ≤ y) (hy2 : y ≤ 9999) (w : World) : Calls Tryz.prog 192 #[.string ⟨l.toArray⟩, .int .i64 y] w fun e w' => e = .returned (tagV (Hm.stamp l y)) ∧ ∃ n, w' = w.drewN n := by
  by_cases h16 : (l.length : Int) < 16
  · have HE : Hid (Hm.stamp l y = ([], [], 0)) := Hm.stamp_short (.inl (by omega))
    rw [HE.out]
    go_enter Tryz.func192, Tryz.ntmps192
    go_wp2
    go_ret3
    exact ⟨rfl, 0, rfl⟩
  obtain ⟨c0, c1, c2, c3, c4, c5, c6, c7, c8, c9, c10, c11, c12, c13, c14, c15, r, hc⟩ := Hm.sixteen (l := l) (by omega)
  have hi3 : 3 < l.length := by omega
  have hi4 : 4 < l.length := by omega
  have hi6 : 6 < l.length := by omega
  have hi15 : 15 < l.length := by omega
  have e3 : l[3] = c3 := by simp [hc]
  have e4 : l[4] = c4 := by simp [hc]
  have e6 : l[6] = c6 := by simp [hc]
  have e15 : l[15] = c15 := by simp [hc]
  have d4 : l.getD 4 0 = c4 := by rw [hc]; rfl
  have d15 : l.getD 15 0 = c15 := by rw [hc]; rfl
  have o3 : (l.take 15).getD 3 0 = c3 := by rw [hc]; rfl
  have o4 : (l.take 15).getD 4 0 = c4 := by rw [hc]; rfl
  have o6 : (l.take 15).getD 6 0 = c6 := by rw [hc]; rfl
  have o33 : (l.take 15).take 3 = l.take 3 := by rw [hc]; rfl
  have hold := Hm.old_iff hc hy hy2
  have HC := show Hid _ from hc
  clear hc
  have HT : Hid ((Hm.month (l.take 3) = 0 ∨ ¬ c3.toNat = 32 ∨ ¬ c6.toNat = 32 ∨ c4.toNat = 48) → Hm.stamp l y = ([], [], 0)) := fun h => Hm.stamp_time (by
    unfold Hm.oldTime
    rw [o33, o3, o4, o6, if_pos h])
  have HT2 : Hid ((Hm.rclock l 7 = none ∨ (Hm.rdd l).2 = false ∨ Hm.risDay y (Hm.month (l.take 3)) (Hm.rdd l).1 = false) → Hm.stamp l y = ([], [], 0)) := fun h => Hm.stamp_time (by
    unfold Hm.oldTime
    split
    · rfl
    · exact hold.2 h)
  have HT3 : Hid (∀ sec, Hm.rclock l 7 = some sec → (Hm.rdd l).2 = true → Hm.risDay y (Hm.month (l.take 3)) (Hm.rdd l).1 = true → c3.toNat = 32 → c6.toNat = 32 → ¬ c4.toNat = 48 → Hm.oldTime (l.take 15) y = (Hm.rtext y (Hm.month (l.take 3)) (Hm.rdd l).1 sec ++ [90], true)) := fun sec a1 a2 a3 a4 a5 a6 => by
    obtain ⟨b1, b2⟩ := hold.1 sec a1 a2 a3
    unfold Hm.oldTime
    rw [o33, o3, o4, o6, if_neg (by
      have := (Hm.risDay_iff _ _ _).1 a3
      obtain ⟨_, _, q, _⟩ := this
      dsimp only at q
      omega), b1, ← b1, b2]
  clear hold o3 o4 o6 o33
  by_cases k3 : (c3.toNat : Int) = 32
  case neg =>
    have HE : Hid (Hm.stamp l y = ([], [], 0)) := HT.out (.inr (.inl (by omega)))
    have k3b : ((c3.toNat : Int) != 32) = true := by simp; omega
    rw [HE.out]
    go_enter Tryz.func192, Tryz.ntmps192
    go_wp2
    go_ret3
    exact ⟨rfl, 0, rfl⟩
  have k3b : ((c3.toNat : Int) != 32) = false := by simp; omega
  by_cases k6 : (c6.toNat : Int) = 32
  case neg =>
    have HE : Hid (Hm.stamp l y = ([], [], 0)) := HT.out (.inr (.inr (.inl (by omega))))
    have k6b : ((c6.toNat : Int) != 32) = true := by simp; omega
    rw [HE.out]
    clear k3
    go_enter Tryz.func192, Tryz.ntmps192
    go_wp2
    go_ret3
    exact ⟨rfl, 0, rfl⟩
  have k6b : ((c6.toNat : Int) != 32) = false := by simp; omega
  by_cases k15 : (c15.toNat : Int) = 32
  case neg =>
    have HE : Hid (Hm.stamp l y = ([], [], 0)) := Hm.stamp_short (.inr (by rw [d15]; omega))
    have k15b : ((c15.toNat : Int) != 32) = true := by simp; omega
    rw [HE.out]
    clear k3 k6
    go_enter Tryz.func192, Tryz.ntmps192
    go_wp2
    go_ret3
    exact ⟨rfl, 0, rfl⟩
  have k15b : ((c15.toNat : Int) != 32) = false := by simp; omega
  have K3 : Hid (c3.toNat = 32) := by show _ = _; omega
  have K6 : Hid (c6.toNat = 32) := by show _ = _; omega
  have HS1 : Hid (¬ (l.length < 16 ∨ ¬ (l.getD 15 0).toNat = 32)) := by show ¬ _; rw [d15]; omega
  clear k3 k6 k15
  -- the parts
  obtain ⟨dd, hdd⟩ : ∃ dd, Hm.rdd l = dd := ⟨_, rfl⟩
  obtain ⟨ck, hck⟩ : ∃ ck, Hm.rclock l 7 = ck := ⟨_, rfl⟩
  obtain ⟨M, hM⟩ : ∃ M, Hm.month (l.take 3) = M := ⟨_, rfl⟩
  have hM12 := Hm.month_le (l.take 3)
  obtain ⟨isd, hisd⟩ : ∃ b, Hm.risDay y M dd.1 = b := ⟨_, rfl⟩
  obtain ⟨E, hE⟩ : ∃ E, ((l.drop 16).takeWhile fun c => !decide (c.toNat = 32)).length = E := ⟨_, rfl⟩
  have hEl : 16 + E ≤ l.length := (Hm.run_at _ l 16 E (by omega) hE).1
  obtain ⟨hcr1, hcr2⟩ := Hm.cut_run (l.drop 16)
  have htk := Hm.take_run (fun c : UInt8 => !decide (c.toNat = 32)) (l.drop 16)
  rw [hE] at htk hcr2
  rw [← htk] at hcr1
  rw [List.length_drop] at hcr2
  obtain ⟨wd, hwd⟩ : ∃ b, Hm.word ((l.drop 16).take E) 32 = b := ⟨_, rfl⟩
  rw [hdd, hck, hM, hisd] at HT2
  rw [hdd, hck, hM, hisd] at HT3
  rw [hM] at HT hM12
  have HW : Hid (wd = false ∨ 16 + E = l.length → Hm.stamp l y = ([], [], 0)) := fun h => Hm.stamp_host (by
    rcases h with h | h
    · right; rw [hcr1, hwd, h]
    · left; exact hcr2.2 (by omega))
  have HY : Hid (∀ T, Hm.oldTime (l.take 15) y = (T, true) → wd = true → ¬ 16 + E = l.length → Hm.stamp l y = (T, (l.drop 16).take E, 16 + E + 1)) := fun T h1 h2 h3 => by
    have hlen : ((l.drop 16).take E).length = E := by rw [List.length_take, List.length_drop]; omega
    rw [Hm.stamp_yes HS1.out (by rw [h1]) (by
      cases hb : (Lib.cut (l.drop 16) [32]).2.2 with
      | true => rfl
      | false => have := hcr2.1 hb; omega) (by rw [hcr1, hwd, h2]), h1, hcr1, hlen]
  have D1 : Hid (∀ w, Calls Tryz.prog 190 #[.string ⟨l.toArray⟩, .int .i64 4, .int .i64 2] w fun e w' => e = .returned (.tuple #[.int .i64 (Hm.rdigits l 4 2).1, .bool (Hm.rdigits l 4 2).2]) ∧ w' = w) := fun w => rdigits_any l hl 4 2 (by omega) (by omega) w
  have D2 : Hid (∀ w, Calls Tryz.prog 190 #[.string ⟨l.toArray⟩, .int .i64 5, .int .i64 1] w fun e w' => e = .returned (.tuple #[.int .i64 (Hm.rdigits l 5 1).1, .bool (Hm.rdigits l 5 1).2]) ∧ w' = w) := fun w => rdigits_any l hl 5 1 (by omega) (by omega) w
  have CK : Hid (∀ w, Calls Tryz.prog 194 #[.string ⟨l.toArray⟩, .int .i64 7] w fun e w' => e = .returned (optV ck) ∧ w' = w) := fun w => by
    have := rclock_any l hl 7 (by omega) w
    rwa [hck] at this
  have MO : Hid (∀ w, Calls Tryz.prog 218 #[.string ⟨(l.take 3).toArray⟩] w fun e w' => e = .returned (.int .i64 M) ∧ w' = w) := fun w => by
    have := rmonth_any (l.take 3) w
    rwa [hM] at this
  have IY : Hid (∀ w, Calls Tryz.prog 195 #[.int .i64 y, .int .i64 M, .int .i64 dd.1] w fun e w' => e = .returned (.bool isd) ∧ w' = w) := fun w => by
    have := risDay_any y M dd.1 w
    rwa [hisd] at this
  have PA : Hid (∀ w, Calls Tryz.prog 191 #[.string ⟨l.toArray⟩, .int .i64 16] w fun e w' => e = .returned (.int .i64 ((16 : Int) + (E : Int))) ∧ w' = w) := fun w => by
    have := rpart_any l hl 16 (by omega) w
    rw [hE] at this
    have e : (((16 + E : Nat)) : Int) = (16 : Int) + (E : Int) := by omega
    rw [e] at this
    exact this
  have IP : Hid (∀ w, Calls Tryz.prog 162 #[.string ⟨((l.drop 16).take E).toArray⟩, .int .i64 32] w fun e w' => e = .returned (.bool wd) ∧ w' = w) := fun w => by
    have := rIsPlain_any ((l.drop 16).take E) (by rw [List.length_take, List.length_drop]; omega) 32 (by omega) w
    rwa [hwd] at this
  have hsec : ∀ sec, ck = some sec → sec < 86400 := fun sec h => Hm.rclock_ltk (hck.trans h)
  have SH : Hid (∀ sec, ck = some sec → isd = true → ∀ w, Calls Tryz.prog 196 #[.int .i64 y, .int .i64 M, .int .i64 dd.1, .int .i64 sec] w fun e w' => e = .returned (.tuple #[.string ⟨(Hm.rtext y M dd.1 sec).toArray⟩, .bool true]) ∧ w' = w) := fun sec h1 h2 w => by
    have h3 := hsec sec h1
    have := rshifted_any y M dd.1 sec ((Hm.risDay_iff _ _ _).1 (hisd.trans h2)) (by omega) (by omega) w
    rw [Hm.rshifted_none hy hy2 h3] at this
    exact this
  have HRT : Hid (∀ sec, (Hm.rtext y M dd.1 sec).length = 19) := fun sec => Hm.stampText_length _ _ _ _ _ _
  have hdd2 : Hm.rdd l = if c4.toNat = 32 then Hm.rdigits l 5 1 else Hm.rdigits l 4 2 := by unfold Hm.rdd; rw [d4]
  rw [hdd] at hdd2
  have HDD := show Hid _ from hdd2
  clear hdd hck hM hisd hE hcr1 hcr2 htk hwd d4 d15 hdd2 hsec
  obtain ⟨V, hV⟩ : ∃ V, tagV (Hm.stamp l y) = V := ⟨_, rfl⟩
  have HV0 : Hid (Hm.stamp l y = ([], [], 0) → V = .tuple #[.string ⟨#[]⟩, .string ⟨#[]⟩, .int .i64 0]) := fun h => by rw [← hV, h]; rfl
  have HVY : Hid (∀ T H (n : Nat), Hm.stamp l y = (T, H, n) → V = .tuple #[.string ⟨T.toArray⟩, .string ⟨H.toArray⟩, .int .i64 n]) := fun T H n h => by rw [← hV, h]; rfl
  rw [hV]
  clear hV
  obtain ⟨b32, hb32⟩ : ∃ b, ((c4.toNat : Int) == 32) = b := ⟨_, rfl⟩
  go_enter Tryz.func192, Tryz.ntmps192
  go_wp2_with fail
  refine (D1.out _).mono ?_
  rintro e w1 ⟨rfl, hw1⟩
  have hw1 := hw1.symm
  subst hw1
  go_upto_if 42 with fail
  go_cut [7, 8] (fun s7 s8 wc => s7 = .int .i64 (dd.1 : Int) ∧ s8 = .bool dd.2 ∧ wc = w)
  case first =>
    cases b32 with
    | true =>
      have HQ : Hid (Hm.rdigits l 5 1 = dd) := by show _ = _; rw [HDD.out, if_pos (by have := beq_iff_eq.1 hb32; omega)]
      rw [HQ.out] at D2
      go_wp2_with fail
      refine (D2.out _).mono ?_
      rintro e w1 ⟨rfl, hw1⟩
      have hw1 := hw1.symm
      subst hw1
      go_wp2
      go_meet
      case rel => exact ⟨rfl, rfl, rfl⟩
    | false =>
      have HQ : Hid (Hm.rdigits l 4 2 = dd) := by show _ = _; rw [HDD.out, if_neg (by have := beq_eq_false_iff_ne.1 hb32; omega)]
      go_wp2
      go_meet
      case rel => exact ⟨by rw [HQ.out], by rw [HQ.out], rfl⟩
  case rest =>
    obtain ⟨rfl, rfl, hwc⟩ := hcut
    have hwc := hwc.symm
    subst hwc
    clear hb32 HDD D1 D2
    obtain ⟨D, db⟩ := dd
    simp only at IY SH HRT HT2 HT3
    have hunf : optV ck = match ck with | none => .tuple #[.int .i64 0, .bool false] | some s => .tuple #[.int .i64 s, .bool true] := by cases ck <;> rfl
    go_wp2_with fail
    refine (CK.out _).mono ?_
    rintro e w1 ⟨rfl, hw1⟩
    have hw1 := hw1.symm
    subst hw1
    cases ck with
    | none =>
      rw [hunf]
      clear hunf
      have HE : Hid (V = .tuple #[.string ⟨#[]⟩, .string ⟨#[]⟩, .int .i64 0]) := HV0.out (HT2.out (.inl rfl))
      go_wp2_with fail
      refine (MO.out _).mono ?_
      rintro e w1 ⟨rfl, hw1⟩
      have hw1 := hw1.symm
      subst hw1
      go_wp2_with fail
      refine (IY.out _).mono ?_
      rintro e w1 ⟨rfl, hw1⟩
      have hw1 := hw1.symm
      subst hw1
      cases db
      · go_wp2
        go_ret3
        exact ⟨by rw [HE.out]; rfl, 0, rfl⟩
      · go_wp2
        go_ret3
        exact ⟨by rw [HE.out]; rfl, 0, rfl⟩
    | some sec =>
      rw [hunf]
      clear hunf
      go_wp2_with fail
      refine (MO.out _).mono ?_
      rintro e w1 ⟨rfl, hw1⟩
      have hw1 := hw1.symm
      subst hw1
      go_wp2_with fail
      refine (IY.out _).mono ?_
      rintro e w1 ⟨rfl, hw1⟩
      have hw1 := hw1.symm
      subst hw1
      cases db with
      | false =>
        have HE : Hid (V = .tuple #[.string ⟨#[]⟩, .string ⟨#[]⟩, .int .i64 0]) := HV0.out (HT2.out (.inr (.inl rfl)))
        go_wp2
        go_ret3
        exact ⟨by rw [HE.out]; rfl, 0, rfl⟩
      | true =>
        cases isd with
        | false =>
          have HE : Hid (V = .tuple #[.string ⟨#[]⟩, .string ⟨#[]⟩, .int .i64 0]) := HV0.out (HT2.out (.inr (.inr rfl)))
          go_wp2
          go_ret3
          exact ⟨by rw [HE.out]; rfl, 0, rfl⟩
        | true =>
          by_cases k48 : (c4.toNat : Int) = 48
          · have HE : Hid (V = .tuple #[.string ⟨#[]⟩, .string ⟨#[]⟩, .int .i64 0]) := HV0.out (HT.out (.inr (.inr (.inr (by omega)))))
            have k48b : ((c4.toNat : Int) == 48) = true := beq_iff_eq.2 k48
            clear k48
            go_wp2
            go_ret3
            exact ⟨by rw [HE.out]; rfl, 0, rfl⟩
          have k48b : ((c4.toNat : Int) == 48) = false := beq_eq_false_iff_ne.2 k48
          have HOT : Hid (Hm.oldTime (l.take 15) y = (Hm.rtext y M D sec ++ [90], true)) := HT3.out sec rfl rfl rfl K3.out K6.out (by omega)
          clear k48
          go_wp2_with fail
          refine (PA.out _).mono ?_
          rintro e w1 ⟨rfl, hw1⟩
          have hw1 := hw1.symm
          subst hw1
          have hEi : (16 : Int) + (E : Int) ≤ (l.length : Int) := by omega
          have htn : ((16 : Int) + (E : Int)).toNat = 16 + E := by omega
          go_wp2_with fail
          refine (IP.out _).mono ?_
          rintro e w1 ⟨rfl, hw1⟩
          have hw1 := hw1.symm
          subst hw1
          cases wd with
          | false =>
            have HE : Hid (V = .tuple #[.string ⟨#[]⟩, .string ⟨#[]⟩, .int .i64 0]) := HV0.out (HW.out (.inl rfl))
            go_wp2
            go_ret3
            exact ⟨by rw [HE.out]; rfl, 0, rfl⟩
          | true =>
            by_cases hfin : 16 + E = l.length
            · have HE : Hid (V = .tuple #[.string ⟨#[]⟩, .string ⟨#[]⟩, .int .i64 0]) := HV0.out (HW.out (.inr hfin))
              have hfb : ((16 : Int) + (E : Int) == (l.length : Int)) = true := beq_iff_eq.2 (by omega)
              clear hfin
              go_wp2
              go_ret3
              exact ⟨by rw [HE.out]; rfl, 0, rfl⟩
            · have HE : Hid (V = .tuple #[.string ⟨(Hm.rtext y M D sec ++ [90]).toArray⟩, .string ⟨((l.drop 16).take E).toArray⟩, .int .i64 ((16 : Int) + (E : Int) + 1)]) := by
                have := HVY.out _ _ _ (HY.out _ HOT.out rfl hfin)
                show _ = _
                rw [this]
                have e : ((16 + E + 1 : Nat) : Int) = (16 : Int) + (E : Int) + 1 := by omega
                rw [e]
              have hfb : ((16 : Int) + (E : Int) == (l.length : Int)) = false := beq_eq_false_iff_ne.2 (by omega)
              have hrt := HRT.out sec
              have SHN := show Hid _ from SH.out sec (by first | rfl | trivial) (by first | rfl | trivial)
              generalize Hm.rtext y M D sec = RT at HE hrt SHN
              clear hfin
              go_wp2_with fail
              refine (SHN.out _).mono ?_
              rintro e w1 ⟨rfl, hw1⟩
              have hw1 := hw1.symm
              subst hw1
              have hcl : ¬ 9223372036854775807 < RT.length + 1 := by omega
              go_wp2_with fail
              go_quiet (fail)
              go_wp2
              go_ret3
              exact ⟨by rw [HE.out]; rfl, _, rfl⟩
end Go.Proofs.YtdlhbmncbmconaaGreatDoor

/- Contracts of the statements' package: same, pick. -/
import Derived.Test.YtdlhbmncbmconaaGreatDoorRc
import Derived.Test.YtdlhbmncbmconaaGreatDoorMp
namespace Go.Proofs.YtdlhbmncbmconaaGreatDoor
open Go.RowKit Go.Sort
attribute [local go_sem] alloc_drewN setCell_drewN
theorem lpick_any (c : Int) (n : Nat) (hn : 0 < n) (hn2 : n ≤ 4000000000) (h0 : -9223372036854775808 ≤ c) (h1 : c ≤ 9223372036854775807) (w : World) :
    Calls Tryz.prog 114 #[.int .i64 c, .int .i64 n] w fun e w' => e = .returned (.int .i64 (Hm.pick c n)) ∧ w' = w := by
  have hnn : ¬ (n : Int) = 0 := by omega
  have hnn2 : ((n : Int) == 0) = false := beq_eq_false_iff_ne.2 hnn
  have hn1 : ¬ (n : Int) = -1 := by omega
  by_cases hc : c < 0
  · have HP : Hid (-((c + 1).tmod (n : Int)) = (Hm.pick c n : Int)) := by
      show _ = _
      unfold Hm.pick
      rw [if_pos hc, ← Int.neg_tmod, Int.tmod_eq_emod_of_nonneg (by omega)]
      have := Int.emod_nonneg (-(c + 1)) (b := (n : Int)) (by omega)
      omega
    go_enter Tryz.func114, Tryz.ntmps114
    go_wp2
    go_ret
    exact ⟨by rw [← HP.out]; rfl, rfl⟩
  · have HP : Hid (c % (n : Int) = (Hm.pick c n : Int)) := by
      show _ = _
      unfold Hm.pick
      rw [if_neg hc]
      have := Int.emod_nonneg c (b := (n : Int)) (by omega)
      omega
    go_enter Tryz.func114, Tryz.ntmps114
    go_wp2
    go_ret
    exact ⟨by rw [← HP.out]; rfl, rfl⟩
theorem lsame_from (a b : List (List UInt8)) (va vb : Value) (ba bb : Nat) (w : World) (ha : Hw.ownsFrom w ba 9 va (a.map strV)) (hb : Hw.ownsFrom w bb 9 vb (b.map strV)) (hl : a.length ≤ 1000000000) (hl2 : b.length ≤ 1000000000) :
    Calls Tryz.prog 116 #[va, vb] w fun e w' => e = .returned (.bool (decide (a = b))) ∧ Below w.heap.size w w' := by
  obtain ⟨aa, ca, rfl⟩ := from_form ha
  obtain ⟨ab, cb, rfl⟩ := from_form hb
  by_cases hlen : a.length = b.length
  · have hli : (a.length : Int) = (b.length : Int) := by omega
    have HA : Hid (Hw.ownsFrom w ba 9 (.slice aa a.length ca) (a.map strV)) := ha
    have HB0 : Hid (Hw.ownsFrom w bb 9 (.slice ab b.length cb) (b.map strV)) := hb
    have HLen : Hid (a.length = b.length) := hlen
    clear ha hb hlen
    go_enter Tryz.func116, Tryz.ntmps116
    go_wp2
    go_loopw [5] (fun ix wr => ∃ k : Nat, k ≤ a.length ∧ ix = .int .i64 k ∧ a.take k = b.take k ∧ Below w.heap.size w wr) (fun ix _ => a.length - (intOf ix).toNat)
    case atStart => exact ⟨0, by omega, rfl, rfl, Below.refl _ _⟩
    case round =>
      obtain ⟨k, hk, rfl, hv, hbr⟩ := hrel
      have HV : Hid (a.take k = b.take k) := hv
      have HBr : Hid (Below w.heap.size w wr) := hbr
      clear hv hbr
      by_cases hlt : k < a.length
      · have hki : (k : Int) < (a.length : Int) := by omega
        have hki2 : (k : Int) < (b.length : Int) := by omega
        have hltb : k < b.length := by omega
        obtain ⟨ga, oa, rfl⟩ := from_some HA.out (by omega)
        obtain ⟨gb, ob, rfl⟩ := from_some HB0.out (by omega)
        have c1 : w.cell? ⟨ga, oa + k, none⟩ = some (strV a[k]) := Hw.ownsFrom_at HA.out (by simp [hlt])
        have c2 : w.cell? ⟨gb, ob + k, none⟩ = some (strV b[k]) := Hw.ownsFrom_at HB0.out (by simp [hltb])
        have d1 : wr.cell? ⟨ga, oa + k, none⟩ = some (strV a[k]) := (HBr.out.cell (p := ⟨ga, oa + k, none⟩) (block_lt_of_cell c1)).trans c1
        have d2 : wr.cell? ⟨gb, ob + k, none⟩ = some (strV b[k]) := (HBr.out.cell (p := ⟨gb, ob + k, none⟩) (block_lt_of_cell c2)).trans c2
        have HT1 : Hid (a.take (k + 1) = a.take k ++ [a[k]]) := (List.take_append_getElem hlt).symm
        have HT2 : Hid (b.take (k + 1) = b.take k ++ [b[k]]) := (List.take_append_getElem hltb).symm
        unfold strV at d1 d2
        have HX : Hid (a[k] = b[k] ∨ ¬ a = b) := by
          show _ ∨ _
          by_cases e : a[k] = b[k]
          · exact .inl e
          · exact .inr (fun e' => e (by subst e'; rfl))
        generalize a[k] = x at d1 HT1 HX
        generalize b[k] = y at d2 HT2 HX
        clear c1 c2
        by_cases hxy : x = y
        · subst hxy
          go_wp2_with fail
          go_quiet (fail)
          go_wp2
          go_roundw
          case rel => exact ⟨k + 1, by omega, int_eq (by simp), by rw [HT1.out, HT2.out, HV.out], Below.next HBr.out (Nat.le_refl _) (drew_below ⟨_, rfl⟩)⟩
          case measure => simp [intOf]; omega
        · have HN : Hid (decide (a = b) = false) := decide_eq_false (HX.out.resolve_left hxy)
          have hxb : (x == y) = false := beq_eq_false_iff_ne.2 hxy
          go_wp2_with fail
          go_quiet (fail)
          go_wp2
          go_ret
          exact ⟨by rw [HN.out]; rfl, Below.next HBr.out (Nat.le_refl _) (drew_below ⟨_, rfl⟩)⟩
      · have hki : ¬ (k : Int) < (b.length : Int) := by omega
        have HN : Hid (decide (a = b) = true) := decide_eq_true (by
          have h := HV.out
          have := HLen.out
          rwa [List.take_of_length_le (by omega), List.take_of_length_le (by omega)] at h)
        go_wp2
        go_ret
        exact ⟨by rw [HN.out]; rfl, HBr.out⟩
  · have hli : ¬ (a.length : Int) = (b.length : Int) := by omega
    have hlb : ((a.length : Int) == (b.length : Int)) = false := beq_eq_false_iff_ne.2 hli
    have HD : Hid (decide (a = b) = false) := decide_eq_false (fun e => hlen (by rw [e]))
    clear hlen
    go_enter Tryz.func116, Tryz.ntmps116
    go_wp2
    go_ret
    exact ⟨by rw [HD.out]; rfl, Below.refl _ _⟩
end Go.Proofs.YtdlhbmncbmconaaGreatDoor

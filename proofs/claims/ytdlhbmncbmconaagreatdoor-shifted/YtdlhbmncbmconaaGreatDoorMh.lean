/- Mathematics of Shifted: a moment of raw numbers, told with a difference. -/
import Derived.Test.YtdlhbmncbmconaaGreatDoorMb
namespace Go.Hm
open Go.Op (bytesLess)
def sx (day second : Int) : (Int × Int × Int) × Int := (((kyear day : Int), (kmonth day : Int), (kday day : Int)), ((pick second 86400 / 60 : Nat) : Int))
theorem sx_ok (day second : Int) : IsMoment (sx day second) := by
  have hm := kmonth_bd day
  have hy := kyear_bd day
  have hd := kday_bd day
  have hs := pick_lt second (n := 86400) (by decide)
  refine ⟨⟨?_, ?_, ?_, ?_, ?_, ?_⟩, ?_, ?_⟩ <;> simp only [sx] <;> omega
theorem kstamp_of (day second : Int) : kstamp day second = stampOf (sx day second) (pick second 86400 % 60) := by
  have hs := pick_lt second (n := 86400) (by decide)
  unfold kstamp stampOf sx
  dsimp only
  have e1 : (((pick second 86400 / 60 : Nat) : Int) / 60).toNat = pick second 86400 / 3600 := by omega
  have e2 : (((pick second 86400 / 60 : Nat) : Int) % 60).toNat = pick second 86400 / 60 % 60 := by omega
  rw [e1, e2]
  simp only [Int.toNat_natCast]
def kbody (day second part : Int) : List UInt8 := kstamp day second ++ kfrac part
theorem kmoment_body (day second part : Int) : kmoment day second part = kbody day second part ++ [90] := by simp [kmoment, kbody]
theorem stamp_noblank {x : (Int × Int × Int) × Int} (hx : IsMoment x) {s : Nat} (hs : s < 60) : 32 ∉ stampOf x s := by
  obtain ⟨⟨a1, a2, a3, a4, a5, a6⟩, a7, a8⟩ := hx
  have hda := daysOf_bd x.1.1 x.1.2.1 a3 a4
  exact shape_noblank (stampText_shape (by omega) (by omega) (by omega) (by omega) (by omega) (by omega)) (by decide)
theorem frac_noblank {fr : List UInt8} (hf : FracB fr) : 32 ∉ fr := by
  rcases hf with rfl | ⟨ds, c, rfl, hd, hc, _, _⟩
  · simp
  · intro hm
    simp only [List.mem_cons, List.mem_append, List.not_mem_nil, or_false] at hm
    rcases hm with hm | hm | hm
    · revert hm; decide
    · exact absurd (hd _ hm) (by decide)
    · rw [← hm] at hc; revert hc; decide
theorem diff_noblank {sg : UInt8} {h n : Nat} (hs : sg = 43 ∨ sg = 45) (hh : h < 24) (hn : n < 60) : 32 ∉ diffText sg h n := by
  intro hm
  simp only [diffText, List.mem_cons, List.mem_append] at hm
  rcases hm with hm | hm | hm | hm
  · rcases hs with rfl | rfl <;> revert hm <;> decide
  · exact absurd (d2_dig (by omega) _ hm) (by decide)
  · revert hm; decide
  · exact absurd (d2_dig (by omega) _ hm) (by decide)
def tmMsg (t : List UInt8) : Msg := ⟨0, 0, t, [], [], [], [], [], []⟩
theorem shift_read {x : (Int × Int × Int) × Int} (hx : IsMoment x) {s : Nat} (hs : s < 60) {fr : List UInt8} (hf : FracB fr) {sg : UInt8} {h n : Nat} (hg : sg = 43 ∨ sg = 45) (hh : h < 24) (hn : n < 60) {k : Int} (hk : difference (diffText sg h n) = some k) :
    read (timeLine ((stampOf x s ++ fr) ++ diffText sg h n)) 1 = if isYear (shiftBy x k).1.1 = false then (Msg.none, 3, 5) else (tmMsg ((stampOf (shiftBy x k) s ++ fr) ++ [90]), 0, 0) := by
  have hfl : fr.length ≤ 7 := by
    rcases hf with rfl | ⟨ds, c, rfl, _, _, hl, _⟩
    · simp
    · simp; omega
  have hdl : (diffText sg h n).length = 6 := rfl
  rw [read_timeLine]
  · rw [List.append_assoc, readTime_shift (z := diffText sg h n) hx hs hf ⟨sg, _, rfl, by rcases hg with rfl | rfl <;> decide, by rcases hg with rfl | rfl <;> decide⟩ hk]
    split
    · next e => split at e <;> simp_all
    · next e =>
      split at e
      · cases e
      · next e2 =>
        cases e
        rw [if_neg e2]
        rfl
  · intro hm
    simp only [List.mem_append] at hm
    rcases hm with (hm | hm) | hm
    · exact stamp_noblank hx hs hm
    · exact frac_noblank hf hm
    · exact diff_noblank hg hh hn hm
  · intro e
    have := congrArg List.length e
    simp only [List.length_append, stampOf_length, List.length_cons, List.length_nil] at this
    omega
  · simp only [List.length_append, stampOf_length, hdl]
    omega
theorem isYear_day {x : Int × Int × Int} (h : IsDay x) : ¬ isYear x.1 = false := by
  obtain ⟨a, b, _⟩ := h
  simp [isYear]
  omega
structure Far (body b1 b2 : List UInt8) (h n : Nat) : Prop where
  l1 : b1.length = body.length
  l2 : b2.length = body.length
  r1 : read (timeLine (body ++ diffText 43 h n)) 1 = (tmMsg (b1 ++ [90]), 0, 0)
  r2 : read (timeLine (body ++ diffText 45 h n)) 1 = (tmMsg (b2 ++ [90]), 0, 0)
  r3 : read (timeLine (b1 ++ diffText 45 h n)) 1 = (tmMsg (body ++ [90]), 0, 0)
  r4 : read (timeLine (b2 ++ diffText 43 h n)) 1 = (tmMsg (body ++ [90]), 0, 0)
  z : h = 0 → n = 0 → b1 = body ∧ b2 = body
  o : ¬ (h = 0 ∧ n = 0) → bytesLess (b1 ++ [90]) (body ++ [90]) = true ∧ bytesLess (body ++ [90]) (b2 ++ [90]) = true
theorem shifted_far (day second part : Int) {h n : Nat} (hh : h < 24) (hn : n < 60) (hy : ¬ kyear day = 1) (hy2 : ¬ kyear day = 9999) : ∃ b1 b2, Far (kbody day second part) b1 b2 h n := by
  have hx := sx_ok day second
  have hf := kfrac_form part
  have hyb := kyear_bd day
  have hs : pick second 86400 % 60 < 60 := Nat.mod_lt _ (by decide)
  have y1 : 2 ≤ (sx day second).1.1 := by show (2 : Int) ≤ (kyear day : Int); omega
  have y2 : (sx day second).1.1 ≤ 9998 := by show (kyear day : Int) ≤ 9998; omega
  unfold kbody
  rw [kstamp_of]
  generalize sx day second = x at hx y1 y2
  generalize pick second 86400 % 60 = s at hs
  generalize kfrac part = fr at hf
  have hp := difference_plus hh hn
  have hm := difference_minus hh hn
  generalize hk : (60 * h + n : Int) = k at hp hm
  have o1 := shift_ok hx y1 y2 (k := k) (by omega) (by omega)
  have o2 := shift_ok hx y1 y2 (k := -k) (by omega) (by omega)
  refine ⟨stampOf (shiftBy x k) s ++ fr, stampOf (shiftBy x (-k)) s ++ fr, ?_, ?_, ?_, ?_, ?_, ?_, ?_, ?_⟩
  · simp only [List.length_append, stampOf_length]
  · simp only [List.length_append, stampOf_length]
  · rw [shift_read hx hs hf (.inl rfl) hh hn hp, if_neg (isYear_day o1.1)]
  · rw [shift_read hx hs hf (.inr rfl) hh hn hm, if_neg (isYear_day o2.1)]
  · rw [shift_read o1 hs hf (.inr rfl) hh hn hm, shift_back hx (by omega) (by omega), if_neg (isYear_day hx.1)]
  · rw [shift_read o2 hs hf (.inl rfl) hh hn hp]
    have := shift_back hx (k := -k) (by omega) (by omega)
    rw [Int.neg_neg] at this
    rw [this, if_neg (isYear_day hx.1)]
  · intro a b
    obtain rfl : k = 0 := by omega
    rw [Int.neg_zero, shift_zero hx]
    exact ⟨rfl, rfl⟩
  · intro hz
    have h0 : 0 < k := by omega
    rw [List.append_assoc, List.append_assoc, List.append_assoc]
    exact ⟨shift_less hx y1 y2 h0 (by omega) s _, shift_more hx y1 y2 (by omega) (by omega) s _⟩
theorem shifted_near (day second part : Int) {h n : Nat} (hh : h < 24) (hn : n < 60) {sg : UInt8} (hg : sg = 43 ∨ sg = 45) :
    ∃ t e a, read (timeLine (kbody day second part ++ diffText sg h n)) 1 = (tmMsg t, e, a) ∧ (e = 0 ∨ e = 3) ∧ a < 10 := by
  have hx := sx_ok day second
  have hf := kfrac_form part
  have hs : pick second 86400 % 60 < 60 := Nat.mod_lt _ (by decide)
  unfold kbody
  rw [kstamp_of]
  have hd : ∃ k, difference (diffText sg h n) = some k := by
    rcases hg with rfl | rfl
    · exact ⟨_, difference_plus hh hn⟩
    · exact ⟨_, difference_minus hh hn⟩
  obtain ⟨k, hk⟩ := hd
  rw [shift_read hx hs hf hg hh hn hk]
  split
  · exact ⟨[], 3, 5, rfl, .inr rfl, by decide⟩
  · exact ⟨_, 0, 0, rfl, .inl rfl, by decide⟩
theorem kbody_len (day second part : Int) : 19 ≤ (kbody day second part).length ∧ (kbody day second part).length ≤ 26 := by
  have := kfrac_len part
  unfold kbody kstamp
  simp only [List.length_append, stampText_length]
  omega
theorem kbody_year (day second part : Int) : ∃ r, kbody day second part = d4 (kyear day) ++ r := by
  unfold kbody kstamp stampText
  simp only [List.append_assoc]
  exact ⟨_, rfl⟩
theorem d4_is {y k : Nat} (hy : y < 10000) (hk : k < 10000) : (d4 y == d4 k) = decide (y = k) := by
  by_cases h : y = k
  · subst h; simp
  · rw [decide_eq_false h]
    apply Bool.eq_false_iff.2
    intro e
    have e := eq_of_beq e
    have := congrArg dec e
    rw [dec_d4 hy, dec_d4 hk] at this
    exact h this
end Go.Hm

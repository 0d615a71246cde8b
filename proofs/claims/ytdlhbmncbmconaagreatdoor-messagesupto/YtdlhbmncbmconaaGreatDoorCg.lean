/- Contract of the reference: source. -/
import Derived.Test.YtdlhbmncbmconaaGreatDoorCe
import Derived.Test.YtdlhbmncbmconaaGreatDoorMg
namespace Go.Hm
theorem pre_at (l : List UInt8) (a : Nat) (c : UInt8) : Lib.hasPrefix (l.drop a) [c] = true ↔ ∃ h : a < l.length, l[a] = c := by
  by_cases h : a < l.length
  · rw [List.drop_eq_getElem_cons h]
    simp only [Lib.hasPrefix, List.isPrefixOf, Bool.and_true, beq_iff_eq]
    constructor
    · intro e; exact ⟨h, e.symm⟩
    · rintro ⟨_, e⟩; exact e.symm
  · rw [List.drop_of_length_le (by omega)]
    simp [Lib.hasPrefix, h]
structure Acc (l : List UInt8) (n : Nat) : Prop where
  dg : (rdigits l 1 n).2 = true
  len : n + 1 < l.length
  gt : l[n + 1].toNat = 62
  le : (rdigits l 1 n).1 ≤ 191
  zero : ¬ (l[1]'(by omega)).toNat = 48 ∨ n = 1
theorem acc_source {l : List UInt8} {n : Nat} (h0 : ∃ h : 0 < l.length, l[0].toNat = 60) (hn1 : 1 ≤ n) (hn3 : n ≤ 3) (h : Acc l n) : source l = ((rdigits l 1 n).1, n + 2) := by
  obtain ⟨h00, h0⟩ := h0
  obtain ⟨d1, d2, d3⟩ := rdigits_ok h.dg
  have hlen := h.len
  have ha : ahead dig 3 (l.drop 1) = n := by
    have hp : l.drop 1 = (l.drop 1).take n ++ (l.drop 1).drop n := (List.take_append_drop n _).symm
    have hl1 : ((l.drop 1).take n).length = n := by rw [List.length_take, List.length_drop]; omega
    rw [hp]
    have := ahead_of (p := dig) (b := 3) (a := (l.drop 1).take n) (r := (l.drop 1).drop n) (by omega) d2 (by
      right; right
      refine ⟨l[n + 1], l.drop (n + 2), ?_, ?_⟩
      · rw [List.drop_drop, show 1 + n = n + 1 by omega, List.drop_eq_getElem_cons hlen]
      · simp [dig, h.gt])
    rw [this, hl1]
  have e60 : Lib.hasPrefix l [60] = true := by
    have := (pre_at l 0 60).2 ⟨h00, UInt8.toNat_inj.1 (by simpa using h0)⟩
    rwa [List.drop_zero] at this
  have e62 : Lib.hasPrefix (l.drop (1 + n)) [62] = true := by
    rw [show 1 + n = n + 1 by omega]
    exact (pre_at l (n + 1) 62).2 ⟨hlen, UInt8.toNat_inj.1 (by simpa using h.gt)⟩
  have g1 : l.getD 1 0 = l[1]'(by omega) := by rw [List.getD_eq_getElem?_getD, List.getElem?_eq_getElem (by omega)]; rfl
  unfold source
  rw [ha, if_neg (by rw [e60]; simp), if_neg (by rw [e62]; simp; omega), if_neg (by
    rw [g1, ← d3]
    have h1 := h.zero
    have h2 := h.le
    omega), ← d3]
  congr 1
  omega
theorem source_acc {l : List UInt8} (hs : ¬ (source l).2 = 0) : (∃ h : 0 < l.length, l[0].toNat = 60) ∧ 3 ≤ l.length ∧ ∃ n, 1 ≤ n ∧ n ≤ 3 ∧ Acc l n := by
  unfold source at hs
  split at hs
  · exact absurd rfl hs
  · next c1 =>
    split at hs
    · exact absurd rfl hs
    · next c2 =>
      split at hs
      · exact absurd rfl hs
      · next c3 =>
        have e60 : Lib.hasPrefix (l.drop 0) [60] = true := by rw [List.drop_zero]; simpa using c1
        obtain ⟨h00, h0⟩ := (pre_at l 0 60).1 e60
        have hk := ahead_le dig 3 (l.drop 1)
        have hd := ahead_digits 3 (l.drop 1)
        generalize ahead dig 3 (l.drop 1) = k at c2 c3 hk hd
        have e62 : Lib.hasPrefix (l.drop (1 + k)) [62] = true := by
          have : ¬ Lib.hasPrefix (l.drop (1 + k)) [62] = false := fun e => c2 (.inr e)
          simpa using this
        obtain ⟨h62, h63⟩ := (pre_at l (1 + k) 62).1 e62
        have hk0 : ¬ k = 0 := fun e => c2 (.inl e)
        have hrd := rdigits_of (l := l) (a := 1) (n := k) (by omega) (by omega) hd
        have g1 : l.getD 1 0 = l[1]'(by omega) := by rw [List.getD_eq_getElem?_getD, List.getElem?_eq_getElem (by omega)]; rfl
        rw [g1] at c3
        refine ⟨⟨h00, by rw [h0]; rfl⟩, by omega, k, by omega, hk.1, ⟨by rw [hrd], by omega, ?_, by rw [hrd]; dsimp only; omega, by omega⟩⟩
        have : l[k + 1]'(by omega) = l[1 + k] := by congr 1; omega
        rw [this, h63]
        rfl
end Go.Hm

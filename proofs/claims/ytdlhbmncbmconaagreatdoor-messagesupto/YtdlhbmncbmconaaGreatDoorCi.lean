/- Contract of the reference: tag (mathematics). -/
import Derived.Test.YtdlhbmncbmconaaGreatDoorCh
namespace Go.Hm
theorem ahead_min (p : UInt8 → Bool) : ∀ (l : List UInt8) (b : Nat), ahead p b l = min b (l.takeWhile p).length
  | [], b => by simp [ahead]
  | c :: t, 0 => by simp [ahead]
  | c :: t, b + 1 => by
    have ih := ahead_min p t b
    unfold ahead at ih ⊢
    rw [List.take_succ_cons]
    by_cases hc : p c = true
    · rw [List.takeWhile_cons, List.takeWhile_cons, if_pos hc, if_pos hc, List.length_cons, List.length_cons, ih]
      omega
    · rw [List.takeWhile_cons, List.takeWhile_cons, if_neg hc, if_neg hc]
      simp
theorem take_run (p : UInt8 → Bool) (l : List UInt8) : l.take (l.takeWhile p).length = l.takeWhile p :=
  (List.prefix_iff_eq_take.1 (List.takeWhile_prefix p)).symm
theorem run_pre {l : List UInt8} {p : UInt8 → Bool} {I k : Nat} (hI : (l.takeWhile p).length = I) (hk : k < I) : ∃ h : k < l.length, p l[k] = true := by
  have := (run_at p l 0 I (Nat.zero_le _) (by rw [List.drop_zero]; exact hI)).2.1 k hk
  obtain ⟨h, hp⟩ := this
  refine ⟨by omega, ?_⟩
  have e : l[0 + k] = l[k]'(by omega) := by congr 1; omega
  rw [← e]; exact hp
theorem pre_no {l : List UInt8} {a : Nat} {c : UInt8} (h : ¬ ∃ h : a < l.length, l[a].toNat = c.toNat) : Lib.hasPrefix (l.drop a) [c] = false := by
  cases hb : Lib.hasPrefix (l.drop a) [c] with
  | false => rfl
  | true =>
    obtain ⟨h1, h2⟩ := (pre_at l a c).1 hb
    exact absurd ⟨h1, by rw [h2]⟩ h
theorem pre_yes {l : List UInt8} {a : Nat} {c : UInt8} (h : ∃ h : a < l.length, l[a].toNat = c.toNat) : Lib.hasPrefix (l.drop a) [c] = true := by
  obtain ⟨h1, h2⟩ := h
  exact (pre_at l a c).2 ⟨h1, UInt8.toNat_inj.1 h2⟩
theorem tagRest_no {l a p : List UInt8} {e : Nat} (h : ¬ ∃ h : e < l.length, l[e].toNat = 58) : tagRest l a p e = ([], [], 0) := by
  unfold tagRest
  rw [if_pos (pre_no (c := 58) h)]
theorem tagRest_1 {l a p : List UInt8} {e : Nat} (h : ∃ h : e < l.length, l[e].toNat = 58) (h2 : ¬ ∃ h : e + 1 < l.length, l[e + 1].toNat = 32) : tagRest l a p e = (a, p, e + 1) := by
  unfold tagRest
  rw [if_neg (by rw [pre_yes (c := 58) h]; simp), if_neg (by rw [pre_no (c := 32) h2]; simp)]
theorem tagRest_2 {l a p : List UInt8} {e : Nat} (h : ∃ h : e < l.length, l[e].toNat = 58) (h2 : ∃ h : e + 1 < l.length, l[e + 1].toNat = 32) : tagRest l a p e = (a, p, e + 1 + 1) := by
  unfold tagRest
  rw [if_neg (by rw [pre_yes (c := 58) h]; simp), if_pos (pre_yes (c := 32) h2)]
theorem tag_bad {l : List UInt8} {I : Nat} (hI : (l.takeWhile tgb).length = I) (h : word (l.take I) 16 = false) : tag l = ([], [], 0) := by
  have ha := ahead_min tgb l 16
  rw [hI] at ha
  by_cases hl : I ≤ 16
  · rw [Nat.min_eq_right hl] at ha
    unfold tag
    rw [ha]
    have hall : (l.take I).all vis = true := by
      rw [List.all_eq_true]
      intro c hc
      rw [← hI, take_run] at hc
      exact tgb_vis (twe_all tgb l c hc)
    have hlen : (l.take I).length = I := by
      rw [List.length_take]
      have := twe_len tgb l
      omega
    rw [if_pos]
    unfold word at h
    rw [hall, hlen, decide_eq_true hl, Bool.and_true, Bool.and_true] at h
    by_cases h0 : I = 0
    · exact .inl h0
    · right
      have hne : (l.take I).isEmpty = false := by
        cases ht : l.take I with
        | nil => rw [ht] at hlen; simp at hlen; omega
        | cons => rfl
      rw [hne] at h
      simpa using h
  · rw [Nat.min_eq_left (by omega)] at ha
    unfold tag
    obtain ⟨h16, hc⟩ := run_pre hI (show 16 < I by omega)
    have h91 : ¬ ∃ h : 16 < l.length, l[16].toNat = 91 := fun ⟨_, h⟩ => by simp [tgb, letr, dig] at hc; omega
    have h58 : ¬ ∃ h : 16 < l.length, l[16].toNat = 58 := fun ⟨_, h⟩ => by simp [tgb, letr, dig] at hc; omega
    rw [ha, if_neg (by
      rintro (h | h)
      · omega
      · have := congrArg List.length h
        rw [List.length_take] at this
        simp at this
        omega), if_neg (by rw [pre_no (c := 91) h91]; simp), tagRest_no h58]
theorem tag_word {l : List UInt8} {I : Nat} (hI : (l.takeWhile tgb).length = I) (h : word (l.take I) 16 = true) : ahead tgb 16 l = I ∧ ¬ (I = 0 ∨ l.take I = [45]) := by
  have hl := twe_len tgb l
  have h2 : ¬ I = 0 ∧ ¬ l.take I = [45] ∧ (l.take I).length ≤ 16 := by
    simp [word] at h
    refine ⟨fun e => ?_, h.1.1.2, ?_⟩
    · exact h.1.1.1.1 e
    · rw [List.length_take]; omega
  refine ⟨?_, fun e => e.elim h2.1 h2.2.1⟩
  rw [ahead_min, hI]
  rw [List.length_take] at h2
  omega
theorem tag_shut {l : List UInt8} {I : Nat} (hI : (l.takeWhile tgb).length = I) (h : word (l.take I) 16 = true) (h91 : ¬ ∃ h : I < l.length, l[I].toNat = 91) : tag l = tagRest l (l.take I) [] I := by
  obtain ⟨ha, hn⟩ := tag_word hI h
  unfold tag
  rw [ha, if_neg hn, if_neg (by rw [pre_no (c := 91) h91]; simp)]
theorem tag_open_no {l : List UInt8} {I J : Nat} (hI : (l.takeWhile tgb).length = I) (h : word (l.take I) 16 = true) (h91 : ∃ h : I < l.length, l[I].toNat = 91)
    (hJ : ((l.drop (I + 1)).takeWhile dig).length = J) (hb : J = 0 ∨ 8 < J ∨ ¬ ∃ h : I + 1 + J < l.length, l[I + 1 + J].toNat = 93) : tag l = ([], [], 0) := by
  obtain ⟨ha, hn⟩ := tag_word hI h
  unfold tag
  rw [ha, if_neg hn, if_pos (pre_yes (c := 91) h91), ahead_min, hJ]
  rw [if_pos]
  by_cases h8 : 8 < J
  · right
    rw [Nat.min_eq_left (by omega)]
    have hr := (run_at dig l (I + 1) J (by obtain ⟨h1, _⟩ := h91; omega) hJ).2.1 8 h8
    obtain ⟨h1, hp⟩ := hr
    exact pre_no (c := 93) fun ⟨_, e⟩ => by
      have e2 : l[I + (1 + 8)]'(by omega) = l[I + 1 + 8] := by congr 1
      simp [dig] at hp
      rw [e2] at e
      have : (93 : UInt8).toNat = 93 := rfl
      omega
  · rw [Nat.min_eq_right (by omega)]
    rcases hb with hb | hb | hb
    · exact .inl hb
    · omega
    · right
      rw [show I + (1 + J) = I + 1 + J by omega]
      exact pre_no (c := 93) hb
theorem tag_open {l : List UInt8} {I J : Nat} (hI : (l.takeWhile tgb).length = I) (h : word (l.take I) 16 = true) (h91 : ∃ h : I < l.length, l[I].toNat = 91)
    (hJ : ((l.drop (I + 1)).takeWhile dig).length = J) (h0 : ¬ J = 0) (h8 : ¬ 8 < J) (hb : ∃ h : I + 1 + J < l.length, l[I + 1 + J].toNat = 93) : tag l = tagRest l (l.take I) ((l.drop (I + 1)).take J) (I + 1 + J + 1) := by
  obtain ⟨ha, hn⟩ := tag_word hI h
  unfold tag
  rw [ha, if_neg hn, if_pos (pre_yes (c := 91) h91), ahead_min, hJ, Nat.min_eq_right (by omega), if_neg, show I + (1 + J) = I + 1 + J by omega]
  rintro (e | e)
  · exact h0 e
  · rw [show I + (1 + J) = I + 1 + J by omega, pre_yes (c := 93) hb] at e
    cases e
end Go.Hm

/- Mathematics of the reference's Split: the state of the frames at each place of the text. -/
import Derived.Test.YtdlhbmncbmconaaGreatDoorMx
namespace Go.Hm
theorem b_eq {c d : UInt8} (h : c.toNat = d.toNat) : c = d := UInt8.toNat_inj.1 h
def St (b : Nat) (l : List UInt8) (i : Nat) : Frs × List (List UInt8) := (Frs.fresh b).feed (l.take i)
theorem St_zero (b : Nat) (l : List UInt8) : St b l 0 = (Frs.fresh b, []) := rfl
theorem St_all (b : Nat) (l : List UInt8) {i : Nat} (h : l.length ≤ i) : St b l i = (Frs.fresh b).feed l := by
  unfold St
  rw [List.take_of_length_le h]
theorem St_next {b : Nat} {l : List UInt8} {i : Nat} {f f' : Frs} {out : List (List UInt8)} {x : List UInt8} (h : i < l.length) (hs : St b l i = (f, out)) (ht : f.take l[i] = (f', x)) :
    St b l (i + 1) = (f', if x = [] then out else out ++ [x]) := by
  unfold St at hs ⊢
  rw [List.take_add_one, List.getElem?_eq_getElem h, Frs.feed_append, hs]
  dsimp only [Option.toList]
  rw [Frs.feed_cons, ht]
  simp only [Frs.feed]
  split <;> simp
theorem St_far {b : Nat} {l : List UInt8} {i k : Nat} {f f' : Frs} {out o2 : List (List UInt8)} (hs : St b l i = (f, out)) (ht : f.feed ((l.drop i).take k) = (f', o2)) :
    St b l (i + k) = (f', out ++ o2) := by
  unfold St at hs ⊢
  rw [List.take_add, Frs.feed_append, hs]
  dsimp only
  rw [ht]
theorem take_shut {b : Nat} {c : UInt8} (h : c.toNat = 10) : (Frs.fresh b).take c = (Frs.fresh b, []) := by
  have e : c = 10 := b_eq h
  subst e
  rfl
theorem take_bad {b : Nat} {c : UInt8} (h : ¬ c.toNat = 10) : (Frs.mk b 4 0 0 []).take c = (Frs.mk b 4 0 0 [], []) := by
  have e : c ≠ 10 := fun e => h (by rw [e]; rfl)
  unfold Frs.take Frs.begun
  rw [if_neg (by simp)]
  unfold Frs.goes
  rw [if_neg (by simp), if_neg (by simp), if_neg (by simp), if_neg e]
theorem take_good {b : Nat} {c : UInt8} (h : c.toNat = 10) : (Frs.mk b 4 0 0 []).take c = (Frs.fresh b, []) := by
  have e : c = 10 := b_eq h
  subst e
  rfl
theorem dig_19 {c : UInt8} : (dig c = true ∧ c ≠ 48) ↔ (49 ≤ c.toNat ∧ c.toNat ≤ 57) := by
  unfold dig
  constructor
  · rintro ⟨h1, h2⟩
    simp at h1
    have : ¬ c.toNat = 48 := fun e => h2 (b_eq e)
    omega
  · intro h
    refine ⟨by simp; omega, fun e => ?_⟩
    rw [e] at h
    simp at h
theorem take_line1 {b : Nat} {c : UInt8} (hb : 1 ≤ b) (h : ¬ (49 ≤ c.toNat ∧ c.toNat ≤ 57)) (h10 : ¬ c.toNat = 10) : (Frs.fresh b).take c = (Frs.mk b 3 0 0 [c], []) := by
  have e : c ≠ 10 := fun e => h10 (by rw [e]; rfl)
  unfold Frs.take Frs.begun
  rw [if_pos (show (Frs.fresh b).stage = 0 from rfl), if_neg (fun q => h (dig_19.1 q))]
  unfold Frs.goes
  rw [if_neg (by simp), if_neg (by simp), if_pos rfl]
  unfold Frs.takeLine
  rw [if_neg e, if_neg (by simp [Frs.fresh]; omega)]
  rfl
theorem take_over {b : Nat} {o : List UInt8} {c : UInt8} (h10 : ¬ c.toNat = 10) (hl : o.length = b) : (Frs.mk b 3 0 0 o).take c = (Frs.mk b 4 0 0 [], [33]) := by
  have e : c ≠ 10 := fun e => h10 (by rw [e]; rfl)
  unfold Frs.take Frs.begun
  rw [if_neg (by simp)]
  unfold Frs.goes
  rw [if_neg (by simp), if_neg (by simp), if_pos rfl]
  unfold Frs.takeLine
  rw [if_neg e, if_pos hl]
  unfold Frs.endBad
  rw [if_neg e]
theorem take_done {b : Nat} {o : List UInt8} {c : UInt8} (h10 : c.toNat = 10) (ho : ¬ o = []) : (Frs.mk b 3 0 0 o).take c = (Frs.fresh b, 61 :: o) := by
  have e : c = 10 := b_eq h10
  subst e
  exact take_end ho
theorem take_first' {b : Nat} {c : UInt8} (h : 49 ≤ c.toNat ∧ c.toNat ≤ 57) : (Frs.fresh b).take c = if b < c.toNat - 48 then (Frs.mk b 4 0 0 [], [33]) else (Frs.mk b 1 1 (c.toNat - 48) [], []) := by
  obtain ⟨h1, h2⟩ := dig_19.2 h
  have e : c ≠ 10 := fun e => by rw [e] at h; simp at h
  by_cases hb : b < c.toNat - 48
  · rw [if_pos hb]
    unfold Frs.take Frs.begun
    rw [if_pos (show (Frs.fresh b).stage = 0 from rfl), if_pos ⟨h1, h2⟩]
    unfold Frs.goes
    rw [if_pos rfl]
    unfold Frs.takeNumber
    rw [if_pos h1, if_pos (by simp [Frs.fresh]; omega)]
    unfold Frs.endBad
    rw [if_neg e]
    rfl
  · rw [if_neg hb, take_first h1 h2 (by omega)]
theorem sdig_iff {c : UInt8} : dig c = true ↔ (48 ≤ c.toNat ∧ c.toNat ≤ 57) := by unfold dig; simp
theorem take_digit' {b h n : Nat} {c : UInt8} (hd : 48 ≤ c.toNat ∧ c.toNat ≤ 57) : (Frs.mk b 1 h n []).take c = if b < 10 * n + (c.toNat - 48) then (Frs.mk b 4 0 0 [], [33]) else (Frs.mk b 1 (h + 1) (10 * n + (c.toNat - 48)) [], []) := by
  have e : c ≠ 10 := fun e => by rw [e] at hd; simp at hd
  by_cases hb : b < 10 * n + (c.toNat - 48)
  · rw [if_pos hb]
    unfold Frs.take Frs.begun
    rw [if_neg (by simp)]
    unfold Frs.goes
    rw [if_pos rfl]
    unfold Frs.takeNumber
    rw [if_pos (sdig_iff.2 hd), if_pos (by simp; omega)]
    unfold Frs.endBad
    rw [if_neg e]
  · rw [if_neg hb, take_digit (sdig_iff.2 hd) (by omega)]
theorem take_space {b h n : Nat} {c : UInt8} (hc : c.toNat = 32) : (Frs.mk b 1 h n []).take c = (Frs.mk b 2 (h + 1) n [], []) := by
  have e : c = 32 := b_eq hc
  subst e
  exact take_blank
theorem take_other {b h n : Nat} {c : UInt8} (hd : ¬ (48 ≤ c.toNat ∧ c.toNat ≤ 57)) (hc : ¬ c.toNat = 32) : (Frs.mk b 1 h n []).take c = (if c.toNat = 10 then Frs.fresh b else Frs.mk b 4 0 0 [], [33]) := by
  have e : c ≠ 32 := fun e => hc (by rw [e]; rfl)
  unfold Frs.take Frs.begun
  rw [if_neg (by simp)]
  unfold Frs.goes
  rw [if_pos rfl]
  unfold Frs.takeNumber
  rw [if_neg (fun q => hd (sdig_iff.1 q)), if_neg e]
  unfold Frs.endBad
  by_cases h10 : c.toNat = 10
  · have e10 : c = 10 := b_eq h10
    rw [if_pos h10, if_pos e10]
    rfl
  · have e10 : c ≠ 10 := fun e => h10 (by rw [e]; rfl)
    rw [if_neg h10, if_neg e10]
theorem feed_part {b h n : Nat} : ∀ (t o : List UInt8), o.length + t.length < n → (Frs.mk b 2 h n o).feed t = (Frs.mk b 2 h n (o ++ t), [])
  | [], o, _ => by simp [Frs.feed]
  | c :: t, o, hl => by
    rw [List.length_cons] at hl
    have e : (Frs.mk b 2 h n o).take c = (Frs.mk b 2 h n (o ++ [c]), []) := by
      unfold Frs.take Frs.begun
      rw [if_neg (by simp)]
      unfold Frs.goes
      rw [if_neg (by simp), if_pos rfl]
      unfold Frs.takeCounted
      rw [if_pos (by simp; omega)]
    rw [Frs.feed_cons, e]
    dsimp only
    rw [feed_part t (o ++ [c]) (by simp; omega)]
    simp
/- where the state is at a place: ready for the next frame; or, at the text's end, within what is spoilt -/
def Rdy (b : Nat) (l : List UInt8) (i : Nat) (out : List (List UInt8)) : Prop := i ≤ l.length ∧ (St b l i = (Frs.fresh b, out) ∨ (i = l.length ∧ St b l i = (Frs.mk b 4 0 0 [], out)))
def splitOf (b : Nat) (l : List UInt8) : List (List UInt8) × Nat := (((Frs.fresh b).feed l).2, ((Frs.fresh b).feed l).1.head + ((Frs.fresh b).feed l).1.own.length)
theorem rdy_start (b : Nat) (l : List UInt8) : Rdy b l 0 [] := ⟨Nat.zero_le _, .inl (St_zero b l)⟩
theorem rdy_end {b : Nat} {l : List UInt8} {i : Nat} {out : List (List UInt8)} (h : Rdy b l i out) (hi : l.length ≤ i) : splitOf b l = (out, 0) := by
  obtain ⟨hle, h⟩ := h
  have e : i = l.length := by omega
  unfold splitOf
  rcases h with h | ⟨_, h⟩
  · rw [St_all b l (by omega)] at h
    rw [h]
    rfl
  · rw [St_all b l (by omega)] at h
    rw [h]
    rfl
theorem rdy_fresh {b : Nat} {l : List UInt8} {i : Nat} {out : List (List UInt8)} (h : Rdy b l i out) (hi : i < l.length) : St b l i = (Frs.fresh b, out) := by
  rcases h.2 with h | ⟨e, _⟩
  · exact h
  · omega
theorem rdy_shut {b : Nat} {l : List UInt8} {i : Nat} {out : List (List UInt8)} (h : Rdy b l i out) (hi : i < l.length) (h10 : l[i].toNat = 10) : Rdy b l (i + 1) out := by
  have := St_next hi (rdy_fresh h hi) (take_shut h10)
  rw [if_pos rfl] at this
  exact ⟨by omega, .inl this⟩
/- a line: at place e, from place a on -/
def LnI (b : Nat) (l : List UInt8) (a e : Nat) (out : List (List UInt8)) : Prop :=
  a ≤ e ∧ e ≤ l.length ∧ ((e = a ∧ St b l e = (Frs.fresh b, out)) ∨ (a < e ∧ e ≤ a + b ∧ St b l e = (Frs.mk b 3 0 0 ((l.drop a).take (e - a)), out)) ∨ (e = a + b + 1 ∧ (∀ h : e - 1 < l.length, ¬ l[e - 1].toNat = 10) ∧ St b l e = (Frs.mk b 4 0 0 [], out ++ [[33]])))
theorem ln_start {b : Nat} {l : List UInt8} {a : Nat} {out : List (List UInt8)} (h : Rdy b l a out) (ha : a < l.length) : LnI b l a a out := ⟨Nat.le_refl _, by omega, .inl ⟨rfl, rdy_fresh h ha⟩⟩
theorem seg_snoc (l : List UInt8) (a e : Nat) (ha : a ≤ e) (he : e < l.length) : (l.drop a).take (e + 1 - a) = (l.drop a).take (e - a) ++ [l[e]] := by
  rw [show e + 1 - a = e - a + 1 by omega, List.take_add_one, List.getElem?_drop, show a + (e - a) = e by omega, List.getElem?_eq_getElem he]
  rfl
theorem seg_len (l : List UInt8) (a e : Nat) (he : e ≤ l.length) : ((l.drop a).take (e - a)).length = e - a := by
  rw [List.length_take, List.length_drop]
  omega
theorem ln_next {b : Nat} {l : List UInt8} {a e : Nat} {out : List (List UInt8)} (hb : 1 ≤ b) (h : LnI b l a e out) (he : e < l.length) (h10 : ¬ l[e].toNat = 10) (hl : e - a ≤ b) (h0 : ∀ h : a < l.length, ¬ (49 ≤ l[a].toNat ∧ l[a].toNat ≤ 57)) : LnI b l a (e + 1) out := by
  obtain ⟨h1, h2, h | ⟨h3, h4, h⟩ | ⟨h3, h⟩⟩ := h
  · obtain ⟨rfl, h⟩ := h
    have := St_next he h (take_line1 hb (h0 he) h10)
    rw [if_pos rfl] at this
    refine ⟨by omega, by omega, .inr (.inl ⟨by omega, by omega, ?_⟩)⟩
    rw [this, seg_snoc l e e (by omega) he]
    simp
  · by_cases hlt : e - a = b
    · have := St_next he h (take_over h10 (by rw [seg_len l a e h2]; exact hlt))
      rw [if_neg (by simp)] at this
      exact ⟨by omega, by omega, .inr (.inr ⟨by omega, fun h => by simp only [Nat.add_sub_cancel]; exact h10, this⟩)⟩
    · have e10 : l[e] ≠ 10 := fun q => h10 (by rw [q]; rfl)
      have := St_next he h (take_line e10 (by rw [seg_len l a e h2]; omega))
      rw [if_pos rfl] at this
      refine ⟨by omega, by omega, .inr (.inl ⟨by omega, by omega, ?_⟩)⟩
      rw [this, seg_snoc l a e h1 he]
  · omega
theorem ln_bad {b : Nat} {l : List UInt8} {a e : Nat} {out : List (List UInt8)} (h : LnI b l a e out) (hl : b < e - a) : St b l e = (Frs.mk b 4 0 0 [], out ++ [[33]]) ∧ ∀ h : e - 1 < l.length, ¬ l[e - 1].toNat = 10 := by
  obtain ⟨h1, h2, h | ⟨h3, h4, h⟩ | ⟨h3, h4, h⟩⟩ := h
  · omega
  · omega
  · exact ⟨h, h4⟩
theorem ln_part {b : Nat} {l : List UInt8} {a e : Nat} {out : List (List UInt8)} (h : LnI b l a e out) (hl : ¬ b < e - a) (hae : a < l.length) (he : e = l.length) : splitOf b l = (out, e - a) := by
  obtain ⟨h1, h2, h | ⟨h3, h4, h⟩ | ⟨h3, h⟩⟩ := h
  · omega
  · rw [St_all b l (by omega)] at h
    unfold splitOf
    rw [h]
    dsimp only
    rw [seg_len l a e h2, Nat.zero_add]
  · omega
theorem ln_done {b : Nat} {l : List UInt8} {a e : Nat} {out : List (List UInt8)} (h : LnI b l a e out) (hl : ¬ b < e - a) (hne : a < e) (he : e < l.length) (h10 : l[e].toNat = 10) : Rdy b l (e + 1) (out ++ [61 :: (l.drop a).take (e - a)]) := by
  obtain ⟨h1, h2, h | ⟨h3, h4, h⟩ | ⟨h3, h⟩⟩ := h
  · omega
  · have := St_next he h (take_done h10 (fun q => by have := congrArg List.length q; rw [seg_len l a e h2] at this; simp at this; omega))
    rw [if_neg (by simp)] at this
    exact ⟨by omega, .inl this⟩
  · omega
/- a number: at place i, from place a on, its value n -/
def NmI (b : Nat) (l : List UInt8) (a i n : Nat) (out : List (List UInt8)) : Prop :=
  a ≤ i ∧ i ≤ l.length ∧ ((i = a ∧ n = 0 ∧ St b l i = (Frs.fresh b, out)) ∨ (a < i ∧ 1 ≤ n ∧ n ≤ b ∧ St b l i = (Frs.mk b 1 (i - a) n [], out)) ∨ (a < i ∧ b < n ∧ n ≤ 10 * b + 9 ∧ (∀ h : i - 1 < l.length, ¬ l[i - 1].toNat = 10) ∧ St b l i = (Frs.mk b 4 0 0 [], out ++ [[33]])))
theorem nm_start {b : Nat} {l : List UInt8} {a : Nat} {out : List (List UInt8)} (h : Rdy b l a out) (ha : a < l.length) : NmI b l a a 0 out := ⟨Nat.le_refl _, by omega, .inl ⟨rfl, rfl, rdy_fresh h ha⟩⟩
theorem nm_le {b : Nat} {l : List UInt8} {a i n : Nat} {out : List (List UInt8)} (h : NmI b l a i n out) : n ≤ 10 * b + 9 := by
  obtain ⟨h1, h2, h | h | h⟩ := h <;> omega
theorem nm_next {b : Nat} {l : List UInt8} {a i n : Nat} {out : List (List UInt8)} (h : NmI b l a i n out) (hi : i < l.length) (hd : 48 ≤ l[i].toNat ∧ l[i].toNat ≤ 57) (hn : n ≤ b) (h0 : ∀ h : a < l.length, 49 ≤ l[a].toNat ∧ l[a].toNat ≤ 57) : NmI b l a (i + 1) (10 * n + (l[i].toNat - 48)) out := by
  have h10 : ∀ h : i + 1 - 1 < l.length, ¬ l[i + 1 - 1].toNat = 10 := fun h => by simp only [Nat.add_sub_cancel]; omega
  obtain ⟨h1, h2, h | ⟨h3, h4, h5, h⟩ | ⟨h3, h4, _⟩⟩ := h
  · obtain ⟨rfl, rfl, h⟩ := h
    have h00 := h0 hi
    by_cases hb : b < l[i].toNat - 48
    · have := St_next hi h ((take_first' h00).trans (if_pos hb))
      rw [if_neg (by simp)] at this
      exact ⟨by omega, by omega, .inr (.inr ⟨by omega, by omega, by omega, h10, this⟩)⟩
    · have := St_next hi h ((take_first' h00).trans (if_neg hb))
      rw [if_pos rfl] at this
      refine ⟨by omega, by omega, .inr (.inl ⟨by omega, by omega, by omega, ?_⟩)⟩
      rw [this, show i + 1 - i = 1 by omega, show 10 * 0 + (l[i].toNat - 48) = l[i].toNat - 48 by omega]
  · by_cases hb : b < 10 * n + (l[i].toNat - 48)
    · have := St_next hi h ((take_digit' hd).trans (if_pos hb))
      rw [if_neg (by simp)] at this
      exact ⟨by omega, by omega, .inr (.inr ⟨by omega, by omega, by omega, h10, this⟩)⟩
    · have := St_next hi h ((take_digit' hd).trans (if_neg hb))
      rw [if_pos rfl] at this
      refine ⟨by omega, by omega, .inr (.inl ⟨by omega, by omega, by omega, ?_⟩)⟩
      rw [this, show i + 1 - a = i - a + 1 by omega]
  · omega
theorem nm_bad {b : Nat} {l : List UInt8} {a i n : Nat} {out : List (List UInt8)} (h : NmI b l a i n out) (hn : b < n) : a < i ∧ St b l i = (Frs.mk b 4 0 0 [], out ++ [[33]]) ∧ ∀ h : i - 1 < l.length, ¬ l[i - 1].toNat = 10 := by
  obtain ⟨h1, h2, h | ⟨h3, h4, h5, h⟩ | ⟨h3, h4, _, h5, h⟩⟩ := h
  · omega
  · omega
  · exact ⟨h3, h, h5⟩
theorem nm_mid {b : Nat} {l : List UInt8} {a i n : Nat} {out : List (List UInt8)} (h : NmI b l a i n out) (hn : ¬ b < n) (hai : a < i) : 1 ≤ n ∧ St b l i = (Frs.mk b 1 (i - a) n [], out) := by
  obtain ⟨h1, h2, h | ⟨h3, h4, h5, h⟩ | ⟨h3, h4, _⟩⟩ := h
  · omega
  · exact ⟨h4, h⟩
  · omega
theorem nm_part {b : Nat} {l : List UInt8} {a i n : Nat} {out : List (List UInt8)} (h : NmI b l a i n out) (hn : ¬ b < n) (hai : a < i) (hi : i = l.length) : splitOf b l = (out, i - a) := by
  have := (nm_mid h hn hai).2
  rw [St_all b l (by omega)] at this
  unfold splitOf
  rw [this]
  rfl
theorem nm_other {b : Nat} {l : List UInt8} {a i n : Nat} {out : List (List UInt8)} (h : NmI b l a i n out) (hn : ¬ b < n) (hai : a < i) (hi : i < l.length) (hd : ¬ (48 ≤ l[i].toNat ∧ l[i].toNat ≤ 57)) (hc : ¬ l[i].toNat = 32) :
    St b l (i + 1) = (if l[i].toNat = 10 then Frs.fresh b else Frs.mk b 4 0 0 [], out ++ [[33]]) := by
  have h1 := take_other (b := b) (h := i - a) (n := n) hd hc
  generalize (if l[i].toNat = 10 then Frs.fresh b else Frs.mk b 4 0 0 []) = F at h1 ⊢
  have := St_next hi (nm_mid h hn hai).2 h1
  rw [if_neg (by simp)] at this
  exact this
theorem nm_short {b : Nat} {l : List UInt8} {a i n : Nat} {out : List (List UInt8)} (h : NmI b l a i n out) (hn : ¬ b < n) (hai : a < i) (hi : i < l.length) (hc : l[i].toNat = 32) (hl : l.length < i + 1 + n) : splitOf b l = (out, l.length - a) := by
  have h1 := St_next hi (nm_mid h hn hai).2 (take_space hc)
  rw [if_pos rfl] at h1
  have h2 := St_far (k := l.length - (i + 1)) h1 (feed_part ((l.drop (i + 1)).take (l.length - (i + 1))) [] (by rw [List.length_take, List.length_drop]; simp; omega))
  rw [List.append_nil, St_all b l (by omega)] at h2
  unfold splitOf
  rw [h2]
  refine Prod.ext rfl ?_
  simp
  omega
theorem nm_frame {b : Nat} {l : List UInt8} {a i n : Nat} {out : List (List UInt8)} (h : NmI b l a i n out) (hn : ¬ b < n) (hai : a < i) (hi : i < l.length) (hc : l[i].toNat = 32) (hl : i + 1 + n ≤ l.length) : Rdy b l (i + 1 + n) (out ++ [61 :: (l.drop (i + 1)).take n]) := by
  have h1 := St_next hi (nm_mid h hn hai).2 (take_space hc)
  rw [if_pos rfl] at h1
  have hn1 := (nm_mid h hn hai).1
  have hlen : ((l.drop (i + 1)).take n).length = n := by rw [List.length_take, List.length_drop]; omega
  have h2 := St_far (k := n) h1 (feed_body ((l.drop (i + 1)).take n) [] (fun q => by rw [q] at hlen; simp at hlen; omega) (by rw [hlen]; simp))
  exact ⟨hl, .inl (by rw [h2]; simp)⟩
/- what is spoilt: up to behind the next line end -/
def Skip (b : Nat) (l : List UInt8) (j : Nat) (out : List (List UInt8)) : Prop := j ≤ l.length ∧ St b l j = (Frs.mk b 4 0 0 [], out)
theorem skip_next {b : Nat} {l : List UInt8} {j : Nat} {out : List (List UInt8)} (h : Skip b l j out) (hj : j < l.length) (h10 : ¬ l[j].toNat = 10) : Skip b l (j + 1) out := by
  have := St_next hj h.2 (take_bad h10)
  rw [if_pos rfl] at this
  exact ⟨by omega, this⟩
theorem skip_end {b : Nat} {l : List UInt8} {j : Nat} {out : List (List UInt8)} (h : Skip b l j out) (hj : j < l.length) (h10 : l[j].toNat = 10) : Rdy b l (j + 1) out := by
  have := St_next hj h.2 (take_good h10)
  rw [if_pos rfl] at this
  exact ⟨by omega, .inl this⟩
theorem skip_all {b : Nat} {l : List UInt8} {j : Nat} {out : List (List UInt8)} (h : Skip b l j out) (hj : l.length ≤ j) : Rdy b l j out := ⟨h.1, .inr ⟨by have := h.1; omega, h.2⟩⟩
/- the place behind the next line end from a place on, as a rule on places -/
def BhI (l : List UInt8) (a j : Nat) : Prop := a ≤ j ∧ j ≤ l.length ∧ ∀ k (h : k < l.length), a ≤ k → k < j → ¬ l[k].toNat = 10
def Bh (l : List UInt8) (a r : Nat) : Prop := (r = l.length ∧ BhI l a r) ∨ ∃ j, ∃ h : j < l.length, r = j + 1 ∧ l[j].toNat = 10 ∧ BhI l a j
theorem bh_skip {b : Nat} {l : List UInt8} {a : Nat} {out : List (List UInt8)} (h : Skip b l a out) : ∀ j, BhI l a j → Skip b l j out := by
  intro j
  induction j with
  | zero => intro hb; have := hb.1; have e : a = 0 := by omega
            rw [← e]; exact h
  | succ j ih =>
    intro hb
    by_cases e : a = j + 1
    · rw [← e]; exact h
    · have hj : j < l.length := by have := hb.2.1; omega
      exact skip_next (ih ⟨by have := hb.1; omega, by omega, fun k hk h1 h2 => hb.2.2 k hk h1 (by omega)⟩) hj (hb.2.2 j hj (by have := hb.1; omega) (by omega))
theorem bh_rdy {b : Nat} {l : List UInt8} {a r : Nat} {out : List (List UInt8)} (h : Skip b l a out) (hr : Bh l a r) : Rdy b l r out := by
  rcases hr with ⟨e, hb⟩ | ⟨j, hj, e, h10, hb⟩
  · exact skip_all (bh_skip h r hb) (by omega)
  · rw [e]; exact skip_end (bh_skip h j hb) hj h10
/- asked from one place ahead, where no line end stands -/
theorem bh_back {l : List UInt8} {a r : Nat} (ha : 0 < a) (hal : a ≤ l.length) (h10 : ∀ h : a - 1 < l.length, ¬ l[a - 1].toNat = 10) (hr : Bh l (a - 1) r) : Bh l a r := by
  rcases hr with ⟨e, hb⟩ | ⟨j, hj, e, hj10, hb⟩
  · exact .inl ⟨e, by omega, hb.2.1, fun k hk h1 h2 => hb.2.2 k hk (by omega) h2⟩
  · refine .inr ⟨j, hj, e, hj10, ?_, by omega, fun k hk h1 h2 => hb.2.2 k hk (by omega) h2⟩
    by_cases q : j = a - 1
    · subst q; exact absurd hj10 (h10 hj)
    · have := hb.1; omega
theorem other_rdy {b : Nat} {l : List UInt8} {i r : Nat} {out : List (List UInt8)} (hi : i < l.length) (h : St b l (i + 1) = (if l[i].toNat = 10 then Frs.fresh b else Frs.mk b 4 0 0 [], out)) (hr : Bh l i r) : Rdy b l r out := by
  by_cases h10 : l[i].toNat = 10
  · rw [if_pos h10] at h
    have e : r = i + 1 := by
      rcases hr with ⟨e, hb⟩ | ⟨j, hj, e, hj10, hb⟩
      · exact absurd h10 (hb.2.2 i hi (by omega) (by omega))
      · by_cases q : j = i
        · omega
        · exact absurd h10 (hb.2.2 i hi (by omega) (by have := hb.1; omega))
    rw [e]
    exact ⟨by omega, .inl h⟩
  · rw [if_neg h10] at h
    have hs : Skip b l (i + 1) out := ⟨by omega, h⟩
    exact bh_rdy hs (bh_back (by omega) (by omega) (fun _ => by simpa using h10) (by simpa using hr))
end Go.Hm

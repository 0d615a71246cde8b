/- Mathematics: the document's own time is the program's. -/
import Derived.Test.YtdlhbmncbmconaaGreatDoorMc
namespace Go.Hm
theorem rdiff_lead {z : List UInt8} {c : UInt8} {t : List UInt8} (hz : z = c :: t) (h1 : ¬ c.toNat = 90) (h2 : ¬ c.toNat = 43) (h3 : ¬ c.toNat = 45) : rdiff z = none := by
  subst hz
  unfold rdiff
  rw [if_neg (by intro e; injection e with e _; exact h1 (by rw [e]; rfl)), if_pos (.inr (.inl ⟨by simpa using h2, by simpa using h3⟩))]
theorem tw_take {p : UInt8 → Bool} : ∀ (b : Nat) (l : List UInt8), ((l.take b).takeWhile p) = (l.takeWhile p).take b
  | 0, l => by simp
  | b + 1, [] => by simp
  | b + 1, a :: t => by
    rw [List.take_succ_cons, List.takeWhile_cons, List.takeWhile_cons]
    split
    · rw [List.take_succ_cons, tw_take b t]
    · simp
theorem tw_pre (p : UInt8 → Bool) (l : List UInt8) : l.takeWhile p = l.take (l.takeWhile p).length := List.prefix_iff_eq_take.1 (List.takeWhile_prefix p)
theorem trim_dot (t : List UInt8) : Lib.trimRightB (46 :: t) 48 = 46 :: Lib.trimRightB t 48 := by
  unfold Lib.trimRightB
  rw [List.reverse_cons]
  have : ∀ r : List UInt8, (r ++ [46]).dropWhile (· == 48) = r.dropWhile (· == 48) ++ [46] := by
    intro r
    induction r with
    | nil => rfl
    | cons a r ih =>
      rw [List.cons_append, List.dropWhile_cons, List.dropWhile_cons]
      split
      · exact ih
      · rfl
  rw [this, List.reverse_append]
  rfl
theorem has_dot (l : List UInt8) (h : 20 ≤ l.length) : Lib.hasPrefix (l.drop 19) [46] = decide ((l.getD 19 0).toNat = 46) := by
  have e : l.drop 19 = l[19] :: l.drop 20 := List.drop_eq_getElem_cons (by omega)
  have g : l.getD 19 0 = l[19] := by rw [List.getD_eq_getElem?_getD, List.getElem?_eq_getElem (by omega)]; rfl
  rw [e, g]
  by_cases hc : l[19].toNat = 46
  · have : l[19] = 46 := UInt8.toNat_inj.1 (by simpa using hc)
    rw [this]
    simp [Lib.hasPrefix]
  · have : ¬ l[19] = 46 := fun e => hc (by rw [e]; rfl)
    rw [decide_eq_false hc]
    have hb : ((46 : UInt8) == l[19]) = false := beq_eq_false_iff_ne.2 (fun e => this e.symm)
    simp only [Lib.hasPrefix, List.isPrefixOf, hb, Bool.false_and]
theorem frac_eq (l : List UInt8) (h : 20 ≤ l.length) : (match rpart l with
    | none => rdiff (fraction (l.drop 19)).2 = none
    | some pt => (fraction (l.drop 19)).1 = (if pt.1 = [] then [] else 46 :: pt.1) ∧ (fraction (l.drop 19)).2 = l.drop pt.2) := by
  have hd := has_dot l h
  have e19 : l.drop 19 = l[19] :: l.drop 20 := List.drop_eq_getElem_cons (by omega)
  have g19 : l.getD 19 0 = l[19] := by rw [List.getD_eq_getElem?_getD, List.getElem?_eq_getElem (by omega)]; rfl
  by_cases hc : (l.getD 19 0).toNat = 46
  rotate_left
  · rw [decide_eq_false hc] at hd
    have hr1 : rpart l = some ([], 19) := by unfold rpart; rw [if_neg hc]
    have hf1 : fraction (l.drop 19) = ([], l.drop 19) := by unfold fraction; rw [if_pos hd]
    rw [hr1, hf1]
    exact ⟨rfl, rfl⟩
  rw [decide_eq_true hc] at hd
  have hd20 : (l.drop 19).drop 1 = l.drop 20 := by rw [List.drop_drop]
  obtain ⟨D, hD⟩ : ∃ D, (l.drop 20).takeWhile dig = D := ⟨_, rfl⟩
  have ha : ahead dig 6 (l.drop 20) = min 6 D.length := by
    unfold ahead
    rw [tw_take, List.length_take, hD]
  have hr : rpart l = if D = [] ∨ 6 < D.length then none else some (Lib.trimRightB D 48, 20 + D.length) := by unfold rpart; rw [if_pos hc, hD]
  have hfr : fraction (l.drop 19) = if ahead dig 6 (l.drop 20) = 0 then ([], l.drop 19) else
      (if Lib.trimRightB ((l.drop 19).take (1 + ahead dig 6 (l.drop 20))) 48 = [46] then [] else Lib.trimRightB ((l.drop 19).take (1 + ahead dig 6 (l.drop 20))) 48, (l.drop 19).drop (1 + ahead dig 6 (l.drop 20))) := by
    unfold fraction
    rw [if_neg (by rw [hd]; simp), hd20]
  by_cases h0 : D = []
  · have hr1 : rpart l = none := by rw [hr, if_pos (.inl h0)]
    have hf1 : fraction (l.drop 19) = ([], l.drop 19) := by rw [hfr, if_pos (by rw [ha, h0]; rfl)]
    rw [hr1, hf1]
    show rdiff (l.drop 19) = none
    refine rdiff_lead e19 ?_ ?_ ?_ <;> rw [← g19] <;> omega
  have hpos : 0 < D.length := List.length_pos_iff.2 h0
  by_cases h6 : 6 < D.length
  · have hr1 : rpart l = none := by rw [hr, if_pos (.inr h6)]
    have ha6 : ahead dig 6 (l.drop 20) = 6 := by rw [ha]; omega
    have hf1 : (fraction (l.drop 19)).2 = l.drop 26 := by rw [hfr, if_neg (by rw [ha]; omega), ha6, List.drop_drop]
    rw [hr1]
    show rdiff (fraction (l.drop 19)).2 = none
    rw [hf1]
    have hl26 : 26 < l.length := by
      have := congrArg List.length (tw_pre dig (l.drop 20))
      rw [hD, List.length_take, List.length_drop] at this
      omega
    have hdg : dig l[26] = true := by
      have hm : l[26] ∈ (l.drop 20).takeWhile dig := by
        rw [tw_pre dig (l.drop 20), hD]
        rw [List.mem_iff_getElem]
        refine ⟨6, by rw [List.length_take, List.length_drop]; omega, ?_⟩
        rw [List.getElem_take, List.getElem_drop]
      have hall : ∀ (x : List UInt8), ∀ c ∈ x.takeWhile dig, dig c = true := by
        intro x
        induction x with
        | nil => intro c hc; simp at hc
        | cons a t ih =>
          intro c hc
          rw [List.takeWhile_cons] at hc
          split at hc
          · next hp =>
            rcases List.mem_cons.1 hc with hc | hc
            · rw [hc]; exact hp
            · exact ih c hc
          · simp at hc
      exact hall _ _ hm
    have hdg2 : 48 ≤ l[26].toNat ∧ l[26].toNat ≤ 57 := by simpa [dig] using hdg
    exact rdiff_lead (List.drop_eq_getElem_cons hl26) (by omega) (by omega) (by omega)
  · have hr1 : rpart l = some (Lib.trimRightB D 48, 20 + D.length) := by rw [hr, if_neg (by intro h; rcases h with h | h; exact h0 h; exact h6 h)]
    have ha' : ahead dig 6 (l.drop 20) = D.length := by rw [ha]; omega
    have htk : (l.drop 19).take (1 + D.length) = 46 :: D := by
      rw [e19, show 1 + D.length = D.length + 1 by omega, List.take_succ_cons]
      congr 1
      · exact UInt8.toNat_inj.1 (by rw [← g19, hc]; rfl)
      · conv => rhs; rw [← hD, tw_pre dig (l.drop 20), hD]
    have hf1 : fraction (l.drop 19) = (if 46 :: Lib.trimRightB D 48 = [46] then [] else 46 :: Lib.trimRightB D 48, l.drop (20 + D.length)) := by
      rw [hfr, if_neg (by rw [ha]; omega), ha', htk, trim_dot, List.drop_drop, show 19 + (1 + D.length) = 20 + D.length by omega]
    rw [hr1, hf1]
    refine ⟨?_, rfl⟩
    dsimp only
    by_cases ht : Lib.trimRightB D 48 = []
    · rw [if_pos (by rw [ht]), if_pos ht]
    · rw [if_neg (by intro e; injection e with _ e; exact ht e), if_neg ht]
theorem rday_earlier (y m d h mi s k : Int) (hs : 0 ≤ s) (hs2 : s < 60) : rday y m d (3600 * h + 60 * mi + s - 60 * k) = ((earlier y m d h mi k).1, 60 * (earlier y m d h mi k).2 + s) := by
  unfold rday earlier
  by_cases h1 : 60 * h + mi - k < 0
  · rw [if_pos (by omega), if_pos h1]
    dsimp only
    congr 1
    omega
  · rw [if_neg (by omega), if_neg h1]
    by_cases h2 : 1440 ≤ 60 * h + mi - k
    · rw [if_pos (by omega), if_pos h2]
      dsimp only
      congr 1
      omega
    · rw [if_neg (by omega), if_neg h2]
      dsimp only
      congr 1
      omega
theorem digits_num {l : List UInt8} {a n : Nat} (h : (rdigits l a n).2 = true) : (rdigits l a n).1 = num l a (a + n) := by
  rw [(rdigits_ok h).2.2]
  unfold num
  rw [Nat.add_sub_cancel_left]
theorem rclock_some {l : List UInt8} {a n : Nat} (h : rclock l a = some n) : (rdigits l a 2).2 = true ∧ (rdigits l (a + 3) 2).2 = true ∧ (rdigits l (a + 6) 2).2 = true ∧ (l.getD (a + 2) 0).toNat = 58 ∧ (l.getD (a + 5) 0).toNat = 58 := by
  unfold rclock at h
  split at h
  · cases h
  · next hc =>
    have h1 : ¬ (rdigits l a 2).2 = false := fun e => hc (.inl e)
    have h2 : ¬ (rdigits l (a + 3) 2).2 = false := fun e => hc (.inr (.inl e))
    have h3 : ¬ (rdigits l (a + 6) 2).2 = false := fun e => hc (.inr (.inr (.inl e)))
    refine ⟨by simpa using h1, by simpa using h2, by simpa using h3, ?_, ?_⟩
    · exact Classical.byContradiction fun e => hc (.inr (.inr (.inr (.inl e))))
    · exact Classical.byContradiction fun e => hc (.inr (.inr (.inr (.inr (.inl e)))))
theorem rtime_eq (l : List UInt8) : rtime l = readTime l := by
  by_cases h19 : l.length < 19
  · have h1 : rtime l = none := by unfold rtime; rw [if_pos (.inl (by omega))]
    have h2 : readTime l = none := by unfold readTime; rw [if_pos (.inl h19)]
    rw [h1, h2]
  by_cases h20 : l.length < 20
  · have h1 : rtime l = none := by unfold rtime; rw [if_pos (.inl h20)]
    have hd : l.drop 19 = [] := List.drop_of_length_le (by omega)
    have h2 : readTime l = none := by
      unfold readTime
      split
      · rfl
      · rw [show difference (fraction (l.drop 19)).2 = none by rw [hd]; decide +kernel]
    rw [h1, h2]
  have hm := moment_iff (l := l) (by omega)
  by_cases hs : shape (l.take 19) momentShape = true
  rotate_left
  · have h2 : readTime l = none := by unfold readTime; rw [if_pos (.inr (by simpa using hs))]
    rw [h2]
    unfold rtime
    split
    · rfl
    · next hc =>
      cases hck : rclock l 11 with
      | none => rfl
      | some sec =>
        dsimp only
        obtain ⟨k1, k2, k3, k4, k5⟩ := rclock_some hck
        rw [if_pos]
        refine Classical.byContradiction fun hcon => hs (hm.2 ⟨?_, ?_, ?_, k1, k2, k3, ?_, ?_, ?_, k4, k5⟩)
        · have : ¬ (rdigits l 0 4).2 = false := fun e => hcon (.inl e)
          simpa using this
        · have : ¬ (rdigits l 5 2).2 = false := fun e => hcon (.inr (.inl e))
          simpa using this
        · have : ¬ (rdigits l 8 2).2 = false := fun e => hcon (.inr (.inr (.inl e)))
          simpa using this
        · exact Classical.byContradiction fun e => hc (.inr (.inl e))
        · exact Classical.byContradiction fun e => hc (.inr (.inr (.inl e)))
        · exact Classical.byContradiction fun e => hc (.inr (.inr (.inr e)))
  obtain ⟨d0, d5, d8, d11, d14, d17, g4, g7, g10, g13, g16⟩ := hm.1 hs
  have n0 := digits_num d0
  have n5 := digits_num d5
  have n8 := digits_num d8
  have n11 := digits_num d11
  have n14 := digits_num d14
  have n17 := digits_num d17
  simp only [Nat.reduceAdd] at n0 n5 n8 n11 n14 n17
  have hck : rclock l 11 = if 23 < num l 11 13 ∨ 59 < num l 14 16 ∨ 59 < num l 17 19 then none else some (3600 * num l 11 13 + 60 * num l 14 16 + num l 17 19) := by
    unfold rclock
    simp only [Nat.reduceAdd, d11, d14, d17, n11, n14, n17, g13, g16]
    simp
  have hR : rtime l = (match rclock l 11 with
    | none => none
    | some sec =>
      if risDay (num l 0 4) (num l 5 7) (num l 8 10) = false then none else
      match rpart l with
      | none => none
      | some pt =>
        match rdiff (l.drop pt.2) with
        | none => none
        | some k =>
          match rshifted (num l 0 4) (num l 5 7) (num l 8 10) (sec - 60 * k) with
          | none => none
          | some t => some (t ++ (if pt.1 = [] then [] else 46 :: pt.1) ++ [90])) := by
    unfold rtime
    rw [if_neg (by omega)]
    cases rclock l 11 with
    | none => rfl
    | some sec =>
      dsimp only
      rw [d0, d5, d8, n0, n5, n8]
      by_cases hq : risDay (num l 0 4) (num l 5 7) (num l 8 10) = false
      · rw [if_pos (.inr (.inr (.inr hq))), if_pos hq]
      · rw [if_neg (by simp; simpa using hq), if_neg hq]
        rfl
  have hT : readTime l = (match difference (fraction (l.drop 19)).2 with
    | none => none
    | some k =>
      if exists_ (num l 0 4) (num l 5 7) (num l 8 10) (num l 11 13) (num l 14 16) (num l 17 19) = false then none else
      if isYear (earlier (num l 0 4) (num l 5 7) (num l 8 10) (num l 11 13) (num l 14 16) k).1.1 = false then none else
      some (stampText (earlier (num l 0 4) (num l 5 7) (num l 8 10) (num l 11 13) (num l 14 16) k).1.1.toNat
        (earlier (num l 0 4) (num l 5 7) (num l 8 10) (num l 11 13) (num l 14 16) k).1.2.1.toNat
        (earlier (num l 0 4) (num l 5 7) (num l 8 10) (num l 11 13) (num l 14 16) k).1.2.2.toNat
        ((earlier (num l 0 4) (num l 5 7) (num l 8 10) (num l 11 13) (num l 14 16) k).2 / 60).toNat
        ((earlier (num l 0 4) (num l 5 7) (num l 8 10) (num l 11 13) (num l 14 16) k).2 % 60).toNat
        (num l 17 19) ++ (fraction (l.drop 19)).1 ++ [90])) := by
    conv => lhs; unfold readTime
    rw [if_neg (by intro h; rcases h with h | h; omega; rw [hs] at h; cases h)]
    rfl
  have hfe := frac_eq l (by omega)
  rw [hR, hT, hck]
  generalize num l 0 4 = y
  generalize num l 5 7 = mo
  generalize num l 8 10 = d
  generalize num l 11 13 = h
  generalize num l 14 16 = mi
  generalize num l 17 19 = s
  have hbad : exists_ y mo d h mi s = false → (match difference (fraction (l.drop 19)).2 with
    | none => none
    | some k =>
      if exists_ (y : Int) mo d h mi s = false then none else
      if isYear (earlier y mo d h mi k).1.1 = false then none else
      some (stampText (earlier y mo d h mi k).1.1.toNat (earlier y mo d h mi k).1.2.1.toNat (earlier y mo d h mi k).1.2.2.toNat ((earlier y mo d h mi k).2 / 60).toNat ((earlier y mo d h mi k).2 % 60).toNat s ++ (fraction (l.drop 19)).1 ++ [90])) = none := by
    intro hb
    cases difference (fraction (l.drop 19)).2 with
    | none => rfl
    | some k => dsimp only; rw [if_pos hb]
  by_cases hT1 : 23 < h ∨ 59 < mi ∨ 59 < s
  · rw [if_pos hT1, hbad (by
      unfold exists_
      simp only [Bool.and_eq_false_iff, decide_eq_false_iff_not]
      omega)]
  rw [if_neg hT1]
  dsimp only
  cases hD : risDay (y : Int) mo d with
  | false =>
    rw [if_pos rfl, hbad (by
      unfold risDay at hD
      unfold exists_ isYear
      simp only [Bool.and_eq_false_iff, decide_eq_false_iff_not] at hD ⊢
      omega)]
  | true =>
    have hex : exists_ (y : Int) mo d h mi s = true := by
      unfold risDay at hD
      unfold exists_ isYear
      simp only [Bool.and_eq_true, decide_eq_true_eq] at hD ⊢
      omega
    rw [if_neg (by simp)]
    cases hp : rpart l with
    | none =>
      rw [hp] at hfe
      dsimp only at hfe ⊢
      rw [rdiff_eq] at hfe
      rw [hfe]
    | some pt =>
      rw [hp] at hfe
      dsimp only at hfe ⊢
      rw [hfe.1, hfe.2, ← rdiff_eq]
      cases hk : rdiff (l.drop pt.2) with
      | none => rfl
      | some k =>
        dsimp only
        rw [hex, if_neg (show ¬ (true = false) by simp)]
        have he := rday_earlier y mo d h mi s k (by omega) (by omega)
        unfold rshifted
        rw [show ((3600 * h + 60 * mi + s : Nat) : Int) - 60 * k = 3600 * (h : Int) + 60 * (mi : Int) + (s : Int) - 60 * k by omega, he]
        dsimp only
        have hsx : ((60 * (earlier (y : Int) mo d h mi k).2 + (s : Int)) / 3600).toNat = ((earlier (y : Int) mo d h mi k).2 / 60).toNat := by congr 1; omega
        have hsy : ((60 * (earlier (y : Int) mo d h mi k).2 + (s : Int)) / 60 % 60).toNat = ((earlier (y : Int) mo d h mi k).2 % 60).toNat := by congr 1; omega
        have hsz : ((60 * (earlier (y : Int) mo d h mi k).2 + (s : Int)) % 60).toNat = s := by omega
        rw [hsx, hsy, hsz]
        by_cases hy : (earlier (y : Int) mo d h mi k).1.1 < 1 ∨ 9999 < (earlier (y : Int) mo d h mi k).1.1
        · have hyb : isYear (earlier (y : Int) mo d h mi k).1.1 = false := by unfold isYear; simp only [Bool.and_eq_false_iff, decide_eq_false_iff_not]; omega
          rw [if_pos hy, if_pos hyb]
        · have hyb : ¬ isYear (earlier (y : Int) mo d h mi k).1.1 = false := by unfold isYear; simp only [Bool.and_eq_false_iff, decide_eq_false_iff_not]; omega
          rw [if_neg hy, if_neg hyb]
end Go.Hm

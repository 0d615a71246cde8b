/- Mathematics of the reference's head: it answers as stamp does. -/
import Derived.Test.YtdlhbmncbmconaaGreatDoorCi
namespace Go.Hm
theorem rdigits_cut {l t : List UInt8} {a n : Nat} (h : (l.drop a).take n = t) (hl : t.length = n) (hn : 1 ≤ n) : rdigits l a n = if t.all dig = true then (dec t, true) else (0, false) := by
  have h2 : a + n ≤ l.length := by
    have := congrArg List.length h
    rw [List.length_take, List.length_drop] at this
    omega
  unfold rdigits
  rw [h]
  by_cases ht : t.all dig = true
  · rw [if_pos ⟨h2, hn, ht⟩, if_pos ht]
  · rw [if_neg (fun e => ht e.2.2), if_neg ht]
theorem d2_all {n : Nat} (h : n < 100) : (d2 n).all dig = true := by
  have h1 : n / 10 < 10 := by omega
  have h2 : n % 10 < 10 := by omega
  simp [d2, dig, UInt8.toNat_ofNat']
  omega
theorem d4_all {n : Nat} (h : n < 10000) : (d4 n).all dig = true := by
  unfold d4
  rw [List.all_append, d2_all (by omega), d2_all (by omega)]
  rfl
theorem two_dig {a b : UInt8} (h : [a, b].all dig = true) : d2 (dec [a, b]) = [a, b] := by
  simp [dig] at h
  have e : dec [a, b] = 10 * (a.toNat - 48) + (b.toNat - 48) := by simp [dec]
  rw [e, d2, show (10 * (a.toNat - 48) + (b.toNat - 48)) / 10 = a.toNat - 48 by omega, show (10 * (a.toNat - 48) + (b.toNat - 48)) % 10 = b.toNat - 48 by omega,
    show 48 + (a.toNat - 48) = a.toNat by omega, show 48 + (b.toNat - 48) = b.toNat by omega, UInt8.ofNat_toNat, UInt8.ofNat_toNat]
def rdd (l : List UInt8) : Nat × Bool := if (l.getD 4 0).toNat = 32 then rdigits l 5 1 else rdigits l 4 2
def rtext (y m d sec : Nat) : List UInt8 := stampText y m d (sec / 3600) (sec / 60 % 60) (sec % 60)
theorem rshifted_none {y m d sec : Nat} (hy : 1 ≤ y) (hy2 : y ≤ 9999) (hs : sec < 86400) : rshifted y m d sec = some (rtext y m d sec) := by
  unfold rshifted
  have h : rday (y : Int) (m : Int) (d : Int) (sec : Int) = (((y : Int), (m : Int), (d : Int)), (sec : Int)) := by
    unfold rday
    rw [if_neg (by omega), if_neg (by omega)]
  rw [h, if_neg (by dsimp only; omega)]
  simp only [rtext, Int.toNat_natCast]
  congr 2
theorem rclock_ltk {l : List UInt8} {a s : Nat} (h : rclock l a = some s) : s < 86400 := by
  unfold rclock at h
  split at h
  · cases h
  · next hn =>
    have := Option.some.inj h
    omega
/-- what the head's time is held against, and what the old time's check says -/
theorem old_iff {c0 c1 c2 c3 c4 c5 c6 c7 c8 c9 c10 c11 c12 c13 c14 c15 : UInt8} {r l : List UInt8} (hl : l = c0 :: c1 :: c2 :: c3 :: c4 :: c5 :: c6 :: c7 :: c8 :: c9 :: c10 :: c11 :: c12 :: c13 :: c14 :: c15 :: r) {y : Nat} (hy : 1 ≤ y) (hy2 : y ≤ 9999) :
    (∀ sec, rclock l 7 = some sec → (rdd l).2 = true → risDay y (month (l.take 3)) (rdd l).1 = true → oldText (l.take 15) y = rtext y (month (l.take 3)) (rdd l).1 sec ++ [90] ∧ isTime (oldText (l.take 15) y) = true) ∧
    ((rclock l 7 = none ∨ (rdd l).2 = false ∨ risDay y (month (l.take 3)) (rdd l).1 = false) → isTime (oldText (l.take 15) y) = false) := by
  have hm := month_le (l.take 3)
  have e3 : (l.take 15).take 3 = l.take 3 := by rw [hl]; rfl
  obtain ⟨M, hM⟩ : ∃ M, month (l.take 3) = M := ⟨_, rfl⟩
  have ht : ∃ e1 e2, oldDay (l.take 15) = [e1, e2] ∧ rdd l = if [e1, e2].all dig = true then (dec [e1, e2], true) else (0, false) := by
    by_cases h32 : c4.toNat = 32
    · refine ⟨48, c5, ?_, ?_⟩
      · unfold oldDay
        rw [hl]
        exact if_pos h32
      · unfold rdd
        rw [if_pos (by rw [hl]; exact h32), rdigits_cut (l := l) (a := 5) (n := 1) (t := [c5]) (by rw [hl]; rfl) rfl (by omega)]
        have : dec [48, c5] = dec [c5] := by simp [dec]
        rw [this]
        have : ([48, c5] : List UInt8).all dig = [c5].all dig := by simp [dig]
        rw [this]
    · refine ⟨c4, c5, ?_, ?_⟩
      · unfold oldDay
        rw [hl]
        exact if_neg h32
      · unfold rdd
        rw [if_neg (by rw [hl]; exact h32), rdigits_cut (l := l) (a := 4) (n := 2) (t := [c4, c5]) (by rw [hl]; rfl) rfl (by omega)]
  obtain ⟨e1, e2, ht, hdd⟩ := ht
  have hot : oldText (l.take 15) y = d4 y ++ [45] ++ d2 M ++ [45] ++ [e1, e2] ++ [84] ++ [c7, c8, c9, c10, c11, c12, c13, c14] ++ [90] := by
    unfold oldText
    rw [ht, e3, hM, hl]
    rfl
  rw [hM] at hm ⊢
  generalize oldText (l.take 15) y = t at hot ⊢
  have q0 : rdigits t 0 4 = (y, true) := by
    rw [rdigits_cut (l := t) (a := 0) (n := 4) (t := d4 y) (by rw [hot]; rfl) rfl (by omega), if_pos (d4_all (by omega)), dec_d4 (by omega)]
  have q5 : rdigits t 5 2 = (M, true) := by
    rw [rdigits_cut (l := t) (a := 5) (n := 2) (t := d2 M) (by rw [hot]; rfl) rfl (by omega), if_pos (d2_all (by omega)), dec_d2 (by omega)]
  have q8 : rdigits t 8 2 = rdd l := by
    rw [rdigits_cut (l := t) (a := 8) (n := 2) (t := [e1, e2]) (by rw [hot]; rfl) rfl (by omega), hdd]
  have p1 : rdigits l 7 2 = if [c7, c8].all dig = true then (dec [c7, c8], true) else (0, false) := rdigits_cut (by rw [hl]; rfl) rfl (by omega)
  have p2 : rdigits l 10 2 = if [c10, c11].all dig = true then (dec [c10, c11], true) else (0, false) := rdigits_cut (by rw [hl]; rfl) rfl (by omega)
  have p3 : rdigits l 13 2 = if [c13, c14].all dig = true then (dec [c13, c14], true) else (0, false) := rdigits_cut (by rw [hl]; rfl) rfl (by omega)
  have s1 : rdigits t 11 2 = if [c7, c8].all dig = true then (dec [c7, c8], true) else (0, false) := rdigits_cut (by rw [hot]; rfl) rfl (by omega)
  have s2 : rdigits t 14 2 = if [c10, c11].all dig = true then (dec [c10, c11], true) else (0, false) := rdigits_cut (by rw [hot]; rfl) rfl (by omega)
  have s3 : rdigits t 17 2 = if [c13, c14].all dig = true then (dec [c13, c14], true) else (0, false) := rdigits_cut (by rw [hot]; rfl) rfl (by omega)
  have g9 : (l.getD 9 0) = c9 := by rw [hl]; rfl
  have g12 : (l.getD 12 0) = c12 := by rw [hl]; rfl
  have g13 : (t.getD 13 0) = c9 := by rw [hot]; rfl
  have g16 : (t.getD 16 0) = c12 := by rw [hot]; rfl
  have hck : rclock t 11 = rclock l 7 := by
    unfold rclock
    simp only [Nat.reduceAdd]
    rw [p1, p2, p3, s1, s2, s3, g9, g12, g13, g16]
  have hlen : t.length = 20 := by rw [hot]; rfl
  have hd4 : (t.getD 4 0) = 45 := by rw [hot]; rfl
  have hd7 : (t.getD 7 0) = 45 := by rw [hot]; rfl
  have hd10 : (t.getD 10 0) = 84 := by rw [hot]; rfl
  constructor
  · intro sec hs hd hi
    have hdig : [e1, e2].all dig = true := by
      cases h : [e1, e2].all dig with
      | true => rfl
      | false => rw [hdd, if_neg (by rw [h]; simp)] at hd; cases hd
    rw [hdd, if_pos hdig] at hi ⊢
    dsimp only at hi ⊢
    have hs2 := hs
    unfold rclock at hs2
    simp only [Nat.reduceAdd] at hs2
    split at hs2
    · cases hs2
    · next hn =>
      have hn1 : ¬ (rdigits l 7 2).2 = false := fun e => hn (.inl e)
      have hn2 : ¬ (rdigits l 10 2).2 = false := fun e => hn (.inr (.inl e))
      have hn3 : ¬ (rdigits l 13 2).2 = false := fun e => hn (.inr (.inr (.inl e)))
      have a1 : [c7, c8].all dig = true := by
        cases h : [c7, c8].all dig with
        | true => rfl
        | false => rw [p1, if_neg (by rw [h]; simp)] at hn1; exact absurd rfl hn1
      have a2 : [c10, c11].all dig = true := by
        cases h : [c10, c11].all dig with
        | true => rfl
        | false => rw [p2, if_neg (by rw [h]; simp)] at hn2; exact absurd rfl hn2
      have a3 : [c13, c14].all dig = true := by
        cases h : [c13, c14].all dig with
        | true => rfl
        | false => rw [p3, if_neg (by rw [h]; simp)] at hn3; exact absurd rfl hn3
      rw [p1, p2, p3, if_pos a1, if_pos a2, if_pos a3] at hn hs2
      rw [g9, g12] at hn
      dsimp only at hn hs2
      have b9 : c9 = 58 := UInt8.toNat_inj.1 (by have : ¬ ¬ c9.toNat = 58 := fun e => hn (.inr (.inr (.inr (.inl e)))); simpa using this)
      have b12 : c12 = 58 := UInt8.toNat_inj.1 (by have : ¬ ¬ c12.toNat = 58 := fun e => hn (.inr (.inr (.inr (.inr (.inl e))))); simpa using this)
      have hsec := Option.some.inj hs2
      have hH : dec [c7, c8] ≤ 23 := by omega
      have hMi : dec [c10, c11] ≤ 59 := by omega
      have hS : dec [c13, c14] ≤ 59 := by omega
      have htx : t = rtext y M (dec [e1, e2]) sec ++ [90] := by
        rw [hot]
        unfold rtext stampText
        rw [show sec / 3600 = dec [c7, c8] by omega, show sec / 60 % 60 = dec [c10, c11] by omega, show sec % 60 = dec [c13, c14] by omega, two_dig a1, two_dig a2, two_dig a3, two_dig hdig, b9, b12]
        simp
      refine ⟨htx, ?_⟩
      rw [htx]
      unfold rtext
      have hday := (risDay_iff _ _ _).1 hi
      have := isTime_at (y := y) (mo := M) (d := dec [e1, e2]) (h := sec / 3600) (mi := sec / 60 % 60) (s := sec % 60) (fr := []) (by
        obtain ⟨d1, d2, d3, d4, d5, d6⟩ := hday
        dsimp only at d1 d2 d3 d4 d5 d6
        simp only [exists_, isYear, Bool.and_eq_true, decide_eq_true_eq]
        refine ⟨⟨⟨⟨⟨⟨⟨⟨d1, d2⟩, d3⟩, d4⟩, d5⟩, d6⟩, ?_⟩, ?_⟩, ?_⟩ <;> omega) (.inl rfl)
      simpa using this
  · intro hb
    have hr : readTime t = none := by
      rw [← rtime_eq]
      unfold rtime
      rw [if_neg (by rw [hlen, hd4, hd7, hd10]; decide), hck]
      cases hk : rclock l 7 with
      | none => rfl
      | some sec =>
        dsimp only
        rw [q0, q5, q8, if_pos]
        rcases hb with hb | hb | hb
        · rw [hk] at hb; cases hb
        · exact .inr (.inr (.inl hb))
        · exact .inr (.inr (.inr hb))
    unfold isTime
    rw [hr]
    rfl
theorem sixteen {l : List UInt8} (h : 16 ≤ l.length) : ∃ c0 c1 c2 c3 c4 c5 c6 c7 c8 c9 c10 c11 c12 c13 c14 c15 r, l = c0 :: c1 :: c2 :: c3 :: c4 :: c5 :: c6 :: c7 :: c8 :: c9 :: c10 :: c11 :: c12 :: c13 :: c14 :: c15 :: r := by
  match l, h with
  | c0 :: c1 :: c2 :: c3 :: c4 :: c5 :: c6 :: c7 :: c8 :: c9 :: c10 :: c11 :: c12 :: c13 :: c14 :: c15 :: r, _ => exact ⟨_, _, _, _, _, _, _, _, _, _, _, _, _, _, _, _, _, rfl⟩
theorem cut_run (l : List UInt8) : (Lib.cut l [32]).1 = l.takeWhile (fun c => !decide (c.toNat = 32)) ∧ ((Lib.cut l [32]).2.2 = false ↔ (l.takeWhile (fun c => !decide (c.toNat = 32))).length = l.length) := by
  rw [cut_eq]
  have h32 : ∀ c : UInt8, c.toNat = 32 ↔ c = 32 := fun c => ⟨fun e => UInt8.toNat_inj.1 (by rw [e]; rfl), fun e => by rw [e]; rfl⟩
  have hp : ∀ a : List UInt8, 32 ∉ a → ∀ r, (a ++ 32 :: r).takeWhile (fun c => !decide (c.toNat = 32)) = a := by
    intro a
    induction a with
    | nil => intro _ r; rfl
    | cons c t ih =>
      intro hn r
      rw [List.cons_append, List.takeWhile_cons, if_pos (by have : ¬ c.toNat = 32 := fun e => hn (by rw [(h32 c).1 e]; exact List.mem_cons_self ..); simp [this]), ih (fun e => hn (List.mem_cons_of_mem _ e))]
  cases hb : (cutB 32 l).2.2 with
  | true =>
    have h1 := cutB_some 32 l hb
    have h2 := cutB_not 32 l
    generalize (cutB 32 l).1 = a at h1 h2 ⊢
    rw [h1, hp a h2]
    simp
  | false =>
    have h1 := cutB_none 32 l hb
    have h2 := cutB_not 32 l
    rw [h1] at h2 ⊢
    dsimp only at h2 ⊢
    rw [takeWhile_all _ _ (fun c hc => by have : ¬ c.toNat = 32 := fun e => h2 (by rw [← (h32 c).1 e]; exact hc); simp [this])]
    simp
theorem stamp_short {l : List UInt8} {y : Nat} (h : l.length < 16 ∨ ¬ (l.getD 15 0).toNat = 32) : stamp l y = ([], [], 0) := by
  unfold stamp
  rw [if_pos h]
theorem stamp_time {l : List UInt8} {y : Nat} (h : (oldTime (l.take 15) y).2 = false) : stamp l y = ([], [], 0) := by
  unfold stamp
  by_cases h1 : l.length < 16 ∨ ¬ (l.getD 15 0).toNat = 32
  · rw [if_pos h1]
  · rw [if_neg h1, if_pos (.inl h)]
theorem stamp_host {l : List UInt8} {y : Nat} (h : (Lib.cut (l.drop 16) [32]).2.2 = false ∨ word (Lib.cut (l.drop 16) [32]).1 32 = false) : stamp l y = ([], [], 0) := by
  unfold stamp
  by_cases h1 : l.length < 16 ∨ ¬ (l.getD 15 0).toNat = 32
  · rw [if_pos h1]
  · rw [if_neg h1, if_pos (.inr h)]
theorem stamp_yes {l : List UInt8} {y : Nat} (h1 : ¬ (l.length < 16 ∨ ¬ (l.getD 15 0).toNat = 32)) (h2 : (oldTime (l.take 15) y).2 = true) (h3 : (Lib.cut (l.drop 16) [32]).2.2 = true) (h4 : word (Lib.cut (l.drop 16) [32]).1 32 = true) :
    stamp l y = ((oldTime (l.take 15) y).1, (Lib.cut (l.drop 16) [32]).1, 16 + (Lib.cut (l.drop 16) [32]).1.length + 1) := by
  unfold stamp
  rw [if_neg h1, if_neg (by rw [h2, h3, h4]; simp)]
end Go.Hm

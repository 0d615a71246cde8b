/- Mathematics of Decided: rules of raw numbers, written out and read. -/
import Derived.Test.YtdlhbmncbmconaaGreatDoorBj
import Derived.Test.YtdlhbmncbmconaaGreatDoorMb
namespace Go.Hm
structure RRaw where
  fac : Int
  sec : Int
  sev : Int
  form : Int
  keep : Int
def sevName (k : Nat) : List UInt8 := severityNames.getD k []
def rFacs (m a b : Nat) : List UInt8 := if m = 0 then facName a else if m = 1 then facName a ++ 44 :: facName b else [42]
def rSev (m c : Nat) : List UInt8 := if m = 0 then sevName c else if m = 1 then 61 :: sevName c else [42]
def rKeep (k : Int) : Bool := decide (k.tmod 2 = 0)
def rVerd (k : Int) : List UInt8 := if k.tmod 2 = 0 then kKeep else kDrop
def RRaw.line (r : RRaw) : List UInt8 := rFacs (pick r.form 3) (pick r.fac 24) (pick r.sec 24) ++ 46 :: (rSev (pick (r.form.tdiv 3) 3) (pick r.sev 8) ++ 32 :: rVerd r.keep)
def fFits (m a b x : Nat) : Bool := if m = 0 then decide (x = a) else if m = 1 then decide (x = a) || decide (x = b) else true
def sFits (m c y : Nat) : Bool := if m = 0 then decide (y ≤ c) else if m = 1 then decide (y = c) else true
def RRaw.fits (r : RRaw) (x y : Nat) : Bool := fFits (pick r.form 3) (pick r.fac 24) (pick r.sec 24) x && sFits (pick (r.form.tdiv 3) 3) (pick r.sev 8) y
def rText (rs : List RRaw) : List UInt8 := (rs.map fun r => r.line ++ [10]).flatten
def rWant : List RRaw → Nat → Nat → Bool
  | [], _, _ => true
  | r :: rs, x, y => if r.fits x y = true then rKeep r.keep else rWant rs x y
theorem rWant_snoc (rs : List RRaw) (r : RRaw) (x y : Nat) : rWant (rs ++ [r]) x y = if rs.any (·.fits x y) = true then rWant rs x y else if r.fits x y = true then rKeep r.keep else true := by
  induction rs with
  | nil => rfl
  | cons a t ih =>
    rw [List.cons_append, rWant, rWant, ih, List.any_cons]
    by_cases h : a.fits x y = true
    · rw [if_pos h, if_pos h, h]; rfl
    · rw [if_neg h, if_neg h]
      rw [show a.fits x y = false by simpa using h, Bool.false_or]
theorem rWant_none (rs : List RRaw) (x y : Nat) (h : rs.any (·.fits x y) = false) : rWant rs x y = true := by
  induction rs with
  | nil => rfl
  | cons a t ih =>
    rw [List.any_cons, Bool.or_eq_false_iff] at h
    rw [rWant, h.1, if_neg (by decide), ih h.2]
theorem rText_snoc (rs : List RRaw) (r : RRaw) : rText (rs ++ [r]) = rText rs ++ (r.line ++ [10]) := by simp [rText]
theorem fac_one : ∀ a : Fin 24, facBits (facName a.val) = 2 ^ a.val ∧ (facName a.val).length ≤ 8 ∧ 32 ∉ facName a.val ∧ 46 ∉ facName a.val ∧ 10 ∉ facName a.val ∧ 44 ∉ facName a.val ∧ findFrom (facName a.val) facNames 0 = a.val + 1 := by decide +kernel
theorem sev_one : ∀ c : Fin 8, sevBits (sevName c.val) = 2 ^ (c.val + 1) - 1 ∧ sevBits (61 :: sevName c.val) = 2 ^ c.val ∧ (sevName c.val).length ≤ 7 ∧ 32 ∉ sevName c.val ∧ 46 ∉ sevName c.val ∧ 10 ∉ sevName c.val := by decide +kernel
theorem splitC_none {c : UInt8} {l : List UInt8} (h : c ∉ l) : splitC c l = [l] := by rw [splitC_cut, cutB_all c l h]; rfl
theorem splitC_one {c : UInt8} {l r : List UInt8} (h : c ∉ l) : splitC c (l ++ c :: r) = l :: splitC c r := by rw [splitC_cut, cutB_app c l r h]; rfl
theorem fac_two {a b : Nat} (ha : a < 24) (hb : b < 24) : facBits (facName a ++ 44 :: facName b) = 2 ^ a ||| 2 ^ b := by
  obtain ⟨_, _, _, _, _, h5, h6⟩ := fac_one ⟨a, ha⟩
  obtain ⟨_, _, _, _, _, g5, g6⟩ := fac_one ⟨b, hb⟩
  dsimp only at h5 h6 g5 g6
  unfold facBits
  rw [if_neg, splitC_one h5, splitC_none g5]
  · simp only [facFold, h6, g6]
    simp
  · intro e
    have : (44 : UInt8) ∈ ([42] : List UInt8) := by rw [← e]; simp
    revert this; decide
theorem rFacs_at {m a b : Nat} (ha : a < 24) (hb : b < 24) : 32 ∉ rFacs m a b ∧ 46 ∉ rFacs m a b ∧ 10 ∉ rFacs m a b ∧ (rFacs m a b).length ≤ 17 ∧ ¬ facBits (rFacs m a b) = 0 ∧ ∀ x, x < 24 → (facBits (rFacs m a b)).testBit x = fFits m a b x := by
  obtain ⟨h0, h1, h2, h3, h4, _, _⟩ := fac_one ⟨a, ha⟩
  obtain ⟨_, g1, g2, g3, g4, _, _⟩ := fac_one ⟨b, hb⟩
  dsimp only at h0 h1 h2 h3 h4 g1 g2 g3 g4
  unfold rFacs fFits
  split
  · refine ⟨h2, h3, h4, by omega, ?_, ?_⟩
    · rw [h0]; exact Nat.ne_of_gt (Nat.pow_pos (by decide))
    · intro x hx
      rw [h0, Nat.testBit_two_pow]
      by_cases h : a = x
      · simp [h]
      · simp [h, Ne.symm h]
  · split
    · refine ⟨by simp [h2, g2], by simp [h3, g3], by simp [h4, g4], by simp; omega, ?_, ?_⟩
      · rw [fac_two ha hb]
        intro e
        have := congrArg (fun n => n.testBit a) e
        simp [Nat.testBit_or, Nat.testBit_two_pow] at this
      · intro x hx
        rw [fac_two ha hb, Nat.testBit_or, Nat.testBit_two_pow, Nat.testBit_two_pow]
        congr 1
        · by_cases h : a = x
          · simp [h]
          · simp [h, Ne.symm h]
        · by_cases h : b = x
          · simp [h]
          · simp [h, Ne.symm h]
    · refine ⟨by decide, by decide, by decide, by decide, by decide, ?_⟩
      intro x hx
      show (16777215 : Nat).testBit x = true
      rw [show (16777215 : Nat) = 2 ^ 24 - 1 by decide, Nat.testBit_two_pow_sub_one]
      simpa using hx
theorem rSev_at {m c : Nat} (hc : c < 8) : 32 ∉ rSev m c ∧ 10 ∉ rSev m c ∧ (rSev m c).length ≤ 8 ∧ ¬ sevBits (rSev m c) = 0 ∧ ∀ y, y < 8 → (sevBits (rSev m c)).testBit y = sFits m c y := by
  obtain ⟨h0, h1, h2, h3, h4, h5⟩ := sev_one ⟨c, hc⟩
  dsimp only at h0 h1 h2 h3 h4 h5
  unfold rSev sFits
  split
  · refine ⟨h3, h5, by omega, ?_, ?_⟩
    · rw [h0]
      have : 2 ^ 1 ≤ 2 ^ (c + 1) := Nat.pow_le_pow_right (by decide) (by omega)
      omega
    · intro y hy
      rw [h0, Nat.testBit_two_pow_sub_one]
      simp only [decide_eq_decide]
      omega
  · split
    · refine ⟨by simp [h3], by simp [h5], by simp; omega, ?_, ?_⟩
      · rw [h1]; exact Nat.ne_of_gt (Nat.pow_pos (by decide))
      · intro y hy
        rw [h1, Nat.testBit_two_pow]
        by_cases h : c = y
        · simp [h]
        · simp [h, Ne.symm h]
    · refine ⟨by decide, by decide, by decide, by decide, ?_⟩
      intro y hy
      show (255 : Nat).testBit y = true
      rw [show (255 : Nat) = 2 ^ 8 - 1 by decide, Nat.testBit_two_pow_sub_one]
      simpa using hy
def RRaw.rl (r : RRaw) : Rl := ⟨facBits (rFacs (pick r.form 3) (pick r.fac 24) (pick r.sec 24)), sevBits (rSev (pick (r.form.tdiv 3) 3) (pick r.sev 8)), rKeep r.keep⟩
theorem rVerd_at (k : Int) : 32 ∉ rVerd k ∧ 10 ∉ rVerd k ∧ (rVerd k).length = 4 := by
  unfold rVerd
  split <;> decide
theorem rline_at (r : RRaw) : readRule r.line = some r.rl ∧ 10 ∉ r.line ∧ r.line.length ≤ 31 := by
  obtain ⟨f1, f2, f3, f4, f5, _⟩ := rFacs_at (m := pick r.form 3) (pick_lt r.fac (n := 24) (by decide)) (pick_lt r.sec (n := 24) (by decide))
  obtain ⟨s1, s2, s3, s4, _⟩ := rSev_at (m := pick (r.form.tdiv 3) 3) (pick_lt r.sev (n := 8) (by decide))
  obtain ⟨v1, v2, v3⟩ := rVerd_at r.keep
  unfold RRaw.line RRaw.rl
  generalize rFacs (pick r.form 3) (pick r.fac 24) (pick r.sec 24) = F at f1 f2 f3 f4 f5
  generalize rSev (pick (r.form.tdiv 3) 3) (pick r.sev 8) = S at s1 s2 s3 s4
  refine ⟨?_, by simp [f3, s2, v2], by simp; omega⟩
  have e : F ++ 46 :: (S ++ 32 :: rVerd r.keep) = (F ++ 46 :: S) ++ 32 :: rVerd r.keep := by simp
  unfold readRule
  rw [e, cutB_app 32 _ _ (by simp [f1, s1])]
  dsimp only
  rw [cutB_app 46 _ _ f2]
  dsimp only
  unfold ruleOf rKeep rVerd
  by_cases hk : r.keep.tmod 2 = 0
  · rw [if_pos hk, if_neg]
    · simp [hk]
    · rintro (h | h | h)
      · exact f5 h
      · exact s4 h
      · exact h.1 rfl
  · rw [if_neg hk, if_neg]
    · simp only [Option.some.injEq, Rl.mk.injEq, true_and]
      rw [decide_eq_false hk]
      rfl
    · rintro (h | h | h)
      · exact f5 h
      · exact s4 h
      · exact h.2 rfl
theorem rl_fits (r : RRaw) {x y : Nat} (hx : x < 24) (hy : y < 8) : r.rl.fits x y = r.fits x y := by
  obtain ⟨_, _, _, _, _, f⟩ := rFacs_at (m := pick r.form 3) (pick_lt r.fac (n := 24) (by decide)) (pick_lt r.sec (n := 24) (by decide))
  obtain ⟨_, _, _, _, s⟩ := rSev_at (m := pick (r.form.tdiv 3) 3) (pick_lt r.sev (n := 8) (by decide))
  unfold Rl.fits RRaw.fits RRaw.rl
  dsimp only
  rw [f x hx, s y hy]
theorem rtext_len : ∀ rs : List RRaw, (rText rs).length ≤ 32 * rs.length
  | [] => by simp [rText]
  | r :: rs => by
    have h := rtext_len rs
    have := (rline_at r).2.2
    unfold rText at h ⊢
    simp only [List.map_cons, List.flatten_cons, List.length_append, List.length_cons, List.length_nil] at h ⊢
    omega
theorem rulesFrom_made : ∀ (rs : List RRaw) (k n : Nat) (acc : List Rl), n + rs.length ≤ 12 → rs.length < k → rulesFrom k n (rText rs) acc = .ok (acc ++ rs.map (·.rl))
  | [], k + 1, n, acc, _, _ => by simp [rulesFrom, rText]
  | r :: rs, k + 1, n, acc, h, hk => by
    obtain ⟨h1, h2, h3⟩ := rline_at r
    have e : rText (r :: rs) = r.line ++ 10 :: rText rs := by simp [rText]
    simp only [List.length_cons] at h hk
    unfold rulesFrom
    rw [if_neg (by rw [e]; simp), e, cutB_app 10 _ _ h2, if_neg (by simp; omega)]
    dsimp only
    rw [h1]
    dsimp only
    rw [rulesFrom_made rs k (n + 1) _ (by omega) (by omega)]
    simp
theorem rtext_long : ∀ rs : List RRaw, rs.length ≤ (rText rs).length
  | [] => by simp
  | r :: rs => by
    have := rtext_long rs
    unfold rText at this ⊢
    simp only [List.map_cons, List.flatten_cons, List.length_append, List.length_cons, List.length_nil] at this ⊢
    omega
theorem newRules_made (rs : List RRaw) (h : rs.length ≤ 12) : newRules (rText rs) = .ok (rs.map (·.rl)) := by
  have := rtext_long rs
  unfold newRules
  rw [rulesFrom_made rs _ 0 [] (by omega) (by omega)]
  rfl
theorem keeps_made : ∀ (rs : List RRaw) {x y : Nat}, x < 24 → y < 8 → keeps (rs.map (·.rl)) x y = rWant rs x y
  | [], _, _, _, _ => rfl
  | r :: rs, x, y, hx, hy => by
    rw [List.map_cons, keeps, rWant, rl_fits r hx hy, keeps_made rs hx hy]
    rfl
end Go.Hm

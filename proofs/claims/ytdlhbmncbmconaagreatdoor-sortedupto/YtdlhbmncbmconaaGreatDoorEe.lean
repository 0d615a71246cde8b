/- Mathematics of the reference's rules: what a rule says, as the program's masks say it. -/
import Derived.Test.YtdlhbmncbmconaaGreatDoorEd
namespace Go.Hm
structure RR where
  facs : List Nat
  lo : Int
  hi : Int
  keep : Bool
def Alike (r : Rl) (q : RR) : Prop := r.keep = q.keep ∧ (∀ f ∈ q.facs, f < 24) ∧ ∀ f s : Nat, f < 24 → s < 8 → (r.fits f s = true ↔ (f ∈ q.facs ∧ q.lo ≤ (s : Int) ∧ (s : Int) ≤ q.hi))
def bitsOf (F : List Nat) : Nat := F.foldl (fun b f => b ||| 2 ^ f) 0
theorem bits_snoc (F : List Nat) (f : Nat) : bitsOf (F ++ [f]) = bitsOf F ||| 2 ^ f := by
  unfold bitsOf
  rw [List.foldl_append]
  rfl
theorem bits_test (F : List Nat) (f : Nat) : (bitsOf F).testBit f = true ↔ f ∈ F := by
  have key : ∀ (G : List Nat) (b : Nat), (G.foldl (fun b f => b ||| 2 ^ f) b).testBit f = true ↔ (b.testBit f = true ∨ f ∈ G) := by
    intro G
    induction G with
    | nil => intro b; simp
    | cons g t ih =>
      intro b
      rw [List.foldl_cons, ih, Nat.testBit_or, Nat.testBit_two_pow]
      simp
      constructor
      · rintro ((h | h) | h)
        · exact .inl h
        · exact .inr (.inl h.symm)
        · exact .inr (.inr h)
      · rintro (h | h | h)
        · exact .inl (.inl h)
        · exact .inl (.inr h.symm)
        · exact .inr h
  unfold bitsOf
  rw [key]
  simp
theorem bits_pos {F : List Nat} (h : ¬ F = []) : ¬ bitsOf F = 0 := by
  intro e
  match F, h with
  | f :: t, _ =>
    have := (bits_test (f :: t) f).2 (by simp)
    rw [e] at this
    simp at this
/- the facilities' loop: what is left of the names, what came so far -/
def FcI (l names : List UInt8) (F : List Nat) : Prop := (∀ f ∈ F, f < 24) ∧ facFold (splitC 44 l) 0 = facFold (splitC 44 names) (bitsOf F)
theorem fc_start (l : List UInt8) : FcI l l [] := ⟨by simp, rfl⟩
theorem fac_idx (n : List UInt8) : findFrom n facNames 0 ≤ 24 := by
  have := findFrom_le n facNames 0
  have h24 : facNames.length = 24 := rfl
  omega
theorem fc_bad_more {l names : List UInt8} {F : List Nat} (h : FcI l names F) (hc : (cutB 44 names).2.2 = true) (h0 : findFrom (cutB 44 names).1 facNames 0 = 0) : facFold (splitC 44 l) 0 = 0 := by
  rw [h.2, splitC_cut, if_pos hc, facFold, if_pos h0]
theorem fc_bad_last {l names : List UInt8} {F : List Nat} (h : FcI l names F) (hc : (cutB 44 names).2.2 = false) (h0 : findFrom (cutB 44 names).1 facNames 0 = 0) : facFold (splitC 44 l) 0 = 0 := by
  rw [h.2, splitC_cut, if_neg (by rw [hc]; decide), facFold, if_pos h0]
theorem fc_more {l names : List UInt8} {F : List Nat} (h : FcI l names F) (hc : (cutB 44 names).2.2 = true) (h0 : ¬ findFrom (cutB 44 names).1 facNames 0 = 0) : FcI l (cutB 44 names).2.1 (F ++ [findFrom (cutB 44 names).1 facNames 0 - 1]) := by
  refine ⟨?_, ?_⟩
  · intro f hf
    rcases List.mem_append.1 hf with hf | hf
    · exact h.1 f hf
    · have := fac_idx (cutB 44 names).1
      simp at hf
      omega
  · rw [h.2, splitC_cut, if_pos hc, facFold, if_neg h0, bits_snoc]
theorem fc_last {l names : List UInt8} {F : List Nat} (h : FcI l names F) (hc : (cutB 44 names).2.2 = false) (h0 : ¬ findFrom (cutB 44 names).1 facNames 0 = 0) : (∀ f ∈ F ++ [findFrom (cutB 44 names).1 facNames 0 - 1], f < 24) ∧ facFold (splitC 44 l) 0 = bitsOf (F ++ [findFrom (cutB 44 names).1 facNames 0 - 1]) := by
  refine ⟨?_, ?_⟩
  · intro f hf
    rcases List.mem_append.1 hf with hf | hf
    · exact h.1 f hf
    · have := fac_idx (cutB 44 names).1
      simp at hf
      omega
  · rw [h.2, splitC_cut, if_neg (by rw [hc]; decide), facFold, if_neg h0, bits_snoc]
    rfl
/- the facilities of a rule -/
def FcOk (l : List UInt8) (F : List Nat) : Prop := (∀ f ∈ F, f < 24) ∧ ¬ facBits l = 0 ∧ ∀ f, f < 24 → ((facBits l).testBit f = true ↔ f ∈ F)
theorem fcok_star {F : List Nat} (h : F = List.range 24) : FcOk [42] F := by
  subst h
  refine ⟨by simp, by decide, ?_⟩
  intro f hf
  constructor
  · intro _; simpa using hf
  · intro _
    have : ∀ f, f < 24 → (facBits [42]).testBit f = true := by decide
    exact this f hf
theorem fcok_names {l : List UInt8} {F : List Nat} (h42 : ¬ l = [42]) (hF : ∀ f ∈ F, f < 24) (hn : ¬ F = []) (h : facFold (splitC 44 l) 0 = bitsOf F) : FcOk l F := by
  have e : facBits l = bitsOf F := by unfold facBits; rw [if_neg h42]; exact h
  refine ⟨hF, by rw [e]; exact bits_pos hn, fun f _ => ?_⟩
  rw [e]
  exact bits_test F f
theorem fac_bad {l : List UInt8} (h42 : ¬ l = [42]) (h : facFold (splitC 44 l) 0 = 0) : facBits l = 0 := by unfold facBits; rw [if_neg h42]; exact h
/- the severities of a rule -/
def SvOk (g : List UInt8) (lo hi : Int) : Prop := ¬ sevBits g = 0 ∧ ∀ s, s < 8 → ((sevBits g).testBit s = true ↔ (lo ≤ (s : Int) ∧ (s : Int) ≤ hi))
theorem svok_star : SvOk [42] 0 7 := by
  refine ⟨by decide, ?_⟩
  intro s hs
  have : ∀ s, s < 8 → (sevBits [42]).testBit s = true := by decide
  exact ⟨fun _ => ⟨by omega, by omega⟩, fun _ => this s hs⟩
theorem sev_idx (n : List UInt8) : findFrom n severityNames 0 ≤ 8 := by
  have := findFrom_le n severityNames 0
  have h8 : severityNames.length = 8 := rfl
  omega
theorem trim_eq (x : List UInt8) : Lib.trimPrefix (61 :: x) [61] = x := by simp [Lib.trimPrefix, Lib.hasPrefix, List.isPrefixOf]
theorem pre_eq (x : List UInt8) : Lib.hasPrefix (61 :: x) [61] = true := by simp [Lib.hasPrefix, List.isPrefixOf]
theorem pre_ne {g : List UInt8} (h : ∀ x, ¬ g = 61 :: x) : Lib.hasPrefix g [61] = false := by
  match g, h with
  | [], _ => rfl
  | c :: t, h =>
    have : ¬ c = 61 := fun e => h t (by rw [e])
    simp [Lib.hasPrefix, List.isPrefixOf, Ne.symm this]
theorem trim_ne {g : List UInt8} (h : ∀ x, ¬ g = 61 :: x) : Lib.trimPrefix g [61] = g := by
  unfold Lib.trimPrefix
  rw [pre_ne h]
  rfl
theorem sev_one (x : List UInt8) : sevBits (61 :: x) = if findFrom x severityNames 0 = 0 then 0 else 2 ^ (findFrom x severityNames 0 - 1) := by
  unfold sevBits
  rw [if_neg (by simp), trim_eq, pre_eq]
  simp
theorem sev_up {g : List UInt8} (h42 : ¬ g = [42]) (h : ∀ x, ¬ g = 61 :: x) : sevBits g = if findFrom g severityNames 0 = 0 then 0 else 2 ^ findFrom g severityNames 0 - 1 := by
  unfold sevBits
  rw [if_neg h42, trim_ne h, pre_ne h]
  simp
theorem svok_one {x : List UInt8} {k : Nat} (h : findFrom x severityNames 0 = k + 1) : SvOk (61 :: x) k k := by
  have e : sevBits (61 :: x) = 2 ^ k := by rw [sev_one, if_neg (by omega), h]; simp
  refine ⟨by rw [e]; exact Nat.ne_of_gt (Nat.pow_pos (by decide)), fun s _ => ?_⟩
  rw [e, Nat.testBit_two_pow]
  simp
  omega
theorem svok_up {g : List UInt8} {k : Nat} (h42 : ¬ g = [42]) (hx : ∀ x, ¬ g = 61 :: x) (h : findFrom g severityNames 0 = k + 1) : SvOk g 0 k := by
  have e : sevBits g = 2 ^ (k + 1) - 1 := by rw [sev_up h42 hx, if_neg (by omega), h]
  refine ⟨?_, fun s _ => ?_⟩
  · rw [e]
    have : 2 ^ 1 ≤ 2 ^ (k + 1) := Nat.pow_le_pow_right (by decide) (by omega)
    omega
  · rw [e, Nat.testBit_two_pow_sub_one]
    simp
    omega
/- a rule's line: its three parts -/
theorem rule_none_blank {l : List UInt8} (h : rfind 32 l = -1) : readRule l = none := by
  rcases rfind_cut (c := 32) (l := l) with ⟨_, hc⟩ | ⟨i, hi, _⟩
  · unfold readRule ruleOf
    rw [hc]
    apply if_pos
    exact .inr (.inr (by dsimp only; decide))
  · omega
theorem sev_nil : sevBits [] = 0 := by decide
theorem rule_none_dot {l : List UInt8} {b : Nat} (hb : rfind 32 l = b) (h : rfind 46 l = -1 ∨ (b : Int) < rfind 46 l) : readRule l = none := by
  rcases rfind_cut (c := 32) (l := l) with ⟨h1, _⟩ | ⟨i, hi, hil, hc⟩
  · omega
  · have ei : i = b := by omega
    subst ei
    have hno : (46 : UInt8) ∉ l.take i := by
      rcases rfind_cut (c := 46) (l := l) with ⟨h1, hc2⟩ | ⟨j, hj, hjl, hc2⟩
      · have := cutB_not 46 l
        rw [hc2] at this
        exact fun hm => this (List.mem_of_mem_take hm)
      · have := cutB_not 46 l
        rw [hc2] at this
        have hij : i < j := by omega
        intro hm
        apply this
        have e : l.take i = (l.take j).take i := by rw [List.take_take, Nat.min_eq_left (by omega)]
        rw [e] at hm
        exact List.mem_of_mem_take hm
    unfold readRule ruleOf
    rw [hc]
    dsimp only
    rw [cutB_all 46 _ hno]
    apply if_pos
    exact .inr (.inl sev_nil)
theorem rule_parts {l : List UInt8} {b d : Nat} (hb : rfind 32 l = b) (hd : rfind 46 l = d) (hdb : d ≤ b) : d < b ∧ b < l.length ∧ readRule l = ruleOf (facBits (l.take d)) (sevBits ((l.drop (d + 1)).take (b - (d + 1)))) (l.drop (b + 1)) := by
  rcases rfind_cut (c := 32) (l := l) with ⟨h1, _⟩ | ⟨i, hi, hil, hc⟩
  · omega
  rcases rfind_cut (c := 46) (l := l) with ⟨h1, _⟩ | ⟨j, hj, hjl, hc2⟩
  · omega
  have ei : i = b := by omega
  have ej : j = d := by omega
  subst ei ej
  have hne : j < i := by
    by_cases e : j = i
    · subst e
      have e1 := cutB_some 32 l (by rw [hc])
      have e2 := cutB_some 46 l (by rw [hc2])
      rw [hc] at e1
      rw [hc2] at e2
      have := e1.symm.trans e2
      simp at this
    · omega
  refine ⟨hne, hil, ?_⟩
  have hcc : cutB 46 (l.take i) = (l.take j, (l.drop (j + 1)).take (i - (j + 1)), true) := by
    have hj46 : l[j] = 46 := by
      have e2 := cutB_some 46 l (by rw [hc2])
      rw [hc2] at e2
      have := congrArg (fun x : List UInt8 => x[j]?) e2
      simp only [List.getElem?_eq_getElem hjl] at this
      rw [List.getElem?_append_right (by simp; omega)] at this
      simp [Nat.min_eq_left (Nat.le_of_lt hjl)] at this
      exact this
    have e : l.take i = l.take j ++ 46 :: (l.drop (j + 1)).take (i - (j + 1)) := by
      conv => lhs; rw [show i = j + (1 + (i - (j + 1))) by omega]
      rw [List.take_add, List.take_add, List.drop_drop]
      rw [List.drop_eq_getElem_cons hjl, hj46]
      simp
    rw [e]
    have hnot : (46 : UInt8) ∉ l.take j := by
      have := cutB_not 46 l
      rwa [hc2] at this
    exact cutB_app 46 _ _ hnot
  unfold readRule
  rw [hc]
  dsimp only
  rw [hcc]
theorem rule_word {fb sb : Nat} {v : List UInt8} (h1 : ¬ v = kKeep) (h2 : ¬ v = kDrop) : ruleOf fb sb v = none := by
  unfold ruleOf
  exact if_pos (.inr (.inr ⟨h1, h2⟩))
theorem rule_fac {fb sb : Nat} {v : List UInt8} (h1 : fb = 0) : ruleOf fb sb v = none := by
  unfold ruleOf
  exact if_pos (.inl h1)
theorem rule_sev {fb sb : Nat} {v : List UInt8} (h1 : sb = 0) : ruleOf fb sb v = none := by
  unfold ruleOf
  exact if_pos (.inr (.inl h1))
theorem rule_some {n g v : List UInt8} {F : List Nat} {lo hi : Int} (h1 : FcOk n F) (h2 : SvOk g lo hi) (hv : v = kKeep ∨ v = kDrop) : ∃ r, ruleOf (facBits n) (sevBits g) v = some r ∧ Alike r ⟨F, lo, hi, decide (v = kKeep)⟩ := by
  refine ⟨⟨facBits n, sevBits g, decide (v = kKeep)⟩, ?_, rfl, h1.1, fun f s hf hs => ?_⟩
  · unfold ruleOf
    apply if_neg
    rintro (h | h | ⟨h3, h4⟩)
    · exact h1.2.1 h
    · exact h2.1 h
    · rcases hv with hv | hv
      · exact h3 hv
      · exact h4 hv
  · unfold Rl.fits
    dsimp only
    rw [Bool.and_eq_true, h1.2.2 f hf, h2.2 s hs]
end Go.Hm

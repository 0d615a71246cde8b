/- Mathematics: what is written is read, what is read is written; messages of raw numbers; shifted moments, old messages, logs, frames. -/
import Derived.Test.YtdlhbmncbmconaaGreatDoorMa
import Derived.Test.YtdlhbmncbmconaaGreatDoorMy
import Derived.Test.YtdlhbmncbmconaaGreatDoorMx
import Derived.Lib.ValidLaws
import GoSem.Op.String
namespace Go.Hm
def pick (c : Int) (n : Nat) : Nat := ((if c < 0 then -(c + 1) else c) % (n : Int)).toNat
theorem pick_lt (c : Int) {n : Nat} (h : 0 < n) : pick c n < n := by
  unfold pick
  have h1 : 0 ≤ (if c < 0 then -(c + 1) else c) % (n : Int) := Int.emod_nonneg _ (by omega)
  have h2 : (if c < 0 then -(c + 1) else c) % (n : Int) < n := Int.emod_lt_of_pos _ (by omega)
  omega
end Go.Hm
namespace Go.Hm
def UnitB (u : List UInt8) : Prop := (∃ c, u = [92, c] ∧ esc c = true) ∨ (∃ a : UInt8, u = [a] ∧ ¬ a.toNat = 34 ∧ ¬ a.toNat = 93 ∧ ¬ a.toNat = 92)
def ValB (a : List UInt8) : Prop := ∃ us : List (List UInt8), a = us.flatten ∧ ∀ u ∈ us, UnitB u
theorem ValB.nil : ValB [] := ⟨[], rfl, fun _ h => by simp at h⟩
theorem ValB.esc {c : UInt8} {t : List UInt8} (hc : Go.Hm.esc c = true) (h : ValB t) : ValB (92 :: c :: t) := by
  obtain ⟨us, rfl, hu⟩ := h
  exact ⟨[92, c] :: us, rfl, fun u hm => by rcases List.mem_cons.1 hm with rfl | hm; exact .inl ⟨c, rfl, hc⟩; exact hu u hm⟩
theorem ValB.one {a : UInt8} {t : List UInt8} (h1 : ¬ a.toNat = 34) (h2 : ¬ a.toNat = 93) (h3 : ¬ a.toNat = 92) (h : ValB t) : ValB (a :: t) := by
  obtain ⟨us, rfl, hu⟩ := h
  exact ⟨[a] :: us, rfl, fun u hm => by rcases List.mem_cons.1 hm with rfl | hm; exact .inr ⟨a, rfl, h1, h2, h3⟩; exact hu u hm⟩
theorem ValB.each {P : List UInt8 → Prop} (h0 : P []) (h1 : ∀ c t, Go.Hm.esc c = true → P t → P (92 :: c :: t)) (h2 : ∀ (a : UInt8) t, ¬ a.toNat = 34 → ¬ a.toNat = 93 → ¬ a.toNat = 92 → P t → P (a :: t)) {a : List UInt8} (h : ValB a) : P a := by
  obtain ⟨us, rfl, hu⟩ := h
  induction us with
  | nil => exact h0
  | cons u us ih =>
    have ih := ih (fun v hv => hu v (by simp [hv]))
    rcases hu u (by simp) with ⟨c, rfl, hc⟩ | ⟨b, rfl, a1, a2, a3⟩
    · exact h1 c _ hc ih
    · exact h2 b _ a1 a2 a3 ih
theorem value_of {a : List UInt8} (h : ValB a) (r : List UInt8) : value (a ++ 34 :: r) = some a.length := by
  refine ValB.each (P := fun a => value (a ++ 34 :: r) = some a.length) ?_ ?_ ?_ h
  · exact value_quote rfl
  · intro c t hc ih
    rw [List.cons_append, List.cons_append, value_esc2 rfl hc, ih]; rfl
  · intro a t h1 h2 h3 ih
    rw [List.cons_append, value_other h1 h2 h3, ih]; rfl
theorem value_cut : ∀ (n : Nat) (l : List UInt8), l.length ≤ n → ∀ v, value l = some v → ∃ a r, l = a ++ 34 :: r ∧ a.length = v ∧ ValB a := by
  intro n
  induction n with
  | zero => intro l hl v hv; cases l with | nil => cases hv | cons a t => simp at hl
  | succ n ih =>
    intro l hl v hv
    cases l with
    | nil => cases hv
    | cons a t =>
      simp only [List.length_cons] at hl
      by_cases h1 : a.toNat = 34
      · rw [value_quote h1] at hv
        cases hv
        exact ⟨[], t, by rw [UInt8.toNat_inj.1 (show a.toNat = (34 : UInt8).toNat from h1)]; rfl, rfl, .nil⟩
      · by_cases h2 : a.toNat = 93
        · rw [value_shut h2] at hv; cases hv
        · by_cases h3 : a.toNat = 92
          · cases t with
            | nil => rw [value_esc0 h3] at hv; cases hv
            | cons c u =>
              cases hc : esc c with
              | false => rw [value_esc1 h3 hc] at hv; cases hv
              | true =>
                rw [value_esc2 h3 hc] at hv
                obtain ⟨x, hx, rfl⟩ := Option.map_eq_some_iff.1 hv
                simp only [List.length_cons] at hl
                obtain ⟨b, r, rfl, hb, hv'⟩ := ih u (by omega) x hx
                obtain rfl : a = 92 := UInt8.toNat_inj.1 h3
                exact ⟨92 :: c :: b, r, rfl, by simp [hb], .esc hc hv'⟩
          · rw [value_other h1 h2 h3] at hv
            obtain ⟨x, hx, rfl⟩ := Option.map_eq_some_iff.1 hv
            obtain ⟨b, r, rfl, hb, hv'⟩ := ih t (by omega) x hx
            exact ⟨a :: b, r, rfl, by simp [hb], .one h1 h2 h3 hv'⟩
def NameB (n : List UInt8) : Prop := 1 ≤ n.length ∧ n.length ≤ 12 ∧ ∀ c ∈ n, nmb c = true
theorem ahead_cut (p : UInt8 → Bool) (b : Nat) (l : List UInt8) : ∀ c ∈ l.take (ahead p b l), p c = true := by
  intro c hc
  have h : l.take (ahead p b l) = (l.take b).takeWhile p := by
    unfold ahead
    have hp : (l.take b).takeWhile p <+: l := (List.takeWhile_prefix p).trans (List.take_prefix b l)
    exact (List.prefix_iff_eq_take.1 hp).symm
  rw [h] at hc
  have := List.all_takeWhile (p := p) (l := l.take b)
  rw [List.all_eq_true] at this
  exact this c hc
theorem ahead_of {p : UInt8 → Bool} {b : Nat} {a r : List UInt8} (hb : a.length ≤ b) (h : ∀ c ∈ a, p c = true) (hr : a.length = b ∨ r = [] ∨ ∃ c t, r = c :: t ∧ p c = false) : ahead p b (a ++ r) = a.length := by
  refine ahead_eq p b _ _ (by simp) hb (by simpa using h) ?_
  rcases hr with h | rfl | ⟨c, t, rfl, hc⟩
  · exact .inr (.inl h)
  · left; simp
  · exact .inr (.inr ⟨c, by simp, hc⟩)
theorem nameLen_of {n : List UInt8} (h : NameB n) {c : UInt8} (hc : nmb c = false) (r : List UInt8) : nameLen (n ++ c :: r) = n.length :=
  ahead_of h.2.1 h.2.2 (.inr (.inr ⟨c, r, rfl, hc⟩))
theorem nameLen_cut {l : List UInt8} (h : ¬ nameLen l = 0) : ∃ n r, l = n ++ r ∧ n.length = nameLen l ∧ NameB n := by
  have hl := nameLen_le l
  refine ⟨l.take (nameLen l), l.drop (nameLen l), (List.take_append_drop _ _).symm, by simp; omega, by simp; omega, by simp; omega, ahead_cut nmb 12 l⟩
theorem prefix1 {l : List UInt8} {c : UInt8} (h : Lib.hasPrefix l [c] = true) : ∃ t, l = c :: t := by
  unfold Lib.hasPrefix at h
  obtain ⟨t, rfl⟩ := List.isPrefixOf_iff_prefix.1 h
  exact ⟨t, rfl⟩
theorem prefix2 {l : List UInt8} {c d : UInt8} (h : Lib.hasPrefix l [c, d] = true) : ∃ t, l = c :: d :: t := by
  unfold Lib.hasPrefix at h
  obtain ⟨t, rfl⟩ := List.isPrefixOf_iff_prefix.1 h
  exact ⟨t, rfl⟩
theorem prefix_of (p t : List UInt8) : Lib.hasPrefix (p ++ t) p = true := List.isPrefixOf_iff_prefix.2 ⟨t, rfl⟩
theorem prefix_cons (c : UInt8) (t : List UInt8) : Lib.hasPrefix (c :: t) [c] = true := prefix_of [c] t
theorem prefix_no {c d : UInt8} (t : List UInt8) (h : ¬ c = d) : Lib.hasPrefix (c :: t) [d] = false := by
  cases hp : Lib.hasPrefix (c :: t) [d] with
  | false => rfl
  | true => obtain ⟨u, hu⟩ := prefix1 hp; cases hu; exact (h rfl).elim
def pairB (n v : List UInt8) : List UInt8 := n ++ 61 :: 34 :: (v ++ [34])
theorem pair_of {n v : List UInt8} (hn : NameB n) (hv : ValB v) (r : List UInt8) : pair (pairB n v ++ r) = (pairB n v).length := by
  have e : pairB n v ++ r = n ++ 61 :: (34 :: (v ++ 34 :: r)) := by simp [pairB]
  have hl : nameLen (pairB n v ++ r) = n.length := by rw [e]; exact nameLen_of hn (by decide) _
  unfold pair
  rw [hl, e]
  have h1 := hn.1
  rw [if_neg]
  · rw [show (n ++ 61 :: (34 :: (v ++ 34 :: r))).drop (n.length + 2) = v ++ 34 :: r by simp]
    rw [value_of hv]
    simp [pairB]
    omega
  · rw [List.drop_left]
    rintro (h | h)
    · omega
    · rw [show (61 : UInt8) :: 34 :: (v ++ 34 :: r) = [61, 34] ++ (v ++ 34 :: r) from rfl, prefix_of] at h
      cases h
theorem pair_cut {l : List UInt8} (h : ¬ pair l = 0) : ∃ n v r, l = pairB n v ++ r ∧ NameB n ∧ ValB v ∧ pair l = (pairB n v).length := by
  unfold pair at h
  split at h
  · exact (h rfl).elim
  · next h1 =>
    split at h
    · exact (h rfl).elim
    · next v hv =>
      obtain ⟨n, r, hl, hn, hN⟩ := nameLen_cut (l := l) (fun e => h1 (.inl e))
      have h2 : Lib.hasPrefix (l.drop (nameLen l)) [61, 34] = true := by
        cases hp : Lib.hasPrefix (l.drop (nameLen l)) [61, 34] with
        | true => rfl
        | false => exact (h1 (.inr hp)).elim
      rw [← hn, hl, List.drop_left] at h2
      obtain ⟨t, rfl⟩ := prefix2 h2
      have h3 : l.drop (nameLen l + 2) = t := by rw [← hn, hl]; simp
      rw [h3] at hv
      obtain ⟨a, r', rfl, ha, hA⟩ := value_cut _ t (Nat.le_refl _) v hv
      have hl' : l = pairB n a ++ r' := by rw [hl]; simp [pairB]
      exact ⟨n, a, r', hl', hN, hA, by rw [hl']; exact pair_of hN hA r'⟩
def PairsB (a : List UInt8) : Prop := ∃ ps : List (List UInt8 × List UInt8), a = (ps.map fun p => 32 :: pairB p.1 p.2).flatten ∧ ∀ p ∈ ps, NameB p.1 ∧ ValB p.2
theorem PairsB.nil : PairsB [] := ⟨[], rfl, fun _ h => by simp at h⟩
theorem PairsB.more {n v t : List UInt8} (hn : NameB n) (hv : ValB v) (h : PairsB t) : PairsB (32 :: (pairB n v ++ t)) := by
  obtain ⟨ps, rfl, hp⟩ := h
  exact ⟨(n, v) :: ps, rfl, fun u hm => by rcases List.mem_cons.1 hm with rfl | hm; exact ⟨hn, hv⟩; exact hp u hm⟩
theorem PairsB.each {P : List UInt8 → Prop} (h0 : P []) (h1 : ∀ n v t, NameB n → ValB v → P t → P (32 :: (pairB n v ++ t))) {a : List UInt8} (h : PairsB a) : P a := by
  obtain ⟨ps, rfl, hp⟩ := h
  induction ps with
  | nil => exact h0
  | cons p ps ih => exact h1 p.1 p.2 _ (hp p (by simp)).1 (hp p (by simp)).2 (ih (fun v hv => hp v (by simp [hv])))
theorem pairB_pos (n v : List UInt8) : 0 < (pairB n v).length := by simp [pairB]; omega
theorem pairs_of {a : List UInt8} (h : PairsB a) {r : List UInt8} (hr : Lib.hasPrefix r [32] = false) : ∀ f, (a ++ r).length < f → pairs f (a ++ r) = some a.length := by
  refine PairsB.each (P := fun a => ∀ f, (a ++ r).length < f → pairs f (a ++ r) = some a.length) ?_ ?_ h
  · intro f hf; rw [List.nil_append] at hf ⊢; exact pairs_end hf hr
  · intro n v t hn hv ih f hf
    have e : (32 :: (pairB n v ++ t) ++ r).drop 1 = pairB n v ++ (t ++ r) := by simp
    have hp : pair ((32 :: (pairB n v ++ t) ++ r).drop 1) = (pairB n v).length := by rw [e]; exact pair_of hn hv _
    have h0 := pairB_pos n v
    rw [pairs_step hf (prefix_cons 32 _) (by omega), hp]
    rw [show (32 :: (pairB n v ++ t) ++ r).drop (1 + (pairB n v).length) = t ++ r by rw [← List.drop_drop, e, List.drop_left]]
    rw [ih f (by simp at hf ⊢; omega)]
    simp
    omega
theorem pairs_cut : ∀ (f : Nat) (l : List UInt8) (k : Nat), l.length < f → pairs f l = some k → ∃ a r, l = a ++ r ∧ PairsB a ∧ a.length = k ∧ Lib.hasPrefix r [32] = false := by
  intro f
  induction f with
  | zero => intro l k h; omega
  | succ f ih =>
    intro l k hf h
    cases hp : Lib.hasPrefix l [32] with
    | false =>
      rw [pairs_end hf hp] at h
      cases h
      exact ⟨[], l, rfl, .nil, rfl, hp⟩
    | true =>
      by_cases h0 : pair (l.drop 1) = 0
      · rw [pairs_bad hf hp h0] at h; cases h
      · unfold pairs at h
        rw [if_pos hp, if_neg h0] at h
        obtain ⟨x, hx, rfl⟩ := Option.map_eq_some_iff.1 h
        obtain ⟨t, rfl⟩ := prefix1 hp
        rw [show (32 :: t).drop 1 = t from rfl] at h0 hx ⊢
        obtain ⟨n, v, r, rfl, hn, hv, hk⟩ := pair_cut h0
        rw [hk, ← List.drop_drop, show (32 :: (pairB n v ++ r)).drop 1 = pairB n v ++ r from rfl, List.drop_left] at hx
        obtain ⟨a, r', rfl, hA, ha, hr⟩ := ih r x (by simp at hf; omega) hx
        exact ⟨32 :: (pairB n v ++ a), r', by simp, .more hn hv hA, by simp [ha, hk]; omega, hr⟩
def ElemB (x : List UInt8 × List UInt8) : Prop := ∃ ps, NameB x.1 ∧ PairsB ps ∧ x.2 = 91 :: (x.1 ++ (ps ++ [93]))
theorem ElemB.pos {x : List UInt8 × List UInt8} (h : ElemB x) : 0 < x.2.length := by obtain ⟨ps, _, _, e⟩ := h; rw [e]; simp
theorem pairs_head {ps : List UInt8} (h : PairsB ps) (r : List UInt8) : ∃ c t, ps ++ 93 :: r = c :: t ∧ nmb c = false := by
  refine PairsB.each (P := fun ps => ∃ c t, ps ++ 93 :: r = c :: t ∧ nmb c = false) ?_ ?_ h
  · exact ⟨93, r, rfl, by decide⟩
  · intro n v t _ _ _
    exact ⟨32, _, rfl, by decide⟩
theorem element_of {x : List UInt8 × List UInt8} (h : ElemB x) (r : List UInt8) : element (x.2 ++ r) = (x.1, x.2.length) := by
  obtain ⟨ps, hn, hps, e⟩ := h
  obtain ⟨n, b⟩ := x
  dsimp only at e hn ⊢
  subst e
  have e1 : 91 :: (n ++ (ps ++ [93])) ++ r = 91 :: (n ++ (ps ++ 93 :: r)) := by simp
  rw [e1]
  obtain ⟨c, t, hct, hc⟩ := pairs_head hps r
  have hl : nameLen ((91 :: (n ++ (ps ++ 93 :: r))).drop 1) = n.length := by
    rw [show (91 :: (n ++ (ps ++ 93 :: r))).drop 1 = n ++ (ps ++ 93 :: r) from rfl, hct]
    exact nameLen_of hn hc t
  have h1 := hn.1
  unfold element
  rw [if_neg (by rw [prefix_cons]; simp), hl, if_neg (by omega)]
  have hd : (91 :: (n ++ (ps ++ 93 :: r))).drop (1 + n.length) = ps ++ 93 :: r := by
    rw [← List.drop_drop, show (91 :: (n ++ (ps ++ 93 :: r))).drop 1 = n ++ (ps ++ 93 :: r) from rfl, List.drop_left]
  rw [hd, pairs_of hps (prefix_no r (by decide)) _ (by simp; omega)]
  dsimp only
  rw [← List.drop_drop, hd, List.drop_left, if_neg (by rw [prefix_cons]; simp)]
  simp
  omega
theorem element_cut {l : List UInt8} (h : ¬ (element l).2 = 0) : ∃ x r, l = x.2 ++ r ∧ ElemB x ∧ element l = (x.1, x.2.length) := by
  have hE := h
  unfold element at h
  split at h
  · exact (h rfl).elim
  · next h1 =>
    split at h
    · exact (h rfl).elim
    · next h2 =>
      split at h
      · exact (h rfl).elim
      · next k hk =>
        split at h
        · exact (h rfl).elim
        · next h3 =>
          obtain ⟨t, rfl⟩ := prefix1 (by simpa using h1 : Lib.hasPrefix l [91] = true)
          rw [show (91 :: t).drop 1 = t from rfl] at h2 hk h3
          obtain ⟨n, r, rfl, hn, hN⟩ := nameLen_cut h2
          rw [← hn] at hk h3
          have hd : (91 :: (n ++ r)).drop (1 + n.length) = r := by
            rw [← List.drop_drop, show (91 :: (n ++ r)).drop 1 = n ++ r from rfl, List.drop_left]
          rw [hd] at hk
          obtain ⟨ps, r', rfl, hP, hp, _⟩ := pairs_cut _ r k (by simp; omega) hk
          rw [← hp, ← List.drop_drop, hd, List.drop_left] at h3
          obtain ⟨r'', rfl⟩ := prefix1 (by simpa using h3 : Lib.hasPrefix r' [93] = true)
          have hx : ElemB (n, 91 :: (n ++ (ps ++ [93]))) := ⟨ps, hN, hP, rfl⟩
          have he : 91 :: (n ++ (ps ++ 93 :: r'')) = (91 :: (n ++ (ps ++ [93]))) ++ r'' := by simp
          refine ⟨_, r'', he, hx, ?_⟩
          rw [he]
          exact element_of hx r''
def flat (bs : List (List UInt8 × List UInt8)) : List UInt8 := (bs.map (·.2)).flatten
theorem flat_cons (b : List UInt8 × List UInt8) (bs : List (List UInt8 × List UInt8)) : flat (b :: bs) = b.2 ++ flat bs := rfl
theorem lastEnd_cons (x : List UInt8 × Nat) (es : List (List UInt8 × Nat)) (h : es ≠ []) : lastEnd (x :: es) = lastEnd es := by
  unfold lastEnd
  cases es with
  | nil => exact (h rfl).elim
  | cons y ys => rw [List.getLast?_cons_cons]
theorem elems_of : ∀ (bs : List (List UInt8 × List UInt8)) (l : List UInt8) (e f : Nat) (r : List UInt8), (∀ b ∈ bs, ElemB b) → (element r).2 = 0 → l.drop e = flat bs ++ r → e ≤ l.length → l.length < f + e →
    (elems f l e).map (·.1) = bs.map (·.1) ∧ (elems f l e = [] ↔ bs = []) ∧ (bs ≠ [] → lastEnd (elems f l e) = e + (flat bs).length)
  | [], l, e, f, r, _, hr, hl, he, hf => by
    rw [show flat [] ++ r = r from rfl] at hl
    rw [elems_end hf he (by rw [hl]; exact hr)]
    exact ⟨rfl, by simp, fun h => (h rfl).elim⟩
  | b :: bs, l, e, f, r, hb, hr, hl, he, hf => by
    rw [flat_cons, List.append_assoc] at hl
    have hE : element (l.drop e) = (b.1, b.2.length) := by rw [hl]; exact element_of (hb b (by simp)) _
    have h0 := (hb b (by simp)).pos
    have h1 := congrArg List.length hl
    simp only [List.length_drop, List.length_append] at h1
    have hs := elems_step hf he (by rw [hE]; exact Nat.ne_of_gt h0)
    rw [hE] at hs
    dsimp only at hs
    have ih := elems_of bs l (e + b.2.length) f r (fun c hc => hb c (by simp [hc])) hr (by rw [← List.drop_drop, hl, List.drop_left]) (by omega) (by omega)
    rw [hs]
    refine ⟨by simp [ih.1], by simp, fun _ => ?_⟩
    by_cases hbs : bs = []
    · rw [ih.2.1.2 hbs, hbs]
      simp [lastEnd, flat]
    · rw [lastEnd_cons _ _ (fun e => hbs (ih.2.1.1 e)), ih.2.2 hbs, flat_cons]
      simp
      omega
theorem dataLen_of {bs : List (List UInt8 × List UInt8)} {r : List UInt8} (hb : ∀ b ∈ bs, ElemB b) (hr : (element r).2 = 0) :
    dataLen (flat bs ++ r) = if (bs.map (·.1)).Nodup then (if plain (flat bs) = true then (flat bs).length else 0) else 0 := by
  have h := elems_of bs (flat bs ++ r) 0 ((flat bs ++ r).length + 1) r hb hr rfl (Nat.zero_le _) (by omega)
  have hl : lastEnd (elems ((flat bs ++ r).length + 1) (flat bs ++ r) 0) = (flat bs).length := by
    by_cases hbs : bs = []
    · rw [h.2.1.2 hbs, hbs]; rfl
    · rw [h.2.2 hbs]; omega
  unfold dataLen dataOf
  rw [h.1, hl, List.take_left]
theorem split_data : ∀ (n : Nat) (l : List UInt8), l.length ≤ n → ∃ bs r, l = flat bs ++ r ∧ (∀ b ∈ bs, ElemB b) ∧ (element r).2 = 0 := by
  intro n
  induction n with
  | zero => intro l hl; cases l with | nil => exact ⟨[], [], rfl, by simp, rfl⟩ | cons a t => simp at hl
  | succ n ih =>
    intro l hl
    by_cases h : (element l).2 = 0
    · exact ⟨[], l, rfl, by simp, h⟩
    · obtain ⟨x, r, rfl, hx, _⟩ := element_cut h
      have := hx.pos
      obtain ⟨bs, r', rfl, hb, hr⟩ := ih r (by simp at hl; omega)
      exact ⟨x :: bs, r', by rw [flat_cons, List.append_assoc], fun b hbm => by rcases List.mem_cons.1 hbm with rfl | h; exact hx; exact hb b h, hr⟩
def DataB (d : List UInt8) : Prop := ∃ bs : List (List UInt8 × List UInt8), bs ≠ [] ∧ d = flat bs ∧ (∀ b ∈ bs, ElemB b) ∧ (bs.map (·.1)).Nodup ∧ plain d = true
theorem DataB.head {d : List UInt8} (h : DataB d) : ∃ t, d = 91 :: t := by
  obtain ⟨bs, h0, rfl, hb, _, _⟩ := h
  cases bs with
  | nil => exact (h0 rfl).elim
  | cons b bs => obtain ⟨ps, _, _, e⟩ := hb b (by simp); rw [flat_cons, e]; exact ⟨_, rfl⟩
theorem dataLen_data {d : List UInt8} (h : DataB d) {r : List UInt8} (hr : (element r).2 = 0) : dataLen (d ++ r) = d.length := by
  obtain ⟨bs, h0, rfl, hb, hn, hp⟩ := h
  rw [dataLen_of hb hr, if_pos hn, if_pos hp]
theorem element_none {r : List UInt8} (h : Lib.hasPrefix r [91] = false) : (element r).2 = 0 := by
  unfold element
  rw [if_pos h]
theorem dataLen_cut {l : List UInt8} (h : ¬ dataLen l = 0) : ∃ d r, l = d ++ r ∧ DataB d ∧ dataLen l = d.length := by
  obtain ⟨bs, r, rfl, hb, hr⟩ := split_data _ l (Nat.le_refl _)
  have hd := dataLen_of hb hr
  by_cases h1 : (bs.map (·.1)).Nodup
  · by_cases h2 : plain (flat bs) = true
    · rw [if_pos h1, if_pos h2] at hd
      refine ⟨flat bs, r, rfl, ⟨bs, ?_, rfl, hb, h1, h2⟩, hd⟩
      rintro rfl
      exact h hd
    · rw [if_pos h1, if_neg h2] at hd; exact (h hd).elim
  · rw [if_neg h1] at hd; exact (h hd).elim
theorem isData_iff (d : List UInt8) : isData d = true ↔ DataB d := by
  constructor
  · intro h
    unfold isData at h
    simp only [Bool.and_eq_true, Bool.not_eq_true', beq_iff_eq, List.isEmpty_eq_false_iff] at h
    have h0 : ¬ dataLen d = 0 := by rw [h.2]; exact fun e => h.1 (List.length_eq_zero_iff.1 e)
    obtain ⟨a, r, rfl, ha, hl⟩ := dataLen_cut h0
    have := h.2
    rw [hl, List.length_append] at this
    obtain rfl : r = [] := List.length_eq_zero_iff.1 (by omega)
    rwa [List.append_nil]
  · intro h
    obtain ⟨t, ht⟩ := h.head
    have := dataLen_data h (r := []) rfl
    rw [List.append_nil] at this
    unfold isData
    rw [this, ht]
    simp
theorem toldOrData_data {d r : List UInt8} (h : DataB d) (hr : Lib.hasPrefix r [91] = false) : toldOrData (d ++ r) = d.length := by
  obtain ⟨t, rfl⟩ := h.head
  unfold toldOrData
  rw [if_neg (by rw [List.cons_append, prefix_no _ (by decide)]; simp)]
  exact dataLen_data h (element_none hr)
end Go.Hm
namespace Go.Hm
theorem shp_ne {c s : UInt8} (h : shp c s = true) (hs : ¬ s = 32) : ¬ c = 32 := by
  unfold shp at h
  split at h
  · intro e; subst e; revert h; decide
  · intro e; subst e; exact hs (by simpa using h)
theorem shape_len : ∀ (t s : List UInt8), shape t s = true → t.length = s.length
  | [], [], _ => rfl
  | [], _ :: _, h => by simp [shape] at h
  | _ :: _, [], h => by simp [shape] at h
  | a :: t, b :: s, h => by
    simp only [shape, Bool.and_eq_true] at h
    simp [shape_len t s h.2]
theorem shape_noblank {t s : List UInt8} (h : shape t s = true) (hs : 32 ∉ s) : 32 ∉ t := by
  intro hm
  obtain ⟨j, hj⟩ := List.getElem?_of_mem hm
  have hl := shape_len t s h
  have hlt : j < s.length := by rw [← hl]; exact (List.getElem?_eq_some_iff.1 hj).1
  exact shp_ne (shape_at t s h j 32 s[j] hj (List.getElem?_eq_getElem hlt)) (fun e => hs (e ▸ List.getElem_mem hlt)) rfl
theorem trim_mem {l : List UInt8} {c x : UInt8} (h : x ∈ Lib.trimRightB l c) : x ∈ l := by
  unfold Lib.trimRightB at h
  have := (List.dropWhile_suffix (fun y => y == c) (l := l.reverse)).subset (List.mem_reverse.1 h)
  simpa using this
theorem fraction_noblank (l : List UInt8) : 32 ∉ (fraction l).1 := by
  unfold fraction
  split
  · simp
  · next hp =>
    split
    · simp
    · dsimp only
      split
      · simp
      · intro hm
        have h1 := trim_mem hm
        obtain ⟨t, rfl⟩ := prefix1 (by simpa using hp : Lib.hasPrefix l [46] = true)
        rw [show (46 :: t).drop 1 = t from rfl, Nat.add_comm, List.take_succ_cons] at h1
        rcases List.mem_cons.1 h1 with h | h
        · exact absurd h (by decide)
        · have := ahead_cut dig 6 t 32 h
          exact absurd this (by decide)
theorem stampText_length (y mo d h mi s : Nat) : (stampText y mo d h mi s).length = 19 := by simp [stampText, d4, d2]
theorem readTime_parts {l t : List UInt8} (h : readTime l = some t) : 19 ≤ l.length ∧ shape (l.take 19) momentShape = true ∧ ∃ u, u.length = 19 ∧ t = u ++ (fraction (l.drop 19)).1 ++ [90] := by
  unfold readTime at h
  split at h
  · cases h
  · next h1 =>
    split at h
    · cases h
    · split at h
      · cases h
      · split at h
        · cases h
        · cases h
          refine ⟨by omega, ?_, _, stampText_length _ _ _ _ _ _, rfl⟩
          cases hs : shape (l.take 19) momentShape with
          | true => rfl
          | false => exact (h1 (.inr hs)).elim
theorem isTime_read {t : List UInt8} (h : isTime t = true) : readTime t = some t := by simpa [isTime] using h
theorem isTime_noblank {t : List UInt8} (h : isTime t = true) : 32 ∉ t := by
  obtain ⟨h1, h2, u, hu, ht⟩ := readTime_parts (isTime_read h)
  have hd : t.drop 19 = (fraction (t.drop 19)).1 ++ [90] := by
    conv => lhs; rw [ht]
    rw [List.append_assoc, ← hu, List.drop_left]
  intro hm
  rw [← List.take_append_drop 19 t] at hm
  rcases List.mem_append.1 hm with hm | hm
  · exact shape_noblank h2 (by decide) hm
  · rw [hd] at hm
    rcases List.mem_append.1 hm with hm | hm
    · exact fraction_noblank _ hm
    · exact absurd hm (by decide)
theorem isTime_len {t : List UInt8} (h : isTime t = true) : 19 ≤ t.length := (readTime_parts (isTime_read h)).1
theorem word_vis {w : List UInt8} {n : Nat} (h : word w n = true) : ¬ w = [] ∧ ¬ w = [45] ∧ w.length ≤ n ∧ ∀ c ∈ w, vis c = true := by
  unfold word at h
  simp only [Bool.and_eq_true, Bool.not_eq_true', decide_eq_true_eq, List.all_eq_true] at h
  obtain ⟨⟨⟨h1, h2⟩, h3⟩, h4⟩ := h
  refine ⟨?_, ?_, h3, h4⟩
  · intro e; rw [e] at h1; exact absurd h1 (by decide)
  · intro e; rw [e] at h2; exact absurd h2 (by decide)
theorem vis_noblank {w : List UInt8} (h : ∀ c ∈ w, vis c = true) : 32 ∉ w := fun hm => absurd (h 32 hm) (by decide)
theorem part_at {a p r : List UInt8} (hp : 32 ∉ p) : part (a ++ (p ++ 32 :: r)) a.length = (p, a.length + p.length + 1) := by
  unfold part
  rw [List.drop_left, cut_eq, cutB_app 32 p r hp]
  rfl
theorem wordsFrom_at : ∀ (ks : List (Nat × Nat)) (ws : List (List UInt8)) (a r : List UInt8), ks.length = ws.length → wordsFault ks ws = none →
    wordsFrom (a ++ ((ws.flatMap fun w => told w ++ [32]) ++ r)) ks a.length = (none, ws, (a ++ (ws.flatMap fun w => told w ++ [32])).length)
  | [], [], a, r, _, _ => by simp [wordsFrom]
  | [], _ :: _, _, _, h, _ => by simp at h
  | _ :: _, [], _, _, h, _ => by simp at h
  | k :: ks, w :: ws, a, r, hl, hf => by
    unfold wordsFault at hf
    split at hf
    · cases hf
    · next hw =>
      have ht : 32 ∉ told w := by
        unfold told
        split
        · decide
        · next h0 =>
          cases hq : word w k.1 with
          | false => exact (hw ⟨h0, hq⟩).elim
          | true => exact vis_noblank (word_vis hq).2.2.2
      have e : a ++ (((w :: ws).flatMap fun w => told w ++ [32]) ++ r) = a ++ (told w ++ 32 :: ((ws.flatMap fun w => told w ++ [32]) ++ r)) := by simp
      have e2 : a ++ (told w ++ 32 :: ((ws.flatMap fun w => told w ++ [32]) ++ r)) = (a ++ (told w ++ [32])) ++ ((ws.flatMap fun w => told w ++ [32]) ++ r) := by simp
      have hp := part_at (a := a) (r := (ws.flatMap fun w => told w ++ [32]) ++ r) ht
      have ih := wordsFrom_at ks ws (a ++ (told w ++ [32])) r (by simpa using hl) hf
      have hlen : (a ++ (told w ++ [32])).length = a.length + (told w).length + 1 := by simp; omega
      rw [hlen, ← e2] at ih
      rw [e]
      unfold wordsFrom
      rw [hp]
      dsimp only
      rw [ih]
      dsimp only
      by_cases h0 : w = []
      · subst h0
        rw [if_pos (show told [] = [45] from rfl)]
        simp
      · have hq : word w k.1 = true := by
          cases hq : word w k.1 with
          | false => exact (hw ⟨h0, hq⟩).elim
          | true => rfl
        have htw : told w = w := by unfold told; rw [if_neg h0]
        rw [htw, if_neg (word_vis hq).2.1, if_neg (by rw [hq]; simp)]
        simp [htw]
theorem dig_of {n : Nat} (h : n < 10) : dig (UInt8.ofNat (48 + n)) = true := by
  rcases (by omega : n = 0 ∨ n = 1 ∨ n = 2 ∨ n = 3 ∨ n = 4 ∨ n = 5 ∨ n = 6 ∨ n = 7 ∨ n = 8 ∨ n = 9) with h | h | h | h | h | h | h | h | h | h <;> subst h <;> rfl
theorem ofNat_digit {n : Nat} (h : n < 10) : (UInt8.ofNat (48 + n)).toNat - 48 = n := by
  rw [UInt8.toNat_ofNat']
  omega
theorem dd_digits : ∀ n : Nat, ∀ c ∈ Lib.decDigits n, dig c = true := by
  intro n
  induction n using Nat.strongRecOn with
  | ind n ih =>
    intro c hc
    by_cases h : n < 10
    · rw [dd1 h] at hc
      rw [List.mem_singleton.1 hc]
      exact dig_of h
    · rw [dd2 h] at hc
      rcases List.mem_append.1 hc with hc | hc
      · exact ih _ (by omega) c hc
      · rw [List.mem_singleton.1 hc]
        exact dig_of (by omega)
theorem dd_dec : ∀ n : Nat, dec (Lib.decDigits n) = n := by
  intro n
  induction n using Nat.strongRecOn with
  | ind n ih =>
    by_cases h : n < 10
    · rw [dd1 h]
      unfold dec
      simp only [List.foldl_cons, List.foldl_nil]
      rw [ofNat_digit h]
      omega
    · rw [dd2 h, dec_snoc, ih _ (by omega), ofNat_digit (by omega)]
      omega
theorem dd_len3 {n : Nat} (h : n < 1000) : (Lib.decDigits n).length ≤ 3 := by
  by_cases h1 : n < 100
  · have := dd_len2 h1; omega
  · rw [dd2 (by omega)]
    have := dd_len2 (n := n / 10) (by omega)
    simp only [List.length_append, List.length_cons, List.length_nil]; omega
theorem dd_pos (n : Nat) : 0 < (Lib.decDigits n).length := by
  by_cases h : n < 10
  · rw [dd1 h]; simp
  · rw [dd2 h]; simp
theorem dd_head : ∀ n : Nat, 0 < n → ∃ c t, Lib.decDigits n = c :: t ∧ dig c = true ∧ c ≠ 48 := by
  intro n
  induction n using Nat.strongRecOn with
  | ind n ih =>
    intro h0
    by_cases h : n < 10
    · refine ⟨_, [], dd1 h, dig_of h, fun e => ?_⟩
      have := ofNat_digit h
      rw [e] at this
      simp at this
      omega
    · obtain ⟨c, t, hc, h1, h2⟩ := ih (n / 10) (by omega) (by omega)
      exact ⟨c, t ++ [UInt8.ofNat (48 + n % 10)], by rw [dd2 h, hc]; rfl, h1, h2⟩
theorem source_at {n : Nat} (h : n ≤ 191) (r : List UInt8) : source (60 :: (Lib.decDigits n ++ 62 :: r)) = (n, 1 + (Lib.decDigits n).length + 1) := by
  have hA : ahead dig 3 ((60 :: (Lib.decDigits n ++ 62 :: r)).drop 1) = (Lib.decDigits n).length :=
    ahead_of (dd_len3 (by omega)) (dd_digits n) (.inr (.inr ⟨62, r, rfl, by decide⟩))
  have hp := dd_pos n
  unfold source
  rw [hA, if_neg (by rw [prefix_cons]; simp), ← List.drop_drop, show (60 :: (Lib.decDigits n ++ 62 :: r)).drop 1 = Lib.decDigits n ++ 62 :: r from rfl, List.drop_left, List.take_left, dd_dec]
  rw [if_neg (by rw [prefix_cons]; rintro (h | h); omega; cases h), if_neg]
  rintro (⟨h1, h2⟩ | h1)
  · by_cases h0 : n = 0
    · subst h0
      rw [dd1 (by omega)] at h2
      simp at h2
    · obtain ⟨c, t, hc, _, hne⟩ := dd_head n (by omega)
      rw [hc] at h1
      exact hne (UInt8.toNat_inj.1 (by simpa using h1))
  · omega
structure Good (m : Msg) : Prop where
  f0 : 0 ≤ m.fac
  f1 : m.fac < 24
  s0 : 0 ≤ m.sev
  s1 : m.sev < 8
  time : m.time = [] ∨ isTime m.time = true
  words : wordsFault kinds [m.host, m.app, m.proc, m.id] = none
  data : m.data = [] ∨ DataB m.data
  text : plain m.text = true
theorem good_iff (m : Msg) : fault m = 0 ↔ Good m := by
  constructor
  · intro h
    have hs := fault_source h
    unfold fault at h
    split at h
    · omega
    · split at h
      · omega
      · next h2 =>
        split at h
        · next e he =>
          have : ∀ (l : List (Nat × Nat)) (ws : List (List UInt8)) (e : Nat), (∀ k ∈ l, 0 < k.2) → wordsFault l ws = some e → 0 < e := by
            intro l
            induction l with
            | nil => intro ws e _ h; cases ws <;> cases h
            | cons k ks ih =>
              intro ws e hk h
              cases ws with
              | nil => cases h
              | cons x xs =>
                unfold wordsFault at h
                split at h
                · cases h; exact hk k (by simp)
                · exact ih xs e (fun k' h' => hk k' (by simp [h'])) h
          have := this kinds _ e (by decide) he
          omega
        · next hw =>
          split at h
          · omega
          · next h4 =>
            split at h
            · omega
            · next h5 =>
              refine ⟨hs.1, hs.2.1, hs.2.2.1, hs.2.2.2, ?_, hw, ?_, by simpa using h5⟩
              · by_cases ht : m.time = []
                · exact .inl ht
                · right
                  cases hi : isTime m.time with
                  | true => rfl
                  | false => exact (h2 ⟨ht, hi⟩).elim
              · by_cases ht : m.data = []
                · exact .inl ht
                · right
                  rw [← isData_iff]
                  cases hi : isData m.data with
                  | true => rfl
                  | false => exact (h4 ⟨ht, hi⟩).elim
  · rintro ⟨h1, h2, h3, h4, h5, h6, h7, h8⟩
    unfold fault
    rw [if_neg (by simp [isSource, h1, h2, h3, h4]), if_neg, h6]
    · dsimp only
      rw [if_neg, if_neg (by simp [h8])]
      rintro ⟨a, b⟩
      rcases h7 with h | h
      · exact a h
      · rw [(isData_iff _).2 h] at b; cases b
    · rintro ⟨a, b⟩
      rcases h5 with h | h
      · exact a h
      · rw [h] at b; cases b
def tail (x : List UInt8) : List UInt8 := if x = [] then [] else 32 :: x
theorem line_text {m : Msg} : Lib.join (partsOf m) [32] =
    60 :: (Lib.decDigits (8 * m.fac + m.sev).toNat ++ 62 :: ([49, 32] ++ (told m.time ++ 32 :: (([m.host, m.app, m.proc, m.id].flatMap fun w => told w ++ [32]) ++ (told m.data ++ tail m.text))))) := by
  unfold partsOf
  simp only [List.map_cons, List.map_nil]
  by_cases h : m.text = []
  · rw [if_pos h, tail, if_pos h]
    simp only [List.append_nil, join_cons2]
    simp [Lib.join, List.intercalate, List.intersperse]
  · rw [if_neg h, tail, if_neg h]
    simp only [List.cons_append, List.nil_append, join_cons2]
    simp [Lib.join, List.intercalate, List.intersperse]
theorem dataText_at {m : Msg} (a d x : List UInt8) (h0 : m.data = []) (h1 : m.text = []) (hd : d = [] ∨ DataB d) (hx : plain x = true) : dataText m (a ++ (told d ++ tail x)) a.length = ({ m with data := d, text := x }, 0, 0) := by
  have ht : toldOrData (told d ++ tail x) = (told d).length := by
    rcases hd with rfl | hd
    · unfold toldOrData
      rw [if_pos (by rw [show told [] = [45] from rfl]; exact prefix_of [45] _)]
      rfl
    · obtain ⟨t, e⟩ := hd.head
      have : told d = d := by unfold told; rw [if_neg (by rw [e]; simp)]
      rw [this]
      refine toldOrData_data hd ?_
      unfold tail
      split
      · rfl
      · exact prefix_no _ (by decide)
  have h45 : (told d = [45]) = (d = []) := by
    rcases hd with rfl | hd
    · simp [told]
    · obtain ⟨t, e⟩ := hd.head
      subst e
      simp [told]
  unfold dataText
  rw [List.drop_left, ht, List.take_left]
  have hpos : 0 < (told d).length := by
    unfold told
    split
    · simp
    · next h => exact List.length_pos_iff.2 h
  rw [if_neg]
  · by_cases hx0 : x = []
    · subst hx0
      rw [if_pos (by simp [tail])]
      by_cases hd0 : d = []
      · rw [if_pos (by rw [h45]; exact hd0), hd0]
        cases m
        simp_all
      · rw [if_neg (by rw [h45]; exact hd0)]
        have : told d = d := by unfold told; rw [if_neg hd0]
        rw [this]
        cases m
        simp_all
    · have etail : tail x = 32 :: x := by unfold tail; rw [if_neg hx0]
      rw [if_neg (by rw [etail]; simp)]
      have e2 : (a ++ (told d ++ tail x)).drop (a.length + (told d).length + 1) = x := by
        rw [Nat.add_assoc, ← List.drop_drop, List.drop_left, ← List.drop_drop, List.drop_left, etail]
        rfl
      rw [e2, if_neg (by simp [hx])]
      by_cases hd0 : d = []
      · rw [if_pos (by rw [h45]; exact hd0), hd0]
        cases m
        simp_all
      · rw [if_neg (by rw [h45]; exact hd0)]
        have : told d = d := by unfold told; rw [if_neg hd0]
        rw [this]
  · rintro (h | ⟨h, h'⟩)
    · omega
    · refine h' ?_
      by_cases hx0 : x = []
      · subst hx0
        simp [tail] at h
      · have etail : tail x = 32 :: x := by unfold tail; rw [if_neg hx0]
        rw [etail, List.getD_eq_getElem?_getD, List.getElem?_append_right (by omega), Nat.add_sub_cancel_left, List.getElem?_append_right (by omega), Nat.sub_self]
        rfl
theorem line_lenL {m : Msg} (h : (line m).2 = 0) : (line m).1.length ≤ 200 := by
  unfold line at h ⊢
  by_cases h0 : fault m = 0
  · rw [if_neg (by simp [h0])] at h ⊢
    by_cases h1 : 200 < joinedLen (partsOf m)
    · rw [if_pos h1] at h; cases h
    · rw [if_neg h1]
      unfold partsOf at h1 ⊢
      rw [← join_length] at h1
      dsimp only
      omega
  · rw [if_pos (by simpa using h0)]; simp
theorem read_line {m : Msg} (h : (line m).2 = 0) {y : Int} (hy : isYear y = true) : read (line m).1 y = (m, 0, 0) := by
  have hlen := line_lenL h
  have hf : fault m = 0 := by
    unfold line at h
    split at h
    · exact h
    · next hf => exact Classical.not_not.1 hf
  have hg := (good_iff m).1 hf
  have e1 : (line m).1 = Lib.join (partsOf m) [32] := by
    unfold line at h ⊢
    rw [if_neg (by simp [hf])] at h ⊢
    split at h
    · cases h
    · next hh => rw [if_neg hh]
  rw [e1] at hlen ⊢
  rw [line_text] at hlen ⊢
  generalize hn : (8 * m.fac + m.sev).toNat = n at hlen ⊢
  obtain ⟨f0, f1, s0, s1, ht, hw, hd, hx⟩ := hg
  have hn1 : n ≤ 191 := by omega
  have hs := source_at hn1 ([49, 32] ++ (told m.time ++ 32 :: (([m.host, m.app, m.proc, m.id].flatMap fun w => told w ++ [32]) ++ (told m.data ++ tail m.text))))
  unfold read
  rw [if_neg (by omega), if_neg (by rw [hy]; simp), hs]
  dsimp only
  have ed : ∀ r : List UInt8, (60 :: (Lib.decDigits n ++ 62 :: r)).drop (1 + (Lib.decDigits n).length + 1) = r := by
    intro r
    rw [show 1 + (Lib.decDigits n).length + 1 = 1 + ((Lib.decDigits n).length + 1) by omega, ← List.drop_drop, show (60 :: (Lib.decDigits n ++ 62 :: r)).drop 1 = Lib.decDigits n ++ 62 :: r from rfl, ← List.drop_drop, List.drop_left]
    rfl
  rw [ed, if_pos ⟨by omega, prefix_of _ _⟩]
  have htb : 32 ∉ told m.time := by
    rcases ht with h | h
    · rw [h]; decide
    · unfold told; split
      · decide
      · exact isTime_noblank h
  obtain ⟨a, ha⟩ : ∃ a : List UInt8, a = 60 :: (Lib.decDigits n ++ 62 :: [49, 32]) := ⟨_, rfl⟩
  have hal : 1 + (Lib.decDigits n).length + 1 + 2 = a.length := by rw [ha]; simp; omega
  have ea : ∀ r : List UInt8, 60 :: (Lib.decDigits n ++ 62 :: ([49, 32] ++ r)) = a ++ r := by intro r; rw [ha]; simp
  rw [ea, hal]
  have htm : timeOf (told m.time) = some m.time := by
    unfold timeOf
    rcases ht with h | h
    · rw [h]; rfl
    · have h19 := isTime_len h
      have h0 : ¬ m.time = [] := fun e => by rw [e] at h19; simp at h19
      have : told m.time = m.time := by unfold told; rw [if_neg h0]
      rw [this, if_neg (fun e => by rw [e] at h19; simp at h19), isTime_read h]
  rw [readNew_some (part_at htb) htm]
  have e3 : ∀ r : List UInt8, a ++ (told m.time ++ 32 :: r) = (a ++ (told m.time ++ [32])) ++ r := by intro r; simp
  have hl3 : a.length + (told m.time).length + 1 = (a ++ (told m.time ++ [32])).length := by simp; omega
  rw [e3, hl3]
  generalize a ++ (told m.time ++ [32]) = b
  have hwf := wordsFrom_at kinds [m.host, m.app, m.proc, m.id] b (told m.data ++ tail m.text) rfl hw
  rw [afterTime_ok (by rw [hwf]), hwf]
  dsimp only
  rw [← List.append_assoc b, dataText_at _ _ _ rfl rfl hd hx]
  simp only [List.getD_cons_zero, List.getD_cons_succ]
  have e8 : (n : Int) / 8 = m.fac := by omega
  have e9 : (n : Int) % 8 = m.sev := by omega
  rw [e8, e9]
end Go.Hm
namespace Go.Hm
theorem lead_lo : ∀ b : Fin 256, 2 ≤ Lib.firstT b.val % 8 → 128 ≤ Lib.accLo (Lib.firstT b.val / 16) := by decide +kernel
theorem validD_behind : ∀ (n : Nat) (a : List UInt8) (c : UInt8) (r : List UInt8), a.length ≤ n → c.toNat < 128 → Lib.validD (a ++ c :: r) = true → Lib.validD r = true := by
  intro n
  induction n with
  | zero =>
    intro a c r ha hc h
    obtain rfl : a = [] := List.length_eq_zero_iff.1 (by omega)
    rwa [List.nil_append, Lib.validD_cons c r hc] at h
  | succ n ih =>
    intro a c r ha hc h
    cases a with
    | nil => rwa [List.nil_append, Lib.validD_cons c r hc] at h
    | cons b a =>
      by_cases hb : b.toNat < 128
      · rw [List.cons_append, Lib.validD_cons b _ hb] at h
        exact ih a c r (by simpa using ha) hc h
      · rw [Lib.validD_lead _ (by simp) (by simpa using hb)] at h
        split at h
        · cases h
        · next k hk =>
          have hsz : 2 ≤ Lib.firstT b.toNat % 8 := by
            rw [show ((b :: a ++ c :: r).getD 0 0) = b from rfl] at hk
            unfold Lib.checkN at hk
            split at hk
            · omega
            · split at hk
              · omega
              · split at hk
                · omega
                · cases hk
          have hlo := lead_lo ⟨b.toNat, b.toNat_lt⟩ hsz
          dsimp only at hlo
          have hkl : 1 ≤ k ∧ k ≤ (b :: a).length ∧ k ≤ 4 := by
            have hget : ∀ j, a.length = j → ((b :: a ++ c :: r).getD (j + 1) 0) = c := by
              rintro j rfl
              simp [List.getD_eq_getElem?_getD]
            rw [show ((b :: a ++ c :: r).getD 0 0) = b from rfl] at hk
            simp only [List.length_cons]
            unfold Lib.checkN at hk
            have g0 := hget 0
            have g1 := hget 1
            have g2 := hget 2
            split at hk
            · split at hk
              · cases hk
              · next hh =>
                cases hk
                refine ⟨by omega, ?_, by omega⟩
                by_cases h0 : a.length = 0
                · rw [g0 h0] at hh; omega
                · omega
            · split at hk
              · split at hk
                · cases hk
                · next hh =>
                  cases hk
                  refine ⟨by omega, ?_, by omega⟩
                  by_cases h0 : a.length = 0
                  · rw [g0 h0] at hh; omega
                  · by_cases h1 : a.length = 1
                    · rw [g1 h1] at hh; omega
                    · omega
              · split at hk
                · split at hk
                  · cases hk
                  · next hh =>
                    cases hk
                    refine ⟨by omega, ?_, by omega⟩
                    by_cases h0 : a.length = 0
                    · rw [g0 h0] at hh; omega
                    · by_cases h1 : a.length = 1
                      · rw [g1 h1] at hh; omega
                      · by_cases h2 : a.length = 2
                        · rw [g2 h2] at hh; omega
                        · omega
                · cases hk
          rw [List.drop_append_of_le_length hkl.2.1] at h
          refine ih ((b :: a).drop k) c r ?_ hc h
          rw [List.length_drop]
          simp only [List.length_cons] at ha ⊢
          omega
theorem plain_behind {a r : List UInt8} {c : UInt8} (hc : c.toNat < 128) (h : plain (a ++ c :: r) = true) : plain r = true := by
  unfold plain at h ⊢
  simp only [Bool.and_eq_true, List.all_eq_true] at h ⊢
  exact ⟨fun x hx => h.1 x (by simp [hx]), validD_behind _ a c r (Nat.le_refl _) hc h.2⟩
theorem word_of {w : List UInt8} {n : Nat} (h1 : ¬ w = []) (h2 : ¬ w = [45]) (h3 : w.length ≤ n) (h4 : ∀ c ∈ w, vis c = true) : word w n = true := by
  unfold word
  simp only [Bool.and_eq_true, Bool.not_eq_true', decide_eq_true_eq, List.all_eq_true]
  refine ⟨⟨⟨?_, ?_⟩, h3⟩, h4⟩
  · cases w with
    | nil => exact (h1 rfl).elim
    | cons => rfl
  · simpa using h2
theorem tgb_vis {c : UInt8} (h : tgb c = true) : vis c = true := by
  simp only [tgb, letr, dig, vis, Bool.or_eq_true, Bool.and_eq_true, decide_eq_true_eq, beq_iff_eq] at h ⊢
  omega
theorem dig_vis {c : UInt8} (h : dig c = true) : vis c = true := by
  simp only [dig, vis, Bool.and_eq_true, decide_eq_true_eq] at h ⊢
  omega
def FracB (fr : List UInt8) : Prop := fr = [] ∨ ∃ ds c, fr = 46 :: (ds ++ [c]) ∧ (∀ x ∈ ds, dig x = true) ∧ dig c = true ∧ ds.length + 1 ≤ 6 ∧ c ≠ 48
theorem trimR_snoc (l : List UInt8) {c d : UInt8} (h : ¬ d = c) : Lib.trimRightB (l ++ [d]) c = l ++ [d] := by
  unfold Lib.trimRightB
  simp [h]
theorem trimR_cut (c : UInt8) (l : List UInt8) : ∃ a b, l = a ++ b ∧ Lib.trimRightB l c = a ∧ (a = [] ∨ ∃ a' d, a = a' ++ [d] ∧ d ≠ c) := by
  refine ⟨Lib.trimRightB l c, (l.reverse.takeWhile (fun x => x == c)).reverse, ?_, rfl, ?_⟩
  · unfold Lib.trimRightB
    rw [← List.reverse_append, List.takeWhile_append_dropWhile, List.reverse_reverse]
  · unfold Lib.trimRightB
    cases h : l.reverse.dropWhile (fun x => x == c) with
    | nil => left; rfl
    | cons d t =>
      right
      refine ⟨t.reverse, d, by simp, ?_⟩
      have := List.head?_dropWhile_not (fun x => x == c) l.reverse
      rw [h] at this
      simpa using this
theorem fraction_form (l : List UInt8) : FracB (fraction l).1 := by
  unfold fraction
  split
  · exact .inl rfl
  · next hp =>
    split
    · exact .inl rfl
    · dsimp only
      split
      · exact .inl rfl
      · next hne =>
        obtain ⟨t, rfl⟩ := prefix1 (by simpa using hp : Lib.hasPrefix l [46] = true)
        rw [show (46 :: t).drop 1 = t from rfl, Nat.add_comm, List.take_succ_cons] at hne ⊢
        obtain ⟨a, b, hab, ht, hl⟩ := trimR_cut 48 (46 :: t.take (ahead dig 6 t))
        rw [ht] at hne ⊢
        rcases hl with rfl | ⟨a', d, rfl, hd⟩
        · exact .inl rfl
        · right
          cases a' with
          | nil =>
            simp only [List.nil_append, List.cons_append, List.cons.injEq] at hab
            rw [← hab.1] at hne
            exact (hne rfl).elim
          | cons x a' =>
            simp only [List.cons_append, List.cons.injEq] at hab
            obtain ⟨rfl, hab⟩ := hab
            have hall : ∀ x ∈ a' ++ [d] ++ b, dig x = true := by rw [← hab]; exact ahead_cut dig 6 t
            have hlen := congrArg List.length hab
            have h6 := ahead_le dig 6 t
            simp only [List.length_take, List.length_append, List.length_cons, List.length_nil] at hlen
            exact ⟨a', d, rfl, fun x hx => hall x (by simp [hx]), hall d (by simp), by omega, hd⟩
theorem fraction_of {fr z : List UInt8} (h : FracB fr) (hz : ∃ c t, z = c :: t ∧ dig c = false ∧ ¬ c = 46) : fraction (fr ++ z) = (fr, z) := by
  obtain ⟨c, t, rfl, hc, h46⟩ := hz
  rcases h with rfl | ⟨ds, d, rfl, h1, h2, h3, h4⟩
  · unfold fraction
    rw [List.nil_append, if_pos (prefix_no t h46)]
  · have hA : ahead dig 6 ((46 :: (ds ++ [d]) ++ c :: t).drop 1) = (ds ++ [d]).length :=
      ahead_of (by simp; omega) (fun x hx => by rcases List.mem_append.1 hx with hx | hx; exact h1 x hx; rw [List.mem_singleton.1 hx]; exact h2) (.inr (.inr ⟨c, t, rfl, hc⟩))
    have hT : (46 :: (ds ++ [d]) ++ c :: t).take (1 + (ds ++ [d]).length) = 46 :: (ds ++ [d]) := by
      rw [Nat.add_comm, List.cons_append, List.take_succ_cons, List.take_left]
    have hD : (46 :: (ds ++ [d]) ++ c :: t).drop (1 + (ds ++ [d]).length) = c :: t := by
      rw [Nat.add_comm, List.cons_append, List.drop_succ_cons, List.drop_left]
    unfold fraction
    rw [hA, if_neg (by rw [List.cons_append, prefix_cons]; simp), if_neg (by simp), hT, hD]
    rw [show (46 :: (ds ++ [d]) : List UInt8) = (46 :: ds) ++ [d] from rfl, trimR_snoc _ h4, if_neg (by simp)]
theorem dec_d2 {n : Nat} (h : n < 100) : dec (d2 n) = n := by
  unfold dec d2
  simp only [List.foldl_cons, List.foldl_nil]
  rw [ofNat_digit (by omega), ofNat_digit (by omega)]
  omega
theorem dec_d4 {n : Nat} (h : n < 10000) : dec (d4 n) = n := by
  unfold dec d4 d2
  simp only [List.cons_append, List.nil_append, List.foldl_cons, List.foldl_nil]
  rw [ofNat_digit (by omega), ofNat_digit (by omega), ofNat_digit (by omega), ofNat_digit (by omega)]
  omega
theorem shp_dig {c : UInt8} (h : dig c = true) : shp c 48 = true := by simp [shp, h]
theorem stampText_shape {y mo d h mi s : Nat} (hy : y < 10000) (hmo : mo < 100) (hd : d < 100) (hh : h < 100) (hmi : mi < 100) (hs : s < 100) : shape (stampText y mo d h mi s) momentShape = true := by
  simp only [stampText, d4, d2, momentShape, List.cons_append, List.nil_append, shape, Bool.and_eq_true]
  have hg : ∀ n : Nat, n < 10 → shp (UInt8.ofNat (48 + n)) 48 = true := fun n hn => shp_dig (dig_of hn)
  refine ⟨hg _ (by omega), hg _ (by omega), hg _ (by omega), hg _ (by omega), rfl, hg _ (by omega), hg _ (by omega), rfl, hg _ (by omega), hg _ (by omega), rfl, hg _ (by omega), hg _ (by omega), rfl, hg _ (by omega), hg _ (by omega), rfl, hg _ (by omega), hg _ (by omega), trivial⟩
theorem num_stamp (y mo d h mi s : Nat) (r : List UInt8) : num (stampText y mo d h mi s ++ r) 0 4 = dec (d4 y) ∧ num (stampText y mo d h mi s ++ r) 5 7 = dec (d2 mo) ∧ num (stampText y mo d h mi s ++ r) 8 10 = dec (d2 d) ∧
    num (stampText y mo d h mi s ++ r) 11 13 = dec (d2 h) ∧ num (stampText y mo d h mi s ++ r) 14 16 = dec (d2 mi) ∧ num (stampText y mo d h mi s ++ r) 17 19 = dec (d2 s) := by
  refine ⟨rfl, rfl, rfl, rfl, rfl, rfl⟩
theorem readTime_at {y mo d h mi s : Nat} {fr z : List UInt8} {k : Int} (he : exists_ y mo d h mi s = true) (hf : FracB fr) (hz : ∃ c t, z = c :: t ∧ dig c = false ∧ ¬ c = 46) (hk : difference z = some k) :
    readTime (stampText y mo d h mi s ++ (fr ++ z)) = if isYear (earlier y mo d h mi k).1.1 = false then none else
      some (stampText (earlier y mo d h mi k).1.1.toNat (earlier y mo d h mi k).1.2.1.toNat (earlier y mo d h mi k).1.2.2.toNat ((earlier y mo d h mi k).2 / 60).toNat ((earlier y mo d h mi k).2 % 60).toNat s ++ fr ++ [90]) := by
  have hb := exists_bd he
  have hl := stampText_length y mo d h mi s
  obtain ⟨n1, n2, n3, n4, n5, n6⟩ := num_stamp y mo d h mi s (fr ++ z)
  rw [dec_d4 (by omega)] at n1
  rw [dec_d2 (by omega)] at n2 n3 n4 n5 n6
  unfold readTime
  rw [n1, n2, n3, n4, n5, n6]
  have ht : (stampText y mo d h mi s ++ (fr ++ z)).take 19 = stampText y mo d h mi s := by rw [← hl, List.take_left]
  have hd' : (stampText y mo d h mi s ++ (fr ++ z)).drop 19 = fr ++ z := by rw [← hl, List.drop_left]
  rw [ht, hd', fraction_of hf hz]
  rw [if_neg]
  · dsimp only
    rw [hk]
    dsimp only
    rw [if_neg (by rw [he]; simp)]
  · rintro (h1 | h1)
    · simp only [List.length_append] at h1; omega
    · rw [stampText_shape (by omega) (by omega) (by omega) (by omega) (by omega) (by omega)] at h1; cases h1
theorem earlier_zero {y mo d h mi : Int} (h0 : 0 ≤ 60 * h + mi) (h1 : 60 * h + mi < 1440) : earlier y mo d h mi 0 = ((y, mo, d), 60 * h + mi) := by
  unfold earlier
  rw [if_neg (by omega), if_neg (by omega)]
  simp
theorem isTime_at {y mo d h mi s : Nat} {fr : List UInt8} (he : exists_ y mo d h mi s = true) (hf : FracB fr) : isTime (stampText y mo d h mi s ++ (fr ++ [90])) = true := by
  have hb := exists_bd he
  have h1 := readTime_at (z := [90]) (k := 0) he hf ⟨90, [], rfl, by decide, by decide⟩ (by unfold difference; rw [if_pos rfl])
  rw [earlier_zero (by omega) (by omega)] at h1
  dsimp only at h1
  rw [if_neg (by simp [isYear]; omega)] at h1
  have e1 : ((60 * (h : Int) + mi) / 60).toNat = h := by omega
  have e2 : ((60 * (h : Int) + mi) % 60).toNat = mi := by omega
  rw [e1, e2] at h1
  simp only [Int.toNat_natCast] at h1
  unfold isTime
  rw [h1]
  simp
theorem exists_mk {y mo d h mi s : Int} (h1 : isYear y = true) (h2 : 1 ≤ mo) (h3 : mo ≤ 12) (h4 : 1 ≤ d) (h5 : d ≤ daysOf y mo) (h6 : h ≤ 23) (h7 : mi ≤ 59) (h8 : s ≤ 59) : exists_ y mo d h mi s = true := by
  unfold exists_
  rw [h1]
  simp [h2, h3, h4, h5, h6, h7, h8]
theorem readTime_form {l t : List UInt8} (h : readTime l = some t) : ∃ (y mo d hh mi s : Nat) (fr : List UInt8), t = stampText y mo d hh mi s ++ (fr ++ [90]) ∧ exists_ y mo d hh mi s = true ∧ FracB fr := by
  unfold readTime at h
  split at h
  · cases h
  · split at h
    · cases h
    · next k hk =>
      split at h
      · cases h
      · next he =>
        split at h
        · cases h
        · next hy =>
          have he' : exists_ (num l 0 4) (num l 5 7) (num l 8 10) (num l 11 13) (num l 14 16) (num l 17 19) = true := by simpa using he
          have hy' : isYear (earlier (num l 0 4) (num l 5 7) (num l 8 10) (num l 11 13) (num l 14 16) k).1.1 = true := by simpa using hy
          have hb := exists_bd he'
          have hk' := difference_bd hk
          have hE := earlier_bd (num l 0 4) (num l 5 7) (num l 8 10) (num l 11 13) (num l 14 16) k (by omega) (by omega) (by omega) (by omega) (by omega) (by omega) (by omega) (by omega) (by omega) (by omega) hk'.1 hk'.2
          cases h
          refine ⟨_, _, _, _, _, _, (fraction (l.drop 19)).1, List.append_assoc _ _ _, ?_, fraction_form _⟩
          generalize earlier (num l 0 4) (num l 5 7) (num l 8 10) (num l 11 13) (num l 14 16) k = E at hE hy'
          obtain ⟨⟨a, b, c⟩, n⟩ := E
          dsimp only at hE hy' ⊢
          rw [Int.toNat_of_nonneg (by omega), Int.toNat_of_nonneg (by omega), Int.toNat_of_nonneg (by omega)]
          exact exists_mk hy' (by omega) (by omega) (by omega) (by omega) (by omega) (by omega) (by omega)
theorem readTime_time {l t : List UInt8} (h : readTime l = some t) : isTime t = true := by
  obtain ⟨y, mo, d, hh, mi, s, fr, rfl, he, hf⟩ := readTime_form h
  exact isTime_at he hf
theorem timeOf_good {p t : List UInt8} (h : timeOf p = some t) : t = [] ∨ isTime t = true := by
  unfold timeOf at h
  split at h
  · cases h; exact .inl rfl
  · exact .inr (readTime_time h)
theorem wordsFrom_good (l : List UInt8) : ∀ (ks : List (Nat × Nat)) (nx : Nat), (wordsFrom l ks nx).1 = none → wordsFault ks (wordsFrom l ks nx).2.1 = none ∧ (wordsFrom l ks nx).2.1.length = ks.length
  | [], nx, _ => by simp [wordsFrom, wordsFault]
  | k :: ks, nx, h => by
    unfold wordsFrom at h ⊢
    split
    · next hp =>
      rw [if_pos hp] at h
      have ih := wordsFrom_good l ks _ h
      refine ⟨?_, by simp [ih.2]⟩
      unfold wordsFault
      rw [if_neg (by simp)]
      exact ih.1
    · next hp =>
      rw [if_neg hp] at h
      split
      · next hw => rw [if_pos hw] at h; cases h
      · next hw =>
        rw [if_neg hw] at h
        have ih := wordsFrom_good l ks _ h
        refine ⟨?_, by simp [ih.2]⟩
        unfold wordsFault
        rw [if_neg (fun e => hw e.2)]
        exact ih.1
theorem toldOrData_good {l : List UInt8} (h : ¬ toldOrData l = 0) : l.take (toldOrData l) = [45] ∨ DataB (l.take (toldOrData l)) := by
  unfold toldOrData at h ⊢
  split
  · next hp =>
    left
    obtain ⟨t, rfl⟩ := prefix1 hp
    rfl
  · next hp =>
    rw [if_neg hp] at h
    right
    obtain ⟨d, r, rfl, hd, hl⟩ := dataLen_cut h
    rw [hl, List.take_left]
    exact hd
theorem dataText_good {m : Msg} {l : List UInt8} {a : Nat} (hm : Good m) (h : (dataText m l a).2.1 = 0) : Good (dataText m l a).1 := by
  obtain ⟨f0, f1, s0, s1, ht, hw, hd, hx⟩ := hm
  unfold dataText at h ⊢
  split
  · next h1 => rw [if_pos h1] at h; cases h
  · next h1 =>
    rw [if_neg h1] at h
    have hg := toldOrData_good (l := l.drop a) (fun e => h1 (.inl e))
    split
    · split
      · exact ⟨f0, f1, s0, s1, ht, hw, hd, hx⟩
      · next hne => exact ⟨f0, f1, s0, s1, ht, hw, .inr (hg.resolve_left hne), hx⟩
    · next h2 =>
      rw [if_neg h2] at h
      split
      · next h3 => rw [if_pos h3] at h; cases h
      · next h3 =>
        have hp : plain (l.drop (a + toldOrData (l.drop a) + 1)) = true := by simpa using h3
        split
        · exact ⟨f0, f1, s0, s1, ht, hw, hd, hp⟩
        · next hne => exact ⟨f0, f1, s0, s1, ht, hw, .inr (hg.resolve_left hne), hp⟩
theorem afterTime_good {f s : Int} {tm l : List UInt8} {nx : Nat} (hf : 0 ≤ f ∧ f < 24 ∧ 0 ≤ s ∧ s < 8) (ht : tm = [] ∨ isTime tm = true) (h : (afterTime f s tm l nx).2.1 = 0) : Good (afterTime f s tm l nx).1 := by
  cases hw : (wordsFrom l kinds nx).1 with
  | some e =>
    rw [afterTime_err hw] at h
    have : ∀ (ks : List (Nat × Nat)) (nx : Nat) (e : Nat × Nat), (∀ k ∈ ks, 0 < k.2) → (wordsFrom l ks nx).1 = some e → 0 < e.1 := by
      intro ks
      induction ks with
      | nil => intro nx e _ h; cases h
      | cons k ks ih =>
        intro nx e hk h
        unfold wordsFrom at h
        split at h
        · exact ih _ _ (fun k' h' => hk k' (by simp [h'])) h
        · split at h
          · cases h; exact hk k (by simp)
          · exact ih _ _ (fun k' h' => hk k' (by simp [h'])) h
    have := this kinds nx e (by decide) hw
    dsimp only at h
    omega
  | none =>
    rw [afterTime_ok hw] at h ⊢
    have hg := wordsFrom_good l kinds nx hw
    refine dataText_good ⟨hf.1, hf.2.1, hf.2.2.1, hf.2.2.2, ht, ?_, .inl rfl, rfl⟩ h
    generalize (wordsFrom l kinds nx).2.1 = ws at hg
    match ws, hg with
    | [a, b, c, d], hg => exact hg.1
theorem tag_good (l : List UInt8) : ((tag l).1 = [] ∨ word (tag l).1 16 = true) ∧ ((tag l).2.1 = [] ∨ word (tag l).2.1 16 = true) ∧ ((tag l).2.2 = 0 ∨ ∃ a c r, l = a ++ c :: r ∧ c.toNat < 128 ∧ (tag l).2.2 = a.length + 1) := by
  have h16 := ahead_le tgb 16 l
  have hrest : ∀ app proc e, e ≤ l.length → ((app = [] ∨ word app 16 = true) ∧ (proc = [] ∨ word proc 16 = true)) → ((tagRest l app proc e).1 = [] ∨ word (tagRest l app proc e).1 16 = true) ∧ ((tagRest l app proc e).2.1 = [] ∨ word (tagRest l app proc e).2.1 16 = true) ∧
      ((tagRest l app proc e).2.2 = 0 ∨ ∃ a c r, l = a ++ c :: r ∧ c.toNat < 128 ∧ (tagRest l app proc e).2.2 = a.length + 1) := by
    intro app proc e he hap
    unfold tagRest
    split
    · exact ⟨.inl rfl, .inl rfl, .inl rfl⟩
    · next h1 =>
      obtain ⟨t, ht⟩ := prefix1 (by simpa using h1 : Lib.hasPrefix (l.drop e) [58] = true)
      have hl : l = l.take e ++ 58 :: t := by rw [← ht, List.take_append_drop]
      have hle : (l.take e).length = e := by simp; omega
      split
      · next h2 =>
        rw [← List.drop_drop, ht] at h2
        obtain ⟨u, hu⟩ := prefix1 h2
        have hu' : t = 32 :: u := hu
        refine ⟨hap.1, hap.2, .inr ⟨l.take e ++ [58], 32, u, ?_, by decide, by simp only [List.length_append, hle]; rfl⟩⟩
        rw [List.append_assoc, List.singleton_append, ← hu']
        exact hl
      · exact ⟨hap.1, hap.2, .inr ⟨l.take e, 58, t, hl, by decide, by rw [hle]⟩⟩
  unfold tag
  split
  · exact ⟨.inl rfl, .inl rfl, .inl rfl⟩
  · next h1 =>
    have happ : word (l.take (ahead tgb 16 l)) 16 = true := by
      refine word_of (fun e => h1 (.inl ?_)) (fun e => h1 (.inr e)) (by simp; omega) (fun c hc => tgb_vis (ahead_cut tgb 16 l c hc))
      have := congrArg List.length e
      simp only [List.length_take, List.length_nil] at this
      omega
    split
    · split
      · exact ⟨.inl rfl, .inl rfl, .inl rfl⟩
      · next h3 =>
        have h8 := ahead_le dig 8 (l.drop (ahead tgb 16 l + 1))
        rw [List.length_drop] at h8
        have h93 : Lib.hasPrefix (l.drop (ahead tgb 16 l + (1 + ahead dig 8 (l.drop (ahead tgb 16 l + 1))))) [93] = true := by
          cases hq : Lib.hasPrefix (l.drop (ahead tgb 16 l + (1 + ahead dig 8 (l.drop (ahead tgb 16 l + 1))))) [93] with
          | true => rfl
          | false => exact (h3 (.inr hq)).elim
        have h93' := prefix_len h93
        simp only [List.length_drop, List.length_cons, List.length_nil] at h93'
        refine hrest _ _ _ (by omega) ⟨.inr happ, .inr (word_of (fun e => h3 (.inl ?_)) (fun e => ?_) (by simp; omega) (fun c hc => dig_vis (ahead_cut dig 8 _ c hc)))⟩
        · have := congrArg List.length e
          simp at this
          omega
        · have := ahead_cut dig 8 (l.drop (ahead tgb 16 l + 1)) 45 (by rw [e]; simp)
          exact absurd this (by decide)
    · exact hrest _ _ _ h16.2 ⟨.inr happ, .inl rfl⟩
theorem plain_tag {l : List UInt8} (h : plain l = true) : plain (l.drop (tag l).2.2) = true := by
  rcases (tag_good l).2.2 with h0 | ⟨a, c, r, hl, hc, hn⟩
  · rw [h0]; exact h
  · rw [hn]
    have : l.drop (a.length + 1) = r := by
      conv => lhs; rw [hl]
      rw [← List.drop_drop, List.drop_left]; rfl
    rw [this]
    rw [hl] at h
    exact plain_behind hc h
theorem stamp_good (l : List UInt8) (y : Nat) (h : 0 < (stamp l y).2.2) : isTime (stamp l y).1 = true ∧ word (stamp l y).2.1 32 = true ∧ (plain l = true → plain (l.drop (stamp l y).2.2) = true) := by
  unfold stamp at h ⊢
  split
  · next h1 => rw [if_pos h1] at h; exact absurd h (by decide)
  · next h1 =>
    rw [if_neg h1] at h
    split
    · next h2 => rw [if_pos h2] at h; exact absurd h (by decide)
    · next h2 =>
      rw [cut_eq] at h2 ⊢
      have a1 : (oldTime (l.take 15) y).2 = true := by cases hq : (oldTime (l.take 15) y).2 with | true => rfl | false => exact (h2 (.inl hq)).elim
      have a2 : (cutB 32 (l.drop 16)).2.2 = true := by cases hq : (cutB 32 (l.drop 16)).2.2 with | true => rfl | false => exact (h2 (.inr (.inl hq))).elim
      have a3 : word (cutB 32 (l.drop 16)).1 32 = true := by cases hq : word (cutB 32 (l.drop 16)).1 32 with | true => rfl | false => exact (h2 (.inr (.inr hq))).elim
      refine ⟨?_, a3, fun hp => ?_⟩
      · unfold oldTime at a1 ⊢
        split
        · next h3 => rw [if_pos h3] at a1; cases a1
        · next h3 => rw [if_neg h3] at a1; exact a1
      · have hs := cutB_some 32 _ a2
        have hl : l = (l.take 16 ++ (cutB 32 (l.drop 16)).1) ++ 32 :: (cutB 32 (l.drop 16)).2.1 := by
          rw [List.append_assoc, ← hs, List.take_append_drop]
        have hlen : (l.take 16 ++ (cutB 32 (l.drop 16)).1).length = 16 + (cutB 32 (l.drop 16)).1.length := by
          simp only [List.length_append, List.length_take]; omega
        have hd : l.drop (16 + (cutB 32 (l.drop 16)).1.length + 1) = (cutB 32 (l.drop 16)).2.1 := by
          rw [← hlen]
          generalize (l.take 16 ++ (cutB 32 (l.drop 16)).1) = q at hl
          generalize (cutB 32 (l.drop 16)).2.1 = u at hl
          rw [hl, ← List.drop_drop, List.drop_left]; rfl
        dsimp only
        rw [hd]
        rw [hl] at hp
        exact plain_behind (by decide) hp
theorem words_two {h a p : List UInt8} (h1 : h = [] ∨ word h 32 = true) (h2 : a = [] ∨ word a 16 = true) (h3 : p = [] ∨ word p 16 = true) : wordsFault kinds [h, a, p, []] = none := by
  unfold kinds
  simp only [wordsFault]
  rw [if_neg, if_neg, if_neg, if_neg (by simp)]
  · rintro ⟨x, e⟩; rcases h3 with h | h; exact x h; rw [h] at e; cases e
  · rintro ⟨x, e⟩; rcases h2 with h | h; exact x h; rw [h] at e; cases e
  · rintro ⟨x, e⟩; rcases h1 with h | h; exact x h; rw [h] at e; cases e
theorem readOld_good {f s : Int} {l : List UInt8} {y : Nat} (hf : 0 ≤ f ∧ f < 24 ∧ 0 ≤ s ∧ s < 8) (hp : plain l = true) : Good (readOld (Msg.of f s) l y) := by
  unfold readOld
  split
  · next h =>
    obtain ⟨g1, g2, g3⟩ := stamp_good l y h
    have ht := tag_good (l.drop (stamp l y).2.2)
    exact ⟨hf.1, hf.2.1, hf.2.2.1, hf.2.2.2, .inr g1, words_two (.inr g2) ht.1 ht.2.1, .inl rfl, plain_tag (g3 hp)⟩
  · have ht := tag_good l
    exact ⟨hf.1, hf.2.1, hf.2.2.1, hf.2.2.2, .inl rfl, words_two (.inl rfl) ht.1 ht.2.1, .inl rfl, plain_tag hp⟩
theorem read_good {l : List UInt8} {y : Int} (h : (read l y).2.1 = 0) : Good (read l y).1 := by
  have hs := source_le l
  have hf : (0 : Int) ≤ ((source l).1 : Int) / 8 ∧ ((source l).1 : Int) / 8 < 24 ∧ (0 : Int) ≤ ((source l).1 : Int) % 8 ∧ ((source l).1 : Int) % 8 < 8 := by omega
  unfold read at h ⊢
  split
  · next h1 => rw [if_pos h1] at h; cases h
  · next h1 =>
    rw [if_neg h1] at h
    split
    · next h2 => rw [if_pos h2] at h; cases h
    · next h2 =>
      rw [if_neg h2] at h
      split
      · next h3 =>
        rw [if_pos h3] at h
        cases ht : timeOf (part l ((source l).2 + 2)).1 with
        | none => rw [readNew_none rfl ht] at h; cases h
        | some tm =>
          rw [readNew_some rfl ht] at h ⊢
          exact afterTime_good hf (timeOf_good ht) h
      · next h3 =>
        rw [if_neg h3] at h
        split
        · next h4 => rw [if_pos h4] at h; cases h
        · next h4 => exact readOld_good hf (by simpa using h4)
theorem line_read {l : List UInt8} {y : Int} (h : (read l y).2.1 = 0) : (line (read l y).1).2 = 0 ∨ line (read l y).1 = ([], 1) := by
  have hg := (good_iff _).2 (read_good h)
  unfold line
  rw [if_neg (by rw [hg]; simp)]
  split
  · exact .inr rfl
  · exact .inl rfl
end Go.Hm
namespace Go.Hm
structure Refused (l : List UInt8) (x : Msg × Nat × Nat) : Prop where
  msg : x.1 = Msg.none
  pl : x.2.2 ≤ l.length
  long : x.2.1 = 1 → 200 < l.length
theorem wordsFrom_bad (l : List UInt8) : ∀ (ks : List (Nat × Nat)) (nx : Nat) (e : Nat × Nat), (∀ k ∈ ks, 1 < k.2) → nx ≤ l.length → (wordsFrom l ks nx).1 = some e → 1 < e.1 ∧ e.2 ≤ l.length
  | [], nx, e, _, _, h => by cases h
  | k :: ks, nx, e, hk, hn, h => by
    have hp := (part_le l nx hn).1
    unfold wordsFrom at h
    split at h
    · exact wordsFrom_bad l ks _ e (fun k' h' => hk k' (by simp [h'])) hp h
    · split at h
      · cases h; exact ⟨hk k (by simp), hn⟩
      · exact wordsFrom_bad l ks _ e (fun k' h' => hk k' (by simp [h'])) hp h
theorem wordsFrom_place (l : List UInt8) : ∀ (ks : List (Nat × Nat)) (nx : Nat), nx ≤ l.length → (wordsFrom l ks nx).1 = none → (wordsFrom l ks nx).2.2 ≤ l.length
  | [], nx, hn, _ => hn
  | k :: ks, nx, hn, h => by
    have hp := (part_le l nx hn).1
    unfold wordsFrom at h ⊢
    split
    · next c => rw [if_pos c] at h; exact wordsFrom_place l ks _ hp h
    · next c =>
      rw [if_neg c] at h
      split
      · simp
      · next c2 => rw [if_neg c2] at h; exact wordsFrom_place l ks _ hp h
theorem dataText_bad {m : Msg} {l : List UInt8} {a : Nat} (ha : a ≤ l.length) (h : ¬ (dataText m l a).2.1 = 0) : Refused l (dataText m l a) := by
  have ht := toldOrData_le (l.drop a)
  rw [List.length_drop] at ht
  unfold dataText at h ⊢
  split
  · exact ⟨rfl, ha, fun e => by cases e⟩
  · next h1 =>
    rw [if_neg h1] at h
    split
    · next h2 => rw [if_pos h2] at h; exact (h rfl).elim
    · next h2 =>
      rw [if_neg h2] at h
      split
      · exact ⟨rfl, by dsimp only; omega, fun e => by cases e⟩
      · next h3 => rw [if_neg h3] at h; exact (h rfl).elim
theorem dataText_place {m : Msg} {l : List UInt8} {a : Nat} (h : (dataText m l a).2.1 = 0) : (dataText m l a).2.2 = 0 := by
  unfold dataText at h ⊢
  split
  · next h1 => rw [if_pos h1] at h; cases h
  · next h1 =>
    rw [if_neg h1] at h
    split
    · rfl
    · next h2 =>
      rw [if_neg h2] at h
      split
      · next h3 => rw [if_pos h3] at h; cases h
      · rfl
theorem read_bad {l : List UInt8} {y : Int} (hy : isYear y = true) (h : ¬ (read l y).2.1 = 0) : Refused l (read l y) := by
  have hs := source_le l
  unfold read at h ⊢
  split
  · next h1 => exact ⟨rfl, Nat.zero_le _, fun _ => h1⟩
  · next h1 =>
    rw [if_neg h1] at h
    split
    · next h2 => rw [hy] at h2; cases h2
    · next h2 =>
      rw [if_neg h2] at h
      split
      · next h3 =>
        rw [if_pos h3] at h
        have ha := prefix_le l _ h3.2
        cases ht : timeOf (part l ((source l).2 + 2)).1 with
        | none => rw [readNew_none rfl ht]; exact ⟨rfl, ha, fun e => by cases e⟩
        | some tm =>
          rw [readNew_some (p := (part l ((source l).2 + 2)).1) (n := (part l ((source l).2 + 2)).2) rfl ht] at h ⊢
          have hp := (part_le l _ ha).1
          cases hw : (wordsFrom l kinds (part l ((source l).2 + 2)).2).1 with
          | some e =>
            rw [afterTime_err hw]
            have := wordsFrom_bad l kinds _ e (by decide) hp hw
            exact ⟨rfl, this.2, fun e => by dsimp only at e; omega⟩
          | none =>
            rw [afterTime_ok hw] at h ⊢
            exact dataText_bad (wordsFrom_place l kinds _ hp hw) h
      · next h3 =>
        rw [if_neg h3] at h
        split
        · exact ⟨rfl, hs.2, fun e => by cases e⟩
        · next h4 => rw [if_neg h4] at h; exact (h rfl).elim
theorem read_long {l : List UInt8} {y : Int} (h : 200 < l.length) : read l y = (Msg.none, 1, 0) := by
  unfold read
  rw [if_pos h]
theorem read_place {l : List UInt8} {y : Int} (h : (read l y).2.1 = 0) : (read l y).2.2 = 0 := by
  unfold read at h ⊢
  split
  · rfl
  · next h1 =>
    rw [if_neg h1] at h
    split
    · rfl
    · next h2 =>
      rw [if_neg h2] at h
      split
      · next h3 =>
        rw [if_pos h3] at h
        cases ht : timeOf (part l ((source l).2 + 2)).1 with
        | none => rw [readNew_none rfl ht] at h; cases h
        | some tm =>
          rw [readNew_some (p := (part l ((source l).2 + 2)).1) (n := (part l ((source l).2 + 2)).2) rfl ht] at h ⊢
          cases hw : (wordsFrom l kinds (part l ((source l).2 + 2)).2).1 with
          | some e =>
            rw [afterTime_err hw] at h
            have hp : 1 < e.1 := (wordsFrom_bad l kinds _ e (by decide) (part_le l _ (prefix_le l _ h3.2)).1 hw).1
            dsimp only at h
            omega
          | none =>
            rw [afterTime_ok hw] at h ⊢
            exact dataText_place h
      · next h3 =>
        rw [if_neg h3] at h
        split
        · next h4 => rw [if_pos h4] at h; cases h
        · rfl
theorem checkN_more {n n' b1 b2 b3 c1 c2 c3 sz lo hi k : Nat} (h : Lib.checkN n b1 b2 b3 sz lo hi = some k) (hn : n ≤ n') (h1 : 1 < n → c1 = b1) (h2 : 2 < n → c2 = b2) (h3 : 3 < n → c3 = b3) : Lib.checkN n' c1 c2 c3 sz lo hi = some k ∧ k ≤ n ∧ 2 ≤ k := by
  unfold Lib.checkN at h ⊢
  split
  · next e =>
    rw [if_pos e] at h
    split at h
    · cases h
    · next hh =>
      cases h
      have := h1 (by omega)
      rw [if_neg (by omega)]
      exact ⟨rfl, by omega, by omega⟩
  · next e =>
    rw [if_neg e] at h
    split
    · next e2 =>
      rw [if_pos e2] at h
      split at h
      · cases h
      · next hh =>
        cases h
        have := h1 (by omega)
        have := h2 (by omega)
        rw [if_neg (by omega)]
        exact ⟨rfl, by omega, by omega⟩
    · next e2 =>
      rw [if_neg e2] at h
      split
      · next e3 =>
        rw [if_pos e3] at h
        split at h
        · cases h
        · next hh =>
          cases h
          have := h1 (by omega)
          have := h2 (by omega)
          have := h3 (by omega)
          rw [if_neg (by omega)]
          exact ⟨rfl, by omega, by omega⟩
      · next e3 => rw [if_neg e3] at h; cases h
theorem getD_app {a b : List UInt8} {i : Nat} (h : i < a.length) : (a ++ b).getD i 0 = a.getD i 0 := by
  rw [List.getD_eq_getElem?_getD, List.getD_eq_getElem?_getD, List.getElem?_append_left h]
theorem validD_app : ∀ (n : Nat) (a b : List UInt8), a.length ≤ n → Lib.validD a = true → Lib.validD (a ++ b) = Lib.validD b := by
  intro n
  induction n with
  | zero => intro a b ha _; obtain rfl : a = [] := List.length_eq_zero_iff.1 (by omega); rfl
  | succ n ih =>
    intro a b ha h
    cases a with
    | nil => rfl
    | cons x a =>
      by_cases hx : x.toNat < 128
      · rw [Lib.validD_cons x a hx] at h
        rw [List.cons_append, Lib.validD_cons x _ hx]
        exact ih a b (by simpa using ha) h
      · rw [Lib.validD_lead (x :: a) (by simp) (by simpa using hx)] at h
        rw [Lib.validD_lead (x :: a ++ b) (by simp) (by simpa using hx)]
        split at h
        · cases h
        · next k hk =>
          have hm := checkN_more hk (n' := (x :: a ++ b).length) (c1 := ((x :: a ++ b).getD 1 0).toNat) (c2 := ((x :: a ++ b).getD 2 0).toNat) (c3 := ((x :: a ++ b).getD 3 0).toNat) (by simp) (fun e => by rw [getD_app e]) (fun e => by rw [getD_app e]) (fun e => by rw [getD_app e])
          have h0 : (x :: a ++ b).getD 0 0 = (x :: a).getD 0 0 := rfl
          rw [h0, hm.1]
          dsimp only
          rw [List.drop_append_of_le_length hm.2.1]
          refine ih _ b ?_ h
          rw [List.length_drop]
          omega
theorem plain_app {a b : List UInt8} (ha : plain a = true) (hb : plain b = true) : plain (a ++ b) = true := by
  unfold plain at ha hb ⊢
  simp only [Bool.and_eq_true, List.all_eq_true] at ha hb ⊢
  refine ⟨fun x hx => ?_, by rw [validD_app _ a b (Nat.le_refl _) ha.2]; exact hb.2⟩
  rcases List.mem_append.1 hx with h | h
  · exact ha.1 x h
  · exact hb.1 x h
theorem plain_vis {a : List UInt8} (h : ∀ c ∈ a, 32 ≤ c.toNat ∧ c.toNat ≤ 126) : plain a = true := by
  unfold plain
  simp only [Bool.and_eq_true, List.all_eq_true]
  refine ⟨fun c hc => ?_, ?_⟩
  · have := h c hc
    simp [low]
    omega
  · rw [Lib.validD_ascii a.length a (fun c hc => by have := h c (List.mem_of_mem_take hc); omega), List.drop_length]
    rfl
end Go.Hm
namespace Go.Hm
def kfrac (part : Int) : List UInt8 := if pick part 2000000 < 1000000 ∧ 0 < pick part 2000000 % 10 then 46 :: Lib.decDigits (pick part 2000000 % 1000000) else []
def kyear (day : Int) : Nat := 1 + pick day 9999
def kmonth (day : Int) : Nat := 1 + pick (day.tdiv 7) 12
def kday (day : Int) : Nat := 1 + pick (day.tdiv 11) (daysOf (kyear day) (kmonth day)).toNat
def kstamp (day second : Int) : List UInt8 := stampText (kyear day) (kmonth day) (kday day) (pick second 86400 / 3600) (pick second 86400 / 60 % 60) (pick second 86400 % 60)
def kmoment (day second part : Int) : List UInt8 := kstamp day second ++ (kfrac part ++ [90])
def kbytes (c : Int) (n : Nat) : List UInt8 := (List.range n).map fun i : Nat => UInt8.ofNat (33 + pick (c.tdiv 7 + (i : Int) * (i : Int)) 94)
def kplain (c : Int) (most : Nat) : List UInt8 := if kbytes c (min (pick c 40) most) = [45] then [] else kbytes c (min (pick c 40) most)
def kvals : List (List UInt8) := [[97], [98, 32, 99], [92, 34], [92, 92], [92, 93], [91], [61], [195, 169], [45], []]
def kvalue (c : Int) : List UInt8 := kvals.getD (pick c 1000 % 10) [] ++ kvals.getD (pick c 1000 / 10 % 10) [] ++ kvals.getD (pick c 1000 / 100) []
def kpair (c : Int) (i j : Nat) : List UInt8 := 32 :: pairB (110 :: Lib.decDigits j) (kvalue (c.tdiv 13 + i + j))
def kpairs (c : Int) (i : Nat) (k : Nat) : List UInt8 := (List.range k).flatMap fun j => kpair c i j
def kelem (c : Int) (i : Nat) : List UInt8 := 91 :: ((101 :: Lib.decDigits i) ++ (kpairs c i (pick (c.tdiv 5 + i) 3) ++ [93]))
def kdata (c : Int) : List UInt8 := (List.range (pick c 4)).flatMap fun i => kelem c i
def ktexts : List (List UInt8) := [[], [104, 101, 108, 108, 111], [32, 116, 119, 111, 32, 32, 98, 108, 97, 110, 107, 115, 32], [45, 32, 100, 97, 115, 104], [91, 120, 93], [228, 184, 150, 231, 149, 140, 32, 240, 159, 152, 128], [60, 49, 51, 62, 49, 32, 45], [49, 32, 50], [126]]
def ktext (c : Int) : List UInt8 := ktexts.getD (pick c 81 % 9) [] ++ ktexts.getD (pick c 81 / 9) []
structure Raw where
  source : Int
  day : Int
  second : Int
  part : Int
  plain : Int
  data : Int
  text : Int
def kmessage (r : Raw) : Msg :=
  ⟨pick r.source 24, pick (r.source.tdiv 24) 8, if r.day.tmod 5 = 0 then [] else kmoment r.day r.second r.part, kplain r.plain 32, kplain (r.plain.tdiv 3) 16, kplain (r.plain.tdiv 5) 16, kplain (r.plain.tdiv 11) 12, kdata r.data, ktext r.text⟩
theorem kmonth_bd (day : Int) : 1 ≤ kmonth day ∧ kmonth day ≤ 12 := by
  have := pick_lt (day.tdiv 7) (n := 12) (by decide)
  unfold kmonth
  omega
theorem kyear_bd (day : Int) : 1 ≤ kyear day ∧ kyear day ≤ 9999 := by
  have := pick_lt day (n := 9999) (by decide)
  unfold kyear
  omega
theorem kday_bd (day : Int) : 1 ≤ kday day ∧ (kday day : Int) ≤ daysOf (kyear day) (kmonth day) := by
  have hm := kmonth_bd day
  have hd := daysOf_bd (kyear day) (kmonth day) (by omega) (by omega)
  have := pick_lt (day.tdiv 11) (n := (daysOf (kyear day) (kmonth day)).toNat) (by omega)
  unfold kday
  omega
theorem kstamp_exists (day second : Int) : exists_ (kyear day) (kmonth day) (kday day) ((pick second 86400 / 3600 : Nat) : Int) ((pick second 86400 / 60 % 60 : Nat) : Int) ((pick second 86400 % 60 : Nat) : Int) = true := by
  have hm := kmonth_bd day
  have hy := kyear_bd day
  have hd := kday_bd day
  have hs := pick_lt second (n := 86400) (by decide)
  exact exists_mk (by simp [isYear]; omega) (by omega) (by omega) (by omega) (by omega) (by omega) (by omega) (by omega)
theorem dd_last (n : Nat) : ∃ ds, Lib.decDigits n = ds ++ [UInt8.ofNat (48 + n % 10)] ∧ ∀ x ∈ ds, dig x = true := by
  by_cases h : n < 10
  · exact ⟨[], by rw [dd1 h, Nat.mod_eq_of_lt h]; rfl, by simp⟩
  · exact ⟨Lib.decDigits (n / 10), dd2 h, dd_digits _⟩
theorem dd_len6 {n : Nat} (h : n < 1000000) : (Lib.decDigits n).length ≤ 6 := by
  by_cases h1 : n < 1000
  · have := dd_len3 h1; omega
  · rw [dd2 (by omega), dd2 (by omega), dd2 (by omega)]
    have := dd_len3 (n := n / 10 / 10 / 10) (by omega)
    simp only [List.length_append, List.length_cons, List.length_nil]; omega
theorem frac_dd {n : Nat} (h : n < 1000000) (h0 : 0 < n % 10) : FracB (46 :: Lib.decDigits n) := by
  obtain ⟨ds, hd, hx⟩ := dd_last n
  have hl := dd_len6 h
  right
  refine ⟨ds, _, by rw [hd], hx, dig_of (by omega), by rw [hd] at hl; simpa using hl, fun e => ?_⟩
  have := ofNat_digit (n := n % 10) (by omega)
  rw [e] at this
  simp at this
  omega
theorem kfrac_form (part : Int) : FracB (kfrac part) := by
  unfold kfrac
  split
  · next h =>
    rw [Nat.mod_eq_of_lt h.1]
    exact frac_dd h.1 h.2
  · exact .inl rfl
theorem kmoment_time (day second part : Int) : isTime (kmoment day second part) = true := isTime_at (kstamp_exists day second) (kfrac_form part)
theorem kbytes_vis (c : Int) (n : Nat) : ∀ x ∈ kbytes c n, vis x = true := by
  intro x hx
  unfold kbytes at hx
  obtain ⟨i, _, rfl⟩ := List.mem_map.1 hx
  have := pick_lt (c.tdiv 7 + (i : Int) * (i : Int)) (n := 94) (by decide)
  simp only [vis, Bool.and_eq_true, decide_eq_true_eq]
  rw [UInt8.toNat_ofNat']
  omega
theorem kplain_word (c : Int) (most : Nat) : kplain c most = [] ∨ word (kplain c most) most = true := by
  unfold kplain
  split
  · exact .inl rfl
  · next h =>
    by_cases h0 : kbytes c (min (pick c 40) most) = []
    · exact .inl h0
    · right
      exact word_of h0 h (by simp [kbytes]; omega) (kbytes_vis c _)
theorem kplain_len (c : Int) (most : Nat) : (kplain c most).length ≤ most := by
  unfold kplain
  split
  · simp
  · simp [kbytes]; omega
theorem ValB.app {a b : List UInt8} (ha : ValB a) (hb : ValB b) : ValB (a ++ b) :=
  ValB.each (P := fun a => ValB (a ++ b)) hb (fun _ _ hc ih => ValB.esc hc ih) (fun _ _ h1 h2 h3 ih => ValB.one h1 h2 h3 ih) ha
theorem kvals_val : ∀ x ∈ kvals, ValB x ∧ plain x = true := by
  intro x hx
  simp only [kvals, List.mem_cons, List.not_mem_nil, or_false] at hx
  rcases hx with rfl | rfl | rfl | rfl | rfl | rfl | rfl | rfl | rfl | rfl
  · exact ⟨ValB.one (by decide) (by decide) (by decide) ValB.nil, by decide⟩
  · exact ⟨ValB.one (by decide) (by decide) (by decide) (ValB.one (by decide) (by decide) (by decide) (ValB.one (by decide) (by decide) (by decide) ValB.nil)), by decide⟩
  · exact ⟨ValB.esc (by decide) ValB.nil, by decide⟩
  · exact ⟨ValB.esc (by decide) ValB.nil, by decide⟩
  · exact ⟨ValB.esc (by decide) ValB.nil, by decide⟩
  · exact ⟨ValB.one (by decide) (by decide) (by decide) ValB.nil, by decide⟩
  · exact ⟨ValB.one (by decide) (by decide) (by decide) ValB.nil, by decide⟩
  · exact ⟨ValB.one (by decide) (by decide) (by decide) (ValB.one (by decide) (by decide) (by decide) ValB.nil), by decide⟩
  · exact ⟨ValB.one (by decide) (by decide) (by decide) ValB.nil, by decide⟩
  · exact ⟨ValB.nil, by decide⟩
theorem getD_mem {α : Type} {l : List α} {i : Nat} (d : α) (h : i < l.length) : l.getD i d ∈ l := by
  rw [List.getD_eq_getElem?_getD, List.getElem?_eq_getElem h]
  exact List.getElem_mem h
theorem kvalue_val (c : Int) : ValB (kvalue c) ∧ plain (kvalue c) = true := by
  have hp := pick_lt c (n := 1000) (by decide)
  have a := kvals_val _ (getD_mem (l := kvals) (i := pick c 1000 % 10) [] (by show _ < 10; omega))
  have b := kvals_val _ (getD_mem (l := kvals) (i := pick c 1000 / 10 % 10) [] (by show _ < 10; omega))
  have d := kvals_val _ (getD_mem (l := kvals) (i := pick c 1000 / 100) [] (by show _ < 10; omega))
  exact ⟨(a.1.app b.1).app d.1, plain_app (plain_app a.2 b.2) d.2⟩
theorem name_small {x : UInt8} (hx : nmb x = true) {j : Nat} (hj : j < 10) : NameB (x :: Lib.decDigits j) := by
  rw [dd1 hj]
  refine ⟨by simp, by simp, fun c hc => ?_⟩
  rcases List.mem_cons.1 hc with rfl | hc
  · exact hx
  · rw [List.mem_singleton.1 hc]
    rcases (by omega : j = 0 ∨ j = 1 ∨ j = 2 ∨ j = 3 ∨ j = 4 ∨ j = 5 ∨ j = 6 ∨ j = 7 ∨ j = 8 ∨ j = 9) with h | h | h | h | h | h | h | h | h | h <;> subst h <;> decide
theorem dig_iff' (c : UInt8) : dig c = true ↔ 48 ≤ c.toNat ∧ c.toNat ≤ 57 := by simp [dig]
theorem plain_dd (n : Nat) : plain (Lib.decDigits n) = true := plain_vis fun c hc => by
  have := dd_digits n c hc
  rw [dig_iff'] at this
  omega
theorem plain_cons {c : UInt8} {t : List UInt8} (h : 32 ≤ c.toNat ∧ c.toNat ≤ 126) (ht : plain t = true) : plain (c :: t) = true :=
  plain_app (a := [c]) (plain_vis fun x hx => by rw [List.mem_singleton.1 hx]; exact h) ht
theorem PairsB.app {a b : List UInt8} (ha : PairsB a) (hb : PairsB b) : PairsB (a ++ b) := by
  refine PairsB.each (P := fun a => PairsB (a ++ b)) hb ?_ ha
  intro n v t h1 h2 ih
  rw [List.cons_append, List.append_assoc]
  exact .more h1 h2 ih
theorem kpair_form (c : Int) (i : Nat) {j : Nat} (hj : j < 10) : PairsB (kpair c i j) ∧ plain (kpair c i j) = true := by
  have hv := kvalue_val (c.tdiv 13 + i + j)
  refine ⟨?_, ?_⟩
  · unfold kpair
    rw [← List.append_nil (pairB _ _)]
    exact .more (name_small (by decide) hj) hv.1 .nil
  · unfold kpair pairB
    exact plain_cons (by decide) (plain_app (plain_cons (by decide) (plain_dd j)) (plain_cons (by decide) (plain_cons (by decide) (plain_app hv.2 (by decide)))))
theorem kpairs_form (c : Int) (i : Nat) : ∀ k, k ≤ 10 → PairsB (kpairs c i k) ∧ plain (kpairs c i k) = true
  | 0, _ => ⟨.nil, rfl⟩
  | k + 1, h => by
    have ih := kpairs_form c i k (by omega)
    have hp := kpair_form c i (j := k) (by omega)
    unfold kpairs at ih ⊢
    rw [List.range_succ, List.flatMap_append]
    simp only [List.flatMap_cons, List.flatMap_nil, List.append_nil]
    exact ⟨ih.1.app hp.1, plain_app ih.2 hp.2⟩
theorem kelem_form (c : Int) {i : Nat} (hi : i < 10) : ElemB (101 :: Lib.decDigits i, kelem c i) ∧ plain (kelem c i) = true := by
  have hk := pick_lt (c.tdiv 5 + i) (n := 3) (by decide)
  have hp := kpairs_form c i (pick (c.tdiv 5 + i) 3) (by omega)
  refine ⟨⟨_, name_small (by decide) hi, hp.1, rfl⟩, ?_⟩
  unfold kelem
  exact plain_cons (by decide) (plain_app (plain_cons (by decide) (plain_dd i)) (plain_app hp.2 (by decide)))
theorem kdata_form (c : Int) : kdata c = [] ∨ DataB (kdata c) := by
  have hn := pick_lt c (n := 4) (by decide)
  unfold kdata
  generalize pick c 4 = n at hn
  by_cases h0 : n = 0
  · subst h0; exact .inl rfl
  · right
    refine ⟨(List.range n).map fun i => (101 :: Lib.decDigits i, kelem c i), by simp; exact h0, ?_, ?_, ?_, ?_⟩
    · unfold flat
      rw [List.map_map, List.flatMap_def]
      rfl
    · intro b hb
      obtain ⟨i, hi, rfl⟩ := List.mem_map.1 hb
      exact (kelem_form c (by have := List.mem_range.1 hi; omega)).1
    · rw [List.map_map]
      rcases (by omega : n = 1 ∨ n = 2 ∨ n = 3) with h | h | h <;> subst h
      · show ([101 :: Lib.decDigits 0] : List (List UInt8)).Nodup
        rw [dd1 (by omega)]; decide
      · show ([101 :: Lib.decDigits 0, 101 :: Lib.decDigits 1] : List (List UInt8)).Nodup
        rw [dd1 (n := 0) (by omega), dd1 (n := 1) (by omega)]; decide
      · show ([101 :: Lib.decDigits 0, 101 :: Lib.decDigits 1, 101 :: Lib.decDigits 2] : List (List UInt8)).Nodup
        rw [dd1 (n := 0) (by omega), dd1 (n := 1) (by omega), dd1 (n := 2) (by omega)]; decide
    · clear h0
      induction n with
      | zero => rfl
      | succ n ih =>
        rw [List.range_succ, List.flatMap_append]
        simp only [List.flatMap_cons, List.flatMap_nil, List.append_nil]
        exact plain_app (ih (by omega)) (kelem_form c (by omega)).2
theorem ktexts_plain : ∀ x ∈ ktexts, plain x = true := by
  intro x hx
  simp only [ktexts, List.mem_cons, List.not_mem_nil, or_false] at hx
  rcases hx with rfl | rfl | rfl | rfl | rfl | rfl | rfl | rfl | rfl <;> decide
theorem ktext_plain (c : Int) : plain (ktext c) = true := by
  have hp := pick_lt c (n := 81) (by decide)
  exact plain_app (ktexts_plain _ (getD_mem [] (by show _ < 9; omega))) (ktexts_plain _ (getD_mem [] (by show _ < 9; omega)))
theorem kmessage_good (r : Raw) : Good (kmessage r) where
  f0 := by show (0 : Int) ≤ (pick r.source 24 : Int); omega
  f1 := by have := pick_lt r.source (n := 24) (by decide); show (pick r.source 24 : Int) < 24; omega
  s0 := by show (0 : Int) ≤ (pick (r.source.tdiv 24) 8 : Int); omega
  s1 := by have := pick_lt (r.source.tdiv 24) (n := 8) (by decide); show (pick (r.source.tdiv 24) 8 : Int) < 8; omega
  time := by
    show (if r.day.tmod 5 = 0 then [] else kmoment r.day r.second r.part) = [] ∨ _
    unfold kmessage
    dsimp only
    split
    · exact .inl rfl
    · exact .inr (kmoment_time _ _ _)
  words := by
    unfold kmessage kinds
    simp only [wordsFault]
    rw [if_neg, if_neg, if_neg, if_neg]
    all_goals (rintro ⟨x, e⟩)
    · rcases kplain_word (r.plain.tdiv 11) 12 with h | h
      · exact x h
      · rw [h] at e; cases e
    · rcases kplain_word (r.plain.tdiv 5) 16 with h | h
      · exact x h
      · rw [h] at e; cases e
    · rcases kplain_word (r.plain.tdiv 3) 16 with h | h
      · exact x h
      · rw [h] at e; cases e
    · rcases kplain_word r.plain 32 with h | h
      · exact x h
      · rw [h] at e; cases e
  data := kdata_form _
  text := ktext_plain _
theorem kfrac_len (part : Int) : (kfrac part).length ≤ 7 := by
  rcases kfrac_form part with h | ⟨ds, c, h, _, _, hl, _⟩
  · rw [h]; simp
  · rw [h]; simp; omega
theorem kmoment_len (day second part : Int) : (kmoment day second part).length ≤ 27 := by
  have := kfrac_len part
  unfold kmoment kstamp
  simp only [List.length_append, stampText_length, List.length_cons, List.length_nil]
  omega
theorem told_len (x : List UInt8) {n : Nat} (h : x.length ≤ n) (hn : 1 ≤ n) : (told x).length ≤ n := by
  unfold told
  split
  · simpa using hn
  · exact h
theorem kmessage_line (r : Raw) : (line (kmessage r)).2 = 0 ∨ (line (kmessage r) = ([], 1) ∧ 50 < (kmessage r).data.length + (kmessage r).text.length) := by
  have hg := (good_iff _).2 (kmessage_good r)
  unfold line
  rw [if_neg (by rw [hg]; simp)]
  split
  · next h =>
    right
    refine ⟨rfl, ?_⟩
    have hs : (Lib.decDigits (8 * (kmessage r).fac + (kmessage r).sev).toNat).length ≤ 3 := by
      have := kmessage_good r
      exact dd_len3 (by have h0 := this.f0; have h1 := this.f1; have h2 := this.s0; have h3 := this.s1; omega)
    have ht : (told (kmessage r).time).length ≤ 27 := told_len _ (by
      unfold kmessage
      dsimp only
      split
      · simp
      · exact kmoment_len _ _ _) (by omega)
    have h1 : (told (kmessage r).host).length ≤ 32 := told_len _ (kplain_len _ _) (by omega)
    have h2 : (told (kmessage r).app).length ≤ 16 := told_len _ (kplain_len _ _) (by omega)
    have h3 : (told (kmessage r).proc).length ≤ 16 := told_len _ (kplain_len _ _) (by omega)
    have h4 : (told (kmessage r).id).length ≤ 12 := told_len _ (kplain_len _ _) (by omega)
    have h5 : (told (kmessage r).data).length ≤ (kmessage r).data.length + 1 := by unfold told; split <;> simp
    unfold joinedLen partsOf at h
    generalize kmessage r = m at *
    by_cases hx : m.text = []
    · rw [if_pos hx] at h
      simp only [List.map_cons, List.map_nil, List.append_nil, List.sum_cons, List.sum_nil, List.length_cons, List.length_nil, List.length_append] at h
      omega
    · rw [if_neg hx] at h
      simp only [List.map_cons, List.map_nil, List.cons_append, List.nil_append, List.sum_cons, List.sum_nil, List.length_cons, List.length_nil, List.length_append] at h
      omega
  · exact .inl rfl
end Go.Hm
namespace Go.Hm
def IsDay (x : Int × Int × Int) : Prop := 1 ≤ x.1 ∧ x.1 ≤ 9999 ∧ 1 ≤ x.2.1 ∧ x.2.1 ≤ 12 ∧ 1 ≤ x.2.2 ∧ x.2.2 ≤ daysOf x.1 x.2.1
theorem days_dec (y : Int) : daysOf y 12 = 31 := by unfold daysOf; rw [if_neg (by omega)]; rfl
theorem after_before {y mo d : Int} (h : IsDay (y, mo, d)) : dayAfter (dayBefore y mo d).1 (dayBefore y mo d).2.1 (dayBefore y mo d).2.2 = (y, mo, d) := by
  obtain ⟨h1, h2, h3, h4, h5, h6⟩ := h
  dsimp only at h1 h2 h3 h4 h5 h6
  unfold dayBefore
  split
  · split
    · dsimp only
      unfold dayAfter
      rw [days_dec, if_pos (by omega), if_pos (by omega)]
      have a : mo = 1 := by omega
      have b : d = 1 := by omega
      rw [a, b]
      simp
    · dsimp only
      unfold dayAfter
      rw [if_pos (by omega), if_neg (by omega)]
      have b : d = 1 := by omega
      rw [b]
      simp
  · dsimp only
    unfold dayAfter
    rw [if_neg (by omega)]
    simp
theorem before_after {y mo d : Int} (h : IsDay (y, mo, d)) : dayBefore (dayAfter y mo d).1 (dayAfter y mo d).2.1 (dayAfter y mo d).2.2 = (y, mo, d) := by
  obtain ⟨h1, h2, h3, h4, h5, h6⟩ := h
  dsimp only at h1 h2 h3 h4 h5 h6
  unfold dayAfter
  split
  · split
    · dsimp only
      unfold dayBefore
      have a : mo = 12 := by omega
      subst a
      rw [if_pos (by omega), if_pos (by omega), show y + 1 - 1 = y by omega]
      rw [show daysOf y 12 = d by omega]
    · dsimp only
      unfold dayBefore
      rw [if_pos (by omega), if_neg (by omega), show mo + 1 - 1 = mo by omega, show daysOf y mo = d by omega]
  · dsimp only
    unfold dayBefore
    rw [if_neg (by omega)]
    simp
theorem there_back {y mo d h mi k : Int} (hd : IsDay (y, mo, d)) (hh : 0 ≤ h) (hh2 : h ≤ 23) (hm : 0 ≤ mi) (hm2 : mi ≤ 59) (hk : -1439 ≤ k) (hk2 : k ≤ 1439) :
    earlier (earlier y mo d h mi k).1.1 (earlier y mo d h mi k).1.2.1 (earlier y mo d h mi k).1.2.2 ((earlier y mo d h mi k).2 / 60) ((earlier y mo d h mi k).2 % 60) (-k) = ((y, mo, d), 60 * h + mi) := by
  have e1 : ∀ n : Int, 60 * (n / 60) + n % 60 = n := by intro n; omega
  by_cases c1 : 60 * h + mi - k < 0
  · have e : earlier y mo d h mi k = (dayBefore y mo d, 60 * h + mi - k + 1440) := by unfold earlier; rw [if_pos c1]
    rw [e]
    dsimp only
    unfold earlier
    rw [e1, if_neg (by omega), if_pos (by omega), after_before hd]
    congr 1
    omega
  · by_cases c2 : 1440 ≤ 60 * h + mi - k
    · have e : earlier y mo d h mi k = (dayAfter y mo d, 60 * h + mi - k - 1440) := by unfold earlier; rw [if_neg c1, if_pos c2]
      rw [e]
      dsimp only
      unfold earlier
      rw [e1, if_pos (by omega), before_after hd]
      congr 1
      omega
    · have e : earlier y mo d h mi k = ((y, mo, d), 60 * h + mi - k) := by unfold earlier; rw [if_neg c1, if_neg c2]
      rw [e]
      dsimp only
      unfold earlier
      rw [e1, if_neg (by omega), if_neg (by omega)]
      congr 1
      omega
theorem day_before_ok {y mo d : Int} (h : IsDay (y, mo, d)) (hy : 2 ≤ y) : IsDay (dayBefore y mo d) := by
  obtain ⟨h1, h2, h3, h4, h5, h6⟩ := h
  dsimp only at h1 h2 h3 h4 h5 h6
  unfold dayBefore
  split
  · split
    · have := days_dec (y - 1)
      exact ⟨by dsimp only; omega, by dsimp only; omega, by dsimp only; omega, by dsimp only; omega, by dsimp only; omega, by dsimp only; omega⟩
    · have := daysOf_bd y (mo - 1) (by omega) (by omega)
      exact ⟨by dsimp only; omega, by dsimp only; omega, by dsimp only; omega, by dsimp only; omega, by dsimp only; omega, by dsimp only; omega⟩
  · exact ⟨by dsimp only; omega, by dsimp only; omega, by dsimp only; omega, by dsimp only; omega, by dsimp only; omega, by dsimp only; omega⟩
theorem day_after_ok {y mo d : Int} (h : IsDay (y, mo, d)) (hy : y ≤ 9998) : IsDay (dayAfter y mo d) := by
  obtain ⟨h1, h2, h3, h4, h5, h6⟩ := h
  dsimp only at h1 h2 h3 h4 h5 h6
  unfold dayAfter
  split
  · split
    · have := daysOf_bd (y + 1) 1 (by omega) (by omega)
      exact ⟨by dsimp only; omega, by dsimp only; omega, by dsimp only; omega, by dsimp only; omega, by dsimp only; omega, by dsimp only; omega⟩
    · have := daysOf_bd y (mo + 1) (by omega) (by omega)
      exact ⟨by dsimp only; omega, by dsimp only; omega, by dsimp only; omega, by dsimp only; omega, by dsimp only; omega, by dsimp only; omega⟩
  · exact ⟨by dsimp only; omega, by dsimp only; omega, by dsimp only; omega, by dsimp only; omega, by dsimp only; omega, by dsimp only; omega⟩
theorem earlier_ok {y mo d h mi k : Int} (hd : IsDay (y, mo, d)) (hy : 2 ≤ y) (hy2 : y ≤ 9998) (hh : 0 ≤ h) (hh2 : h ≤ 23) (hm : 0 ≤ mi) (hm2 : mi ≤ 59) (hk : -1439 ≤ k) (hk2 : k ≤ 1439) :
    IsDay (earlier y mo d h mi k).1 ∧ 0 ≤ (earlier y mo d h mi k).2 ∧ (earlier y mo d h mi k).2 < 1440 := by
  unfold earlier
  split
  · exact ⟨day_before_ok hd hy, by dsimp only; omega, by dsimp only; omega⟩
  · split
    · exact ⟨day_after_ok hd hy2, by dsimp only; omega, by dsimp only; omega⟩
    · exact ⟨hd, by dsimp only; omega, by dsimp only; omega⟩
open Go.Op (bytesLess)
theorem less_same (a b c : List UInt8) (h : bytesLess b c = true) : bytesLess (a ++ b) (a ++ c) = true := by
  induction a with
  | nil => exact h
  | cons x a ih => rw [List.cons_append, List.cons_append]; simp [bytesLess, ih]
theorem less_more : ∀ (a b x y : List UInt8), a.length = b.length → bytesLess a b = true → bytesLess (a ++ x) (b ++ y) = true
  | [], [], _, _, _, h => by cases h
  | [], _ :: _, _, _, hl, _ => by simp at hl
  | _ :: _, [], _, _, hl, _ => by simp at hl
  | p :: a, q :: b, x, y, hl, h => by
    rw [List.cons_append, List.cons_append]
    simp only [bytesLess, Bool.or_eq_true, Bool.and_eq_true, decide_eq_true_eq] at h ⊢
    rcases h with h | ⟨h1, h2⟩
    · exact .inl h
    · exact .inr ⟨h1, less_more a b x y (by simpa using hl) h2⟩
theorem byte_less {m n : Nat} (h : m < n) (hn : n < 10) : (UInt8.ofNat (48 + m)) < (UInt8.ofNat (48 + n)) := by
  rw [UInt8.lt_iff_toNat_lt, UInt8.toNat_ofNat', UInt8.toNat_ofNat']
  omega
theorem d2_less {m n : Nat} (h : m < n) (hn : n < 100) : bytesLess (d2 m) (d2 n) = true := by
  unfold d2
  simp only [bytesLess, Bool.or_eq_true, Bool.and_eq_true, decide_eq_true_eq, beq_iff_eq]
  by_cases h1 : m / 10 < n / 10
  · exact .inl (byte_less h1 (by omega))
  · right
    refine ⟨by rw [show m / 10 = n / 10 by omega], .inl (byte_less (by omega) (by omega))⟩
theorem d4_less {m n : Nat} (h : m < n) (hn : n < 10000) : bytesLess (d4 m) (d4 n) = true := by
  unfold d4
  by_cases h1 : m / 100 < n / 100
  · exact less_more _ _ _ _ rfl (d2_less h1 (by omega))
  · rw [show m / 100 = n / 100 by omega]
    exact less_same _ _ _ (d2_less (by omega) (by omega))
def Sooner (a b : (Int × Int × Int) × Int) : Prop :=
  a.1.1 < b.1.1 ∨ (a.1.1 = b.1.1 ∧ (a.1.2.1 < b.1.2.1 ∨ (a.1.2.1 = b.1.2.1 ∧ (a.1.2.2 < b.1.2.2 ∨ (a.1.2.2 = b.1.2.2 ∧ a.2 < b.2)))))
theorem earlier_sooner {y mo d h mi k : Int} (hd : IsDay (y, mo, d)) (hh2 : h ≤ 23) (hm2 : mi ≤ 59) (hk : 0 < k) : Sooner (earlier y mo d h mi k) ((y, mo, d), 60 * h + mi) := by
  obtain ⟨h1, h2, h3, h4, h5, h6⟩ := hd
  dsimp only at h1 h2 h3 h4 h5 h6
  unfold Sooner earlier
  split
  · unfold dayBefore
    split
    · split
      · left; dsimp only; omega
      · right; exact ⟨rfl, .inl (by dsimp only; omega)⟩
    · right; exact ⟨rfl, .inr ⟨rfl, .inl (by dsimp only; omega)⟩⟩
  · split
    · omega
    · right; exact ⟨rfl, .inr ⟨rfl, .inr ⟨rfl, by dsimp only; omega⟩⟩⟩
theorem later_sooner {y mo d h mi k : Int} (hd : IsDay (y, mo, d)) (hh : 0 ≤ h) (hm : 0 ≤ mi) (hk : k < 0) : Sooner ((y, mo, d), 60 * h + mi) (earlier y mo d h mi k) := by
  obtain ⟨h1, h2, h3, h4, h5, h6⟩ := hd
  dsimp only at h1 h2 h3 h4 h5 h6
  unfold Sooner earlier
  split
  · omega
  · split
    · unfold dayAfter
      split
      · split
        · left; dsimp only; omega
        · right; exact ⟨rfl, .inl (by dsimp only; omega)⟩
      · right; exact ⟨rfl, .inr ⟨rfl, .inl (by dsimp only; omega)⟩⟩
    · right; exact ⟨rfl, .inr ⟨rfl, .inr ⟨rfl, by dsimp only; omega⟩⟩⟩
def stampOf (x : (Int × Int × Int) × Int) (s : Nat) : List UInt8 := stampText x.1.1.toNat x.1.2.1.toNat x.1.2.2.toNat (x.2 / 60).toNat (x.2 % 60).toNat s
theorem stampOf_length (x : (Int × Int × Int) × Int) (s : Nat) : (stampOf x s).length = 19 := stampText_length _ _ _ _ _ _
def IsMoment (x : (Int × Int × Int) × Int) : Prop := IsDay x.1 ∧ 0 ≤ x.2 ∧ x.2 < 1440
theorem less_field {p q : Nat} {f : Nat → List UInt8} {x y : List UInt8} (hf : (f p).length = (f q).length) (h : (p < q ∧ bytesLess (f p) (f q) = true) ∨ (p = q ∧ bytesLess x y = true)) : bytesLess (f p ++ x) (f q ++ y) = true := by
  rcases h with ⟨_, h⟩ | ⟨rfl, h⟩
  · exact less_more _ _ _ _ hf h
  · exact less_same _ _ _ h
theorem sooner_less {a b : (Int × Int × Int) × Int} (ha : IsMoment a) (hb : IsMoment b) (h : Sooner a b) (s : Nat) (x : List UInt8) : bytesLess (stampOf a s ++ x) (stampOf b s ++ x) = true := by
  obtain ⟨⟨a1, a2, a3, a4, a5, a6⟩, a7, a8⟩ := ha
  obtain ⟨⟨b1, b2, b3, b4, b5, b6⟩, b7, b8⟩ := hb
  have hda := daysOf_bd a.1.1 a.1.2.1 a3 a4
  have hdb := daysOf_bd b.1.1 b.1.2.1 b3 b4
  have e : ∀ z : (Int × Int × Int) × Int, stampOf z s ++ x = d4 z.1.1.toNat ++ ([45] ++ (d2 z.1.2.1.toNat ++ ([45] ++ (d2 z.1.2.2.toNat ++ ([84] ++ (d2 (z.2 / 60).toNat ++ ([58] ++ (d2 (z.2 % 60).toNat ++ ([58] ++ (d2 s ++ x)))))))))) := by
    intro z; unfold stampOf stampText; simp only [List.append_assoc]
  rw [e a, e b]
  rcases h with h | ⟨h, hr⟩
  · exact less_field (f := d4) rfl (.inl ⟨by omega, d4_less (by omega) (by omega)⟩)
  · refine less_field (f := d4) rfl (.inr ⟨by omega, less_same _ _ _ ?_⟩)
    rcases hr with h | ⟨h, hr⟩
    · exact less_field (f := d2) rfl (.inl ⟨by omega, d2_less (by omega) (by omega)⟩)
    · refine less_field (f := d2) rfl (.inr ⟨by omega, less_same _ _ _ ?_⟩)
      rcases hr with h | ⟨h, hr⟩
      · exact less_field (f := d2) rfl (.inl ⟨by omega, d2_less (by omega) (by omega)⟩)
      · refine less_field (f := d2) rfl (.inr ⟨by omega, less_same _ _ _ ?_⟩)
        by_cases hq : a.2 / 60 < b.2 / 60
        · exact less_field (f := d2) rfl (.inl ⟨by omega, d2_less (by omega) (by omega)⟩)
        · refine less_field (f := d2) rfl (.inr ⟨by omega, less_same _ _ _ ?_⟩)
          exact less_field (f := d2) rfl (.inl ⟨by omega, d2_less (by omega) (by omega)⟩)
def diffText (sg : UInt8) (h n : Nat) : List UInt8 := sg :: (d2 h ++ 58 :: d2 n)
theorem d2_dig {n : Nat} (h : n < 100) : ∀ c ∈ d2 n, dig c = true := by
  intro c hc
  unfold d2 at hc
  simp only [List.mem_cons, List.not_mem_nil, or_false] at hc
  rcases hc with rfl | rfl
  · exact dig_of (by omega)
  · exact dig_of (by omega)
theorem diff_shape {sg : UInt8} {h n : Nat} (hs : ¬ sg = 48) (hh : h < 100) (hn : n < 100) : shape (diffText sg h n) [sg, 48, 48, 58, 48, 48] = true := by
  have hg : ∀ n : Nat, n < 10 → shp (UInt8.ofNat (48 + n)) 48 = true := fun n hn => shp_dig (dig_of hn)
  simp only [diffText, d2, List.cons_append, List.nil_append, shape, Bool.and_eq_true]
  exact ⟨by simp [shp, hs], hg _ (by omega), hg _ (by omega), rfl, hg _ (by omega), hg _ (by omega), trivial⟩
theorem difference_plus {h n : Nat} (hh : h < 24) (hn : n < 60) : difference (diffText 43 h n) = some (60 * h + n : Int) := by
  have h1 : dec (((diffText 43 h n).drop 1).take 2) = h := dec_d2 (by omega)
  have h2 : dec (((diffText 43 h n).drop 4).take 2) = n := dec_d2 (by omega)
  unfold difference
  rw [h1, h2, if_neg (by simp [diffText]), if_neg, if_neg (by omega), if_neg (by show ¬ (43 : UInt8).toNat = 45; decide)]
  rintro ⟨h3, _⟩
  rw [show plusShape = [43, 48, 48, 58, 48, 48] from rfl, diff_shape (by decide) (by omega) (by omega)] at h3
  cases h3
theorem difference_minus {h n : Nat} (hh : h < 24) (hn : n < 60) : difference (diffText 45 h n) = some (-(60 * h + n : Int)) := by
  have h1 : dec (((diffText 45 h n).drop 1).take 2) = h := dec_d2 (by omega)
  have h2 : dec (((diffText 45 h n).drop 4).take 2) = n := dec_d2 (by omega)
  unfold difference
  rw [h1, h2, if_neg (by simp [diffText]), if_neg, if_neg (by omega), if_pos (by show (45 : UInt8).toNat = 45; decide)]
  rintro ⟨_, h3⟩
  rw [show minusShape = [45, 48, 48, 58, 48, 48] from rfl, diff_shape (by decide) (by omega) (by omega)] at h3
  cases h3
theorem exists_moment {x : (Int × Int × Int) × Int} (h : IsMoment x) {s : Nat} (hs : s < 60) : exists_ ((x.1.1.toNat : Nat) : Int) ((x.1.2.1.toNat : Nat) : Int) ((x.1.2.2.toNat : Nat) : Int) (((x.2 / 60).toNat : Nat) : Int) (((x.2 % 60).toNat : Nat) : Int) (s : Int) = true := by
  obtain ⟨⟨a1, a2, a3, a4, a5, a6⟩, a7, a8⟩ := h
  rw [Int.toNat_of_nonneg (by omega), Int.toNat_of_nonneg (by omega), Int.toNat_of_nonneg (by omega), Int.toNat_of_nonneg (by omega), Int.toNat_of_nonneg (by omega)]
  exact exists_mk (by simp [isYear]; omega) a3 a4 a5 a6 (by omega) (by omega) (by omega)
def shiftBy (x : (Int × Int × Int) × Int) (k : Int) : (Int × Int × Int) × Int := earlier x.1.1 x.1.2.1 x.1.2.2 (x.2 / 60) (x.2 % 60) k
theorem readTime_shift {x : (Int × Int × Int) × Int} (hx : IsMoment x) {s : Nat} (hs : s < 60) {fr z : List UInt8} {k : Int} (hf : FracB fr) (hz : ∃ c t, z = c :: t ∧ dig c = false ∧ ¬ c = 46) (hk : difference z = some k) :
    readTime (stampOf x s ++ (fr ++ z)) = if isYear (shiftBy x k).1.1 = false then none else some (stampOf (shiftBy x k) s ++ fr ++ [90]) := by
  have h := readTime_at (exists_moment hx hs) hf hz hk
  obtain ⟨⟨a1, a2, a3, a4, a5, a6⟩, a7, a8⟩ := hx
  rw [Int.toNat_of_nonneg (show 0 ≤ x.1.1 by omega), Int.toNat_of_nonneg (show 0 ≤ x.1.2.1 by omega), Int.toNat_of_nonneg (show 0 ≤ x.1.2.2 by omega), Int.toNat_of_nonneg (show 0 ≤ x.2 / 60 by omega), Int.toNat_of_nonneg (show 0 ≤ x.2 % 60 by omega)] at h
  exact h
theorem shift_back {x : (Int × Int × Int) × Int} (hx : IsMoment x) {k : Int} (hk : -1439 ≤ k) (hk2 : k ≤ 1439) : shiftBy (shiftBy x k) (-k) = x := by
  obtain ⟨hd, a7, a8⟩ := hx
  have h := there_back (y := x.1.1) (mo := x.1.2.1) (d := x.1.2.2) (h := x.2 / 60) (mi := x.2 % 60) hd (by omega) (by omega) (by omega) (by omega) hk hk2
  unfold shiftBy
  rw [h]
  rw [show 60 * (x.2 / 60) + x.2 % 60 = x.2 by omega]
theorem shift_ok {x : (Int × Int × Int) × Int} (hx : IsMoment x) (hy : 2 ≤ x.1.1) (hy2 : x.1.1 ≤ 9998) {k : Int} (hk : -1439 ≤ k) (hk2 : k ≤ 1439) : IsMoment (shiftBy x k) := by
  obtain ⟨hd, a7, a8⟩ := hx
  exact earlier_ok hd hy hy2 (by omega) (by omega) (by omega) (by omega) hk hk2
theorem shift_less {x : (Int × Int × Int) × Int} (hx : IsMoment x) (hy : 2 ≤ x.1.1) (hy2 : x.1.1 ≤ 9998) {k : Int} (hk : 0 < k) (hk2 : k ≤ 1439) (s : Nat) (r : List UInt8) : bytesLess (stampOf (shiftBy x k) s ++ r) (stampOf x s ++ r) = true := by
  refine sooner_less (shift_ok hx hy hy2 (by omega) hk2) hx ?_ s r
  obtain ⟨hd, a7, a8⟩ := hx
  have := earlier_sooner (y := x.1.1) (mo := x.1.2.1) (d := x.1.2.2) (h := x.2 / 60) (mi := x.2 % 60) (k := k) hd (by omega) (by omega) hk
  rwa [show 60 * (x.2 / 60) + x.2 % 60 = x.2 by omega] at this
theorem shift_more {x : (Int × Int × Int) × Int} (hx : IsMoment x) (hy : 2 ≤ x.1.1) (hy2 : x.1.1 ≤ 9998) {k : Int} (hk : k < 0) (hk2 : -1439 ≤ k) (s : Nat) (r : List UInt8) : bytesLess (stampOf x s ++ r) (stampOf (shiftBy x k) s ++ r) = true := by
  refine sooner_less hx (shift_ok hx hy hy2 hk2 (by omega)) ?_ s r
  obtain ⟨hd, a7, a8⟩ := hx
  have := later_sooner (y := x.1.1) (mo := x.1.2.1) (d := x.1.2.2) (h := x.2 / 60) (mi := x.2 % 60) (k := k) hd (by omega) (by omega) hk
  rwa [show 60 * (x.2 / 60) + x.2 % 60 = x.2 by omega] at this
theorem shift_zero {x : (Int × Int × Int) × Int} (hx : IsMoment x) : shiftBy x 0 = x := by
  obtain ⟨hd, a7, a8⟩ := hx
  unfold shiftBy
  rw [earlier_zero (by omega) (by omega), show 60 * (x.2 / 60) + x.2 % 60 = x.2 by omega]
def timeLine (p : List UInt8) : List UInt8 := [60, 48, 62, 49, 32] ++ (p ++ [32, 45, 32, 45, 32, 45, 32, 45, 32, 45])
theorem read_timeLine {p : List UInt8} (hp : 32 ∉ p) (h45 : ¬ p = [45]) (hl : p.length ≤ 180) : read (timeLine p) 1 = match readTime p with
    | none => (Msg.none, 3, 5)
    | some t => (⟨0, 0, t, [], [], [], [], [], []⟩, 0, 0) := by
  have hlen : (timeLine p).length = p.length + 15 := by simp [timeLine]
  have hs : source (timeLine p) = (0, 3) := by
    have := source_at (n := 0) (by omega) ([49, 32] ++ (p ++ [32, 45, 32, 45, 32, 45, 32, 45, 32, 45]))
    rw [dd1 (by omega)] at this
    exact this
  have hpt : part (timeLine p) 5 = (p, 5 + p.length + 1) := by
    have := part_at (a := [60, 48, 62, 49, 32]) (r := [45, 32, 45, 32, 45, 32, 45, 32, 45]) hp
    exact this
  have e1 : read (timeLine p) 1 = readNew 0 0 (timeLine p) 5 := by
    unfold read
    rw [if_neg (by omega), if_neg (by decide), hs]
    rw [if_pos ⟨by decide, prefix_of [49, 32] _⟩]
    rfl
  rw [e1]
  have ht : timeOf p = readTime p := by unfold timeOf; rw [if_neg h45]
  cases hr : readTime p with
  | none => rw [readNew_none hpt (by rw [ht, hr])]
  | some t =>
    rw [readNew_some hpt (by rw [ht, hr])]
    have e2 : timeLine p = ([60, 48, 62, 49, 32] ++ (p ++ [32])) ++ ((([[], [], [], []] : List (List UInt8)).flatMap fun w => told w ++ [32]) ++ (told [] ++ tail [])) := by simp [timeLine, told, tail]
    have hl2 : 5 + p.length + 1 = ([60, 48, 62, 49, 32] ++ (p ++ [32])).length := by simp; omega
    rw [hl2, e2]
    generalize [60, 48, 62, 49, 32] ++ (p ++ [32]) = b
    have hwf := wordsFrom_at kinds [[], [], [], []] b (told [] ++ tail []) rfl rfl
    rw [afterTime_ok (by rw [hwf]), hwf]
    dsimp only
    rw [← List.append_assoc b, dataText_at _ _ _ rfl rfl (.inl rfl) rfl]
    rfl
end Go.Hm
namespace Go.Hm
def otexts : List (List UInt8) := [[], [104, 101, 108, 108, 111, 32, 119, 111, 114, 108, 100], [120, 32, 121, 58, 32, 122], [91, 49, 93, 58, 32, 110, 111, 32, 116, 97, 103], [97, 32, 32, 98]]
def oday (d : Nat) : List UInt8 := if d < 10 then 32 :: Lib.decDigits d else Lib.decDigits d
def oclock (s : Nat) : List UInt8 := d2 (s / 3600) ++ 58 :: (d2 (s / 60 % 60) ++ 58 :: d2 (s % 60))
def ostamp (mo d s : Nat) (host : List UInt8) : List UInt8 := monthNames.getD (mo - 1) [] ++ 32 :: (oday d ++ 32 :: (oclock s ++ 32 :: (host ++ [32])))
def otag (app proc : List UInt8) : List UInt8 := app ++ ((if proc = [] then [] else 91 :: (proc ++ [93])) ++ [58, 32])
theorem month_at {mo : Nat} (h1 : 1 ≤ mo) (h2 : mo ≤ 12) : ∃ a b c, monthNames.getD (mo - 1) [] = [a, b, c] ∧ month [a, b, c] = mo ∧ letr a = true ∧ letr b = true ∧ letr c = true := by
  rcases (by omega : mo = 1 ∨ mo = 2 ∨ mo = 3 ∨ mo = 4 ∨ mo = 5 ∨ mo = 6 ∨ mo = 7 ∨ mo = 8 ∨ mo = 9 ∨ mo = 10 ∨ mo = 11 ∨ mo = 12) with h | h | h | h | h | h | h | h | h | h | h | h <;> subst h <;> exact ⟨_, _, _, rfl, by decide, by decide, by decide, by decide⟩
theorem oday_at {d : Nat} (h1 : 1 ≤ d) (h2 : d ≤ 31) : ∃ e f, oday d = [e, f] ∧ ¬ e.toNat = 48 ∧ (if e.toNat = 32 then [48, f] else [e, f]) = d2 d ∧ 32 ≤ e.toNat ∧ e.toNat ≤ 126 ∧ 32 ≤ f.toNat ∧ f.toNat ≤ 126 := by
  have hb : ∀ n : Nat, n < 10 → (UInt8.ofNat (48 + n)).toNat = 48 + n := fun n hn => by rw [UInt8.toNat_ofNat']; omega
  unfold oday
  by_cases h : d < 10
  · rw [if_pos h, dd1 h]
    refine ⟨32, _, rfl, by decide, ?_, by decide, by decide, by rw [hb d h]; omega, by rw [hb d h]; omega⟩
    rw [if_pos (by decide)]
    unfold d2
    rw [Nat.div_eq_of_lt h, Nat.mod_eq_of_lt h]
    rfl
  · rw [if_neg h, dd2 h, dd1 (by omega)]
    have e1 := hb (d / 10) (by omega)
    have e2 := hb (d % 10) (by omega)
    refine ⟨_, _, rfl, by omega, ?_, by omega, by omega, by omega, by omega⟩
    rw [if_neg (by omega)]
    rfl
theorem stamp_at {y mo d s : Nat} {host : List UInt8} (hy : 1 ≤ y ∧ y ≤ 9999) (hmo : 1 ≤ mo ∧ mo ≤ 12) (hd : 1 ≤ d ∧ (d : Int) ≤ daysOf y mo) (hs : s < 86400) (hh : word host 32 = true) (r : List UInt8) :
    stamp (ostamp mo d s host ++ r) y = (stampText y mo d (s / 3600) (s / 60 % 60) (s % 60) ++ [90], host, (ostamp mo d s host).length) := by
  have hdb := daysOf_bd y mo (by omega) (by omega)
  obtain ⟨a, b, c, hm, hmm, _⟩ := month_at hmo.1 hmo.2
  obtain ⟨e, f, ho, he, hoo, _⟩ := oday_at (d := d) hd.1 (by omega)
  have e0 : ostamp mo d s host ++ r = a :: b :: c :: 32 :: e :: f :: 32 :: (oclock s ++ 32 :: (host ++ 32 :: r)) := by unfold ostamp; rw [hm, ho]; simp
  have e15 : (a :: b :: c :: 32 :: e :: f :: 32 :: (oclock s ++ 32 :: (host ++ 32 :: r))).take 15 = a :: b :: c :: 32 :: e :: f :: 32 :: oclock s := rfl
  have e16 : (a :: b :: c :: 32 :: e :: f :: 32 :: (oclock s ++ 32 :: (host ++ 32 :: r))).drop 16 = host ++ 32 :: r := rfl
  have eot : oldText (a :: b :: c :: 32 :: e :: f :: 32 :: oclock s) y = stampText y mo d (s / 3600) (s / 60 % 60) (s % 60) ++ [90] := by
    have ed : oldDay (a :: b :: c :: 32 :: e :: f :: 32 :: oclock s) = d2 d := hoo
    unfold oldText
    rw [ed, show (a :: b :: c :: 32 :: e :: f :: 32 :: oclock s).take 3 = [a, b, c] from rfl, hmm, show (a :: b :: c :: 32 :: e :: f :: 32 :: oclock s).drop 7 = oclock s from rfl]
    simp [stampText, oclock]
  have htime : isTime (stampText y mo d (s / 3600) (s / 60 % 60) (s % 60) ++ [90]) = true :=
    isTime_at (fr := []) (exists_mk (by simp [isYear]; omega) (by omega) (by omega) (by omega) (by omega) (by omega) (by omega) (by omega)) (.inl rfl)
  have hot : oldTime (a :: b :: c :: 32 :: e :: f :: 32 :: oclock s) y = (stampText y mo d (s / 3600) (s / 60 % 60) (s % 60) ++ [90], true) := by
    unfold oldTime
    rw [eot, htime, if_neg]
    rintro (h | h | h | h)
    · rw [show (a :: b :: c :: 32 :: e :: f :: 32 :: oclock s).take 3 = [a, b, c] from rfl, hmm] at h; omega
    · exact h rfl
    · exact h rfl
    · exact he h
  have hcut : Lib.cut (host ++ 32 :: r) [32] = (host, r, true) := by rw [cut_eq]; exact cutB_app 32 host r (vis_noblank (word_vis hh).2.2.2)
  have hlen : (ostamp mo d s host).length = 16 + host.length + 1 := by unfold ostamp; rw [hm, ho]; simp [oclock, d2]; omega
  rw [hlen, e0]
  unfold stamp
  rw [e15, e16, hot, hcut, if_neg, if_neg]
  · rintro (h | h | h)
    · cases h
    · cases h
    · rw [hh] at h; cases h
  · rintro (h | h)
    · simp [oclock, d2] at h; omega
    · exact h (by rfl)
theorem stamp_no {l : List UInt8} {y : Nat} (h : l.length < 16 ∨ month (l.take 3) = 0) : (stamp l y).2.2 = 0 := by
  unfold stamp
  split
  · rfl
  · next h1 =>
    have ho : (oldTime (l.take 15) y).2 = false := by
      unfold oldTime
      rw [if_pos]
      left
      rw [List.take_take, show min 3 15 = 3 by decide]
      omega
    rw [if_pos (.inl ho)]
theorem tag_at {app proc : List UInt8} (ha : app ≠ []) (ha2 : app ≠ [45]) (hal : app.length ≤ 16) (hat : ∀ c ∈ app, tgb c = true) (hp : proc.length ≤ 8) (hpd : ∀ c ∈ proc, dig c = true) (x : List UInt8) :
    tag (otag app proc ++ x) = (app, proc, (otag app proc).length) := by
  have hpos : 0 < app.length := List.length_pos_iff.2 ha
  by_cases h0 : proc = []
  · subst h0
    have e : otag app [] ++ x = app ++ 58 :: 32 :: x := by simp [otag]
    have hA : ahead tgb 16 (app ++ 58 :: 32 :: x) = app.length := ahead_of hal hat (.inr (.inr ⟨58, _, rfl, by decide⟩))
    rw [e]
    unfold tag
    rw [hA, List.take_left, List.drop_left, if_neg (by rintro (h | h); omega; exact ha2 h), if_neg (by rw [prefix_no _ (by decide)]; simp)]
    unfold tagRest
    rw [List.drop_left, if_neg (by rw [prefix_cons]; simp), ← List.drop_drop, List.drop_left, if_pos (show Lib.hasPrefix ((58 :: 32 :: x).drop 1) [32] = true from prefix_cons 32 x)]
    simp [otag]
  · have e : otag app proc ++ x = app ++ 91 :: (proc ++ 93 :: 58 :: 32 :: x) := by simp [otag, h0]
    have hA : ahead tgb 16 (app ++ 91 :: (proc ++ 93 :: 58 :: 32 :: x)) = app.length := ahead_of hal hat (.inr (.inr ⟨91, _, rfl, by decide⟩))
    have hP : ahead dig 8 (proc ++ 93 :: 58 :: 32 :: x) = proc.length := ahead_of hp hpd (.inr (.inr ⟨93, _, rfl, by decide⟩))
    have hpp : 0 < proc.length := List.length_pos_iff.2 h0
    have d1 : (app ++ 91 :: (proc ++ 93 :: 58 :: 32 :: x)).drop (app.length + 1) = proc ++ 93 :: 58 :: 32 :: x := by rw [← List.drop_drop, List.drop_left]; rfl
    have d2' : (app ++ 91 :: (proc ++ 93 :: 58 :: 32 :: x)).drop (app.length + (1 + proc.length)) = 93 :: 58 :: 32 :: x := by
      rw [← Nat.add_assoc, ← List.drop_drop, d1, List.drop_left]
    have d3 : (app ++ 91 :: (proc ++ 93 :: 58 :: 32 :: x)).drop (app.length + (1 + proc.length) + 1) = 58 :: 32 :: x := by
      rw [← List.drop_drop, d2']; rfl
    rw [e]
    unfold tag
    rw [hA, d1, hP, List.take_left, List.drop_left, d2', if_neg (by rintro (h | h); omega; exact ha2 h), if_pos (prefix_cons 91 _), if_neg (by rintro (h | h); omega; rw [prefix_cons] at h; cases h), List.take_left]
    unfold tagRest
    rw [d3, if_neg (by rw [prefix_cons]; simp), ← List.drop_drop, d3, if_pos (show Lib.hasPrefix ((58 :: 32 :: x).drop 1) [32] = true from prefix_cons 32 x)]
    simp [otag, h0]
    omega
theorem read_oldLine {n : Nat} (hn : n ≤ 191) (src : Bool) {b : List UInt8} {y : Nat} (hy : 1 ≤ y ∧ y ≤ 9999) (hb : Lib.hasPrefix b [60] = false) (hb2 : Lib.hasPrefix b [49, 32] = false) (hp : plain b = true) (hl : b.length ≤ 190) :
    read ((if src then 60 :: (Lib.decDigits n ++ [62]) else []) ++ b) y = (readOld (Msg.of ((if src then (n : Int) else 13) / 8) ((if src then (n : Int) else 13) % 8)) b y, 0, 0) := by
  have h3 := dd_len3 (n := n) (by omega)
  have hyy : ¬ isYear (y : Int) = false := by simp [isYear]; omega
  cases src with
  | true =>
    simp only [if_true]
    have e : 60 :: (Lib.decDigits n ++ [62]) ++ b = 60 :: (Lib.decDigits n ++ 62 :: b) := by simp
    have hd : (60 :: (Lib.decDigits n ++ 62 :: b)).drop (1 + (Lib.decDigits n).length + 1) = b := by
      rw [show 1 + (Lib.decDigits n).length + 1 = 1 + ((Lib.decDigits n).length + 1) by omega, ← List.drop_drop, show (60 :: (Lib.decDigits n ++ 62 :: b)).drop 1 = Lib.decDigits n ++ 62 :: b from rfl, ← List.drop_drop, List.drop_left]
      rfl
    rw [e]
    unfold read
    rw [if_neg (by simp; omega), if_neg hyy, source_at hn]
    dsimp only
    rw [hd, if_neg (by rw [hb2]; simp), if_neg (by rw [hp]; simp)]
    rfl
  | false =>
    simp only [Bool.false_eq_true, if_false, List.nil_append]
    have hs : source b = (13, 0) := by unfold source; rw [if_pos hb]
    unfold read
    rw [if_neg (by omega), if_neg hyy, hs]
    dsimp only
    rw [List.drop_zero, if_neg (by rw [hb2]; simp), if_neg (by rw [hp]; simp)]
    rfl
theorem otexts_tag : ∀ x ∈ otexts, tag x = ([], [], 0) ∧ x.length < 16 ∧ plain x = true ∧ Lib.hasPrefix x [60] = false ∧ Lib.hasPrefix x [49, 32] = false := by decide +kernel
theorem letr_vis {c : UInt8} (h : letr c = true) : 32 ≤ c.toNat ∧ c.toNat ≤ 126 := by
  simp only [letr, Bool.or_eq_true, Bool.and_eq_true, decide_eq_true_eq] at h
  omega
theorem vis_bd {c : UInt8} (h : vis c = true) : 32 ≤ c.toNat ∧ c.toNat ≤ 126 := by
  simp only [vis, Bool.and_eq_true, decide_eq_true_eq] at h
  omega
theorem read_old {n : Nat} (hn : n ≤ 191) (src st tg : Bool) {y mo d s : Nat} {host app proc x : List UInt8} (hy : 1 ≤ y ∧ y ≤ 9999) (hmo : 1 ≤ mo ∧ mo ≤ 12) (hd : 1 ≤ d ∧ (d : Int) ≤ daysOf y mo) (hs : s < 86400) (hh : word host 32 = true) (hhl : host.length ≤ 10)
    (ha : ∃ t, app = [97, 112, 112, 47] ++ t ∧ t.length ≤ 10 ∧ ∀ c ∈ t, dig c = true) (hp : proc.length ≤ 8) (hpd : ∀ c ∈ proc, dig c = true) (hx : x ∈ otexts) :
    read ((if src then 60 :: (Lib.decDigits n ++ [62]) else []) ++ ((if st then ostamp mo d s host else []) ++ ((if tg then otag app proc else []) ++ x))) y =
      (⟨(if src then (n : Int) else 13) / 8, (if src then (n : Int) else 13) % 8, if st then stampText y mo d (s / 3600) (s / 60 % 60) (s % 60) ++ [90] else [], if st then host else [], if tg then app else [], if tg then proc else [], [], [], x⟩, 0, 0) := by
  obtain ⟨x1, x2, x3, x4, x5⟩ := otexts_tag x hx
  obtain ⟨t, hat, htl, htd⟩ := ha
  have ht : ∀ c ∈ app, tgb c = true := by
    intro c hc
    rw [hat] at hc
    rcases List.mem_append.1 hc with hc | hc
    · simp only [List.mem_cons, List.not_mem_nil, or_false] at hc
      rcases hc with rfl | rfl | rfl | rfl <;> decide
    · have := htd c hc
      unfold tgb
      rw [this]
      simp
  have hal : app.length ≤ 16 ∧ 4 ≤ app.length := by rw [hat]; simp; omega
  have htag : tag ((if tg then otag app proc else []) ++ x) = (if tg then app else [], if tg then proc else [], if tg then (otag app proc).length else 0) := by
    cases tg with
    | true => exact tag_at (by rw [hat]; simp) (by rw [hat]; simp) hal.1 ht hp hpd x
    | false => exact x1
  have hol : (otag app proc).length ≤ 30 := by
    unfold otag
    split <;> simp <;> omega
  have hdrop : ((if tg then otag app proc else []) ++ x).drop (if tg then (otag app proc).length else 0) = x := by
    cases tg with
    | true => simp only [if_true]; exact List.drop_left
    | false => rfl
  have hoc : (oclock s).length = 8 := by simp [oclock, d2]
  have hdb := daysOf_bd y mo (by omega) (by omega)
  obtain ⟨a, b, c, hm, hmm, la, lb, lc⟩ := month_at hmo.1 hmo.2
  obtain ⟨e, f, ho, he, hoo, e1, e2, f1, f2⟩ := oday_at (d := d) hd.1 (by omega)
  have hsl : (ostamp mo d s host).length ≤ 30 := by unfold ostamp; rw [hm, ho]; simp [hoc]; omega
  have hpt : plain ((if tg then otag app proc else []) ++ x) = true := by
    cases tg with
    | false => exact x3
    | true =>
      refine plain_app (plain_vis fun q hq => ?_) x3
      simp only [if_true, otag] at hq
      rcases List.mem_append.1 hq with hq | hq
      · exact vis_bd (tgb_vis (ht q hq))
      · rcases List.mem_append.1 hq with hq | hq
        · split at hq
          · cases hq
          · rcases List.mem_cons.1 hq with rfl | hq
            · decide
            · rcases List.mem_append.1 hq with hq | hq
              · exact vis_bd (dig_vis (hpd q hq))
              · rw [List.mem_singleton.1 hq]; decide
        · simp only [List.mem_cons, List.not_mem_nil, or_false] at hq
          rcases hq with rfl | rfl <;> decide
  have hps : plain ((if st then ostamp mo d s host else []) ++ ((if tg then otag app proc else []) ++ x)) = true := by
    cases st with
    | false => exact hpt
    | true =>
      refine plain_app ?_ hpt
      simp only [if_true, ostamp]
      rw [hm, ho]
      refine plain_app (plain_vis fun q hq => ?_) (plain_cons (by decide) (plain_app (plain_vis fun q hq => ?_) (plain_cons (by decide) (plain_app ?_ (plain_cons (by decide) (plain_app (plain_vis fun q hq => vis_bd ((word_vis hh).2.2.2 q hq)) (by decide)))))))
      · simp only [List.mem_cons, List.not_mem_nil, or_false] at hq
        rcases hq with rfl | rfl | rfl
        · exact letr_vis la
        · exact letr_vis lb
        · exact letr_vis lc
      · simp only [List.mem_cons, List.not_mem_nil, or_false] at hq
        rcases hq with rfl | rfl
        · exact ⟨e1, e2⟩
        · exact ⟨f1, f2⟩
      · have h2 : ∀ n : Nat, n < 100 → plain (d2 n) = true := fun n hn => plain_vis fun q hq => by
          unfold d2 at hq
          simp only [List.mem_cons, List.not_mem_nil, or_false] at hq
          rcases hq with rfl | rfl
          · exact vis_bd (dig_vis (dig_of (by omega)))
          · exact vis_bd (dig_vis (dig_of (by omega)))
        unfold oclock
        exact plain_app (h2 _ (by omega)) (plain_cons (by decide) (plain_app (h2 _ (by omega)) (plain_cons (by decide) (h2 _ (by omega)))))
  have hpre : ∀ q : UInt8, letr q = true → ¬ q = 60 ∧ ¬ q = 49 := by
    intro q hq
    refine ⟨fun e => ?_, fun e => ?_⟩ <;> (subst e; revert hq; decide)
  have hno : ∀ (q : UInt8) (u : List UInt8), ¬ q = 49 → Lib.hasPrefix (q :: u) [49, 32] = false := by
    intro q u hq
    cases h : Lib.hasPrefix (q :: u) [49, 32] with
    | false => rfl
    | true => obtain ⟨v, hv⟩ := prefix2 h; cases hv; exact (hq rfl).elim
  have hb : Lib.hasPrefix ((if st then ostamp mo d s host else []) ++ ((if tg then otag app proc else []) ++ x)) [60] = false ∧ Lib.hasPrefix ((if st then ostamp mo d s host else []) ++ ((if tg then otag app proc else []) ++ x)) [49, 32] = false := by
    cases st with
    | true =>
      simp only [if_true, ostamp]
      rw [hm]
      exact ⟨prefix_no _ (hpre a la).1, hno _ _ (hpre a la).2⟩
    | false =>
      cases tg with
      | true =>
        simp only [if_true, otag]
        rw [hat]
        exact ⟨prefix_no _ (by decide), hno _ _ (by decide)⟩
      | false => exact ⟨x4, x5⟩
  rw [read_oldLine hn src hy hb.1 hb.2 hps (by
    have l1 : (if st then ostamp mo d s host else []).length ≤ 30 := by split; exact hsl; simp
    have l2 : (if tg then otag app proc else []).length ≤ 30 := by split; exact hol; simp
    simp only [List.length_append]
    omega)]
  congr 1
  unfold readOld Msg.of
  cases st with
  | true =>
    have hst := stamp_at (host := host) hy hmo hd hs hh ((if tg then otag app proc else []) ++ x)
    simp only [if_true]
    rw [hst]
    dsimp only
    rw [if_pos (by unfold ostamp; simp; omega), List.drop_left, htag]
    dsimp only
    rw [hdrop]
  | false =>
    simp only [Bool.false_eq_true, if_false, List.nil_append]
    have hst : (stamp ((if tg then otag app proc else []) ++ x) y).2.2 = 0 := by
      cases tg with
      | false => exact stamp_no (.inl x2)
      | true =>
        refine stamp_no (.inr ?_)
        simp only [if_true, otag]
        rw [hat]
        exact (by decide : month [97, 112, 112] = 0)
    rw [hst, if_neg (by omega), htag]
    dsimp only
    rw [hdrop]
end Go.Hm
namespace Go.Hm
abbrev Rec := UInt8 × List UInt8
def recB (r : Rec) : List UInt8 := writeRec r.1 r.2
def flatR (rs : List Rec) : List UInt8 := (rs.map recB).flatten
theorem flatR_nil : flatR [] = [] := rfl
theorem flatR_cons (r : Rec) (rs : List Rec) : flatR (r :: rs) = recB r ++ flatR rs := rfl
theorem flatR_append (a b : List Rec) : flatR (a ++ b) = flatR a ++ flatR b := by simp [flatR]
theorem recB_length (r : Rec) : (recB r).length = r.2.length + 5 := writeRec_length _ _
def SmallR (rs : List Rec) : Prop := ∀ r ∈ rs, r.2.length < 65536
theorem readRec_some {l : List UInt8} {k : UInt8} {bs : List UInt8} {n : Nat} (h : readRec l = some (k, bs, n)) : n = bs.length + 5 ∧ bs.length < 65536 ∧ ∃ t, l = writeRec k bs ++ t := by
  unfold readRec at h
  split at h
  · cases h
  · next h1 =>
    split at h
    · cases h
    · next h2 =>
      split at h
      · cases h
      · next h3 =>
        have h3' : (l.drop (3 + numB (l.drop 1))).take 2 = check (l.take (3 + numB (l.drop 1))) := Classical.not_not.1 h3
        simp only [Option.some.injEq, Prod.mk.injEq] at h
        obtain ⟨rfl, rfl, rfl⟩ := h
        obtain ⟨k, a, b, t, rfl⟩ : ∃ k a b t, l = k :: a :: b :: t := by
          match l, h1 with
          | [], h1 => exact absurd (by simp) h1
          | [_], h1 => exact absurd (by simp) h1
          | [_, _], h1 => exact absurd (by simp) h1
          | k :: a :: b :: t, _ => exact ⟨k, a, b, t, rfl⟩
        · clear h1
          have hn : numB ((k :: a :: b :: t).drop 1) = 256 * a.toNat + b.toNat := rfl
          rw [hn] at h2 h3' ⊢
          have ha := a.toNat_lt
          have hb := b.toNat_lt
          generalize hm : 256 * a.toNat + b.toNat = m at h2 h3'
          simp only [List.length_cons] at h2
          have hlen : (((k :: a :: b :: t).drop 3).take m).length = m := by simp; omega
          have h2b : twoB m = [a, b] := by
            unfold twoB
            have e1 : UInt8.ofNat (m / 256) = a := UInt8.toNat_inj.1 (by rw [UInt8.toNat_ofNat']; omega)
            have e2 : UInt8.ofNat m = b := UInt8.toNat_inj.1 (by rw [UInt8.toNat_ofNat']; omega)
            rw [e1, e2]
          refine ⟨by rw [hlen]; omega, by rw [hlen]; omega, t.drop (m + 2), ?_⟩
          have hah : aheadRec ((k :: a :: b :: t).getD 0 0) (((k :: a :: b :: t).drop 3).take m) = (k :: a :: b :: t).take (3 + m) := by
            unfold aheadRec
            rw [hlen, h2b, Nat.add_comm 3 m]
            rfl
          unfold writeRec
          rw [hah, ← h3', Nat.add_comm 3 m]
          show k :: a :: b :: t = (k :: a :: b :: t.take m) ++ ((t.drop m).take 2) ++ t.drop (m + 2)
          rw [List.append_assoc, ← List.drop_drop, List.take_append_drop]
          simp
theorem recsF_flat : ∀ (rs : List Rec) (t : List UInt8) (f : Nat), SmallR rs → (flatR rs ++ t).length < f → recsF f (flatR rs ++ t) = rs ++ recsF (f - rs.length) t
  | [], t, f, _, _ => by simp [flatR_nil]
  | r :: rs, t, f, hs, hf => by
    obtain ⟨f, rfl⟩ : ∃ g, f = g + 1 := ⟨f - 1, by omega⟩
    have hr := readRec_write (k := r.1) (hs r (by simp)) (flatR rs ++ t)
    have e : flatR (r :: rs) ++ t = writeRec r.1 r.2 ++ (flatR rs ++ t) := by rw [flatR_cons, List.append_assoc]; rfl
    rw [e] at hf ⊢
    rw [List.length_append, writeRec_length] at hf
    rw [recsF, hr]
    dsimp only
    rw [← writeRec_length r.1 r.2, List.drop_left, recsF_flat rs t f (fun q hq => hs q (by simp [hq])) (by omega)]
    simp
theorem recsF_stop {l : List UInt8} (h : readRec l = none) : ∀ f, recsF f l = []
  | 0 => rfl
  | f + 1 => by unfold recsF; rw [h]
theorem recs_flat {rs : List Rec} (hs : SmallR rs) {t : List UInt8} (ht : readRec t = none) : recs (flatR rs ++ t) = rs := by
  unfold recs
  rw [recsF_flat rs t _ hs (by omega), recsF_stop ht, List.append_nil]
theorem readRec_nil : readRec [] = none := rfl
theorem readRec_cut {k : UInt8} {bs : List UInt8} (h : bs.length < 65536) {j : Nat} (hj : j < bs.length + 5) (t : List UInt8) : readRec ((writeRec k bs ++ t).take j) = none := by
  have hl : ((writeRec k bs ++ t).take j).length = j := by simp [writeRec_length]; omega
  unfold readRec
  rw [hl]
  split
  · rfl
  · next h3 =>
    have hn : numB (((writeRec k bs ++ t).take j).drop 1) = bs.length := by
      have e : writeRec k bs ++ t = k :: UInt8.ofNat (bs.length / 256) :: UInt8.ofNat bs.length :: (bs ++ check (aheadRec k bs) ++ t) := by simp [writeRec, aheadRec, twoB]
      obtain ⟨j, rfl⟩ : ∃ i, j = i + 3 := ⟨j - 3, by omega⟩
      rw [e]
      simp only [List.take_succ_cons, List.drop_succ_cons, List.drop_zero]
      have := numB_two h ((bs ++ check (aheadRec k bs) ++ t).take j)
      exact this
    rw [hn, if_pos (by omega)]
theorem recs_cut : ∀ (rs : List Rec) (j : Nat), SmallR rs → ∃ a b t, rs = a ++ b ∧ (flatR rs).take j = flatR a ++ t ∧ readRec t = none
  | [], j, _ => ⟨[], [], [], rfl, by simp [flatR_nil], rfl⟩
  | r :: rs, j, hs => by
    by_cases h : j < (recB r).length
    · refine ⟨[], r :: rs, (flatR (r :: rs)).take j, rfl, rfl, ?_⟩
      rw [flatR_cons]
      rw [recB_length] at h
      exact readRec_cut (hs r (by simp)) h _
    · obtain ⟨a, b, t, h1, h2, h3⟩ := recs_cut rs (j - (recB r).length) (fun q hq => hs q (by simp [hq]))
      refine ⟨r :: a, b, t, by rw [h1]; rfl, ?_, h3⟩
      rw [flatR_cons, flatR_cons, List.take_append, List.take_of_length_le (by omega), h2, List.append_assoc]
structure Run (g0 : Lg) (rs : List Rec) (g : Lg) : Prop where
  small : SmallR rs
  text : g.records = g0.records ++ flatR rs
  all : ∀ more, g0.backs (rs ++ more) = g.backs more
theorem Run.nil (g : Lg) : Run g [] g := ⟨fun _ h => by simp at h, by simp [flatR_nil], fun _ => rfl⟩
theorem Run.trans {a b c : Lg} {rs ss : List Rec} (h : Run a rs b) (k : Run b ss c) : Run a (rs ++ ss) c where
  small := fun r hr => by rcases List.mem_append.1 hr with h' | h'; exact h.small r h'; exact k.small r h'
  text := by rw [k.text, h.text, flatR_append, List.append_assoc]
  all := fun more => by rw [List.append_assoc, h.all, k.all]
theorem backs_cons {g : Lg} {r : Rec} {rs : List Rec} (h : (g.back r).2 = true) : g.backs (r :: rs) = (g.back r).1.backs rs := by
  rw [Lg.backs, if_pos h]
theorem Run.one {g : Lg} {r : Rec} (h : (g.back r).2 = true) (hs : r.2.length < 65536) (ht : (g.back r).1.records = g.records ++ recB r) : Run g [r] (g.back r).1 where
  small := fun q hq => by rw [List.mem_singleton.1 hq]; exact hs
  text := by rw [ht]; simp [flatR]
  all := fun more => backs_cons h
theorem again_line {m : Msg} (h : (line m).2 = 0) : again (line m).1 = true := by
  have hr := read_line h (y := 1) (by decide)
  unfold again
  rw [hr]
  simp only [decide_true, Bool.true_and, decide_eq_true_eq]
  rw [← h]
theorem Run.put {g : Lg} {m : Msg} (h : (line m).2 = 0) (hm : g.messages < 65535) : Run g [(80, (line m).1)] (g.add (line m).1) := by
  have hl := line_lenL h
  have hb : g.back (80, (line m).1) = (g.add (line m).1, true) := by
    unfold Lg.back
    rw [if_pos rfl, if_pos ⟨again_line h, hm⟩]
  have := Run.one (g := g) (r := (80, (line m).1)) (by rw [hb]) (by dsimp only; omega) (by rw [hb]; rfl)
  rwa [hb] at this
theorem Run.ack {g : Lg} {n : Nat} (h0 : g.had < n) (h1 : n ≤ g.messages) (hn : n < 65536) : Run g [(65, twoB n)] (g.ackTo n) := by
  have hnb : numB (twoB n) = n := by have := numB_two hn []; rwa [List.append_nil] at this
  have ha : g.ack (numB (twoB n)) = (g.ackTo n, 0) := by
    rw [hnb]
    unfold Lg.ack
    rw [if_neg (by omega)]
    simp
  have hb : g.back (65, twoB n) = (g.ackTo n, true) := by
    unfold Lg.back
    rw [if_neg (show ¬ (65 : UInt8) = 80 by decide), if_pos rfl, ha, if_pos ⟨rfl, rfl⟩]
  have := Run.one (g := g) (r := (65, twoB n)) (by rw [hb]) (by rw [twoB_length]; omega) (by rw [hb]; rfl)
  rwa [hb] at this
theorem opens_run {room : Nat} {rs : List Rec} {g : Lg} (h : Run (Lg.fresh room) rs g) {t : List UInt8} (ht : readRec t = none) : opens (flatR rs ++ t) room = g := by
  unfold opens
  rw [recs_flat h.small ht]
  have := h.all []
  rwa [List.append_nil] at this
theorem opens_same {room : Nat} {rs : List Rec} {g : Lg} (h : Run (Lg.fresh room) rs g) : opens g.records room = g := by
  have := opens_run h readRec_nil
  rw [List.append_nil] at this
  rw [h.text]
  exact this
theorem back_text {g : Lg} {r : Rec} (h : (g.back r).2 = true) (hs : r.2.length < 65536) : (g.back r).1.records = g.records ++ recB r := by
  unfold Lg.back at h ⊢
  split
  · next h1 =>
    rw [if_pos h1] at h
    split
    · show g.records ++ writeRec 80 r.2 = g.records ++ writeRec r.1 r.2
      rw [h1]
    · next h2 => rw [if_neg h2] at h; cases h
  · next h1 =>
    rw [if_neg h1] at h
    split
    · next h3 =>
      rw [if_pos h3] at h
      split
      · next h4 =>
        obtain ⟨h5, h6⟩ := h4
        unfold Lg.ack at h6 ⊢
        split
        · next h7 => rw [if_pos h7] at h6; cases h6
        · next h7 =>
          show g.records ++ writeRec 65 (twoB ((numB r.2 : Int)).toNat) = _
          have : twoB (numB r.2) = r.2 := by
            obtain ⟨k, bs⟩ := r
            match bs, h5 with
            | [a, b], _ =>
              have ha := a.toNat_lt
              have hb := b.toNat_lt
              show [UInt8.ofNat ((256 * a.toNat + b.toNat) / 256), UInt8.ofNat (256 * a.toNat + b.toNat)] = [a, b]
              have e1 : UInt8.ofNat ((256 * a.toNat + b.toNat) / 256) = a := UInt8.toNat_inj.1 (by rw [UInt8.toNat_ofNat']; omega)
              have e2 : UInt8.ofNat (256 * a.toNat + b.toNat) = b := UInt8.toNat_inj.1 (by rw [UInt8.toNat_ofNat']; omega)
              rw [e1, e2]
          rw [Int.toNat_natCast, this, ← h3]
          rfl
      · next h4 => rw [if_neg h4] at h; cases h
    · next h3 => rw [if_neg h3] at h; cases h
theorem backs_text : ∀ (rs : List Rec) (g : Lg), SmallR rs → ∃ a b, rs = a ++ b ∧ (g.backs rs).records = g.records ++ flatR a
  | [], g, _ => ⟨[], [], rfl, by simp [Lg.backs, flatR_nil]⟩
  | r :: rs, g, hs => by
    rw [Lg.backs]
    split
    · next h =>
      obtain ⟨a, b, h1, h2⟩ := backs_text rs (g.back r).1 (fun q hq => hs q (by simp [hq]))
      refine ⟨r :: a, b, by rw [h1]; rfl, ?_⟩
      rw [h2, back_text h (hs r (by simp)), flatR_cons, List.append_assoc]
    · exact ⟨[], r :: rs, rfl, by simp [flatR_nil]⟩
theorem recs_text : ∀ (f : Nat) (l : List UInt8), SmallR (recsF f l) ∧ ∃ t, l = flatR (recsF f l) ++ t
  | 0, l => ⟨fun _ h => by simp [recsF] at h, l, rfl⟩
  | f + 1, l => by
    unfold recsF
    cases h : readRec l with
    | none => exact ⟨fun _ h => by simp at h, l, rfl⟩
    | some x =>
      obtain ⟨k, bs, n⟩ := x
      obtain ⟨hn, hb, t, rfl⟩ := readRec_some h
      dsimp only
      have hd : (writeRec k bs ++ t).drop n = t := by rw [hn, ← writeRec_length k bs, List.drop_left]
      rw [hd]
      obtain ⟨h1, u, h2⟩ := recs_text f t
      refine ⟨fun q hq => by rcases List.mem_cons.1 hq with rfl | hq; exact hb; exact h1 q hq, u, ?_⟩
      rw [flatR_cons, List.append_assoc, ← h2]
      rfl
theorem opens_prefix (l : List UInt8) (room : Nat) : ∃ t, l = (opens l room).records ++ t := by
  obtain ⟨h1, t, h2⟩ := recs_text (l.length + 1) l
  obtain ⟨a, b, h3, h4⟩ := backs_text (recsF (l.length + 1) l) (Lg.fresh room) h1
  refine ⟨flatR b ++ t, ?_⟩
  have : (opens l room).records = flatR a := h4
  rw [this, ← List.append_assoc, ← flatR_append, ← h3]
  exact h2
theorem opens_more {room : Nat} {rs : List Rec} {g : Lg} (h : Run (Lg.fresh room) rs g) (t : List UInt8) : ∃ u, (opens (flatR rs ++ t) room).records = flatR rs ++ u := by
  have hr : recs (flatR rs ++ t) = rs ++ recsF ((flatR rs ++ t).length + 1 - rs.length) t := by
    unfold recs
    exact recsF_flat rs t _ h.small (by omega)
  unfold opens
  rw [hr, h.all]
  obtain ⟨h1, _⟩ := recs_text ((flatR rs ++ t).length + 1 - rs.length) t
  obtain ⟨a, b, h3, h4⟩ := backs_text _ g h1
  refine ⟨flatR a, ?_⟩
  rw [h4, h.text]
  rfl
end Go.Hm
namespace Go.Hm
def IsRun (lines ws : List (List UInt8)) : Prop := ∃ fr, fr + ws.length ≤ lines.length ∧ ws = (lines.drop fr).take ws.length
theorem IsRun.more {lines ws : List (List UInt8)} (h : IsRun lines ws) (x : List (List UInt8)) : IsRun (lines ++ x) ws := by
  obtain ⟨fr, h1, h2⟩ := h
  refine ⟨fr, by simp; omega, ?_⟩
  rw [List.drop_append_of_le_length (by omega), List.take_append_of_le_length (by rw [List.length_drop]; omega)]
  exact h2
structure Book (room : Nat) (g : Lg) (lines : List (List UInt8)) : Prop where
  run : ∃ rs, Run (Lg.fresh room) rs g ∧ ∀ a b, rs = a ++ b → ∃ g', Run (Lg.fresh room) a g' ∧ IsRun lines g'.waiting
  wait : g.waiting = lines.drop g.had
  had : g.had ≤ lines.length
  room : g.room = room
theorem isRun_drop (lines : List (List UInt8)) {n : Nat} (h : n ≤ lines.length) : IsRun lines (lines.drop n) :=
  ⟨n, by rw [List.length_drop]; omega, by rw [List.take_length]⟩
theorem Book.fresh (room : Nat) : Book room (Lg.fresh room) [] where
  run := ⟨[], Run.nil _, fun a b h => by
    obtain rfl : a = [] := by cases a with | nil => rfl | cons x y => simp at h
    exact ⟨_, Run.nil _, 0, by simp [Lg.fresh], by simp [Lg.fresh]⟩⟩
  wait := rfl
  had := Nat.le_refl _
  room := rfl
theorem Book.messages {room : Nat} {g : Lg} {lines : List (List UInt8)} (h : Book room g lines) : g.messages = lines.length := by
  unfold Lg.messages
  rw [h.wait, List.length_drop]
  have := h.had
  omega
theorem Book.waits {room : Nat} {g : Lg} {lines : List (List UInt8)} (h : Book room g lines) : g.waiting.length = lines.length - g.had := by rw [h.wait, List.length_drop]
theorem Book.step {room : Nat} {g g2 : Lg} {lines more : List (List UInt8)} {r : Rec} (h : Book room g lines) (hr : Run g [r] g2) (hw : g2.waiting = (lines ++ more).drop g2.had) (hh : g2.had ≤ (lines ++ more).length) (hm : g2.room = room) : Book room g2 (lines ++ more) where
  run := by
    obtain ⟨rs, h1, h2⟩ := h.run
    refine ⟨rs ++ [r], h1.trans hr, fun a b e => ?_⟩
    rcases List.eq_nil_or_concat b with rfl | ⟨b', q, rfl⟩
    · rw [List.append_nil] at e
      subst e
      exact ⟨g2, h1.trans hr, by rw [hw]; exact isRun_drop _ hh⟩
    · rw [List.concat_eq_append, ← List.append_assoc] at e
      obtain ⟨e1, _⟩ := List.append_inj' e rfl
      obtain ⟨g', h3, h4⟩ := h2 a b' e1
      exact ⟨g', h3, h4.more more⟩
  wait := hw
  had := hh
  room := hm
theorem Book.put {room : Nat} {g : Lg} {lines : List (List UInt8)} (h : Book room g lines) {m : Msg} (hl : (line m).2 = 0) (hm : lines.length < 65535) : Book room (g.add (line m).1) (lines ++ [(line m).1]) :=
  h.step (Run.put hl (by rw [h.messages]; exact hm)) (by
    show g.waiting ++ [(line m).1] = (lines ++ [(line m).1]).drop g.had
    rw [List.drop_append_of_le_length h.had, h.wait]) (by
    show g.had ≤ _
    have := h.had
    rw [List.length_append]; omega) h.room
theorem Book.ack {room : Nat} {g : Lg} {lines : List (List UInt8)} (h : Book room g lines) {n : Nat} (h0 : g.had < n) (h1 : n ≤ lines.length) (hn : n < 65536) : Book room (g.ackTo n) lines := by
  have := h.step (more := []) (Run.ack h0 (by rw [h.messages]; exact h1) hn) (by
    show g.waiting.drop (n - g.had) = (lines ++ []).drop n
    rw [List.append_nil, h.wait, List.drop_drop]
    congr 1
    omega) (by rw [List.append_nil]; exact h1) h.room
  rwa [List.append_nil] at this
theorem Book.opens {room : Nat} {g : Lg} {lines : List (List UInt8)} (h : Book room g lines) : opens g.records room = g := by
  obtain ⟨rs, h1, _⟩ := h.run
  exact opens_same h1
theorem Book.cut {room : Nat} {g : Lg} {lines : List (List UInt8)} (h : Book room g lines) (k : Nat) : IsRun lines (Go.Hm.opens (g.records.take k) room).waiting ∧ ∃ t, g.records.take k = (Go.Hm.opens (g.records.take k) room).records ++ t := by
  obtain ⟨rs, h1, h2⟩ := h.run
  obtain ⟨a, b, t, h3, h4, h5⟩ := recs_cut rs k h1.small
  obtain ⟨g', h6, h7⟩ := h2 a b h3
  have he : g.records = flatR rs := h1.text
  refine ⟨?_, opens_prefix _ _⟩
  rw [he, h4, opens_run h6 h5]
  exact h7
theorem puts_run (room : Nat) : ∀ (ms : List Msg) (g : Lg), (∀ m ∈ ms, (line m).2 = 0) → g.messages + ms.length < 65535 → Run g (ms.map fun m => (80, (line m).1)) (ms.foldl (fun g m => g.add (line m).1) g)
  | [], g, _, _ => Run.nil g
  | m :: ms, g, h, hl => by
    rw [List.length_cons] at hl
    have h1 := Run.put (g := g) (h m (by simp)) (by omega)
    have hg : (g.add (line m).1).messages = g.messages + 1 := by simp [Lg.messages, Lg.add]; omega
    exact h1.trans (puts_run room ms (g.add (line m).1) (fun q hq => h q (by simp [hq])) (by omega))
theorem puts_log : ∀ (ms : List Msg) (g : Lg), (ms.foldl (fun g m => g.add (line m).1) g).had = g.had ∧ (ms.foldl (fun g m => g.add (line m).1) g).waiting = g.waiting ++ ms.map (fun m => (line m).1) ∧ (ms.foldl (fun g m => g.add (line m).1) g).room = g.room
  | [], g => by simp
  | m :: ms, g => by
    have := puts_log ms (g.add (line m).1)
    simp only [List.foldl_cons, List.map_cons]
    rw [this.1, this.2.1, this.2.2]
    simp [Lg.add]
theorem spoilt_prefix {room : Nat} {rs : List Rec} {g : Lg} (h : Run (Lg.fresh room) rs g) (t : List UInt8) : ∃ u v, (opens (flatR rs ++ t) room).records = flatR rs ++ u ∧ t = u ++ v := by
  obtain ⟨u, hu⟩ := opens_more h t
  obtain ⟨v, hv⟩ := opens_prefix (flatR rs ++ t) room
  refine ⟨u, v, hu, ?_⟩
  rw [hu, List.append_assoc] at hv
  exact List.append_cancel_left hv
end Go.Hm
namespace Go.Hm
def lined (t : List UInt8) : Bool := (decide ((t.getD 0 0).toNat < 49) || decide (57 < (t.getD 0 0).toNat)) && t.all fun c => !decide (c.toNat = 10)
def frame (b : Bool) (t : List UInt8) : List UInt8 := if b then t ++ [10] else Lib.decDigits t.length ++ 32 :: t
theorem feed_frame {n : Nat} {b : Bool} {t : List UInt8} (h0 : t ≠ []) (hl : t.length ≤ n) (hb : b = true → lined t = true) : (Frs.fresh n).feed (frame b t) = (Frs.fresh n, [61 :: t]) := by
  have hpos : 0 < t.length := List.length_pos_iff.2 h0
  cases b with
  | false =>
    obtain ⟨c, ds, hc, h1, h2⟩ := dd_head t.length hpos
    have hdig := dd_digits t.length
    have hdec := dd_dec t.length
    rw [hc] at hdig hdec
    show (Frs.fresh n).feed (Lib.decDigits t.length ++ 32 :: t) = _
    rw [hc]
    exact feed_counted ds t c (fun x hx => hdig x (by simp [hx])) h1 h2 hdec h0 hl
  | true =>
    have hh := hb rfl
    cases t with
    | nil => exact (h0 rfl).elim
    | cons c t =>
      unfold lined at hh
      simp only [List.getD_cons_zero, Bool.and_eq_true, Bool.or_eq_true, decide_eq_true_eq, List.all_eq_true, Bool.not_eq_true', decide_eq_false_iff_not] at hh
      show (Frs.fresh n).feed (c :: t ++ [10]) = _
      refine feed_lined c t ?_ (fun x hx e => hh.2 x hx (by rw [e]; rfl)) hl
      rintro ⟨h1, h2⟩
      rw [dig_iff] at h1
      have h3 : c.toNat = 48 := by omega
      exact h2 (UInt8.toNat_inj.1 (by simpa using h3))
theorem feed_frames {n : Nat} {a : List UInt8} {told : List (List UInt8)} (h : (Frs.fresh n).feed a = (Frs.fresh n, told)) {x : List UInt8} {y : List (List UInt8)} (k : (Frs.fresh n).feed x = (Frs.fresh n, y)) : (Frs.fresh n).feed (a ++ x) = (Frs.fresh n, told ++ y) := by
  rw [Frs.feed_append, h]
  dsimp only
  rw [k]
end Go.Hm

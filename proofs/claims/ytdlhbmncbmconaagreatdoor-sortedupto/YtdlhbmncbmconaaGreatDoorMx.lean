/- Mathematics: lines, frames. -/
import Derived.Test.YtdlhbmncbmconaaGreatDoorMa
namespace Go.Hm
def kinds : List (Nat × Nat) := [(32, 4), (16, 5), (16, 6), (12, 7)]
def wordsFrom (l : List UInt8) : List (Nat × Nat) → Nat → Option (Nat × Nat) × List (List UInt8) × Nat
  | [], nx => (none, [], nx)
  | k :: ks, nx =>
    if (part l nx).1 = [45] then ((wordsFrom l ks (part l nx).2).1, [] :: (wordsFrom l ks (part l nx).2).2.1, (wordsFrom l ks (part l nx).2).2.2)
    else if word (part l nx).1 k.1 = false then (some (k.2, nx), [], 0)
    else ((wordsFrom l ks (part l nx).2).1, (part l nx).1 :: (wordsFrom l ks (part l nx).2).2.1, (wordsFrom l ks (part l nx).2).2.2)
def timeOf (p : List UInt8) : Option (List UInt8) := if p = [45] then some [] else readTime p
def afterTime (f s : Int) (tm l : List UInt8) (nx : Nat) : Msg × Nat × Nat :=
  match (wordsFrom l kinds nx).1 with
  | some e => (Msg.none, e.1, e.2)
  | none => dataText ⟨f, s, tm, (wordsFrom l kinds nx).2.1.getD 0 [], (wordsFrom l kinds nx).2.1.getD 1 [], (wordsFrom l kinds nx).2.1.getD 2 [], (wordsFrom l kinds nx).2.1.getD 3 [], [], []⟩ l (wordsFrom l kinds nx).2.2
def readNew (f s : Int) (l : List UInt8) (a : Nat) : Msg × Nat × Nat :=
  match timeOf (part l a).1 with
  | none => (Msg.none, 3, a)
  | some tm => afterTime f s tm l (part l a).2
theorem afterTime_err {f s : Int} {tm l : List UInt8} {nx : Nat} {e : Nat × Nat} (h : (wordsFrom l kinds nx).1 = some e) : afterTime f s tm l nx = (Msg.none, e.1, e.2) := by unfold afterTime; rw [h]
theorem afterTime_ok {f s : Int} {tm l : List UInt8} {nx : Nat} (h : (wordsFrom l kinds nx).1 = none) : afterTime f s tm l nx = dataText ⟨f, s, tm, (wordsFrom l kinds nx).2.1.getD 0 [], (wordsFrom l kinds nx).2.1.getD 1 [], (wordsFrom l kinds nx).2.1.getD 2 [], (wordsFrom l kinds nx).2.1.getD 3 [], [], []⟩ l (wordsFrom l kinds nx).2.2 := by unfold afterTime; rw [h]
theorem readNew_none {f s : Int} {l p : List UInt8} {a n : Nat} (h : part l a = (p, n)) (ht : timeOf p = none) : readNew f s l a = (Msg.none, 3, a) := by unfold readNew; rw [h]; simp only []; rw [ht]
theorem readNew_some {f s : Int} {l p tm : List UInt8} {a n : Nat} (h : part l a = (p, n)) (ht : timeOf p = some tm) : readNew f s l a = afterTime f s tm l n := by unfold readNew; rw [h]; simp only []; rw [ht]
def read (l : List UInt8) (y : Int) : Msg × Nat × Nat :=
  if 200 < l.length then (Msg.none, 1, 0) else
  if isYear y = false then (Msg.none, 10, 0) else
  if 0 < (source l).2 ∧ Lib.hasPrefix (l.drop (source l).2) [49, 32] = true then readNew ((source l).1 / 8) ((source l).1 % 8) l ((source l).2 + 2) else
  if plain (l.drop (source l).2) = false then (Msg.none, 9, (source l).2) else
  (readOld (Msg.of ((source l).1 / 8) ((source l).1 % 8)) (l.drop (source l).2) y.toNat, 0, 0)
theorem part_le (l : List UInt8) (a : Nat) (h : a ≤ l.length) : (part l a).2 ≤ l.length ∧ (part l a).1.length ≤ l.length := by
  unfold part
  rw [cut_eq]
  cases hb : (cutB 32 (l.drop a)).2.2
  · have := cutB_none 32 _ hb
    rw [this]
    simp only [List.length_drop]
    simp
    omega
  · have := congrArg List.length (cutB_some 32 _ hb)
    simp only [List.length_drop, List.length_append, List.length_cons] at this
    simp only [if_true]
    omega
def WInv (l : List UInt8) (n0 : Nat) (ws : List (List UInt8)) (n : Nat) : Prop :=
  (wordsFrom l kinds n0).1 = (wordsFrom l (kinds.drop ws.length) n).1 ∧
  ((wordsFrom l (kinds.drop ws.length) n).1 = none → (wordsFrom l kinds n0).2 = (ws ++ (wordsFrom l (kinds.drop ws.length) n).2.1, (wordsFrom l (kinds.drop ws.length) n).2.2))
theorem WInv_start (l : List UInt8) (n0 : Nat) : WInv l n0 [] n0 := ⟨rfl, fun _ => rfl⟩
theorem kinds_drop {k : Nat} (h : k < 4) : kinds.drop k = kinds.getD k (0, 0) :: kinds.drop (k + 1) := by
  rcases (by omega : k = 0 ∨ k = 1 ∨ k = 2 ∨ k = 3) with h | h | h | h <;> subst h <;> rfl
theorem WInv_dash {l : List UInt8} {n0 n n2 : Nat} {ws : List (List UInt8)} (hk : ws.length < 4) (hp : part l n = ([45], n2)) (h : WInv l n0 ws n) : WInv l n0 (ws ++ [[]]) n2 := by
  obtain ⟨h1, h2⟩ := h
  rw [kinds_drop hk, wordsFrom, hp, if_pos rfl] at h1 h2
  dsimp only at h1 h2
  rw [WInv, List.length_append]
  refine ⟨h1, fun hn => ?_⟩
  rw [h2 hn, List.append_assoc]
  rfl
theorem WInv_word {l p : List UInt8} {n0 n n2 : Nat} {ws : List (List UInt8)} (hk : ws.length < 4) (hp : part l n = (p, n2)) (hd : ¬ p = [45]) (hw : word p (kinds.getD ws.length (0, 0)).1 = true) (h : WInv l n0 ws n) : WInv l n0 (ws ++ [p]) n2 := by
  obtain ⟨h1, h2⟩ := h
  rw [kinds_drop hk, wordsFrom, hp, if_neg hd, if_neg (fun h => by rw [hw] at h; cases h)] at h1 h2
  dsimp only at h1 h2
  rw [WInv, List.length_append]
  refine ⟨h1, fun hn => ?_⟩
  rw [h2 hn, List.append_assoc]
  rfl
theorem WInv_bad {l p : List UInt8} {n0 n n2 : Nat} {ws : List (List UInt8)} (hk : ws.length < 4) (hp : part l n = (p, n2)) (hd : ¬ p = [45]) (hw : word p (kinds.getD ws.length (0, 0)).1 = false) (h : WInv l n0 ws n) :
    (wordsFrom l kinds n0).1 = some ((kinds.getD ws.length (0, 0)).2, n) := by
  obtain ⟨h1, _⟩ := h
  rw [kinds_drop hk, wordsFrom, hp, if_neg hd, if_pos hw] at h1
  exact h1
theorem WInv_end {l : List UInt8} {n0 n : Nat} {ws : List (List UInt8)} (hk : ws.length = 4) (h : WInv l n0 ws n) : (wordsFrom l kinds n0).1 = none ∧ (wordsFrom l kinds n0).2 = (ws, n) := by
  obtain ⟨h1, h2⟩ := h
  rw [hk, show kinds.drop 4 = [] from rfl, wordsFrom] at h1 h2
  exact ⟨h1, by rw [h2 rfl, List.append_nil]⟩
end Go.Hm
namespace Go.Hm
theorem source_le (l : List UInt8) : (source l).1 ≤ 191 ∧ (source l).2 ≤ l.length := by
  unfold source
  split
  · exact ⟨by omega, Nat.zero_le _⟩
  · split
    · exact ⟨by omega, Nat.zero_le _⟩
    · next h2 =>
      split
      · exact ⟨by omega, Nat.zero_le _⟩
      · next h3 =>
        refine ⟨by omega, ?_⟩
        have hp : Lib.hasPrefix (l.drop (1 + ahead dig 3 (l.drop 1))) [62] = true := by
          cases h : Lib.hasPrefix (l.drop (1 + ahead dig 3 (l.drop 1))) [62]
          · exact absurd (.inr h) h2
          · rfl
        have := prefix_len hp
        simp only [List.length_drop, List.length_cons, List.length_nil] at this
        show 1 + ahead dig 3 (l.drop 1) + 1 ≤ _
        omega
theorem prefix_le (l : List UInt8) (a : Nat) (h : Lib.hasPrefix (l.drop a) [49, 32] = true) : a + 2 ≤ l.length := by
  have := prefix_len h
  simp only [List.length_drop, List.length_cons, List.length_nil] at this
  omega
end Go.Hm
namespace Go.Hm
structure Frs where
  bound : Nat
  stage : Nat
  head : Nat
  number : Nat
  own : List UInt8
def Frs.fresh (b : Nat) : Frs := ⟨b, 0, 0, 0, []⟩
def Frs.endBad (f : Frs) (c : UInt8) : Frs × List UInt8 := (⟨f.bound, if c = 10 then 0 else 4, 0, 0, []⟩, [33])
def Frs.endFrame (f : Frs) : Frs × List UInt8 := (Frs.fresh f.bound, 61 :: f.own)
def Frs.takeNumber (f : Frs) (c : UInt8) : Frs × List UInt8 :=
  if dig c = true then
    if f.bound < 10 * f.number + (c.toNat - 48) then f.endBad c else (⟨f.bound, f.stage, f.head + 1, 10 * f.number + (c.toNat - 48), f.own⟩, [])
  else if c = 32 then (⟨f.bound, 2, f.head + 1, f.number, f.own⟩, [])
  else f.endBad c
def Frs.takeCounted (f : Frs) (c : UInt8) : Frs × List UInt8 :=
  if f.own.length + 1 < f.number then (⟨f.bound, f.stage, f.head, f.number, f.own ++ [c]⟩, []) else (Frs.fresh f.bound, 61 :: (f.own ++ [c]))
def Frs.takeLine (f : Frs) (c : UInt8) : Frs × List UInt8 :=
  if c = 10 then if f.own = [] then (⟨f.bound, 0, f.head, f.number, f.own⟩, []) else f.endFrame
  else if f.own.length = f.bound then f.endBad c else (⟨f.bound, f.stage, f.head, f.number, f.own ++ [c]⟩, [])
def Frs.begun (f : Frs) (c : UInt8) : Frs := if f.stage = 0 then ⟨f.bound, if dig c = true ∧ c ≠ 48 then 1 else 3, f.head, f.number, f.own⟩ else f
def Frs.goes (f : Frs) (c : UInt8) : Frs × List UInt8 :=
  if f.stage = 1 then f.takeNumber c else if f.stage = 2 then f.takeCounted c else if f.stage = 3 then f.takeLine c
  else (⟨f.bound, if c = 10 then 0 else f.stage, f.head, f.number, f.own⟩, [])
def Frs.take (f : Frs) (c : UInt8) : Frs × List UInt8 := (f.begun c).goes c
def Frs.feed : Frs → List UInt8 → Frs × List (List UInt8)
  | f, [] => (f, [])
  | f, c :: t => (((f.take c).1.feed t).1, if (f.take c).2 = [] then ((f.take c).1.feed t).2 else (f.take c).2 :: ((f.take c).1.feed t).2)
structure Frs.Ok (f : Frs) : Prop where
  b1 : 1 ≤ f.bound
  b2 : f.bound ≤ 200
  st : (f.stage = 0 ∧ f.head = 0 ∧ f.number = 0 ∧ f.own = []) ∨ (f.stage = 1 ∧ f.own = [] ∧ 1 ≤ f.head ∧ 10 ^ (f.head - 1) ≤ f.number ∧ f.number ≤ f.bound) ∨
    (f.stage = 2 ∧ 2 ≤ f.head ∧ 10 ^ (f.head - 2) ≤ f.number ∧ f.number ≤ f.bound ∧ f.own.length < f.number) ∨
    (f.stage = 3 ∧ f.head = 0 ∧ f.number = 0 ∧ 1 ≤ f.own.length ∧ f.own.length ≤ f.bound) ∨ (f.stage = 4 ∧ f.head = 0 ∧ f.number = 0 ∧ f.own = [])
theorem Frs.fresh_ok {b : Nat} (h1 : 1 ≤ b) (h2 : b ≤ 200) : (Frs.fresh b).Ok := ⟨h1, h2, .inl ⟨rfl, rfl, rfl, rfl⟩⟩
theorem Frs.endBad_ok {f : Frs} (h1 : 1 ≤ f.bound) (h2 : f.bound ≤ 200) (c : UInt8) : (f.endBad c).1.Ok := by
  refine ⟨h1, h2, ?_⟩
  by_cases h : c = 10
  · left; simp [Frs.endBad, h]
  · right; right; right; right; simp [Frs.endBad, h]
theorem pow_small {k n : Nat} (h : 10 ^ k ≤ n) (hn : n ≤ 200) : k ≤ 2 := by
  by_cases hk : k ≤ 2
  · exact hk
  · have : 10 ^ 3 ≤ 10 ^ k := Nat.pow_le_pow_right (by decide) (by omega)
    omega
theorem Frs.Ok.head {f : Frs} (h : f.Ok) : f.head ≤ 4 ∧ f.stage ≤ 4 ∧ f.number ≤ f.bound ∧ f.own.length ≤ f.bound ∧ f.head + f.own.length ≤ f.bound + 4 := by
  obtain ⟨b1, b2, h⟩ := h
  rcases h with ⟨h1, h2, h3, h4⟩ | ⟨h1, h2, h3, h4, h5⟩ | ⟨h1, h2, h3, h4, h5⟩ | ⟨h1, h2, h3, h4, h5⟩ | ⟨h1, h2, h3, h4⟩
  · simp [h1, h2, h3, h4]
  · have := pow_small h4 (by omega); simp [h1, h2]; omega
  · have := pow_small h3 (by omega); omega
  · omega
  · simp [h1, h2, h3, h4]
theorem dig_iff (c : UInt8) : dig c = true ↔ 48 ≤ c.toNat ∧ c.toNat ≤ 57 := by simp [dig]
theorem Frs.takeNumber_ok {f : Frs} {c : UInt8} (b1 : 1 ≤ f.bound) (b2 : f.bound ≤ 200) (hs : f.stage = 1) (ho : f.own = [])
    (h : (f.head = 0 ∧ f.number = 0 ∧ dig c = true ∧ c ≠ 48) ∨ (1 ≤ f.head ∧ 10 ^ (f.head - 1) ≤ f.number ∧ f.number ≤ f.bound)) : (f.takeNumber c).1.Ok := by
  unfold Frs.takeNumber
  split
  · next hd =>
    split
    · exact endBad_ok b1 b2 c
    · next hle =>
      refine ⟨b1, b2, .inr (.inl ⟨hs, ho, by simp, ?_, by simp; omega⟩)⟩
      rcases h with ⟨h1, h2, h3, h4⟩ | ⟨h1, h2, h3⟩
      · simp only [h1, h2]
        have h5 := (dig_iff c).1 hd
        have h6 : c.toNat ≠ 48 := fun e => h4 (UInt8.toNat_inj.1 (by simpa using e))
        simp; omega
      · simp only [Nat.add_sub_cancel]
        obtain ⟨k, hk⟩ : ∃ k, f.head = k + 1 := ⟨f.head - 1, by omega⟩
        rw [hk] at h2 ⊢
        rw [Nat.add_sub_cancel] at h2
        rw [Nat.pow_succ]
        omega
  · next hd =>
    split
    · refine ⟨b1, b2, .inr (.inr (.inl ⟨rfl, ?_⟩))⟩
      rcases h with ⟨h1, h2, h3, h4⟩ | ⟨h1, h2, h3⟩
      · exact absurd h3 hd
      · have h4 : 0 < 10 ^ (f.head - 1) := Nat.pow_pos (by decide)
        refine ⟨by simp; omega, by simpa using h2, h3, by simp [ho]; omega⟩
    · exact endBad_ok b1 b2 c
theorem Frs.take_ok {f : Frs} (h : f.Ok) (c : UInt8) : (f.take c).1.Ok := by
  obtain ⟨b1, b2, h⟩ := h
  unfold Frs.take
  rcases h with ⟨h1, h2, h3, h4⟩ | ⟨h1, h2, h3, h4, h5⟩ | ⟨h1, h2, h3, h4, h5⟩ | ⟨h1, h2, h3, h4, h5⟩ | ⟨h1, h2, h3, h4⟩
  · unfold Frs.begun
    rw [if_pos h1]
    by_cases hd : dig c = true ∧ c ≠ 48
    · rw [if_pos hd]
      unfold Frs.goes
      rw [if_pos rfl]
      exact takeNumber_ok b1 b2 rfl h4 (.inl ⟨h2, h3, hd⟩)
    · rw [if_neg hd]
      unfold Frs.goes
      rw [if_neg (by simp), if_neg (by simp), if_pos rfl]
      unfold Frs.takeLine
      by_cases hc : c = 10
      · rw [if_pos hc, if_pos h4]; exact ⟨b1, b2, .inl ⟨rfl, h2, h3, h4⟩⟩
      · rw [if_neg hc, if_neg (by simp [h4]; omega)]
        exact ⟨b1, b2, .inr (.inr (.inr (.inl ⟨rfl, h2, h3, by simp, by simp [h4]; omega⟩)))⟩
  · unfold Frs.begun
    rw [if_neg (by omega)]
    unfold Frs.goes
    rw [if_pos h1]
    exact takeNumber_ok b1 b2 h1 h2 (.inr ⟨h3, h4, h5⟩)
  · unfold Frs.begun
    rw [if_neg (by omega)]
    unfold Frs.goes
    rw [if_neg (by omega), if_pos h1]
    unfold Frs.takeCounted
    split
    · exact ⟨b1, b2, .inr (.inr (.inl ⟨h1, h2, h3, h4, by simp; omega⟩))⟩
    · exact fresh_ok b1 b2
  · unfold Frs.begun
    rw [if_neg (by omega)]
    unfold Frs.goes
    rw [if_neg (by omega), if_neg (by omega), if_pos h1]
    unfold Frs.takeLine
    split
    · split
      · next he => simp [he] at h4
      · exact fresh_ok b1 b2
    · split
      · exact endBad_ok b1 b2 c
      · exact ⟨b1, b2, .inr (.inr (.inr (.inl ⟨h1, h2, h3, by simp, by simp; omega⟩)))⟩
  · unfold Frs.begun
    rw [if_neg (by omega)]
    unfold Frs.goes
    rw [if_neg (by omega), if_neg (by omega), if_neg (by omega)]
    refine ⟨b1, b2, ?_⟩
    by_cases hc : c = 10
    · left; simp [hc, h2, h3, h4]
    · right; right; right; right; simp [hc, h1, h2, h3, h4]
theorem Frs.feed_ok (l : List UInt8) : ∀ {f : Frs}, f.Ok → (f.feed l).1.Ok := by
  induction l with
  | nil => intro f h; exact h
  | cons c t ih => intro f h; exact ih (f.take_ok h c)
theorem Frs.take_bound (f : Frs) (c : UInt8) : (f.take c).1.bound = f.bound := by
  have hb : (f.begun c).bound = f.bound := by unfold Frs.begun; split <;> rfl
  unfold Frs.take
  rw [← hb]
  generalize f.begun c = f
  unfold Frs.goes Frs.takeNumber Frs.takeCounted Frs.takeLine
  repeat' split
  all_goals rfl
theorem Frs.feed_bound (l : List UInt8) : ∀ f : Frs, (f.feed l).1.bound = f.bound := by
  induction l with
  | nil => intro f; rfl
  | cons c t ih => intro f; exact (ih _).trans (f.take_bound c)
theorem Frs.feed_append (a b : List UInt8) : ∀ f : Frs, f.feed (a ++ b) = (((f.feed a).1.feed b).1, (f.feed a).2 ++ ((f.feed a).1.feed b).2) := by
  induction a with
  | nil => intro f; rfl
  | cons c t ih =>
    intro f
    rw [List.cons_append]
    simp only [Frs.feed, ih]
    split <;> simp
end Go.Hm
namespace Go.Hm
theorem Frs.feed_cons (f : Frs) (c : UInt8) (t : List UInt8) : f.feed (c :: t) = (((f.take c).1.feed t).1, if (f.take c).2 = [] then ((f.take c).1.feed t).2 else (f.take c).2 :: ((f.take c).1.feed t).2) := rfl
theorem take_digit {b h n : Nat} {c : UInt8} (hd : dig c = true) (hle : 10 * n + (c.toNat - 48) ≤ b) : (Frs.mk b 1 h n []).take c = (Frs.mk b 1 (h + 1) (10 * n + (c.toNat - 48)) [], []) := by
  unfold Frs.take Frs.begun
  rw [if_neg (by simp)]
  unfold Frs.goes
  rw [if_pos rfl]
  unfold Frs.takeNumber
  rw [if_pos hd, if_neg (by simp; omega)]
theorem take_first {b : Nat} {c : UInt8} (hd : dig c = true) (h0 : c ≠ 48) (hle : c.toNat - 48 ≤ b) : (Frs.fresh b).take c = (Frs.mk b 1 1 (c.toNat - 48) [], []) := by
  unfold Frs.take Frs.begun
  rw [if_pos (show (Frs.fresh b).stage = 0 from rfl), if_pos ⟨hd, h0⟩]
  unfold Frs.goes
  rw [if_pos rfl]
  unfold Frs.takeNumber
  rw [if_pos hd, if_neg (by simp [Frs.fresh]; omega)]
  simp [Frs.fresh]
theorem take_blank {b h n : Nat} : (Frs.mk b 1 h n []).take 32 = (Frs.mk b 2 (h + 1) n [], []) := by
  unfold Frs.take Frs.begun
  rw [if_neg (by simp)]
  unfold Frs.goes
  rw [if_pos rfl]
  unfold Frs.takeNumber
  rw [if_neg (by decide), if_pos rfl]
theorem dec_mono (ds : List UInt8) (n : Nat) : n ≤ ds.foldl (fun n c => 10 * n + (c.toNat - 48)) n := by
  induction ds generalizing n with
  | nil => exact Nat.le_refl _
  | cons c t ih => exact Nat.le_trans (by omega) (ih (10 * n + (c.toNat - 48)))
theorem feed_digits {b : Nat} : ∀ (ds : List UInt8) (h n : Nat), (∀ c ∈ ds, dig c = true) → ds.foldl (fun n c => 10 * n + (c.toNat - 48)) n ≤ b →
    (Frs.mk b 1 h n []).feed ds = (Frs.mk b 1 (h + ds.length) (ds.foldl (fun n c => 10 * n + (c.toNat - 48)) n) [], [])
  | [], h, n, _, _ => rfl
  | c :: t, h, n, hd, hle => by
    have h1 := dec_mono t (10 * n + (c.toNat - 48))
    rw [List.foldl_cons] at hle
    rw [Frs.feed_cons, take_digit (hd c (by simp)) (by omega)]
    rw [feed_digits t (h + 1) _ (fun c hc => hd c (by simp [hc])) hle]
    simp
    omega
theorem feed_body {b h n : Nat} : ∀ (t o : List UInt8), t ≠ [] → o.length + t.length = n → (Frs.mk b 2 h n o).feed t = (Frs.fresh b, [61 :: (o ++ t)])
  | [], _, h0, _ => absurd rfl h0
  | c :: t, o, _, hl => by
    have e : (Frs.mk b 2 h n o).take c = if o.length + 1 < n then (Frs.mk b 2 h n (o ++ [c]), []) else (Frs.fresh b, 61 :: (o ++ [c])) := by
      unfold Frs.take Frs.begun
      rw [if_neg (by simp)]
      unfold Frs.goes
      rw [if_neg (by simp), if_pos rfl]
      rfl
    rw [List.length_cons] at hl
    rw [Frs.feed_cons, e]
    cases t with
    | nil => rw [if_neg (by simp at hl; omega)]; simp [Frs.feed]
    | cons d t =>
      rw [if_pos (by simp at hl; omega)]
      dsimp only
      rw [feed_body (d :: t) (o ++ [c]) (by simp) (by simp at hl ⊢; omega)]
      simp
theorem feed_counted {b : Nat} (ds t : List UInt8) (c : UInt8) (hd : ∀ c ∈ ds, dig c = true) (hc : dig c = true) (h0 : c ≠ 48) (hv : dec (c :: ds) = t.length) (h1 : t ≠ []) (h2 : t.length ≤ b) :
    (Frs.fresh b).feed (c :: ds ++ 32 :: t) = (Frs.fresh b, [61 :: t]) := by
  have hv' : ds.foldl (fun n c => 10 * n + (c.toNat - 48)) (c.toNat - 48) = t.length := by
    rw [← hv]; simp [dec]
  have hm := dec_mono ds (c.toNat - 48)
  rw [List.cons_append, Frs.feed_cons, take_first hc h0 (by omega)]
  dsimp only
  rw [Frs.feed_append, feed_digits ds 1 _ hd (by omega), hv']
  dsimp only
  rw [Frs.feed_cons, take_blank]
  dsimp only
  rw [feed_body t [] h1 (by simp)]
  simp
theorem take_line {b : Nat} {o : List UInt8} {c : UInt8} (hc : c ≠ 10) (hl : o.length < b) : (Frs.mk b 3 0 0 o).take c = (Frs.mk b 3 0 0 (o ++ [c]), []) := by
  unfold Frs.take Frs.begun
  rw [if_neg (by simp)]
  unfold Frs.goes
  rw [if_neg (by simp), if_neg (by simp), if_pos rfl]
  unfold Frs.takeLine
  rw [if_neg hc, if_neg (by simp; omega)]
theorem take_end {b : Nat} {o : List UInt8} (ho : o ≠ []) : (Frs.mk b 3 0 0 o).take 10 = (Frs.fresh b, 61 :: o) := by
  unfold Frs.take Frs.begun
  rw [if_neg (by simp)]
  unfold Frs.goes
  rw [if_neg (by simp), if_neg (by simp), if_pos rfl]
  unfold Frs.takeLine
  rw [if_pos rfl, if_neg ho]
  rfl
theorem feed_rest {b : Nat} : ∀ (t o : List UInt8), o ≠ [] → (∀ c ∈ t, c ≠ 10) → o.length + t.length ≤ b → (Frs.mk b 3 0 0 o).feed (t ++ [10]) = (Frs.fresh b, [61 :: (o ++ t)])
  | [], o, h0, _, _ => by rw [List.nil_append, Frs.feed_cons, take_end h0]; simp [Frs.feed]
  | c :: t, o, h0, hn, hl => by
    rw [List.length_cons] at hl
    rw [List.cons_append, Frs.feed_cons, take_line (hn c (by simp)) (by omega)]
    dsimp only
    rw [feed_rest t (o ++ [c]) (by simp) (fun c hc => hn c (by simp [hc])) (by simp; omega)]
    simp
theorem feed_lined {b : Nat} (c : UInt8) (t : List UInt8) (h0 : ¬ (dig c = true ∧ c ≠ 48)) (hn : ∀ x ∈ c :: t, x ≠ 10) (hl : (c :: t).length ≤ b) : (Frs.fresh b).feed (c :: t ++ [10]) = (Frs.fresh b, [61 :: c :: t]) := by
  rw [List.length_cons] at hl
  have e : (Frs.fresh b).take c = (Frs.mk b 3 0 0 [c], []) := by
    unfold Frs.take Frs.begun
    rw [if_pos (show (Frs.fresh b).stage = 0 from rfl), if_neg h0]
    unfold Frs.goes
    rw [if_neg (by simp), if_neg (by simp), if_pos rfl]
    unfold Frs.takeLine
    rw [if_neg (hn c (by simp)), if_neg (by simp [Frs.fresh]; omega)]
    rfl
  rw [List.cons_append, Frs.feed_cons, e]
  dsimp only
  rw [feed_rest t [c] (by simp) (fun x hx => hn x (by simp [hx])) (by simp; omega)]
  simp
def Toldable (b : Nat) (x : List UInt8) : Prop := x = [33] ∨ ∃ o : List UInt8, x = 61 :: o ∧ o.length ≤ b
theorem take_told {f : Frs} (h : f.Ok) (c : UInt8) : (f.take c).2 = [] ∨ Toldable f.bound (f.take c).2 := by
  have hb : (f.begun c).bound = f.bound ∧ (f.begun c).own = f.own ∧ (f.begun c).number = f.number ∧ ((f.begun c).stage = 2 → f.stage = 2) := by
    unfold Frs.begun
    split
    · refine ⟨rfl, rfl, rfl, fun e => ?_⟩
      dsimp only at e
      split at e <;> cases e
    · exact ⟨rfl, rfl, rfl, fun e => e⟩
  obtain ⟨h1, h2, h3, h4⟩ := hb
  have hh := h.head
  have hs : f.stage = 2 → f.own.length < f.number := by
    intro e
    obtain ⟨_, _, h⟩ := h
    rcases h with h | h | h | h | h <;> omega
  unfold Frs.take
  rw [← h1] at hh ⊢
  rw [← h2, ← h3] at hh hs
  generalize f.begun c = g at hh hs h4 ⊢
  unfold Frs.goes
  split
  · unfold Frs.takeNumber
    repeat' split
    all_goals first | exact .inl rfl | exact .inr (.inl rfl)
  · split
    · next e =>
      unfold Frs.takeCounted
      split
      · exact .inl rfl
      · exact .inr (.inr ⟨_, rfl, by have := hs (h4 e); simp; omega⟩)
    · split
      · unfold Frs.takeLine
        repeat' split
        all_goals first | exact .inl rfl | exact .inr (.inl rfl) | exact .inr (.inr ⟨_, rfl, by omega⟩)
      · exact .inl rfl
theorem feed_told (l : List UInt8) : ∀ {f : Frs}, f.Ok → ∀ x ∈ (f.feed l).2, Toldable f.bound x := by
  induction l with
  | nil => intro f _ x hx; simp [Frs.feed] at hx
  | cons c t ih =>
    intro f h x hx
    have hi := ih (Frs.take_ok h c)
    rw [Frs.take_bound] at hi
    rw [Frs.feed_cons] at hx
    dsimp only at hx
    rcases take_told h c with e | e
    · rw [if_pos e] at hx; exact hi x hx
    · split at hx
      · exact hi x hx
      · rcases List.mem_cons.1 hx with rfl | hx
        · exact e
        · exact hi x hx
end Go.Hm

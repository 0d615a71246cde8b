/- Mathematics: lines written, logs. -/
import Derived.Test.YtdlhbmncbmconaaGreatDoorMx
import Derived.Lib.Join
namespace Go.Hm
def wordsFault : List (Nat × Nat) → List (List UInt8) → Option Nat
  | k :: ks, x :: xs => if ¬ x = [] ∧ word x k.1 = false then some k.2 else wordsFault ks xs
  | _, _ => none
def fault (m : Msg) : Nat :=
  if isSource m.fac m.sev = false then 2 else
  if ¬ m.time = [] ∧ isTime m.time = false then 3 else
  match wordsFault kinds [m.host, m.app, m.proc, m.id] with
  | some e => e
  | none =>
    if ¬ m.data = [] ∧ isData m.data = false then 8 else
    if plain m.text = false then 9 else 0
def faultRest (h ap p i d x : List UInt8) : Nat :=
  match wordsFault kinds [h, ap, p, i] with
  | some e => e
  | none =>
    if ¬ d = [] ∧ isData d = false then 8 else
    if plain x = false then 9 else 0
theorem faultRest_some {h ap p i d x : List UInt8} {e : Nat} (hw : wordsFault kinds [h, ap, p, i] = some e) : faultRest h ap p i d x = e := by unfold faultRest; rw [hw]
theorem faultRest_none {h ap p i d x : List UInt8} (hw : wordsFault kinds [h, ap, p, i] = none) : faultRest h ap p i d x = if ¬ d = [] ∧ isData d = false then 8 else if plain x = false then 9 else 0 := by unfold faultRest; rw [hw]
def told (x : List UInt8) : List UInt8 := if x = [] then [45] else x
def partsOf (m : Msg) : List (List UInt8) :=
  (60 :: Lib.decDigits (8 * m.fac + m.sev).toNat ++ [62, 49]) :: ([m.time, m.host, m.app, m.proc, m.id, m.data].map told ++ if m.text = [] then [] else [m.text])
def joinedLen (l : List (List UInt8)) : Int := (l.map (fun x : List UInt8 => (x.length : Int))).sum + l.length - 1
def line (m : Msg) : List UInt8 × Nat :=
  if ¬ fault m = 0 then ([], fault m) else
  if 200 < joinedLen (partsOf m) then ([], 1) else (Lib.join (partsOf m) [32], 0)
theorem wordsFault_step {k : Nat} {ws : List (List UInt8)} (hk : k < 4) (hl : ws.length = 4) :
    wordsFault (kinds.drop k) (ws.drop k) = if ¬ ws.getD k [] = [] ∧ word (ws.getD k []) (kinds.getD k (0, 0)).1 = false then some (kinds.getD k (0, 0)).2 else wordsFault (kinds.drop (k + 1)) (ws.drop (k + 1)) := by
  match ws, hl with
  | [a, b, c, d], _ =>
    rcases (by omega : k = 0 ∨ k = 1 ∨ k = 2 ∨ k = 3) with h | h | h | h <;> subst h <;> rfl
end Go.Hm
namespace Go.Hm
theorem join_cons2 (a b : List UInt8) (l : List (List UInt8)) : Lib.join (a :: b :: l) [32] = a ++ 32 :: Lib.join (b :: l) [32] := by
  simp [Lib.join, List.intercalate, List.intersperse]
theorem join_length (a : List UInt8) (l : List (List UInt8)) : ((Lib.join (a :: l) [32]).length : Int) = joinedLen (a :: l) := by
  induction l generalizing a with
  | nil => simp [Lib.join, List.intercalate, List.intersperse, joinedLen]
  | cons b l ih =>
    have := ih b
    rw [join_cons2]
    simp only [joinedLen, List.map_cons, List.sum_cons, List.length_cons, List.length_append] at this ⊢
    omega
theorem fault_source {m : Msg} (h : fault m = 0) : 0 ≤ m.fac ∧ m.fac < 24 ∧ 0 ≤ m.sev ∧ m.sev < 8 := by
  unfold fault at h
  split at h
  · omega
  · next h1 =>
    have h2 : isSource m.fac m.sev = true := by cases h3 : isSource m.fac m.sev; exact absurd h3 h1; rfl
    unfold isSource at h2
    simp only [Bool.and_eq_true, decide_eq_true_eq] at h2
    omega
theorem wordsFault_lt (l : List (Nat × Nat)) (hl : ∀ k ∈ l, k.2 < 100) (ws : List (List UInt8)) (e : Nat) (h : wordsFault l ws = some e) : e < 100 := by
  induction l generalizing ws with
  | nil => cases ws <;> cases h
  | cons k ks ih =>
    cases ws with
    | nil => cases h
    | cons x xs =>
      unfold wordsFault at h
      split at h
      · cases h; exact hl k List.mem_cons_self
      · exact ih (fun k hk => hl k (List.mem_cons_of_mem _ hk)) xs h
theorem fault_lt (m : Msg) : fault m < 100 := by
  unfold fault
  split
  · omega
  · split
    · omega
    · split
      · next e he => exact wordsFault_lt kinds (by decide) _ e he
      · split
        · omega
        · split <;> omega
end Go.Hm
namespace Go.Hm
def sums : Nat → Nat → List UInt8 → Nat × Nat
  | a, b, [] => (a, b)
  | a, b, c :: t => sums ((a + c.toNat) % 251) ((b + (a + c.toNat) % 251) % 251) t
def check (l : List UInt8) : List UInt8 := [UInt8.ofNat (sums 1 0 l).1, UInt8.ofNat (sums 1 0 l).2]
def twoB (n : Nat) : List UInt8 := [UInt8.ofNat (n / 256), UInt8.ofNat n]
def numB (l : List UInt8) : Nat := 256 * (l.getD 0 0).toNat + (l.getD 1 0).toNat
def aheadRec (k : UInt8) (bs : List UInt8) : List UInt8 := k :: (twoB bs.length ++ bs)
def writeRec (k : UInt8) (bs : List UInt8) : List UInt8 := aheadRec k bs ++ check (aheadRec k bs)
def readRec (l : List UInt8) : Option (UInt8 × List UInt8 × Nat) :=
  if l.length < 3 then none else
  if l.length < 3 + numB (l.drop 1) + 2 then none else
  if (l.drop (3 + numB (l.drop 1))).take 2 ≠ check (l.take (3 + numB (l.drop 1))) then none else
  some (l.getD 0 0, (l.drop 3).take (numB (l.drop 1)), 3 + numB (l.drop 1) + 2)
def recsF : Nat → List UInt8 → List (UInt8 × List UInt8)
  | 0, _ => []
  | k + 1, l => match readRec l with
    | none => []
    | some (x, bs, n) => (x, bs) :: recsF k (l.drop n)
def recs (l : List UInt8) : List (UInt8 × List UInt8) := recsF (l.length + 1) l
structure Lg where
  room : Nat
  records : List UInt8
  had : Nat
  waiting : List (List UInt8)
def Lg.fresh (room : Nat) : Lg := ⟨room, [], 0, []⟩
def Lg.messages (g : Lg) : Nat := g.had + g.waiting.length
def Lg.add (g : Lg) (l : List UInt8) : Lg := ⟨g.room, g.records ++ writeRec 80 l, g.had, g.waiting ++ [l]⟩
def Lg.ackTo (g : Lg) (n : Nat) : Lg := ⟨g.room, g.records ++ writeRec 65 (twoB n), n, g.waiting.drop (n - g.had)⟩
def Lg.ack (g : Lg) (n : Int) : Lg × Nat := if n ≤ g.had ∨ (g.messages : Int) < n then (g, 10) else (g.ackTo n.toNat, 0)
def Lg.put (g : Lg) (m : Msg) : Lg × Nat × Nat :=
  if ¬ (line m).2 = 0 then (g, 0, (line m).2) else
  if g.room ≤ g.waiting.length ∨ 65535 ≤ g.messages then (g, 0, 12) else (g.add (line m).1, g.messages + 1, 0)
def again (l : List UInt8) : Bool := decide ((read l 1).2.1 = 0) && decide (line (read l 1).1 = (l, 0))
def Lg.back (g : Lg) (r : UInt8 × List UInt8) : Lg × Bool :=
  if r.1 = 80 then if again r.2 = true ∧ g.messages < 65535 then (g.add r.2, true) else (g, false) else
  if r.1 = 65 then if r.2.length = 2 ∧ (g.ack (numB r.2)).2 = 0 then ((g.ack (numB r.2)).1, true) else (g, false) else (g, false)
def Lg.backs : Lg → List (UInt8 × List UInt8) → Lg
  | g, [] => g
  | g, r :: rs => if (g.back r).2 = true then (g.back r).1.backs rs else g
def opens (l : List UInt8) (room : Nat) : Lg := (Lg.fresh room).backs (recs l)
theorem sums_lt (l : List UInt8) : ∀ a b, a < 251 → b < 251 → (sums a b l).1 < 251 ∧ (sums a b l).2 < 251 := by
  induction l with
  | nil => intro a b h1 h2; exact ⟨h1, h2⟩
  | cons c t ih => intro a b _ _; exact ih _ _ (Nat.mod_lt _ (by decide)) (Nat.mod_lt _ (by decide))
theorem check_length (l : List UInt8) : (check l).length = 2 := rfl
theorem twoB_length (n : Nat) : (twoB n).length = 2 := rfl
theorem numB_two {n : Nat} (h : n < 65536) (t : List UInt8) : numB (twoB n ++ t) = n := by
  simp [numB, twoB]
  omega
theorem aheadRec_length (k : UInt8) (bs : List UInt8) : (aheadRec k bs).length = bs.length + 3 := by simp [aheadRec, twoB]
theorem writeRec_length (k : UInt8) (bs : List UInt8) : (writeRec k bs).length = bs.length + 5 := by simp [writeRec, aheadRec_length, check_length]
theorem readRec_write {k : UInt8} {bs : List UInt8} (h : bs.length < 65536) (t : List UInt8) : readRec (writeRec k bs ++ t) = some (k, bs, bs.length + 5) := by
  have hn : numB ((writeRec k bs ++ t).drop 1) = bs.length := by
    unfold writeRec aheadRec
    rw [show ((k :: (twoB bs.length ++ bs) ++ check (k :: (twoB bs.length ++ bs)) ++ t).drop 1) = twoB bs.length ++ (bs ++ check (k :: (twoB bs.length ++ bs)) ++ t) by simp]
    exact numB_two h _
  have hl : (writeRec k bs ++ t).length = bs.length + 5 + t.length := by rw [List.length_append, writeRec_length]
  have ht : (writeRec k bs ++ t).take (3 + bs.length) = aheadRec k bs := by
    unfold writeRec
    rw [List.append_assoc, List.take_append_of_le_length (by rw [aheadRec_length]; omega), List.take_of_length_le (by rw [aheadRec_length]; omega)]
  have hd : (writeRec k bs ++ t).drop (3 + bs.length) = check (aheadRec k bs) ++ t := by
    unfold writeRec
    rw [List.append_assoc, List.drop_append_of_le_length (by rw [aheadRec_length]; omega), List.drop_of_length_le (by rw [aheadRec_length]; omega), List.nil_append]
  unfold readRec
  rw [hn, hl, if_neg (by omega), if_neg (by omega), ht, hd, List.take_append_of_le_length (by rw [check_length]; omega), List.take_of_length_le (by rw [check_length]; omega), if_neg (by simp)]
  congr 2
  congr 1
  · unfold writeRec aheadRec
    simp [twoB]
  · omega
end Go.Hm
namespace Go.Hm
def Msg.Small (m : Msg) : Prop := m.time.length ≤ 4000 ∧ m.host.length ≤ 4000 ∧ m.app.length ≤ 4000 ∧ m.proc.length ≤ 4000 ∧ m.id.length ≤ 4000 ∧ m.data.length ≤ 4000 ∧ m.text.length ≤ 4000
theorem none_small : Msg.none.Small := by simp [Msg.none, Msg.Small]
theorem cutB_len (c : UInt8) (l : List UInt8) : (cutB c l).1.length ≤ l.length := by
  cases h : (cutB c l).2.2
  · rw [cutB_none c l h]; exact Nat.le_refl _
  · have := congrArg List.length (cutB_some c l h)
    simp only [List.length_append, List.length_cons] at this
    omega
theorem trim_le (l : List UInt8) (c : UInt8) : (Lib.trimRightB l c).length ≤ l.length := by
  unfold Lib.trimRightB
  have := (List.dropWhile_suffix (fun x => x == c) (l := l.reverse)).length_le
  simpa using this
theorem fraction_le (l : List UInt8) : (fraction l).1.length ≤ l.length := by
  unfold fraction
  repeat' split
  · simp
  · simp
  · simp
  · exact Nat.le_trans (trim_le _ _) (by simp; omega)
theorem readTime_le {l t : List UInt8} (h : readTime l = some t) : t.length ≤ l.length + 40 := by
  unfold readTime at h
  split at h
  · cases h
  · split at h
    · cases h
    · split at h
      · cases h
      · split at h
        · cases h
        · cases h
          have := fraction_le (l.drop 19)
          simp only [List.length_drop] at this
          simp [stampText, d4, d2]
          omega
theorem part_len (l : List UInt8) (a : Nat) : (part l a).1.length ≤ l.length := by
  unfold part
  rw [cut_eq]
  have := cutB_len 32 (l.drop a)
  simp only [List.length_drop] at this
  dsimp only
  omega
theorem wordsFrom_le (l : List UInt8) : ∀ (ks : List (Nat × Nat)) (nx : Nat), ∀ x ∈ (wordsFrom l ks nx).2.1, x.length ≤ l.length
  | [], _ => by simp [wordsFrom]
  | k :: ks, nx => by
    intro x hx
    unfold wordsFrom at hx
    split at hx
    · simp only [List.mem_cons] at hx
      rcases hx with rfl | hx
      · simp
      · exact wordsFrom_le l ks _ x hx
    · split at hx
      · simp at hx
      · simp only [List.mem_cons] at hx
        rcases hx with rfl | hx
        · exact part_len l nx
        · exact wordsFrom_le l ks _ x hx
theorem getD_le {xs : List (List UInt8)} {n : Nat} (h : ∀ x ∈ xs, x.length ≤ n) (i : Nat) : (xs.getD i []).length ≤ n := by
  rw [List.getD_eq_getElem?_getD]
  cases hx : xs[i]? with
  | none => simp
  | some x => exact h x (List.mem_of_getElem? hx)
theorem timeOf_le {p t : List UInt8} (h : timeOf p = some t) : t.length ≤ p.length + 40 := by
  unfold timeOf at h
  split at h
  · cases h; simp
  · exact readTime_le h
theorem dataText_small {m : Msg} {l : List UInt8} {a : Nat} (hm : m.Small) (hl : l.length ≤ 200) : (dataText m l a).1.Small := by
  obtain ⟨h1, h2, h3, h4, h5, h6, h7⟩ := hm
  unfold dataText
  repeat' split
  all_goals first | exact none_small | (refine ⟨h1, h2, h3, h4, h5, ?_, ?_⟩ <;> first | exact h6 | exact h7 | (simp; omega))
theorem afterTime_small {f s : Int} {tm l : List UInt8} {nx : Nat} (ht : tm.length ≤ 300) (hl : l.length ≤ 200) : (afterTime f s tm l nx).1.Small := by
  unfold afterTime
  split
  · exact none_small
  · have hw := wordsFrom_le l kinds nx
    refine dataText_small ⟨by dsimp only; omega, ?_, ?_, ?_, ?_, by simp, by simp⟩ hl
    all_goals (have := getD_le hw; dsimp only)
    · have := this 0; omega
    · have := this 1; omega
    · have := this 2; omega
    · have := this 3; omega
theorem tag_parts (l : List UInt8) : (tag l).1.length ≤ l.length ∧ (tag l).2.1.length ≤ l.length := by
  unfold tag tagRest
  repeat' split
  all_goals (simp <;> omega)
theorem stamp_parts (l : List UInt8) (y : Nat) : (stamp l y).1.length ≤ l.length + 40 ∧ (stamp l y).2.1.length ≤ l.length := by
  unfold stamp
  split
  · simp
  · split
    · simp
    · rw [cut_eq]
      have h1 := cutB_len 32 (l.drop 16)
      simp only [List.length_drop] at h1
      refine ⟨?_, by dsimp only; omega⟩
      unfold oldTime
      split
      · simp
      · unfold oldText oldDay
        split <;> (simp [d4, d2]; omega)
theorem readOld_small {m : Msg} {l : List UInt8} {y : Nat} (hm : m.Small) (hl : l.length ≤ 200) : (readOld m l y).Small := by
  obtain ⟨h1, h2, h3, h4, h5, h6, h7⟩ := hm
  have hs := stamp_parts l y
  unfold readOld
  split
  · have ht := tag_parts (l.drop (stamp l y).2.2)
    simp only [List.length_drop] at ht
    refine ⟨by dsimp only; omega, by dsimp only; omega, by dsimp only; omega, by dsimp only; omega, h5, h6, by simp; omega⟩
  · have ht := tag_parts l
    refine ⟨h1, h2, by dsimp only; omega, by dsimp only; omega, h5, h6, by simp; omega⟩
theorem read_small (l : List UInt8) (y : Int) : (read l y).1.Small := by
  unfold read
  split
  · exact none_small
  · split
    · exact none_small
    · split
      · unfold readNew
        split
        · exact none_small
        · next tm ht =>
          have h1 := timeOf_le ht
          have h2 := part_len l ((source l).2 + 2)
          exact afterTime_small (by omega) (by omega)
      · split
        · exact none_small
        · exact readOld_small (by simp [Msg.of, Msg.Small]) (by simp; omega)
end Go.Hm

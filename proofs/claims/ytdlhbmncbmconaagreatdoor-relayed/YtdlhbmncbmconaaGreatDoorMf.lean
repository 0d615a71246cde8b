/- Mathematics of Relayed. -/
import Derived.Test.YtdlhbmncbmconaaGreatDoorMd
namespace Go.Hm
def tDropped : List UInt8 := [100, 114, 111, 112, 112, 101, 100]
def tKept : List UInt8 := [107, 101, 112, 116, 32]
def tError : List UInt8 := [101, 114, 114, 111, 114, 32]
def relTell (sv : Nat) (g : Lg) (m : Msg) : Lg × List UInt8 :=
  if (sv : Int) < m.sev then (g, tDropped) else
  if (g.put m).2.2 = 0 then ((g.put m).1, tKept ++ Lib.decDigits (g.put m).2.1) else ((g.put m).1, tError ++ Lib.decDigits (g.put m).2.2)
def relStep (sv : Nat) (s : Lg × List UInt8) (m : Msg) : Lg × List UInt8 := ((relTell sv s.1 m).1, s.2 ++ ((relTell sv s.1 m).2 ++ [10]))
def rel (sv : Nat) (ms : List Msg) : Lg × List UInt8 := ms.foldl (relStep sv) (Lg.fresh 8, [])
theorem rel_nil (sv : Nat) : rel sv [] = (Lg.fresh 8, []) := rfl
theorem rel_snoc (sv : Nat) (ms : List Msg) (m : Msg) : rel sv (ms ++ [m]) = relStep sv (rel sv ms) m := by simp [rel]
structure RelOk (g : Lg) : Prop where
  had : g.had = 0
  room : g.room = 8
  wait : g.waiting.length ≤ 8
  recs : g.records.length ≤ 205 * g.waiting.length
theorem RelOk.fresh : RelOk (Lg.fresh 8) := ⟨rfl, rfl, by simp [Lg.fresh], by simp [Lg.fresh]⟩
theorem relTell_drop {sv : Nat} {g : Lg} {m : Msg} (h : (sv : Int) < m.sev) : relTell sv g m = (g, tDropped) := by unfold relTell; rw [if_pos h]
theorem put_full8 {g : Lg} {m : Msg} (hg : RelOk g) (hl : (line m).2 = 0) (hf : g.waiting.length = 8) : g.put m = (g, 0, 12) := by
  unfold Lg.put
  rw [if_neg (by simp [hl]), if_pos (.inl (by rw [hg.room]; omega))]
theorem put_add8 {g : Lg} {m : Msg} (hg : RelOk g) (hl : (line m).2 = 0) (hf : ¬ g.waiting.length = 8) : g.put m = (g.add (line m).1, g.waiting.length + 1, 0) := by
  unfold Lg.put
  have h1 := hg.had
  have h2 := hg.room
  have h3 := hg.wait
  have h4 : g.messages = g.waiting.length := by unfold Lg.messages; omega
  rw [if_neg (by simp [hl]), if_neg (by omega), h4]
theorem relTell_full {sv : Nat} {g : Lg} {m : Msg} (h : ¬ (sv : Int) < m.sev) (hg : RelOk g) (hl : (line m).2 = 0) (hf : g.waiting.length = 8) : relTell sv g m = (g, tError ++ [49, 50]) := by
  unfold relTell
  rw [if_neg h, put_full8 hg hl hf, if_neg (show ¬ (12 : Nat) = 0 by decide), show Lib.decDigits 12 = [49, 50] by decide +kernel]
theorem relTell_kept {sv : Nat} {g : Lg} {m : Msg} (h : ¬ (sv : Int) < m.sev) (hg : RelOk g) (hl : (line m).2 = 0) (hf : ¬ g.waiting.length = 8) : relTell sv g m = (g.add (line m).1, tKept ++ Lib.decDigits (g.waiting.length + 1)) := by
  unfold relTell
  rw [if_neg h, put_add8 hg hl hf, if_pos rfl]
theorem RelOk.tell {sv : Nat} {g : Lg} {m : Msg} (hg : RelOk g) (hl : (line m).2 = 0) : RelOk (relTell sv g m).1 := by
  by_cases h : (sv : Int) < m.sev
  · rw [relTell_drop h]; exact hg
  · by_cases hf : g.waiting.length = 8
    · rw [relTell_full h hg hl hf]; exact hg
    · rw [relTell_kept h hg hl hf]
      have h1 := hg.wait
      have h2 := hg.recs
      have h3 := line_lenL hl
      refine ⟨hg.had, hg.room, ?_, ?_⟩
      · show (g.waiting ++ [_]).length ≤ 8
        simp; omega
      · show (g.records ++ writeRec 80 _).length ≤ 205 * (g.waiting ++ [_]).length
        rw [List.length_append, writeRec_length, List.length_append, List.length_cons, List.length_nil]
        omega
theorem rel_ok (sv : Nat) : ∀ (ms : List Msg) (s : Lg × List UInt8), RelOk s.1 → (∀ m ∈ ms, (line m).2 = 0) → RelOk (ms.foldl (relStep sv) s).1
  | [], _, h, _ => h
  | m :: ms, s, h, hl => rel_ok sv ms (relStep sv s m) (h.tell (hl m (by simp))) (fun q hq => hl q (by simp [hq]))
theorem rel_good (sv : Nat) {ms : List Msg} (h : ∀ m ∈ ms, (line m).2 = 0) : RelOk (rel sv ms).1 := rel_ok sv ms _ RelOk.fresh h
theorem tell_len {sv : Nat} {g : Lg} {m : Msg} (hg : RelOk g) (hl : (line m).2 = 0) : (relTell sv g m).2.length ≤ 8 := by
  by_cases h : (sv : Int) < m.sev
  · rw [relTell_drop h]; exact (by decide : tDropped.length ≤ 8)
  · by_cases hf : g.waiting.length = 8
    · rw [relTell_full h hg hl hf]; exact (by decide : (tError ++ [49, 50]).length ≤ 8)
    · rw [relTell_kept h hg hl hf]
      have h1 := hg.wait
      have : ∀ n : Fin 9, (tKept ++ Lib.decDigits (n.val + 1)).length ≤ 8 := by decide +kernel
      exact this ⟨g.waiting.length, by omega⟩
theorem tell_some (sv : Nat) (g : Lg) (m : Msg) : (relTell sv g m).2 ≠ [] := by
  unfold relTell
  split
  · simp [tDropped]
  · split
    · simp [tKept]
    · simp [tError]
theorem rel_len (sv : Nat) : ∀ (ms : List Msg) (s : Lg × List UInt8), RelOk s.1 → (∀ m ∈ ms, (line m).2 = 0) → (ms.foldl (relStep sv) s).2.length ≤ s.2.length + 9 * ms.length
  | [], s, _, _ => by simp
  | m :: ms, s, h, hl => by
    have h1 := rel_len sv ms (relStep sv s m) (h.tell (hl m (by simp))) (fun q hq => hl q (by simp [hq]))
    have h2 := tell_len (sv := sv) h (hl m (by simp))
    have h3 : (relStep sv s m).2.length = s.2.length + ((relTell sv s.1 m).2.length + 1) := by simp [relStep]
    rw [List.foldl_cons, List.length_cons]
    omega
theorem rel_short (sv : Nat) {ms : List Msg} (h : ∀ m ∈ ms, (line m).2 = 0) : (rel sv ms).2.length ≤ 9 * ms.length := by
  have := rel_len sv ms (Lg.fresh 8, []) RelOk.fresh h
  simpa [rel] using this
def relBytes (ms : List Msg) : List UInt8 := (ms.map fun m => frame false (line m).1).flatten
theorem relBytes_snoc (ms : List Msg) (m : Msg) : relBytes (ms ++ [m]) = relBytes ms ++ frame false (line m).1 := by simp [relBytes]
theorem line_some {m : Msg} (h : (line m).2 = 0) : (line m).1 ≠ [] := by
  intro e
  unfold line at h e
  split at h
  · next hf => exact hf h
  · next hf =>
    split at h
    · cases h
    · next h2 =>
      rw [if_neg hf, if_neg h2] at e
      have e2 := (line_text (m := m)).symm.trans e
      simp at e2
theorem rel_feed : ∀ (ms : List Msg), (∀ m ∈ ms, (line m).2 = 0) → (Frs.fresh 200).feed (relBytes ms) = (Frs.fresh 200, ms.map fun m => 61 :: (line m).1)
  | [], _ => rfl
  | m :: ms, h => by
    have h1 := rel_feed ms (fun q hq => h q (by simp [hq]))
    have h2 := feed_frame (n := 200) (b := false) (line_some (h m (by simp))) (line_lenL (h m (by simp))) (fun e => by cases e)
    have e : relBytes (m :: ms) = frame false (line m).1 ++ relBytes ms := rfl
    rw [e, feed_frames h2 h1]
    rfl
theorem relBytes_len : ∀ (ms : List Msg), (∀ m ∈ ms, (line m).2 = 0) → (relBytes ms).length ≤ 210 * ms.length
  | [], _ => by simp [relBytes]
  | m :: ms, h => by
    have h1 := relBytes_len ms (fun q hq => h q (by simp [hq]))
    have h2 := line_lenL (h m (by simp))
    have e : relBytes (m :: ms) = frame false (line m).1 ++ relBytes ms := rfl
    have h3 : (Lib.decDigits (line m).1.length).length ≤ 3 := by
      have : ∀ n : Fin 201, (Lib.decDigits n.val).length ≤ 3 := by decide +kernel
      exact this ⟨_, by omega⟩
    rw [e, List.length_append, List.length_cons]
    have h4 : (frame false (line m).1).length = (Lib.decDigits (line m).1.length).length + ((line m).1.length + 1) := by simp [frame]
    omega
def relRules (grave : Int) : List RRaw := [⟨0, 0, grave, 2, 0⟩, ⟨0, 0, 0, 8, 1⟩]
theorem relRules_text (grave : Int) : rText (relRules grave) = 42 :: 46 :: (sevName (pick grave 8) ++ [32, 107, 101, 101, 112, 10, 42, 46, 42, 32, 100, 114, 111, 112, 10]) := by
  have e1 : pick 2 3 = 2 := by decide
  have e2 : pick (Int.tdiv 2 3) 3 = 0 := by decide
  have e3 : pick 8 3 = 2 := by decide
  have e4 : pick (Int.tdiv 8 3) 3 = 2 := by decide
  have l1 : (⟨0, 0, grave, 2, 0⟩ : RRaw).line = 42 :: 46 :: (sevName (pick grave 8) ++ [32, 107, 101, 101, 112]) := by
    unfold RRaw.line
    dsimp only
    rw [e1, e2]
    rfl
  have l2 : (⟨0, 0, 0, 8, 1⟩ : RRaw).line = [42, 46, 42, 32, 100, 114, 111, 112] := by
    unfold RRaw.line
    dsimp only
    rw [e3, e4]
    rfl
  simp [rText, relRules, l1, l2]
theorem relRules_want (grave : Int) (x y : Nat) : rWant (relRules grave) x y = decide (y ≤ pick grave 8) := by
  have e1 : pick 2 3 = 2 := by decide
  have e2 : pick (Int.tdiv 2 3) 3 = 0 := by decide
  have e3 : pick 8 3 = 2 := by decide
  have e4 : pick (Int.tdiv 8 3) 3 = 2 := by decide
  have f1 : (⟨0, 0, grave, 2, 0⟩ : RRaw).fits x y = decide (y ≤ pick grave 8) := by
    unfold RRaw.fits
    dsimp only
    rw [e1, e2]
    rfl
  have f2 : (⟨0, 0, 0, 8, 1⟩ : RRaw).fits x y = true := by
    unfold RRaw.fits
    dsimp only
    rw [e3, e4]
    rfl
  show (if (⟨0, 0, grave, 2, 0⟩ : RRaw).fits x y = true then rKeep 0 else if (⟨0, 0, 0, 8, 1⟩ : RRaw).fits x y = true then rKeep 1 else true) = _
  rw [f1, f2]
  by_cases h : y ≤ pick grave 8
  · rw [decide_eq_true h, if_pos rfl]; rfl
  · rw [decide_eq_false h, if_neg (by simp), if_pos rfl]; rfl
end Go.Hm

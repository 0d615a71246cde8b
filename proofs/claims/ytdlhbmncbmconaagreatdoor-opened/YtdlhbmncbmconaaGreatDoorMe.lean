/- Mathematics of Opened: a log of the statement's own making, and one with a byte turned. -/
import Derived.Test.YtdlhbmncbmconaaGreatDoorMb
namespace Go.Hm
def oLines (ms : List Msg) : List (List UInt8) := (ms.filter fun m => decide ((line m).2 = 0)).map fun m => (line m).1
def oPuts (L : List (List UInt8)) : List UInt8 := flatR (L.map fun l => (80, l))
def oEnds (L : List (List UInt8)) : List Nat := (List.range L.length).map fun i => (oPuts (L.take (i + 1))).length
def oLog (L : List (List UInt8)) (n : Nat) : List UInt8 := oPuts L ++ if n = 0 then [] else writeRec 65 (twoB n)
theorem oLines_nil : oLines [] = [] := rfl
theorem oLines_yes {ms : List Msg} {m : Msg} (h : (line m).2 = 0) : oLines (ms ++ [m]) = oLines ms ++ [(line m).1] := by simp [oLines, List.filter_append, h]
theorem oLines_no {ms : List Msg} {m : Msg} (h : ¬ (line m).2 = 0) : oLines (ms ++ [m]) = oLines ms := by simp [oLines, List.filter_append, h]
theorem oLines_len (ms : List Msg) : (oLines ms).length ≤ ms.length := by unfold oLines; rw [List.length_map]; exact List.length_filter_le _ _
theorem oPuts_snoc (L : List (List UInt8)) (l : List UInt8) : oPuts (L ++ [l]) = oPuts L ++ writeRec 80 l := by simp [oPuts, flatR, recB]
theorem oEnds_length (L : List (List UInt8)) : (oEnds L).length = L.length := by simp [oEnds]
theorem oEnds_snoc (L : List (List UInt8)) (l : List UInt8) : oEnds (L ++ [l]) = oEnds L ++ [(oPuts (L ++ [l])).length] := by
  unfold oEnds
  rw [List.length_append, List.length_cons, List.length_nil, List.range_succ, List.map_append]
  congr 1
  · refine List.map_congr_left fun i hi => ?_
    have : i < L.length := by simpa using hi
    rw [List.take_append_of_le_length (by omega)]
  · simp only [List.map_cons, List.map_nil]
    rw [List.take_of_length_le (by simp)]
theorem oEnds_at {L : List (List UInt8)} {i : Nat} (h : i < L.length) : (oEnds L)[i]? = some (oPuts (L.take (i + 1))).length := by simp [oEnds, h]
theorem oPuts_take (L : List (List UInt8)) (i : Nat) : oPuts L = oPuts (L.take i) ++ oPuts (L.drop i) := by
  unfold oPuts
  rw [← flatR_append, ← List.map_append, List.take_append_drop]
theorem oLines_all (ms : List Msg) : ∀ l ∈ oLines ms, ∃ m, (line m).2 = 0 ∧ (line m).1 = l := by
  intro l hl
  unfold oLines at hl
  obtain ⟨m, hm, rfl⟩ := List.mem_map.1 hl
  exact ⟨m, by simpa using (List.mem_filter.1 hm).2, rfl⟩
theorem oPuts_len : ∀ L : List (List UInt8), (∀ l ∈ L, l.length ≤ 200) → (oPuts L).length ≤ 205 * L.length
  | [], _ => by simp [oPuts, flatR_nil]
  | l :: L, h => by
    have h1 := oPuts_len L (fun q hq => h q (by simp [hq]))
    have h2 := h l (by simp)
    have e : oPuts (l :: L) = writeRec 80 l ++ oPuts L := rfl
    rw [e, List.length_append, writeRec_length, List.length_cons]
    omega
theorem oLines_short (ms : List Msg) : ∀ l ∈ oLines ms, l.length ≤ 200 := fun l hl => by
  obtain ⟨m, h1, rfl⟩ := oLines_all ms l hl
  exact line_lenL h1
theorem puts_lines : ∀ {L : List (List UInt8)}, (∀ l ∈ L, ∃ m, (line m).2 = 0 ∧ (line m).1 = l) → ∃ ms : List Msg, (∀ m ∈ ms, (line m).2 = 0) ∧ ms.map (fun m => (line m).1) = L
  | [], _ => ⟨[], by simp, rfl⟩
  | l :: L, h => by
    obtain ⟨m, h1, h2⟩ := h l (by simp)
    obtain ⟨ms, h3, h4⟩ := puts_lines (L := L) (fun q hq => h q (by simp [hq]))
    exact ⟨m :: ms, fun q hq => by rcases List.mem_cons.1 hq with rfl | hq; exact h1; exact h3 q hq, by simp [h2, h4]⟩
theorem oRun {L : List (List UInt8)} (h : ∀ l ∈ L, ∃ m, (line m).2 = 0 ∧ (line m).1 = l) (hl : L.length < 60000) (room : Nat) : ∃ g, Run (Lg.fresh room) (L.map fun l => (80, l)) g ∧ g.had = 0 ∧ g.waiting = L ∧ g.room = room := by
  obtain ⟨ms, h1, h2⟩ := puts_lines h
  have hml : ms.length = L.length := by rw [← h2, List.length_map]
  have hr := puts_run room ms (Lg.fresh room) h1 (by simp [Lg.fresh, Lg.messages]; omega)
  have hp := puts_log ms (Lg.fresh room)
  refine ⟨_, ?_, hp.1, ?_, hp.2.2⟩
  · rw [← h2, List.map_map]
    exact hr
  · rw [hp.2.1, h2]
    rfl
theorem opened_right {L : List (List UInt8)} (h : ∀ l ∈ L, ∃ m, (line m).2 = 0 ∧ (line m).1 = l) (hl : L.length < 60000) {n : Nat} (hn : n ≤ L.length) (room : Nat) : (opens (oLog L n) room).records = oLog L n ∧ (opens (oLog L n) room).waiting = L.drop n := by
  obtain ⟨g, hr, h0, hw, _⟩ := oRun h hl room
  have hrec : g.records = oPuts L := by rw [hr.text]; rfl
  unfold oLog
  by_cases hz : n = 0
  · rw [if_pos hz, List.append_nil, ← hrec, opens_same hr, hw, hz]
    exact ⟨rfl, rfl⟩
  · rw [if_neg hz]
    have hm : g.messages = L.length := by unfold Lg.messages; rw [h0, hw]; omega
    have ha := hr.trans (Run.ack (g := g) (n := n) (by omega) (by omega) (by omega))
    have ht : (g.ackTo n).records = oPuts L ++ writeRec 65 (twoB n) := by rw [← hrec]; rfl
    rw [← ht, opens_same ha]
    refine ⟨rfl, ?_⟩
    show g.waiting.drop (n - g.had) = _
    rw [h0, hw, Nat.sub_zero]
theorem opened_spoilt {L : List (List UInt8)} (h : ∀ l ∈ L, ∃ m, (line m).2 = 0 ∧ (line m).1 = l) (hl : L.length < 60000) {log : List UInt8} (t : List UInt8) (ht : log = oPuts L ++ t) {k w : Nat} (hw : w ≤ L.length) (hk : (oPuts (L.take w)).length ≤ k) (c : UInt8) (room : Nat) :
    (opens (log.take k ++ (c :: log.drop (k + 1))) room).records = log.take (oPuts (L.take w)).length ∨
    ((oPuts (L.take w)).length < (opens (log.take k ++ (c :: log.drop (k + 1))) room).records.length ∧ (opens (log.take k ++ (c :: log.drop (k + 1))) room).records = (log.take k ++ (c :: log.drop (k + 1))).take (opens (log.take k ++ (c :: log.drop (k + 1))) room).records.length) := by
  obtain ⟨g, hr, _⟩ := oRun (L := L.take w) (fun l hq => h l (List.mem_of_mem_take hq)) (by simp; omega) room
  have hlog : log = oPuts (L.take w) ++ (oPuts (L.drop w) ++ t) := by rw [ht, oPuts_take L w, List.append_assoc]
  have hpre : log.take (oPuts (L.take w)).length = oPuts (L.take w) := by rw [hlog, List.take_left]
  obtain ⟨v, hv⟩ : ∃ v, log.take k = oPuts (L.take w) ++ v := by
    refine ⟨(log.take k).drop (oPuts (L.take w)).length, ?_⟩
    have : (log.take k).take (oPuts (L.take w)).length = oPuts (L.take w) := by rw [List.take_take, Nat.min_eq_left hk, hpre]
    have h5 := (List.take_append_drop (oPuts (L.take w)).length (log.take k)).symm
    rw [this] at h5
    exact h5
  rw [hv, List.append_assoc]
  obtain ⟨u, z, h1, h2⟩ := spoilt_prefix hr (v ++ c :: log.drop (k + 1))
  have e : flatR ((L.take w).map fun l => (80, l)) = oPuts (L.take w) := rfl
  rw [e] at h1
  rw [h1, hpre]
  cases u with
  | nil => left; simp
  | cons x u =>
    right
    refine ⟨by simp, ?_⟩
    rw [h2, ← List.append_assoc, List.take_left]
theorem twoB_small {n : Nat} (h : n < 256) : twoB n = [0, UInt8.ofNat n] := by
  unfold twoB
  rw [Nat.div_eq_of_lt h]
  rfl
end Go.Hm

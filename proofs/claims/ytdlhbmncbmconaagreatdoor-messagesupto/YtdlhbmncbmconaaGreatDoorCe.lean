/- Contracts of the reference: word, source, month. -/
import Derived.Test.YtdlhbmncbmconaaGreatDoorCa
import Derived.Deep.DeepCutAuto
import Derived.Deep.CutBlock
namespace Go.Hm
theorem twe_all (p : UInt8 → Bool) : ∀ (l : List UInt8), ∀ c ∈ l.takeWhile p, p c = true
  | [], c, h => by simp at h
  | a :: t, c, h => by
    rw [List.takeWhile_cons] at h
    split at h
    · next hp =>
      rcases List.mem_cons.1 h with h | h
      · rw [h]; exact hp
      · exact twe_all p t c h
    · simp at h
theorem twe_end (p : UInt8 → Bool) : ∀ (l : List UInt8) (n : Nat), (l.takeWhile p).length = n → ∀ h : n < l.length, p l[n] = false
  | [], n, _, h => by simp at h
  | a :: t, n, hn, h => by
    by_cases hp : p a = true
    · rw [List.takeWhile_cons, if_pos hp, List.length_cons] at hn
      subst hn
      exact twe_end p t _ rfl (by simpa using h)
    · rw [List.takeWhile_cons, if_neg hp, List.length_nil] at hn
      subst hn
      simpa using hp
theorem twe_len (p : UInt8 → Bool) (l : List UInt8) : (l.takeWhile p).length ≤ l.length := by
  have := (List.takeWhile_prefix (l := l) p).length_le
  exact this
/-- how many bytes from a place on are of a kind: each of them, and the one behind is not -/
theorem run_at (p : UInt8 → Bool) (l : List UInt8) (a T : Nat) (ha : a ≤ l.length) (hT : ((l.drop a).takeWhile p).length = T) :
    a + T ≤ l.length ∧ (∀ j, j < T → ∃ h : a + j < l.length, p l[a + j] = true) ∧ (∀ h : a + T < l.length, p l[a + T] = false) := by
  have hl := twe_len p (l.drop a)
  rw [List.length_drop, hT] at hl
  refine ⟨by omega, fun j hj => ?_, fun h => ?_⟩
  · have h1 : a + j < l.length := by omega
    refine ⟨h1, ?_⟩
    have hp : (l.drop a).takeWhile p <+: l.drop a := List.takeWhile_prefix p
    have hj' : j < ((l.drop a).takeWhile p).length := by omega
    have hg : ((l.drop a).takeWhile p)[j] = l[a + j] := by
      rw [List.IsPrefix.getElem hp hj', List.getElem_drop]
    rw [← hg]
    exact twe_all p (l.drop a) _ (List.getElem_mem hj')
  · have := twe_end p (l.drop a) T hT (by rw [List.length_drop]; omega)
    rwa [List.getElem_drop] at this
def rword (l : List UInt8) (a : Nat) : Int := if ((l.drop a).takeWhile nmb).length = 0 ∨ 12 < ((l.drop a).takeWhile nmb).length then -1 else ((a + ((l.drop a).takeWhile nmb).length : Nat) : Int)
end Go.Hm
namespace Go.Proofs.YtdlhbmncbmconaaGreatDoor
open Go.RowKit Go.Sort
attribute [local go_sem] app_mk rcut rbyte
set_option maxRecDepth 20000 in
set_option maxHeartbeats 2000000 in
theorem rword_any (l : List UInt8) (hl : l.length ≤ 1000000000000000) (a : Nat) (ha : a ≤ l.length) (w : World) : Calls Tryz.prog 197 #[.string ⟨l.toArray⟩, .int .i64 a] w fun e w' => e = .returned (.int .i64 (Hm.rword l a)) ∧ w' = w := by
  obtain ⟨T, hT⟩ : ∃ T, ((l.drop a).takeWhile Hm.nmb).length = T := ⟨_, rfl⟩
  obtain ⟨hTl, hTi, hTe⟩ := Hm.run_at Hm.nmb l a T ha hT
  have HTI := show Hid _ from hTi
  have HTE := show Hid _ from hTe
  obtain ⟨V, hV⟩ : ∃ V, Hm.rword l a = V := ⟨_, rfl⟩
  rw [hV]
  unfold Hm.rword at hV
  rw [hT] at hV
  have HV := show Hid _ from hV
  clear hT hTi hTe hV
  go_enter Tryz.func197, Tryz.ntmps197
  go_upto_block 0 with fail
  go_cut [5] (fun s5 wc => s5 = .int .i64 ((a : Int) + (T : Int)) ∧ wc = w)
  case first =>
    go_wp2
    go_loopw [5] (fun s5 wr => ∃ j : Nat, j ≤ T ∧ s5 = .int .i64 ((a : Int) + (j : Int)) ∧ wr = w) (fun s5 _ => a + T - (intOf s5).toNat)
    case atStart => exact ⟨0, Nat.zero_le _, int_eq (by simp), rfl⟩
    case round =>
      obtain ⟨j, hj, rfl, hwr⟩ := hrel
      have hwr := hwr.symm
      subst hwr
      have htn : ((a : Int) + (j : Int)).toNat = a + j := by omega
      by_cases hlt : j < T
      · obtain ⟨h1, hp⟩ := HTI.out j hlt
        have hp2 : (33 ≤ l[a + j].toNat ∧ l[a + j].toNat ≤ 126) ∧ ¬ l[a + j].toNat = 61 ∧ ¬ l[a + j].toNat = 93 ∧ ¬ l[a + j].toNat = 34 := by
          simpa [Hm.nmb, Hm.vis, and_assoc] using hp
        have c0 : (a : Int) + (j : Int) < (l.length : Int) := by omega
        have c1 : (33 : Int) ≤ (l[a + j].toNat : Int) := by omega
        have c2 : (l[a + j].toNat : Int) ≤ 126 := by omega
        have c3 : ((l[a + j].toNat : Int) != 61) = true := by simp; omega
        have c4 : ((l[a + j].toNat : Int) != 93) = true := by simp; omega
        have c5 : ((l[a + j].toNat : Int) != 34) = true := by simp; omega
        clear hp hp2
        go_wp2
        go_roundw
        case rel => exact ⟨j + 1, by omega, int_eq (by simp; omega), by first | rfl | trivial⟩
        case measure => simp [intOf]; omega
      · have hjT : j = T := by omega
        subst hjT
        have hcc : (¬ (a : Int) + (j : Int) < (l.length : Int)) ∨ ∃ h : a + j < l.length, (¬ (33 : Int) ≤ (l[a + j].toNat : Int)) ∨ ((33 : Int) ≤ (l[a + j].toNat : Int) ∧ ¬ (l[a + j].toNat : Int) ≤ 126) ∨ (l[a + j].toNat : Int) = 61 ∨ (l[a + j].toNat : Int) = 93 ∨ (l[a + j].toNat : Int) = 34 := by
          by_cases hend : a + j < l.length
          · refine .inr ⟨hend, ?_⟩
            have hf := HTE.out hend
            have hn : ¬ ((33 ≤ l[a + j].toNat ∧ l[a + j].toNat ≤ 126) ∧ ¬ l[a + j].toNat = 61 ∧ ¬ l[a + j].toNat = 93 ∧ ¬ l[a + j].toNat = 34) := by
              intro h
              have : Hm.nmb l[a + j] = true := by simpa [Hm.nmb, Hm.vis, and_assoc] using h
              rw [this] at hf
              cases hf
            omega
          · exact .inl (by omega)
        clear HTI HTE hlt hj
        rcases hcc with c0 | ⟨hend, c1 | ⟨c1, c2⟩ | c3 | c3 | c3⟩
        · go_wp2
          go_meet
          case rel => exact ⟨rfl, rfl⟩
        all_goals (
          have c0 : (a : Int) + (j : Int) < (l.length : Int) := by omega
          go_wp2
          go_meet
          case rel => exact ⟨rfl, rfl⟩)
  case rest =>
    obtain ⟨rfl, hwc⟩ := hcut
    have hwc := hwc.symm
    subst hwc
    by_cases h0 : T = 0
    · have HE : Hid (V = -1) := by show _ = _; rw [← HV.out, if_pos (.inl h0)]
      have h0b : ((a : Int) + (T : Int) == (a : Int)) = true := by simp; omega
      have h0i : (a : Int) + (T : Int) = (a : Int) := by omega
      clear h0
      go_wp2
      go_ret
      exact ⟨by rw [HE.out]; rfl, rfl⟩
    have h0b : ((a : Int) + (T : Int) == (a : Int)) = false := by simp; omega
    have h0i : ¬ (a : Int) + (T : Int) = (a : Int) := by omega
    by_cases h12 : 12 < T
    · have HE : Hid (V = -1) := by show _ = _; rw [← HV.out, if_pos (.inr h12)]
      have h12i : (a : Int) + 12 < (a : Int) + (T : Int) := by omega
      clear h0
      go_wp2
      go_ret
      exact ⟨by rw [HE.out]; rfl, rfl⟩
    · have HE : Hid (V = (a : Int) + (T : Int)) := by show _ = _; rw [← HV.out, if_neg (by omega)]; omega
      have h12i : ¬ (a : Int) + 12 < (a : Int) + (T : Int) := by omega
      clear h0
      go_wp2
      go_ret
      exact ⟨by rw [HE.out]; rfl, rfl⟩
end Go.Proofs.YtdlhbmncbmconaaGreatDoor

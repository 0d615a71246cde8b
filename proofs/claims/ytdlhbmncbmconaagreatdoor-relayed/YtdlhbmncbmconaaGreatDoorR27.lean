/- Contract: the iterator of frames, over a list of things whose bytes are what it finds. -/
import Derived.Test.YtdlhbmncbmconaaGreatDoorBq
namespace Go.Proofs.YtdlhbmncbmconaaGreatDoor
open Go.RowKit Go.Shelf Go.Sort
attribute [local go_sem] Oper.semAt_some
set_option maxRecDepth 100000 in
set_option maxHeartbeats 1000000 in
theorem found1_of {α : Type} (val : α → List UInt8) (zs : List α) (n : Nat) (hn : 2 ≤ n) (Bb Bf p : Nat) (s : ByteArray) (hs : s.size ≤ 9000000000) (f0 : Hm.Frs) (v0 : Value) (hok : f0.Ok) (hzs : zs.map val = (f0.feed s.data.toList).2) (J : List α → Value → World → Prop)
    (hJ : ∀ pre f v A v' B, J pre v A → FramesAt A p f v → StepF p v A v' B → J pre v' B)
    (hC : ∀ pre v A, J pre v A → A.cell? ⟨Bf, 0, none⟩ = some (.pointer (some ⟨p, 0, none⟩)) ∧ A.cell? ⟨Bb, 0, none⟩ = some (.string s)) :
    Hw.SeqAll (β := Hm.Frs × Value) Fence.wide n Tryz.prog 93 #[.pointer (some ⟨Bb, 0, none⟩), .pointer (some ⟨Bf, 0, none⟩)] (fun x => encB (val x)) (fun pre b W => J pre b.2 W ∧ FramesAt W p b.1 b.2) (f0, v0)
      (fun xs b => xs = zs ∧ b.1 = (f0.feed s.data.toList).1) s.size := by
  intro l Bk W hBk hY hI hb
  refine callsIn_of_wp Tryz.func93 rfl trivial ?_ rfl
  simp only [Tryz.ntmps93, List.size_toArray, List.length_cons, List.length_nil, Nat.reduceAdd, Nat.reduceSub, Array.replicate_succ, Array.replicate_zero, List.push_toArray, List.append_toArray, List.nil_append, List.cons_append]
  obtain ⟨d0, d1⟩ := hC _ _ _ hI.1
  have HZ := show Hid _ from hzs
  clear hzs
  gi_wp2
  gi_loopw [8] (fun ix wr => ∃ (k : Nat) (pre rest : List α) (f : Hm.Frs) (v : Value), ix = .int .i64 k ∧ k ≤ s.size ∧ pre.length ≤ k ∧ f.Ok ∧ (zs = pre ++ rest ∧ rest.map val = (f.feed (s.data.toList.drop k)).2 ∧ (f0.feed s.data.toList).1 = (f.feed (s.data.toList.drop k)).1) ∧ J pre v wr ∧ FramesAt wr p f v ∧ Bk wr)
    (fun ix _ => s.size - (intOf ix).toNat)
  case atStart => exact ⟨0, [], zs, f0, v0, rfl, Nat.zero_le _, Nat.le_refl _, hok, ⟨rfl, HZ.out, rfl⟩, hI.1, hI.2, hb⟩
  case round =>
    obtain ⟨k, pre, rest, f, v, rfl, hk, hpk, hfo, hfe, hj, hf, hbk⟩ := hrel
    clear d0 d1 hI hb
    obtain ⟨d0, d1⟩ := hC _ _ _ hj
    have HJ : Hid (J pre v wr) := hj
    have HF : Hid (FramesAt wr p f v) := hf
    have HFe : Hid (zs = pre ++ rest ∧ rest.map val = (f.feed (s.data.toList.drop k)).2 ∧ (f0.feed s.data.toList).1 = (f.feed (s.data.toList.drop k)).1) := hfe
    clear hj hf hfe
    by_cases hlt : k < s.size
    · have hki : (k : Int) < (s.size : Int) := by omega
      have HT : Hid (∀ W, FramesAt W p f v → Calls Tryz.prog 94 #[.pointer (some ⟨p, 0, none⟩), .int .u8 s[k].toNat] W fun e w' => e = .returned (.string ⟨(f.take s[k]).2.toArray⟩) ∧ ∃ v', FramesAt w' p (f.take s[k]).1 v' ∧ StepF p v W v' w') := fun W h => take_any p f v W h s[k] (ok_small hfo)
      have hd := List.drop_eq_getElem_cons (l := s.data.toList) (i := k) (by rw [Hm.len]; exact hlt)
      have hg : s.data.toList[k]'(by rw [Hm.len]; exact hlt) = s[k] := by simp; rfl
      rw [hg] at hd
      rw [hd, Hm.Frs.feed] at HFe
      have HO2 : Hid ((f.take s[k]).1.Ok) := Hm.Frs.take_ok hfo s[k]
      clear hd hg
      generalize f.take s[k] = r at HT HFe HO2
      obtain ⟨f', t⟩ := r
      dsimp only at HT HFe HO2
      have hmix := mixed
      cases t with
      | nil =>
        gi_wp2_with fail
        gi_region_with_o (refine ⟨trivial, fun _ => by omega, ?_⟩; refine (callsIn_wide.2 (HT.out wr.drew (show FramesAt wr.drew p f v from ⟨HF.out.row, HF.out.own, HF.out.ne, HF.out.lo⟩))).mono ?_; rintro e w4 ⟨rfl, v4, F4, S4⟩; have HF4 : Hid (FramesAt w4 p f' v4) := F4; have HS4 : Hid (StepF p v wr v4 w4) := (StepF.refl.drewN 1).trans S4; clear F4 S4)
        all_goals gi_wp2
        all_goals refine ⟨fun _ h => (by cases h), ?_⟩
        all_goals gi_wp2
        all_goals (
          go_roundw
          case rel =>
            refine ⟨k + 1, pre, rest, f', v4, int_eq (by simp), by omega, by omega, HO2.out, ?_, hJ _ _ _ _ _ _ HJ.out HF.out HS4.out, HF4.out, hBk _ _ (HS4.out.others HF.out) hbk⟩
            have h := HFe.out
            rw [if_pos trivial] at h
            exact h
          case measure => simp [intOf]; omega)
      | cons x t =>
        obtain ⟨z, rest', hre, hvz, HFn⟩ : ∃ z rest', rest = z :: rest' ∧ val z = x :: t ∧ Hid (zs = (pre ++ [z]) ++ rest' ∧ rest'.map val = (f'.feed (s.data.toList.drop (k + 1))).2 ∧ (f0.feed s.data.toList).1 = (f'.feed (s.data.toList.drop (k + 1))).1) := by
          have h := HFe.out
          rw [if_neg (by simp)] at h
          obtain ⟨h1, h2, h3⟩ := h
          cases rest with
          | nil => cases h2
          | cons z rest' =>
            rw [List.map_cons] at h2
            injection h2 with h4 h5
            exact ⟨z, rest', rfl, h4, by rw [h1]; simp, h5, h3⟩
        subst hre
        gi_wp2_with fail
        gi_region_with_o (refine ⟨trivial, fun _ => by omega, ?_⟩; refine (callsIn_wide.2 (HT.out wr.drew (show FramesAt wr.drew p f v from ⟨HF.out.row, HF.out.own, HF.out.ne, HF.out.lo⟩))).mono ?_; rintro e w4 ⟨rfl, v4, F4, S4⟩; have HF4 : Hid (FramesAt w4 p f' v4) := F4; have HS4 : Hid (StepF p v wr v4 w4) := (StepF.refl.drewN 1).trans S4; clear F4 S4)
        all_goals (
          obtain ⟨fn, tmps, assign, body, hy, hR⟩ := hY pre (f', v4) z w4 ⟨hJ _ _ _ _ _ _ HJ.out HF.out HS4.out, HF4.out⟩ (hBk _ _ (HS4.out.others HF.out) hbk) (by omega)
          rw [hvz] at hy
          unfold encB at hy
          gi_wp2
          refine ⟨fun _ => by omega, hR.mono ?_⟩
          rintro z' w5 ⟨rfl, ⟨hj5, hf5⟩, hbk5⟩
          have HJ5 : Hid (J (pre ++ [z]) v4 w5) := hj5
          have HF5 : Hid (FramesAt w5 p f' v4) := hf5
          clear hj5 hf5
          gi_wp2
          go_roundw
          case rel => exact ⟨k + 1, pre ++ [z], rest', f', v4, int_eq (by simp), by omega, by simp; omega, HO2.out, HFn.out, HJ5.out, HF5.out, hbk5⟩
          case measure => simp [intOf]; omega)
    · have hki : ¬ (k : Int) < (s.size : Int) := by omega
      have hdr : s.data.toList.drop k = [] := List.drop_of_length_le (by rw [Hm.len]; omega)
      rw [hdr] at HFe
      clear hdr
      gi_wp2
      refine bodyPost_end (results_none rfl _ _ _) rfl ?_
      refine ⟨⟨_, rfl⟩, pre, f, ⟨?_, ?_⟩, ⟨v, HJ.out, HF.out⟩, hbk⟩
      · have h := HFe.out
        have h2 : rest = [] := by simpa [Hm.Frs.feed] using h.2.1
        rw [h.1, h2, List.append_nil]
      · exact (HFe.out.2.2).symm
end Go.Proofs.YtdlhbmncbmconaaGreatDoor

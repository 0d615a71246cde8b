/- Contract of the reference: month. -/
import Derived.Test.YtdlhbmncbmconaaGreatDoorCa
namespace Go.Hm
theorem findFrom_drop (l : List UInt8) : ∀ (ms : List (List UInt8)) (i k : Nat) (h : i < ms.length), findFrom l (ms.drop i) k = if ms[i] = l then k + 1 else findFrom l (ms.drop (i + 1)) (k + 1) := by
  intro ms i k h
  rw [List.drop_eq_getElem_cons h, findFrom]
def janDec : List UInt8 := [74, 97, 110, 70, 101, 98, 77, 97, 114, 65, 112, 114, 77, 97, 121, 74, 117, 110, 74, 117, 108, 65, 117, 103, 83, 101, 112, 79, 99, 116, 78, 111, 118, 68, 101, 99]
theorem jan_at : ∀ i : Fin 12, (janDec.drop (3 * i.val)).take (3 * i.val + 3 - 3 * i.val) = monthNames.getD i.val [] := by decide +kernel
end Go.Hm
namespace Go.Proofs.YtdlhbmncbmconaaGreatDoor
open Go.RowKit Go.Sort
theorem jan_cut (i : Nat) (h : i < 12) : (⟨#[74, 97, 110, 70, 101, 98, 77, 97, 114, 65, 112, 114, 77, 97, 121, 74, 117, 110, 74, 117, 108, 65, 117, 103, 83, 101, 112, 79, 99, 116, 78, 111, 118, 68, 101, 99]⟩ : ByteArray).extract (3 * i) (3 * i + 3) = ⟨(Hm.monthNames.getD i []).toArray⟩ := by
  have h1 := rcut Hm.janDec (3 * i) (3 * i + 3)
  rw [Hm.jan_at ⟨i, h⟩] at h1
  exact h1
set_option maxRecDepth 20000 in
theorem rmonth_any (l : List UInt8) (w : World) : Calls Tryz.prog 218 #[.string ⟨l.toArray⟩] w fun e w' => e = .returned (.int .i64 (Hm.month l)) ∧ w' = w := by
  obtain ⟨M, hM⟩ : ∃ M, Hm.month l = M := ⟨_, rfl⟩
  rw [hM]
  have HM := show Hid _ from hM
  clear hM
  go_enter Tryz.func218, Tryz.ntmps218
  go_wp2
  go_loopw [4] (fun ix wr => ∃ i : Nat, i ≤ 12 ∧ ix = .int .i64 i ∧ M = Hm.findFrom l (Hm.monthNames.drop i) i ∧ wr = w) (fun ix _ => 12 - (intOf ix).toNat)
  case atStart => exact ⟨0, by omega, rfl, HM.out.symm, rfl⟩
  case round =>
    obtain ⟨i, hi, rfl, hf, rfl⟩ := hrel
    have HF := show Hid _ from hf
    clear hf
    by_cases hlt : i < 12
    · have hii : (i : Int) < 12 := by omega
      have hst := Hm.findFrom_drop l Hm.monthNames i i (by show i < 12; omega)
      have hg : Hm.monthNames[i]'(by show i < 12; omega) = Hm.monthNames.getD i [] := by
        rw [List.getD_eq_getElem?_getD, List.getElem?_eq_getElem (by show i < 12; omega)]; rfl
      rw [hg] at hst
      have HST := show Hid _ from hst
      have hjc := jan_cut i hlt
      clear hst hg
      generalize Hm.monthNames.getD i [] = mn at HST hjc
      by_cases he : mn = l
      · subst he
        have HE : Hid (M = i + 1) := by show _ = _; rw [HF.out, HST.out, if_pos rfl]
        go_wp2
        go_ret
        exact ⟨by rw [HE.out]; rfl, rfl⟩
      · have heb : (mn == l) = false := beq_eq_false_iff_ne.2 he
        have HE : Hid (M = Hm.findFrom l (Hm.monthNames.drop (i + 1)) (i + 1)) := by show _ = _; rw [HF.out, HST.out, if_neg he]
        clear he
        go_wp2
        go_roundw
        case rel => exact ⟨i + 1, by omega, int_eq (by simp), HE.out, by first | rfl | trivial⟩
        case measure => simp [intOf]; omega
    · have hii : ¬ (i : Int) < 12 := by omega
      have HE : Hid (M = 0) := by
        show _ = _
        rw [HF.out, List.drop_of_length_le (by show 12 ≤ i; omega)]
        rfl
      go_wp2
      go_ret
      exact ⟨by rw [HE.out]; rfl, rfl⟩
end Go.Proofs.YtdlhbmncbmconaaGreatDoor

/- Arguments opened: raw numbers. -/
import Derived.Test.YtdlhbmncbmconaaGreatDoorR9
import Derived.ProofKit
import Derived.OpenShut
namespace Go.Proofs.YtdlhbmncbmconaaGreatDoor
open Go.ChangeShapes Go.WideShapes Go.ChangeAt Go.RowKit Go.Lib

set_option maxRecDepth 20000 in
theorem int_of_ok {W : World} {r : Reach} {base : Nat} {v : Value} (h : Cell.okWide Tryz.prog W r base 3 v) : ∃ n : Int, v = .int .i64 n ∧ -9223372036854775808 ≤ n ∧ n ≤ 9223372036854775807 := by
  unfold Cell.okWide at h
  rw [show Tryz.prog.underlying 3 = some (.int .i64) from Tryz.underlying3] at h
  simp only [] at h
  unfold Cell.ok at h
  rw [show Tryz.prog.underlying 3 = some (.int .i64) from Tryz.underlying3] at h
  cases v with
  | int k n =>
    obtain ⟨rfl, hn⟩ := h
    exact ⟨n, rfl, by simpa [IntKind.has, IntKind.min, IntKind.max, IntKind.signed, IntKind.bits] using hn⟩
  | _ => exact h.elim
theorem raw_types : Tryz.prog.cellTypes Tryz.prog.depth 26 = some [3, 3, 3, 3, 3, 3, 3] := by kernel_rfl
theorem raw_cells : Tryz.prog.cellsOf 26 = 7 := by kernel_rfl
set_option maxRecDepth 20000 in
theorem raw_of_ok {W : World} {r : Reach} {base : Nat} {v : Value} (h : Value.okWide Tryz.prog W r base 26 v) :
    ∃ q : Hm.Raw, RawFits q ∧ v = .agg #[.int .i64 q.source, .int .i64 q.day, .int .i64 q.second, .int .i64 q.part, .int .i64 q.plain, .int .i64 q.data, .int .i64 q.text] := by
  unfold Value.okWide at h
  rw [Tryz.underlying26] at h
  simp only [] at h
  obtain ⟨cs, rfl, hsz, ts, hts, _, hall⟩ := h
  rw [raw_types] at hts
  cases hts
  rw [raw_cells] at hsz
  have hc : ∀ i, (hi : i < 7) → ∃ n : Int, cs[i]? = some (.int .i64 n) ∧ -9223372036854775808 ≤ n ∧ n ≤ 9223372036854775807 := by
    intro i hi
    obtain ⟨u, hu, hok⟩ := hall i cs[i] (Array.getElem?_eq_getElem (by omega))
    have hu3 : u = 3 := by
      rcases (by omega : i = 0 ∨ i = 1 ∨ i = 2 ∨ i = 3 ∨ i = 4 ∨ i = 5 ∨ i = 6) with h | h | h | h | h | h | h <;> subst h <;> simpa using hu.symm
    subst hu3
    obtain ⟨n, hn, hb⟩ := int_of_ok hok
    exact ⟨n, by rw [Array.getElem?_eq_getElem (by omega), hn], hb⟩
  obtain ⟨a, ha, ha'⟩ := hc 0 (by omega)
  obtain ⟨b, hb, hb'⟩ := hc 1 (by omega)
  obtain ⟨c, hcc, hc'⟩ := hc 2 (by omega)
  obtain ⟨d, hd, hd'⟩ := hc 3 (by omega)
  obtain ⟨e, he, he'⟩ := hc 4 (by omega)
  obtain ⟨f, hf, hf'⟩ := hc 5 (by omega)
  obtain ⟨g, hg, hg'⟩ := hc 6 (by omega)
  refine ⟨⟨a, b, c, d, e, f, g⟩, ⟨ha'.1, ha'.2, hb'.1, hb'.2, hc'.1, hc'.2, hd'.1, hd'.2, he'.1, he'.2, hf'.1, hf'.2, hg'.1, hg'.2⟩, congrArg Value.agg ?_⟩
  apply Array.ext'
  apply List.ext_getElem?
  intro i
  by_cases hi : i < 7
  · rw [Array.getElem?_toList]
    rcases (by omega : i = 0 ∨ i = 1 ∨ i = 2 ∨ i = 3 ∨ i = 4 ∨ i = 5 ∨ i = 6) with h | h | h | h | h | h | h <;> subst h
    · exact ha
    · exact hb
    · exact hcc
    · exact hd
    · exact he
    · exact hf
    · exact hg
  · rw [List.getElem?_eq_none (by simp; omega), List.getElem?_eq_none (by simp; omega)]
end Go.Proofs.YtdlhbmncbmconaaGreatDoor

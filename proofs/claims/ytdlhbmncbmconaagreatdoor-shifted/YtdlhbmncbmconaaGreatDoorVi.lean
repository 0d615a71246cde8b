/- Arguments opened: numbers. -/
import Derived.Test.YtdlhbmncbmconaaGreatDoorBe
import Derived.ProofKit
import Derived.OpenShut
namespace Go.Proofs.YtdlhbmncbmconaaGreatDoor
open Go.ChangeShapes Go.WideShapes Go.ChangeAt Go.RowKit Go.Lib
set_option maxRecDepth 20000 in
theorem int_of_ok {W : World} {r : Reach} {base : Nat} {v : Value} (h : Cell.okWide Tryz.prog W r base 3 v) : ∃ n : Int, v = .int .i64 n ∧ -9223372036854775808 ≤ n ∧ n ≤ 9223372036854775807 := by
  unfold Cell.okWide at h
  rw [show Tryz.prog.underlying 3 = some (.int .i64) from Tryz.underlying3] at h
  simp only [] at h
  unfold Cell.ok at h
  rw [show Tryz.prog.underlying 3 = some (.int .i64) from Tryz.underlying3] at h
  cases v with
  | int k n =>
    obtain ⟨rfl, hn⟩ := h
    exact ⟨n, rfl, by simpa [IntKind.has, IntKind.min, IntKind.max, IntKind.signed, IntKind.bits] using hn⟩
  | _ => exact h.elim
end Go.Proofs.YtdlhbmncbmconaaGreatDoor

/- Facts on the calls that Sorted reaches, one by one. -/
import Derived.Test.YtdlhbmncbmconaaGreatDoorRows
import Derived.JoinedCond
namespace Go.Proofs.YtdlhbmncbmconaaGreatDoor.sorted
set_option maxRecDepth 100000
theorem inPlace3 : (Rows.sortedUptoRow.inPlace == Tryz.prog.inPlace 4) = true := by kernel_rfl
theorem unfollowed3 : (Rows.sortedUptoRow.unfollowed == Tryz.prog.unfollowed 4) = true := by kernel_rfl
theorem recurses3 : (Rows.sortedUptoRow.recurses == Tryz.prog.recurses 4) = true := by kernel_rfl
theorem named3 : (Rows.sortedUptoRow.named == Tryz.prog.varsNamed 4) = true := by kernel_rfl
theorem closed3 : joinedFacts Tryz.prog 4 Tryz.f4 (Rows.OpenSpec.upto Rows.sortedSpec).bare Rows.sortedUptoRow = true := by
  unfold joinedFacts
  rw [inPlace3, unfollowed3, recurses3, named3]
  kernel_rfl
end Go.Proofs.YtdlhbmncbmconaaGreatDoor.sorted

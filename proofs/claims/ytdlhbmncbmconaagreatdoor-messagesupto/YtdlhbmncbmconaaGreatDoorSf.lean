/- Facts on the calls that Messages reaches, one by one. -/
import Derived.Test.YtdlhbmncbmconaaGreatDoorRows
import Derived.JoinedCond
namespace Go.Proofs.YtdlhbmncbmconaaGreatDoor.messages
set_option maxRecDepth 100000
theorem inPlace3 : (Rows.messagesUptoRow.inPlace == Tryz.prog.inPlace 3) = true := by kernel_rfl
theorem unfollowed3 : (Rows.messagesUptoRow.unfollowed == Tryz.prog.unfollowed 3) = true := by kernel_rfl
theorem recurses3 : (Rows.messagesUptoRow.recurses == Tryz.prog.recurses 3) = true := by kernel_rfl
theorem named3 : (Rows.messagesUptoRow.named == Tryz.prog.varsNamed 3) = true := by kernel_rfl
theorem closed3 : joinedFacts Tryz.prog 3 Tryz.f3 (Rows.OpenSpec.upto Rows.messagesSpec).bare Rows.messagesUptoRow = true := by
  unfold joinedFacts
  rw [inPlace3, unfollowed3, recurses3, named3]
  kernel_rfl
end Go.Proofs.YtdlhbmncbmconaaGreatDoor.messages

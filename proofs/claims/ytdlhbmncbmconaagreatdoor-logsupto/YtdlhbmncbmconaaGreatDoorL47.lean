/- Pressed by program out of Sh. -/
import Derived.Test.YtdlhbmncbmconaaGreatDoorRows
import Derived.JoinedCond
namespace Go.Proofs.YtdlhbmncbmconaaGreatDoor.logs
set_option maxRecDepth 100000
theorem inPlace3:(Rows.logsUptoRow.inPlace == Tryz.prog.inPlace 5)=true:=by kernel_rfl
theorem unfollowed3:(Rows.logsUptoRow.unfollowed == Tryz.prog.unfollowed 5)=true:=by kernel_rfl
theorem recurses3:(Rows.logsUptoRow.recurses == Tryz.prog.recurses 5)=true:=by kernel_rfl
theorem named3:(Rows.logsUptoRow.named == Tryz.prog.varsNamed 5)=true:=by kernel_rfl
theorem closed3:joinedFacts Tryz.prog 5 Tryz.f5 (Rows.OpenSpec.upto Rows.logsSpec).bare Rows.logsUptoRow=true:=by
 unfold joinedFacts
 rw [inPlace3,unfollowed3,recurses3,named3]
 kernel_rfl
end Go.Proofs.YtdlhbmncbmconaaGreatDoor.logs

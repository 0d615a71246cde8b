/- Pressed by program out of Si. -/
import Derived.Test.YtdlhbmncbmconaaGreatDoorRows
import Derived.JoinedCond
namespace Go.Proofs.YtdlhbmncbmconaaGreatDoor.all
set_option maxRecDepth 100000
theorem inPlace3:(Rows.allUptoRow.inPlace==Tryz.prog.inPlace 16)=true:=by kernel_rfl
theorem unfollowed3:(Rows.allUptoRow.unfollowed==Tryz.prog.unfollowed 16)=true:=by kernel_rfl
theorem recurses3:(Rows.allUptoRow.recurses==Tryz.prog.recurses 16)=true:=by kernel_rfl
theorem named3:(Rows.allUptoRow.named==Tryz.prog.varsNamed 16)=true:=by kernel_rfl
theorem closed3:joinedFacts Tryz.prog 16 Tryz.f16 (Rows.OpenSpec.upto Rows.allSpec).bare Rows.allUptoRow=true:=by
 unfold joinedFacts;rw[inPlace3,unfollowed3,recurses3,named3];kernel_rfl
end Go.Proofs.YtdlhbmncbmconaaGreatDoor.all

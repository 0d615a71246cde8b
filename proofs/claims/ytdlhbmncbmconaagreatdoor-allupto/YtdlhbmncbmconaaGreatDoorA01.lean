/- Pressed by program out of A1. -/
import Derived.Below
namespace Go
open Go.RowKit
theorem aA{p:Prop}(h:p):Hid p:=h
abbrev aF:=@Go.RowKit.Below.refl
abbrev aS:=@cell_of_row
abbrev cG:=@wpList_load_row
abbrev bB:=@bodyPost_ret
end Go

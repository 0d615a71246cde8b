/- Slices of raw messages among the arguments of this program. -/
import Derived.Test.YtdlhbmncbmconaaGreatDoorVr
import Derived.Test.YtdlhbmncbmconaaGreatDoorBs
import Derived.ChangeSlices
import Derived.SizedLaws
namespace Go.Proofs.YtdlhbmncbmconaaGreatDoor.rawz
open Go.ChangeShapes Go.WideShapes Go.ChangeAt Go.RowKit Go.Lib
open Go.OpenShut
theorem cells_int : Tryz.prog.cellsOf 3 = 1 := by kernel_rfl
theorem cells_raw : Tryz.prog.cellsOf 26 = 7 := by kernel_rfl
theorem bytes_raw : Tryz.prog.bytesOf 26 = 56 := by kernel_rfl
theorem raws_of {H : Type} {enc : TypeId × Value → H} {W : World} {v : Value} {d : DataW H} {p : List MemPlace} (h : DataW.Trod enc Tryz.prog W 0 (fun _ => true) true 62 v d p) (hone : v.cells = #[v]) (hd : ∀ n ∈ d.weights Tryz.prog 62, n ≤ reachBytes) :
    ∃ (ad : Option Addr) (rows : List (List Int)) (cap : Nat), v = .slice ad rows.length cap ∧ RowsAt 7 W ad rows :=
  rows_of Tryz.underlying62 Tryz.underlying26 (k := 7) rfl (by decide) cells_raw (fun j f hf => by
    match j, hf with
    | 0, hf => cases hf; exact ⟨rfl, Tryz.underlying3, cells_int⟩
    | 1, hf => cases hf; exact ⟨rfl, Tryz.underlying3, cells_int⟩
    | 2, hf => cases hf; exact ⟨rfl, Tryz.underlying3, cells_int⟩
    | 3, hf => cases hf; exact ⟨rfl, Tryz.underlying3, cells_int⟩
    | 4, hf => cases hf; exact ⟨rfl, Tryz.underlying3, cells_int⟩
    | 5, hf => cases hf; exact ⟨rfl, Tryz.underlying3, cells_int⟩
    | 6, hf => cases hf; exact ⟨rfl, Tryz.underlying3, cells_int⟩
    | n + 7, hf => exact absurd (Array.getElem?_eq_some_iff.1 hf).1 (by simp)) (by rw [bytes_raw]; decide) h hone hd
end Go.Proofs.YtdlhbmncbmconaaGreatDoor.rawz

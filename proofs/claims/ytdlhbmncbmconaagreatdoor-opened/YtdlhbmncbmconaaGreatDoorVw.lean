/- Slices of raw messages and of whole numbers among the arguments of this program. -/
import Derived.Test.YtdlhbmncbmconaaGreatDoorVr
import Derived.Test.YtdlhbmncbmconaaGreatDoorR13
import Derived.Test.YtdlhbmncbmconaaGreatDoorBs
import Derived.ChangeSlices
import Derived.SizedLaws
namespace Go.Proofs.YtdlhbmncbmconaaGreatDoor.raws
open Go.ChangeShapes Go.WideShapes Go.ChangeAt Go.RowKit Go.Lib
open Go.OpenShut
theorem cells_int : Tryz.prog.cellsOf 3 = 1 := by kernel_rfl
theorem bytes_int : Tryz.prog.bytesOf 3 = 8 := by kernel_rfl
theorem cells_raw : Tryz.prog.cellsOf 26 = 7 := by kernel_rfl
theorem bytes_raw : Tryz.prog.bytesOf 26 = 56 := by kernel_rfl
theorem raws_of {H : Type} {enc : TypeId × Value → H} {W : World} {v : Value} {d : DataW H} {p : List MemPlace} (h : DataW.Trod enc Tryz.prog W 0 (fun _ => true) true 62 v d p) (hone : v.cells = #[v]) (hd : ∀ n ∈ d.weights Tryz.prog 62, n ≤ reachBytes) :
    ∃ (ad : Option Addr) (rows : List (List Int)) (cap : Nat), v = .slice ad rows.length cap ∧ RowsAt 7 W ad rows :=
  rows_of Tryz.underlying62 Tryz.underlying26 (k := 7) rfl (by decide) cells_raw (fun j f hf => by
    match j, hf with
    | 0, hf => cases hf; exact ⟨rfl, Tryz.underlying3, cells_int⟩
    | 1, hf => cases hf; exact ⟨rfl, Tryz.underlying3, cells_int⟩
    | 2, hf => cases hf; exact ⟨rfl, Tryz.underlying3, cells_int⟩
    | 3, hf => cases hf; exact ⟨rfl, Tryz.underlying3, cells_int⟩
    | 4, hf => cases hf; exact ⟨rfl, Tryz.underlying3, cells_int⟩
    | 5, hf => cases hf; exact ⟨rfl, Tryz.underlying3, cells_int⟩
    | 6, hf => cases hf; exact ⟨rfl, Tryz.underlying3, cells_int⟩
    | n + 7, hf => exact absurd (Array.getElem?_eq_some_iff.1 hf).1 (by simp)) (by rw [bytes_raw]; decide) h hone hd
theorem ints_of {H : Type} {enc : TypeId × Value → H} {W : World} {v : Value} {d : DataW H} {p : List MemPlace} (h : DataW.Trod enc Tryz.prog W 0 (fun _ => true) true 44 v d p) (hone : v.cells = #[v]) (hd : ∀ n ∈ d.weights Tryz.prog 44, n ≤ reachBytes) :
    ∃ (ad : Option Addr) (cs : List Int) (cap : Nat), v = .slice ad cs.length cap ∧ IntsAt W ad cs := by
  obtain ⟨fuel, hf⟩ := h
  rw [hone] at hf
  rcases open_ints Tryz.underlying44 Tryz.underlying3 cells_int hf with ⟨hcs, hx⟩ | ⟨a, len, cap, zs, hcs, _, hl, hm, hz, hx, hcell, hwz⟩
  · have hv : v = .slice none 0 0 := by simpa using hcs
    exact ⟨none, [], 0, hv, fun j z hj => by simp at hj, by simp, by simp, by simp⟩
  · have hv : v = .slice (some a) len cap := by simpa using hcs
    have hd' : d = .slice (lits .i64 (zs.take len)) (lits .i64 (zs.drop len)) := congrArg Prod.fst hx
    have hzl : len ≤ zs.length := by rw [hz]; simpa using hl
    have hlen : (zs.take len).length = len := by simp; omega
    have hb : len ≤ 1000000000000000 := by
      rw [hd'] at hd
      have h8 := hd (((lits (H := H) .i64 (zs.take len)).length + (lits (H := H) .i64 (zs.drop len)).length) * Tryz.prog.bytesOf 3) (by simp [DataW.weights, Tryz.underlying44])
      rw [bytes_int] at h8
      have e : (lits (H := H) .i64 (zs.take len)).length = len := by rw [← hlen]; simp [lits]
      have := reachBytes_lt
      omega
    refine ⟨some a, zs.take len, cap, by rw [hlen]; exact hv, ?_, ?_, ?_, by omega⟩
    · intro j z hj
      have hj' : j < len := by have := (List.getElem?_eq_some_iff.1 hj).1; omega
      obtain ⟨b, off, rfl, hc⟩ := ints_at hcell (by omega)
      have hc := hc j (by omega)
      refine ⟨b, off, rfl, ?_⟩
      rw [List.getElem?_take, if_pos hj'] at hj
      rw [List.getD_eq_getElem?_getD, hj] at hc
      exact hc
    · intro z hz'
      have := hwz z (List.mem_of_mem_take hz')
      exact (bounds_i64 this).1
    · intro z hz'
      have := hwz z (List.mem_of_mem_take hz')
      exact (bounds_i64 this).2
end Go.Proofs.YtdlhbmncbmconaaGreatDoor.raws

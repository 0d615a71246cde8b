/- Contracts of the statements' package: begun (of messages alone), kept (of no lists). -/
import Derived.Test.YtdlhbmncbmconaaGreatDoorBg
namespace Go.Hm
def exL1 : List UInt8 := [60, 51, 52, 62, 49, 32, 50, 48, 48, 51, 45, 49, 48, 45, 49, 49, 84, 50, 50, 58, 49, 52, 58, 49, 53, 46, 48, 48, 51, 90, 32, 109, 121, 109, 97, 99, 104, 105, 110, 101, 32, 115, 117, 32, 45, 32, 73, 68, 52, 55, 32, 45, 32, 105, 116, 32, 102, 97, 105, 108, 101, 100]
def exM : Msg := ⟨4, 2, [50, 48, 48, 51, 45, 49, 48, 45, 49, 49, 84, 50, 50, 58, 49, 52, 58, 49, 53, 46, 48, 48, 51, 90], [109, 121, 109, 97, 99, 104, 105, 110, 101], [115, 117], [], [73, 68, 52, 55], [], [105, 116, 32, 102, 97, 105, 108, 101, 100]⟩
theorem exM_read : read exL1 1 = (exM, 0, 0) := by kernel_rfl
theorem exM_line : line exM = (exL1, 0) := by kernel_rfl
end Go.Hm
namespace Go.Proofs.YtdlhbmncbmconaaGreatDoor
open Go.RowKit Go.Sort
def worldZero : Array Value := #[.slice none 0 0, .slice none 0 0, .slice none 0 0, .slice none 0 0, .slice none 0 0, .slice none 0 0, .slice none 0 0, .slice none 0 0, .int .i64 0]
theorem begun_read (w : World) (hT : Tabs w) : Calls Tryz.prog 21 #[.string ⟨Hm.exL1.toArray⟩, .int .i64 1] w fun e w' => e = .returned (.tuple #[.agg (msgCells Hm.exM), .int .i64 0, .int .i64 0]) ∧ Below w.heap.size w w' := by
  have h := Read_any ⟨Hm.exL1.toArray⟩ 1 w hT (by decide)
  rw [show (⟨Hm.exL1.toArray⟩ : ByteArray).data.toList = Hm.exL1 from rfl, Hm.exM_read] at h
  exact h
theorem begun_line (w : World) (hT : Tabs w) : Calls Tryz.prog 20 #[.agg (msgCells Hm.exM)] w fun e w' => e = .returned (.tuple #[.string ⟨Hm.exL1.toArray⟩, .int .i64 0]) ∧ Below w.heap.size w w' := by
  have h := Line_any Hm.exM w hT (by decide) (by decide) (by decide) (by decide) (by decide) (by decide) (by decide)
  rw [Hm.exM_line] at h
  exact h
theorem kept_none (p : Nat) (w : World) (hp : w.heap[p]? = some (.cells worldZero 142 (0, 0))) : Calls Tryz.prog 42 #[.pointer (some ⟨p, 0, none⟩)] w fun e w' => e = .returned (.bool true) ∧ w' = w := by
  have c6 : w.cell? ⟨p, 6, none⟩ = some (.slice none 0 0) := cell_of_row _ _ _ _ _ _ hp
  go_enter Tryz.func42, Tryz.ntmps42
  go_wp2
  go_loopw [3, 4] (fun s3 _ wr => s3 = .int .i64 0 ∧ wr = w) (fun _ _ _ => 0)
  case atStart => exact ⟨rfl, rfl⟩
  case round =>
    obtain ⟨rfl, hw1⟩ := hrel
    have hw1 := hw1.symm
    subst hw1
    go_wp2
    go_ret
    exact ⟨rfl, rfl⟩
set_option maxRecDepth 20000 in
set_option maxHeartbeats 4000000 in
theorem begun_messages (w : World) (hT : Tabs w) : Calls Tryz.prog 40 #[.int .i64 1, .int .i64 2] w fun e w' => e = .returned (.pointer (some ⟨w.heap.size, 0, none⟩)) ∧ w'.heap[w.heap.size]? = some (.cells worldZero 142 (0, 0)) ∧ Below w.heap.size w w' := by
  have RD : Hid (∀ w, Tabs w → Calls Tryz.prog 21 #[.string ⟨Hm.exL1.toArray⟩, .int .i64 1] w fun e w' => e = .returned (.tuple #[.agg (msgCells Hm.exM), .int .i64 0, .int .i64 0]) ∧ Below w.heap.size w w') := begun_read
  have LN : Hid (∀ w, Tabs w → Calls Tryz.prog 20 #[.agg (msgCells Hm.exM)] w fun e w' => e = .returned (.tuple #[.string ⟨Hm.exL1.toArray⟩, .int .i64 0]) ∧ Below w.heap.size w w') := begun_line
  unfold Hm.exL1 at RD LN
  go_enter Tryz.func40, Tryz.ntmps40
  go_wp2_with fail
  refine (RD.out _ (hT.alloc _)).mono ?_
  rintro e w1 ⟨rfl, hb1⟩
  have HB1 : Hid (Below w.heap.size w w1) := ((Below.refl _ _).alloc (Nat.le_refl _) _).trans (hb1.mono (by simp))
  have hz1 : w.heap.size < w1.heap.size := by have := hb1.size; simp at this; omega
  have HR1 := show Hid (w1.heap[w.heap.size]? = some (.cells worldZero 142 (0, 0))) from (hb1.block w.heap.size (by simp)).trans (heap_alloc_new _ _)
  clear hb1
  go_wp2_with (first
    | (refine Hw.wpList_store_rowP rfl _ _ _ rfl rfl w1.heap.size (msgCells Hm.exM) rfl rfl _ _ (heap_alloc_new _ _) size_msg rfl rfl ?_; intro w2 p2; have P2 : Hid (Hw.Put (w1.alloc _) _ _ _ w2) := p2; clear p2)
    | (refine wpList_load_row rfl _ _ rfl w1.heap.size rfl _ _ _ _ P2.out.row Tryz.underlying29 rfl size_msg ?_)
    | fail)
  have HB2 : Hid (Below w.heap.size w w2) := (HB1.out.alloc (by omega) _).trans (P2.out.below (by omega))
  have HR2 : Hid (w2.heap[w.heap.size]? = some (.cells worldZero 142 (0, 0))) := (P2.out.other _ (by omega)).trans ((heap_alloc_old _ _ hz1).trans HR1.out)
  refine (LN.out _ (hT.next HB2.out)).mono ?_
  rintro e w3 ⟨rfl, hb3⟩
  have HB3 : Hid (Below w.heap.size w w3) := Below.next HB2.out (by have := P2.out.size; simp at this; omega) hb3
  have HR3 : Hid (w3.heap[w.heap.size]? = some (.cells worldZero 142 (0, 0))) := (hb3.block _ (by have := P2.out.size; simp at this; omega)).trans HR2.out
  clear hb3
  go_wp2
  go_ret
  exact ⟨rfl, HR3.out, HB3.out⟩
end Go.Proofs.YtdlhbmncbmconaaGreatDoor

/- Contracts of the statements' package: alike, message, num. -/
import Derived.Test.YtdlhbmncbmconaaGreatDoorCm
namespace Go.Proofs.YtdlhbmncbmconaaGreatDoor
open Go.RowKit Go.Sort
attribute [local go_sem] app_mk rcut rbyte
theorem num_any (e : Int) (w : World) : Calls Tryz.prog 107 #[.int .i64 e] w fun r w' => r = .returned (.int .i64 e) ∧ w' = w := by
  go_enter Tryz.func107, Tryz.ntmps107
  go_wp2
  go_ret
  exact ⟨rfl, rfl⟩
set_option maxRecDepth 20000 in
set_option maxHeartbeats 4000000 in
theorem message_any (m : Hm.Msg) (w : World) : Calls Tryz.prog 112 #[.agg (msgCells m)] w fun r w' => r = .returned (.agg (msgCells m)) ∧ Below w.heap.size w w' := by
  obtain ⟨f, s, t, h1, h2, h3, h4, d, x⟩ := m
  unfold msgCells
  dsimp only
  go_enter Tryz.func112, Tryz.ntmps112
  go_wp2_with (first
    | (refine Hw.wpList_store_rowP rfl _ _ _ rfl rfl (w.heap.size + 1) _ rfl rfl _ _ (alloc2_new _ _ _) size_msg rfl rfl ?_; intro w8 p8; have P8 : Hid (Hw.Put _ _ _ _ w8) := p8; clear p8))
  refine bodyPost_ret (results_cell_row Tryz.results112 _ _ _ _ _ _ _ rfl P8.out.row Tryz.underlying29 rfl size_msg) rfl ⟨rfl, (((Below.refl _ _).alloc (Nat.le_refl _) _).alloc (by simp) _).trans (P8.out.below (by omega))⟩
set_option maxRecDepth 20000 in
set_option maxHeartbeats 4000000 in
theorem alike_any (m : Hm.Msg) (w : World) : Calls Tryz.prog 111 #[.agg (msgCells m), .agg (msgCells m)] w fun r w' => r = .returned (.bool true) ∧ Below w.heap.size w w' := by
  obtain ⟨f, s, t, h1, h2, h3, h4, d, x⟩ := m
  unfold msgCells
  dsimp only
  go_enter Tryz.func111, Tryz.ntmps111
  go_wp2
  go_ret
  exact ⟨rfl, ((Below.refl _ _).alloc (Nat.le_refl _) _).alloc (by simp) _⟩
end Go.Proofs.YtdlhbmncbmconaaGreatDoor

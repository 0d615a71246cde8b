/- Contracts of the statements' package: messages. -/
import Derived.Test.YtdlhbmncbmconaaGreatDoorDa
import Derived.Test.YtdlhbmncbmconaaGreatDoorCs
import Derived.Test.YtdlhbmncbmconaaGreatDoorVm
namespace Go.Proofs.YtdlhbmncbmconaaGreatDoor
open Go.RowKit Go.Sort
attribute [local go_sem] app_mk rcut rbyte
theorem cells16 {w : World} {g : Nat} {a0 a1 a2 a3 a4 a5 a6 a7 a8 a9 a10 a11 a12 a13 a14 a15 : Value} {t : TypeId} {fr : Nat × Nat} (h : w.heap[g]? = some (.cells #[a0, a1, a2, a3, a4, a5, a6, a7, a8, a9, a10, a11, a12, a13, a14, a15] t fr)) :
    w.cell? ⟨g, 0, none⟩ = some a0 ∧ w.cell? ⟨g, 4, none⟩ = some a4 ∧ w.cell? ⟨g, 6, none⟩ = some a6 ∧ w.cell? ⟨g, 7, none⟩ = some a7 ∧ w.cell? ⟨g, 8, none⟩ = some a8 ∧ w.cell? ⟨g, 9, none⟩ = some a9 ∧ w.cell? ⟨g, 10, none⟩ = some a10 ∧ w.cell? ⟨g, 11, none⟩ = some a11 ∧ w.cell? ⟨g, 12, none⟩ = some a12 ∧ w.cell? ⟨g, 13, none⟩ = some a13 ∧ w.cell? ⟨g, 14, none⟩ = some a14 ∧ w.cell? ⟨g, 15, none⟩ = some a15 :=
  ⟨cell_of_row _ _ _ _ _ _ h, cell_of_row _ _ _ _ _ _ h, cell_of_row _ _ _ _ _ _ h, cell_of_row _ _ _ _ _ _ h, cell_of_row _ _ _ _ _ _ h, cell_of_row _ _ _ _ _ _ h, cell_of_row _ _ _ _ _ _ h, cell_of_row _ _ _ _ _ _ h, cell_of_row _ _ _ _ _ _ h, cell_of_row _ _ _ _ _ _ h, cell_of_row _ _ _ _ _ _ h, cell_of_row _ _ _ _ _ _ h⟩
set_option maxRecDepth 20000 in
set_option maxHeartbeats 4000000 in
theorem messages_read (o : OpV) (hk : o.kind = 1) (hs : o.s.length ≤ 4000000000) (w : World) (hT : Tabs w) : Calls Tryz.prog 71 #[.agg (opCells o)] w fun r w' => r = .returned (.bool true) ∧ Below w.heap.size w w' := by
  obtain ⟨kd, a, b, c, n, q, s, ⟨f, sv, t, h1, h2, h3, h4, d, x⟩⟩ := o
  dsimp only at hk hs
  subst hk
  unfold opCells
  dsimp only
  have RD : Hid (∀ w, Tabs w → Calls Tryz.prog 21 #[.string ⟨s.toArray⟩, .int .i64 n] w fun e w' => e = .returned (.tuple #[.agg (msgCells (Hm.read s n).1), .int .i64 (Hm.read s n).2.1, .int .i64 (Hm.read s n).2.2]) ∧ Below w.heap.size w w') := fun w hT => Read_any ⟨s.toArray⟩ n w hT (by simp [ByteArray.size]; omega)
  have RR : Hid (∀ w, Calls Tryz.prog 110 #[.string ⟨s.toArray⟩, .int .i64 n] w fun e w' => e = .returned (.tuple #[.agg (msgCells (Hm.read s n).1), .int .i64 (Hm.read s n).2.1, .int .i64 (Hm.read s n).2.2]) ∧ Below w.heap.size w w') := fun w => rRead_any s (by omega) n w
  have AL : Hid (∀ w, Calls Tryz.prog 111 #[.agg (msgCells (Hm.read s n).1), .agg (msgCells (Hm.read s n).1)] w fun r w' => r = .returned (.bool true) ∧ Below w.heap.size w w') := fun w => alike_any _ w
  generalize Hm.read s n = R at RD RR AL
  obtain ⟨M, E, I⟩ := R
  dsimp only at RD RR AL
  have NU : Hid (∀ w, Calls Tryz.prog 107 #[.int .i64 (E : Int)] w fun r w' => r = .returned (.int .i64 (E : Int)) ∧ w' = w) := fun w => num_any E w
  go_enter Tryz.func71, Tryz.ntmps71
  go_wp2_with fail
  refine (RD.out _ (hT.alloc _)).mono ?_
  rintro e w1 ⟨rfl, hb1⟩
  have HB1 : Hid (Below w.heap.size w w1) := ((Below.refl _ _).alloc (Nat.le_refl _) _).trans (hb1.mono (by simp))
  have hz1 : w.heap.size < w1.heap.size := by have := hb1.size; simp at this; omega
  have hr1 := (hb1.block w.heap.size (by simp)).trans (heap_alloc_new _ _)
  have HR1 := show Hid _ from hr1
  clear hb1 hr1
  go_wp2_with (first
    | (refine Hw.wpList_store_rowP rfl _ _ _ rfl rfl w1.heap.size (msgCells M) rfl rfl _ _ (heap_alloc_new _ _) size_msg rfl rfl ?_; intro w2 p2; have P2 : Hid (Hw.Put (w1.alloc _) _ _ _ w2) := p2; clear p2; obtain ⟨y0, y4, y6, y7, y8, y9, y10, y11, y12, y13, y14, y15⟩ := cells16 ((P2.out.other _ (by omega)).trans ((heap_alloc_old _ _ hz1).trans HR1.out)))
    | fail)
  refine (RR.out _).mono ?_
  rintro e w3 ⟨rfl, hb3⟩
  have hz2 : w2.heap.size = w1.heap.size + 1 := by have := P2.out.size; simpa using this
  have HB3 : Hid (Below w.heap.size w w3) := ((HB1.out.alloc (by omega) _).trans (P2.out.below (by omega))).trans (hb3.mono (by omega))
  have HM3 : Hid (w3.heap[w1.heap.size]? = _) := (hb3.block _ (by omega)).trans P2.out.row
  have hz3 : w1.heap.size < w3.heap.size := by have := hb3.size; omega
  clear hb3 y0 y4 y6 y7 y8 y9 y10 y11 y12 y13 y14 y15
  go_wp2_with (first
    | (refine Hw.wpList_store_rowP rfl _ _ _ rfl rfl w3.heap.size (msgCells M) rfl rfl _ _ (heap_alloc_new _ _) size_rmsg rfl rfl ?_; intro w4 p4; have P4 : Hid (Hw.Put (w3.alloc _) _ _ _ w4) := p4; clear p4)
    | (refine wpList_load_row rfl _ _ rfl w1.heap.size rfl _ _ _ _ ((P4.out.other _ (by omega)).trans ((heap_alloc_old _ _ hz3).trans HM3.out)) Tryz.underlying29 rfl size_msg ?_)
    | (refine wpList_load_row rfl _ _ rfl w3.heap.size rfl _ _ _ _ P4.out.row Tryz.underlying80 rfl size_rmsg ?_)
    | fail)
  refine (AL.out _).mono ?_
  rintro e w5 ⟨rfl, hb5⟩
  have HB5 : Hid (Below w.heap.size w w5) := ((HB3.out.alloc (by omega) _).trans (P4.out.below (by omega))).trans (hb5.mono (by have := P4.out.size; simp at this; omega))
  clear hb5
  go_wp2_with fail
  refine (NU.out _).mono ?_
  rintro e w6 ⟨rfl, hw6⟩
  have hw6 := hw6.symm
  subst hw6
  go_wp2
  go_ret
  exact ⟨rfl, HB5.out⟩
set_option maxRecDepth 20000 in
set_option maxHeartbeats 4000000 in
theorem messages_line (o : OpV) (hk : o.kind = 2) (hs : o.Small 4000000000) (w : World) (hT : Tabs w) : Calls Tryz.prog 71 #[.agg (opCells o)] w fun r w' => r = .returned (.bool true) ∧ Below w.heap.size w w' := by
  have ME : Hid (∀ w, Calls Tryz.prog 112 #[.agg (msgCells o.msg)] w fun r w' => r = .returned (.agg (msgCells o.msg)) ∧ Below w.heap.size w w') := fun w => message_any o.msg w
  have LI : Hid (∀ w, Tabs w → Calls Tryz.prog 20 #[.agg (msgCells o.msg)] w fun r w' => r = .returned (.tuple #[.string ⟨(Hm.line o.msg).1.toArray⟩, .int .i64 (Hm.line o.msg).2]) ∧ Below w.heap.size w w') := fun w hT => Line_any o.msg w hT hs.time hs.host hs.app hs.proc hs.id hs.data hs.text
  have LR : Hid (∀ w, Calls Tryz.prog 113 #[.agg (msgCells o.msg)] w fun r w' => r = .returned (.tuple #[.string ⟨(Hm.line o.msg).1.toArray⟩, .int .i64 (Hm.line o.msg).2]) ∧ Below w.heap.size w w') := fun w => rLine_any o.msg w hs.time hs.host hs.app hs.proc hs.id hs.data hs.text
  generalize Hm.line o.msg = R at LI LR
  obtain ⟨S, E⟩ := R
  dsimp only at LI LR
  have NU : Hid (∀ w, Calls Tryz.prog 107 #[.int .i64 (E : Int)] w fun r w' => r = .returned (.int .i64 (E : Int)) ∧ w' = w) := fun w => num_any E w
  clear hs
  obtain ⟨kd, a, b, c, n, q, s, ⟨f, sv, t, h1, h2, h3, h4, d, x⟩⟩ := o
  dsimp only at hk
  subst hk
  unfold opCells
  unfold msgCells at ME LI LR
  dsimp only at ME LI LR ⊢
  go_enter Tryz.func71, Tryz.ntmps71
  go_wp2_with fail
  refine (ME.out _).mono ?_
  rintro e w1 ⟨rfl, hb1⟩
  have HB1 : Hid (Below w.heap.size w w1) := ((Below.refl _ _).alloc (Nat.le_refl _) _).trans (hb1.mono (by simp))
  have hz1 : w.heap.size < w1.heap.size := by have := hb1.size; simp at this; omega
  have HR1 := show Hid _ from (hb1.block w.heap.size (by simp)).trans (heap_alloc_new _ _)
  clear hb1
  go_wp2_with fail
  refine (LI.out _ (hT.next HB1.out)).mono ?_
  rintro e w2 ⟨rfl, hb2⟩
  have HB2 : Hid (Below w.heap.size w w2) := Below.next HB1.out (by omega) hb2
  have HR2 := show Hid _ from (hb2.block w.heap.size hz1).trans HR1.out
  obtain ⟨y0, y4, y6, y7, y8, y9, y10, y11, y12, y13, y14, y15⟩ := cells16 HR2.out
  clear hb2
  go_wp2_with fail
  refine (LR.out _).mono ?_
  rintro e w3 ⟨rfl, hb3⟩
  have HB3 : Hid (Below w.heap.size w w3) := Below.next HB2.out (by have := HB2.out.size; omega) hb3
  clear hb3 y0 y4 y6 y7 y8 y9 y10 y11 y12 y13 y14 y15
  go_wp2_with fail
  refine (NU.out _).mono ?_
  rintro e w6 ⟨rfl, hw6⟩
  have hw6 := hw6.symm
  subst hw6
  go_wp2
  go_ret
  exact ⟨rfl, HB3.out⟩
end Go.Proofs.YtdlhbmncbmconaaGreatDoor

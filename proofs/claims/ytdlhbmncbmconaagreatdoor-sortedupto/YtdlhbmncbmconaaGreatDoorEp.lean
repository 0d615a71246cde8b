/- Contracts of the statements' package: begun of frames and rules; Sorted. -/
import Derived.Test.YtdlhbmncbmconaaGreatDoorEn
import Derived.Test.YtdlhbmncbmconaaGreatDoorEo
import Derived.Test.YtdlhbmncbmconaaGreatDoorDc
namespace Go.Hm
def exRu : List UInt8 := [42, 46, 100, 101, 98, 117, 103, 32, 100, 114, 111, 112, 10]
theorem exRu_rules : newRules exRu = .ok [⟨16777215, 255, false⟩] := by kernel_rfl
end Go.Hm
namespace Go.Proofs.YtdlhbmncbmconaaGreatDoor
open Go.RowKit Go.Sort
def XT (_ : World) (_ : Nat → Nat × Nat) : Prop := True
theorem XT.stable : Stable 3 XT := fun _ _ _ _ _ _ _ _ _ => trivial
theorem worldZero_cells : worldZero = wCells (fun _ => .slice none 0 0) 0 := rfl
theorem LInv.start {w : World} {p : Nat} (h : w.heap[p]? = some (.cells worldZero 142 (0, 0))) : LInv p p [] [] XT [] [] 0 0 w := by
  refine ⟨fun _ => .slice none 0 0, fun _ => [], [], fun k => if k = p then (9, 0) else (0, 0), ⟨h, if_pos rfl, fun j _ => ⟨World.ownsRow_nil _ _ _ _, fun k e => (by cases e)⟩, fun i x hx => (by simp at hx), fun x hx => (by cases hx), trivial, FrP.stable _, RuP.stable _, XT.stable, fun x hx => (by cases hx), fun k hk => ?_⟩, rfl, rfl, rfl, rfl, rfl, rfl, rfl, rfl, rfl⟩
  show (if k = p then _ else _ : Nat × Nat).1 = 0
  rw [if_neg (by omega)]
def opF : OpV := ⟨3, 0, 0, 0, 100, 0, [], ⟨0, 0, [], [], [], [], [], [], []⟩⟩
def opR : OpV := ⟨5, 0, 0, 0, 0, 0, Hm.exRu, ⟨0, 0, [], [], [], [], [], [], []⟩⟩
theorem opF_cells : opCells opF = #[.int .i64 3, .int .i64 0, .int .i64 0, .int .i64 0, .int .i64 100, .int .i64 0, .string ⟨#[]⟩, .int .i64 0, .int .i64 0, .string ⟨#[]⟩, .string ⟨#[]⟩, .string ⟨#[]⟩, .string ⟨#[]⟩, .string ⟨#[]⟩, .string ⟨#[]⟩, .string ⟨#[]⟩] := rfl
theorem opR_cells : opCells opR = #[.int .i64 5, .int .i64 0, .int .i64 0, .int .i64 0, .int .i64 0, .int .i64 0, .string ⟨#[42, 46, 100, 101, 98, 117, 103, 32, 100, 114, 111, 112, 10]⟩, .int .i64 0, .int .i64 0, .string ⟨#[]⟩, .string ⟨#[]⟩, .string ⟨#[]⟩, .string ⟨#[]⟩, .string ⟨#[]⟩, .string ⟨#[]⟩, .string ⟨#[]⟩] := rfl
theorem made_opF {P : Nat} (w : World) (hw : 11 ≤ w.heap.size) (h : LInv P P [] [] XT [] [] 0 0 w) : Calls Tryz.prog 70 #[.pointer (some ⟨P, 0, none⟩), .agg #[.int .i64 3, .int .i64 0, .int .i64 0, .int .i64 0, .int .i64 100, .int .i64 0, .string ⟨#[]⟩, .int .i64 0, .int .i64 0, .string ⟨#[]⟩, .string ⟨#[]⟩, .string ⟨#[]⟩, .string ⟨#[]⟩, .string ⟨#[]⟩, .string ⟨#[]⟩, .string ⟨#[]⟩]] w fun e w' => e = .returned (.bool true) ∧ Below P w w' ∧ ∃ x : LFr, x.A = [] ∧ x.C = [] ∧ LInv P P [x] [] XT [] [] 0 0 w' := by
  have h1 := made_frames h hw (by simp) opF rfl 100 rfl (by omega) (by omega)
  rw [opF_cells] at h1
  exact h1
theorem made_opR {P : Nat} (w : World) (x : LFr) (hT : Tabs w) (h : LInv P P [x] [] XT [] [] 0 0 w) : Calls Tryz.prog 70 #[.pointer (some ⟨P, 0, none⟩), .agg #[.int .i64 5, .int .i64 0, .int .i64 0, .int .i64 0, .int .i64 0, .int .i64 0, .string ⟨#[42, 46, 100, 101, 98, 117, 103, 32, 100, 114, 111, 112, 10]⟩, .int .i64 0, .int .i64 0, .string ⟨#[]⟩, .string ⟨#[]⟩, .string ⟨#[]⟩, .string ⟨#[]⟩, .string ⟨#[]⟩, .string ⟨#[]⟩, .string ⟨#[]⟩]] w fun e w' => e = .returned (.bool true) ∧ Below P w w' ∧ ∃ y : LRu, LInv P P [x] [y] XT [] [] 0 0 w' := by
  have h1 := made_rules h hT (by simp) opR rfl (by decide) _ Hm.exRu_rules
  rw [opR_cells] at h1
  exact h1
set_option maxRecDepth 20000 in
set_option maxHeartbeats 1000000 in
theorem begun_sorted (lo : Int) (w : World) (hT : Tabs w) (h11 : 11 ≤ w.heap.size) : Calls Tryz.prog 40 #[.int .i64 lo, .int .i64 6] w fun e w' => e = .returned (.pointer (some ⟨w.heap.size, 0, none⟩)) ∧ Below w.heap.size w w' ∧ ∃ (x : LFr) (y : LRu), x.A = [] ∧ x.C = [] ∧ LInv w.heap.size w.heap.size [x] [y] XT [] [] 0 0 w' := by
  have RD : Hid (∀ w, Tabs w → Calls Tryz.prog 21 #[.string ⟨Hm.exL1.toArray⟩, .int .i64 1] w fun e w' => e = .returned (.tuple #[.agg (msgCells Hm.exM), .int .i64 0, .int .i64 0]) ∧ Below w.heap.size w w') := begun_read
  have LN : Hid (∀ w, Tabs w → Calls Tryz.prog 20 #[.agg (msgCells Hm.exM)] w fun e w' => e = .returned (.tuple #[.string ⟨Hm.exL1.toArray⟩, .int .i64 0]) ∧ Below w.heap.size w w') := begun_line
  unfold Hm.exL1 at RD LN
  obtain ⟨P, hP⟩ : ∃ P, w.heap.size = P := ⟨_, rfl⟩
  have MF : Hid (∀ w : World, 11 ≤ w.heap.size → LInv P P [] [] XT [] [] 0 0 w → Calls Tryz.prog 70 #[.pointer (some ⟨P, 0, none⟩), .agg #[.int .i64 3, .int .i64 0, .int .i64 0, .int .i64 0, .int .i64 100, .int .i64 0, .string ⟨#[]⟩, .int .i64 0, .int .i64 0, .string ⟨#[]⟩, .string ⟨#[]⟩, .string ⟨#[]⟩, .string ⟨#[]⟩, .string ⟨#[]⟩, .string ⟨#[]⟩, .string ⟨#[]⟩]] w fun e w' => e = .returned (.bool true) ∧ Below P w w' ∧ ∃ x : LFr, x.A = [] ∧ x.C = [] ∧ LInv P P [x] [] XT [] [] 0 0 w') := made_opF
  have MR : Hid (∀ (w : World) (x : LFr), Tabs w → LInv P P [x] [] XT [] [] 0 0 w → Calls Tryz.prog 70 #[.pointer (some ⟨P, 0, none⟩), .agg #[.int .i64 5, .int .i64 0, .int .i64 0, .int .i64 0, .int .i64 0, .int .i64 0, .string ⟨#[42, 46, 100, 101, 98, 117, 103, 32, 100, 114, 111, 112, 10]⟩, .int .i64 0, .int .i64 0, .string ⟨#[]⟩, .string ⟨#[]⟩, .string ⟨#[]⟩, .string ⟨#[]⟩, .string ⟨#[]⟩, .string ⟨#[]⟩, .string ⟨#[]⟩]] w fun e w' => e = .returned (.bool true) ∧ Below P w w' ∧ ∃ y : LRu, LInv P P [x] [y] XT [] [] 0 0 w') := made_opR
  have HP : Hid (w.heap.size = P) := hP
  clear hP
  go_enter Tryz.func40, Tryz.ntmps40
  go_wp2_with fail
  refine (RD.out _ (hT.alloc _)).mono ?_
  rintro e w1 ⟨rfl, hb1⟩
  have HB1 : Hid (Below w.heap.size w w1) := ((Below.refl _ _).alloc (Nat.le_refl _) _).trans (hb1.mono (by simp))
  have hz1 : w.heap.size < w1.heap.size := by have := hb1.size; simp at this; omega
  have HR1 := show Hid (w1.heap[w.heap.size]? = some (.cells worldZero 142 (0, 0))) from (hb1.block w.heap.size (by simp)).trans (heap_alloc_new _ _)
  clear hb1
  go_wp2_with (first
    | (refine Hw.wpList_store_rowP rfl _ _ _ rfl rfl w1.heap.size (msgCells Hm.exM) rfl rfl _ _ (heap_alloc_new _ _) size_msg rfl rfl ?_; intro w2 p2; have P2 : Hid (Hw.Put (w1.alloc _) _ _ _ w2) := p2; clear p2)
    | (refine wpList_load_row rfl _ _ rfl w1.heap.size rfl _ _ _ _ P2.out.row Tryz.underlying29 rfl size_msg ?_)
    | fail)
  have HB2 : Hid (Below w.heap.size w w2) := (HB1.out.alloc (by omega) _).trans (P2.out.below (by omega))
  have HR2 : Hid (w2.heap[w.heap.size]? = some (.cells worldZero 142 (0, 0))) := (P2.out.other _ (by omega)).trans ((heap_alloc_old _ _ hz1).trans HR1.out)
  refine (LN.out _ (hT.next HB2.out)).mono ?_
  rintro e w3 ⟨rfl, hb3⟩
  have HB3 : Hid (Below w.heap.size w w3) := Below.next HB2.out (by have := P2.out.size; simp at this; omega) hb3
  have HR3 : Hid (w3.heap[w.heap.size]? = some (.cells worldZero 142 (0, 0))) := (hb3.block _ (by have := P2.out.size; simp at this; omega)).trans HR2.out
  clear hb3 P2 HB2 HR2 HB1 HR1 hz1
  have HL3 : Hid (LInv P P [] [] XT [] [] 0 0 w3) := LInv.start (by rw [← HP.out]; exact HR3.out)
  go_wp2_with fail
  have hz3 := HB3.out.size
  have MF4 := MF.out w3 (by omega) HL3.out
  rw [← HP.out] at MF4
  refine MF4.mono ?_
  rintro e w4 ⟨rfl, hb4, x, hxA, hxC, hl4⟩
  have HL4 : Hid (LInv P P [x] [] XT [] [] 0 0 w4) := by rw [← HP.out]; exact hl4
  have HB4 : Hid (Below w.heap.size w w4) := HB3.out.trans hb4
  have HXA : Hid (x.A = [] ∧ x.C = []) := ⟨hxA, hxC⟩
  obtain ⟨g0, cap0, _, _, c0, _⟩ := HL4.out.fresh.frameAt (i := 0) (x := x) rfl
  rw [← HP.out] at c0
  replace c0 : w4.cell? ⟨w.heap.size, 0, none⟩ = some (.slice (some ⟨g0, 0, none⟩) 1 cap0) := c0
  clear hb4 hxA hxC hl4 MF4
  go_wp2_with fail
  have MR5 := MR.out w4 x (hT.next HB4.out) HL4.out
  rw [← HP.out] at MR5
  refine MR5.mono ?_
  rintro e w5 ⟨rfl, hb5, y, hl5⟩
  have HL5 : Hid (LInv P P [x] [y] XT [] [] 0 0 w5) := by rw [← HP.out]; exact hl5
  have HB5 : Hid (Below w.heap.size w w5) := HB4.out.trans hb5
  obtain ⟨g2, cap2, _, _, c2, _⟩ := HL5.out.fresh.ruleAt (i := 0) (x := y) rfl
  rw [← HP.out] at c2
  replace c2 : w5.cell? ⟨w.heap.size, 2, none⟩ = some (.slice (some ⟨g2, 0, none⟩) 1 cap2) := c2
  clear hb5 hl5 MR5 c0
  go_wp2
  go_ret
  exact ⟨rfl, HB5.out, x, y, HXA.out.1, HXA.out.2, by rw [HP.out]; exact HL5.out⟩
end Go.Proofs.YtdlhbmncbmconaaGreatDoor

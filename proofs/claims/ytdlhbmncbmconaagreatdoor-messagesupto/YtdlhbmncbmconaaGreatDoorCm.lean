/- Contract of the reference: readOld. -/
import Derived.Test.YtdlhbmncbmconaaGreatDoorCl
namespace Go.Hm
theorem stamp_zero {l : List UInt8} {y : Nat} (h : (stamp l y).2.2 = 0) : stamp l y = ([], [], 0) := by
  unfold stamp at h ⊢
  by_cases h1 : l.length < 16 ∨ ¬ (l.getD 15 0).toNat = 32
  · rw [if_pos h1]
  · rw [if_neg h1] at h ⊢
    by_cases h2 : (oldTime (l.take 15) y).2 = false ∨ (Lib.cut (l.drop 16) [32]).2.2 = false ∨ word (Lib.cut (l.drop 16) [32]).1 32 = false
    · rw [if_pos h2]
    · rw [if_neg h2] at h
      simp at h
theorem readOld_eq (f s : Int) (l : List UInt8) (y : Nat) : readOld (Msg.of f s) l y = ⟨f, s, (stamp l y).1, (stamp l y).2.1, (tag (l.drop (stamp l y).2.2)).1, (tag (l.drop (stamp l y).2.2)).2.1, [], [], l.drop ((stamp l y).2.2 + (tag (l.drop (stamp l y).2.2)).2.2)⟩ := by
  unfold readOld
  by_cases h : 0 < (stamp l y).2.2
  · rw [if_pos h, List.drop_drop]
    rfl
  · rw [if_neg h, stamp_zero (by omega)]
    simp [Msg.of]
end Go.Hm
namespace Go.Proofs.YtdlhbmncbmconaaGreatDoor
open Go.RowKit Go.Sort
attribute [local go_sem] app_mk rcut rbyte
theorem size_rmsg : (Tryz.prog.info? 80).map (·.size) = some 9 := by kernel_rfl
set_option maxRecDepth 20000 in
set_option maxHeartbeats 1000000 in
theorem rreadOld_any (l : List UInt8) (hl : l.length ≤ 1000000000000000) (y : Nat) (hy : 1 ≤ y) (hy2 : y ≤ 9999) (w : World) :
    Calls Tryz.prog 158 #[.string ⟨l.toArray⟩, .int .i64 y] w fun e w' => e = .returned (.agg (msgCells (Hm.readOld (Hm.Msg.of 0 0) l y))) ∧ Below w.heap.size w w' := by
  rw [Hm.readOld_eq]
  have HH := show Hid _ from rhead_any l hl y hy hy2
  have hn := Hm.stamp_le l y
  generalize Hm.stamp l y = S at HH hn ⊢
  obtain ⟨T, H, n⟩ := S
  dsimp only at hn ⊢
  have HG := show Hid _ from rtag_any (l.drop n) (by rw [List.length_drop]; omega)
  have hk := Hm.tag_le (l.drop n)
  generalize Hm.tag (l.drop n) = G at HG hk ⊢
  obtain ⟨A, P, k⟩ := G
  dsimp only at hk ⊢
  rw [List.length_drop] at hk
  unfold tagV at HH HG
  dsimp only at HH HG
  have hni : (n : Int) ≤ (l.length : Int) := by omega
  have hrest : (l.drop n).take (l.length - n) = l.drop n := List.take_of_length_le (by rw [List.length_drop]; omega)
  go_enter Tryz.func158, Tryz.ntmps158
  go_wp2_with fail
  refine (HH.out _).mono ?_
  rintro e w1 ⟨rfl, hb0⟩
  have hb := drew_below hb0
  obtain ⟨r0, r1⟩ := two_blocks hb
  have HB1 : Hid (Below w.heap.size w w1) := ((((Below.refl _ _).alloc (Nat.le_refl _) _).alloc (by simp) _).trans (hb.mono (by simp; omega)))
  have hz1 : w.heap.size + 2 ≤ w1.heap.size := by have := hb.size; simpa using this
  have HR0 : Hid (w1.heap[w.heap.size]? = _) := r0
  have HR1 : Hid (w1.heap[w.heap.size + 1]? = _) := r1
  clear hb hb0 r0 r1
  go_wp2_with (first
    | (refine Hw.wpList_store_fieldP rfl _ _ _ rfl rfl (w.heap.size + 1) 2 _ rfl rfl _ _ #[.int .i64 0, .int .i64 0, .string ⟨T.toArray⟩, .string ⟨#[]⟩, .string ⟨#[]⟩, .string ⟨#[]⟩, .string ⟨#[]⟩, .string ⟨#[]⟩, .string ⟨#[]⟩] HR1.out size_str (by simp) rfl rfl ?_; intro w2 p2; have P2 : Hid (Hw.Put w1 _ _ _ w2) := p2; clear p2)
    | (refine Hw.wpList_store_fieldP rfl _ _ _ rfl rfl (w.heap.size + 1) 3 _ rfl rfl _ _ #[.int .i64 0, .int .i64 0, .string ⟨T.toArray⟩, .string ⟨H.toArray⟩, .string ⟨#[]⟩, .string ⟨#[]⟩, .string ⟨#[]⟩, .string ⟨#[]⟩, .string ⟨#[]⟩] P2.out.row size_str (by simp) rfl rfl ?_; intro w3 p3; have P3 : Hid (Hw.Put w2 _ _ _ w3) := p3; clear p3)
    | fail)
  refine (HG.out _).mono ?_
  rintro e w4 ⟨rfl, hw4⟩
  have hw4 := hw4.symm
  subst hw4
  have hnk : (n : Int) + (k : Int) ≤ (l.length : Int) := by omega
  have hnk2 : ((n : Int) + (k : Int)).toNat = n + k := by omega
  have hrest2 : (l.drop (n + k)).take (l.length - (n + k)) = l.drop (n + k) := List.take_of_length_le (by rw [List.length_drop]; omega)
  go_wp2_with (first
    | (refine Hw.wpList_store_fieldP rfl _ _ _ rfl rfl (w.heap.size + 1) 4 _ rfl rfl _ _ #[.int .i64 0, .int .i64 0, .string ⟨T.toArray⟩, .string ⟨H.toArray⟩, .string ⟨A.toArray⟩, .string ⟨#[]⟩, .string ⟨#[]⟩, .string ⟨#[]⟩, .string ⟨#[]⟩] P3.out.row size_str (by simp) rfl rfl ?_; intro w4 p4; have P4 : Hid (Hw.Put w3 _ _ _ w4) := p4; clear p4)
    | (refine Hw.wpList_store_fieldP rfl _ _ _ rfl rfl (w.heap.size + 1) 5 _ rfl rfl _ _ #[.int .i64 0, .int .i64 0, .string ⟨T.toArray⟩, .string ⟨H.toArray⟩, .string ⟨A.toArray⟩, .string ⟨P.toArray⟩, .string ⟨#[]⟩, .string ⟨#[]⟩, .string ⟨#[]⟩] P4.out.row size_str (by simp) rfl rfl ?_; intro w5 p5; have P5 : Hid (Hw.Put w4 _ _ _ w5) := p5; clear p5)
    | (refine Hw.wpList_store_fieldP rfl _ _ _ rfl rfl (w.heap.size + 1) 8 _ rfl rfl _ _ #[.int .i64 0, .int .i64 0, .string ⟨T.toArray⟩, .string ⟨H.toArray⟩, .string ⟨A.toArray⟩, .string ⟨P.toArray⟩, .string ⟨#[]⟩, .string ⟨#[]⟩, .string ⟨(l.drop (n + k)).toArray⟩] P5.out.row size_str (by simp) rfl rfl ?_; intro w6 p6; have P6 : Hid (Hw.Put w5 _ _ _ w6) := p6; clear p6)
    | (refine wpList_load_row rfl _ _ rfl (w.heap.size + 1) rfl _ _ _ _ P6.out.row Tryz.underlying80 rfl size_rmsg ?_)
    | (refine Hw.wpList_store_rowP rfl _ _ _ rfl rfl w.heap.size _ rfl rfl _ _ (((P6.out.other _ (by omega)).trans ((P5.out.other _ (by omega)).trans ((P4.out.other _ (by omega)).trans ((P3.out.other _ (by omega)).trans ((P2.out.other _ (by omega)).trans HR0.out)))))) size_rmsg rfl rfl ?_; intro w7 p7; have P7 : Hid (Hw.Put w6 _ _ _ w7) := p7; clear p7))
  refine bodyPost_ret (results_cell_row Tryz.results158 _ _ _ _ _ _ _ rfl P7.out.row Tryz.underlying80 rfl size_rmsg) rfl ⟨rfl, ?_⟩
  exact (((((HB1.out.trans (P2.out.below (by omega))).trans (P3.out.below (by omega))).trans (P4.out.below (by omega))).trans (P5.out.below (by omega))).trans (P6.out.below (by omega))).trans (P7.out.below (by omega))
end Go.Proofs.YtdlhbmncbmconaaGreatDoor

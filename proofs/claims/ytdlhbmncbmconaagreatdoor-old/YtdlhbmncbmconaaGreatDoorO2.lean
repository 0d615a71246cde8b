/- Old, path by path. -/
import Derived.Test.YtdlhbmncbmconaaGreatDoorR12
namespace Go.Proofs.YtdlhbmncbmconaaGreatDoor
open Go.RowKit Go.Sort
attribute [local go_sem] alloc_drewN setCell_drewN app_list
set_option maxRecDepth 20000 in
set_option maxHeartbeats 4000000 in
theorem Old_0100 (source day second host tag proc words year : Int) (q1 q2 D q3 s n hq tq pq wq : Nat) (y1 y2 m2 dd h1 h2 h3 dn nn hn tn pn mn x : List UInt8) (w : World) (hT : Tabs w) (c : OldC source day second host tag proc words year q1 q2 D q3 s n hq tq pq wq y1 y2 m2 dd h1 h2 h3 dn nn hn tn pn mn x)
    (RD : Hid (∀ w (b : ByteArray), b.data.toList = (mn ++ 32 :: (32 :: dn ++ 32 :: ((h1 ++ 58 :: (h2 ++ 58 :: h3)) ++ 32 :: ((104 :: hn) ++ [32])))) ++ (x) → Tabs w → Calls Tryz.prog 21 #[.string b, .int .i64 (1 + (q1 : Int))] w fun e w' => e = .returned (.tuple #[.agg #[.int .i64 1, .int .i64 5, .string ⟨(y1 ++ (y2 ++ 45 :: (m2 ++ 45 :: (dd ++ 84 :: (h1 ++ 58 :: (h2 ++ 58 :: (h3 ++ [90]))))))).toArray⟩, .string ⟨(104 :: hn).toArray⟩, .string ⟨#[]⟩, .string ⟨#[]⟩, .string ⟨#[]⟩, .string ⟨#[]⟩, .string ⟨x.toArray⟩], .int .i64 0, .int .i64 0]) ∧ Below w.heap.size w w'))
    (hbn : ∀ w : World, (binOp .eql 29 (.agg #[.int .i64 1, .int .i64 5, .string ⟨(y1 ++ (y2 ++ 45 :: (m2 ++ 45 :: (dd ++ 84 :: (h1 ++ 58 :: (h2 ++ 58 :: (h3 ++ [90]))))))).toArray⟩, .string ⟨(104 :: hn).toArray⟩, .string ⟨#[]⟩, .string ⟨#[]⟩, .string ⟨#[]⟩, .string ⟨#[]⟩, .string ⟨x.toArray⟩]) (.agg #[.int .i64 1, .int .i64 5, .string ⟨(y1 ++ (y2 ++ 45 :: (m2 ++ 45 :: (dd ++ 84 :: (h1 ++ 58 :: (h2 ++ 58 :: (h3 ++ [90]))))))).toArray⟩, .string ⟨(104 :: hn).toArray⟩, .string ⟨#[]⟩, .string ⟨#[]⟩, .string ⟨#[]⟩, .string ⟨#[]⟩, .string ⟨x.toArray⟩])).run Tryz.prog w = .ok (.bool true) w)
    (s0 : source.tmod 3 = 0) (s1 : ¬ host.tmod 4 = 0) (s2 : tag.tmod 4 = 0) (s4 : 1 + (q3 : Int) < 10) :
    Calls Tryz.prog 9 #[.int .i64 source, .int .i64 day, .int .i64 second, .int .i64 host, .int .i64 tag, .int .i64 proc, .int .i64 words, .int .i64 year] w fun e w' => e = .returned (.bool true) ∧ Below w.heap.size w w' := by
  obtain ⟨P1, P2, P3, P4, P5, P6, P7, P8, P9, P10, T1, T2, T3, T4, T5, T6, T7, D1, D2, D3, D4, D5, AW, b1, b2, b3, bD, b4, b5, b6, b7, b8, b9, l1, l2, l3, l4, l5, l6, l7, l8, l9, l10, l11, l12, l13, l14, t13, hmn, hx⟩ := c
  have zs1 : (host.tmod 4 == 0) = false := beq_eq_false_iff_ne.2 s1
  have hgd := fun x y a b w => msg_guard x y a b w
  go_enter Tryz.func9, Tryz.ntmps9
  go_wp2_with fail
  refine (AW.out _ hT).mono ?_
  rintro e w1 ⟨rfl, hb1⟩
  have HB1 : Hid (Below w.heap.size w w1) := hb1
  have HT1 : Hid (Tabs w1) := hT.next hb1
  clear hb1
  go_wp2_with fail
  refine (P1.out _).mono ?_
  rintro e wz ⟨rfl, rfl⟩
  go_wp2_with fail
  refine (P2.out _).mono ?_
  rintro e wz ⟨rfl, rfl⟩
  go_wp2_with fail
  refine (P3.out _).mono ?_
  rintro e wz ⟨rfl, rfl⟩
  go_wp2_with fail
  refine (P4.out _).mono ?_
  rintro e wz ⟨rfl, rfl⟩
  go_wp2_with fail
  refine (P5.out _).mono ?_
  rintro e wz ⟨rfl, rfl⟩
  go_wp2_with fail
  have HB_0 : Hid (Below w.heap.size w (wz.alloc (.cells #[.int .i64 1, .int .i64 5, .string ⟨#[]⟩, .string ⟨#[]⟩, .string ⟨#[]⟩, .string ⟨#[]⟩, .string ⟨#[]⟩, .string ⟨#[]⟩, .string ⟨#[]⟩] 29))) := HB1.out.alloc HB1.out.size _
  have HG_0 : Hid ((wz.alloc (.cells #[.int .i64 1, .int .i64 5, .string ⟨#[]⟩, .string ⟨#[]⟩, .string ⟨#[]⟩, .string ⟨#[]⟩, .string ⟨#[]⟩, .string ⟨#[]⟩, .string ⟨#[]⟩] 29)).heap[wz.heap.size]? = some (.cells #[.int .i64 1, .int .i64 5, .string ⟨#[]⟩, .string ⟨#[]⟩, .string ⟨#[]⟩, .string ⟨#[]⟩, .string ⟨#[]⟩, .string ⟨#[]⟩, .string ⟨#[]⟩] 29 (0, 0))) := heap_alloc_new _ _
  have hlo : w.heap.size ≤ wz.heap.size := HB1.out.size
  have hsz0 : (wz.alloc (.cells #[.int .i64 1, .int .i64 5, .string ⟨#[]⟩, .string ⟨#[]⟩, .string ⟨#[]⟩, .string ⟨#[]⟩, .string ⟨#[]⟩, .string ⟨#[]⟩, .string ⟨#[]⟩] 29)).heap.size = wz.heap.size + 1 := World.size_alloc _ _
  generalize wz.alloc (.cells #[.int .i64 1, .int .i64 5, .string ⟨#[]⟩, .string ⟨#[]⟩, .string ⟨#[]⟩, .string ⟨#[]⟩, .string ⟨#[]⟩, .string ⟨#[]⟩, .string ⟨#[]⟩] 29) = W_0 at HB_0 HG_0 hsz0 ⊢
  clear hsz0
  refine (D1.out _).mono ?_
  rintro e wy ⟨rfl, hwy⟩
  subst hwy
  go_wp2_with fail
  refine (T5.out _).mono ?_
  rintro e W_1 ⟨rfl, hbz⟩
  have HB_1 : Hid (Below w.heap.size w W_1) := Below.next HB_0.out (Nat.le_refl _) hbz
  have HG_1 : Hid (W_1.heap[wz.heap.size]? = some (.cells #[.int .i64 1, .int .i64 5, .string ⟨#[]⟩, .string ⟨#[]⟩, .string ⟨#[]⟩, .string ⟨#[]⟩, .string ⟨#[]⟩, .string ⟨#[]⟩, .string ⟨#[]⟩] 29 (0, 0))) := (hbz.block _ (Array.getElem?_eq_some_iff.1 HG_0.out).1).trans HG_0.out
  clear hbz HB_0 HG_0
  go_wp2_with fail
  refine (T6.out _).mono ?_
  rintro e W_2 ⟨rfl, hbz⟩
  have HB_2 : Hid (Below w.heap.size w W_2) := Below.next HB_1.out (Nat.le_refl _) hbz
  have HG_2 : Hid (W_2.heap[wz.heap.size]? = some (.cells #[.int .i64 1, .int .i64 5, .string ⟨#[]⟩, .string ⟨#[]⟩, .string ⟨#[]⟩, .string ⟨#[]⟩, .string ⟨#[]⟩, .string ⟨#[]⟩, .string ⟨#[]⟩] 29 (0, 0))) := (hbz.block _ (Array.getElem?_eq_some_iff.1 HG_1.out).1).trans HG_1.out
  clear hbz HB_1 HG_1
  go_wp2_with fail
  refine (T7.out _).mono ?_
  rintro e W_3 ⟨rfl, hbz⟩
  have HB_3 : Hid (Below w.heap.size w W_3) := Below.next HB_2.out (Nat.le_refl _) hbz
  have HG_3 : Hid (W_3.heap[wz.heap.size]? = some (.cells #[.int .i64 1, .int .i64 5, .string ⟨#[]⟩, .string ⟨#[]⟩, .string ⟨#[]⟩, .string ⟨#[]⟩, .string ⟨#[]⟩, .string ⟨#[]⟩, .string ⟨#[]⟩] 29 (0, 0))) := (hbz.block _ (Array.getElem?_eq_some_iff.1 HG_2.out).1).trans HG_2.out
  clear hbz HB_2 HG_2
  go_wp2_with fail
  refine (P7.out _).mono ?_
  rintro e wy ⟨rfl, hwy⟩
  subst hwy
  go_wp2_with fail
  refine (D3.out _).mono ?_
  rintro e wy ⟨rfl, hwy⟩
  subst hwy
  go_wp2_with (refine Hw.wpList_store_fieldP rfl _ _ _ rfl rfl wz.heap.size 3 _ rfl rfl _ _ #[.int .i64 1, .int .i64 5, .string ⟨#[]⟩, .string ⟨(104 :: hn).toArray⟩, .string ⟨#[]⟩, .string ⟨#[]⟩, .string ⟨#[]⟩, .string ⟨#[]⟩, .string ⟨#[]⟩] HG_3.out size_str (by simp) rfl rfl ?_; intro W_4 pz; have HB_4 : Hid (Below w.heap.size w W_4) := HB_3.out.trans (pz.below hlo); have HG_4 : Hid (W_4.heap[wz.heap.size]? = some (.cells #[.int .i64 1, .int .i64 5, .string ⟨#[]⟩, .string ⟨(104 :: hn).toArray⟩, .string ⟨#[]⟩, .string ⟨#[]⟩, .string ⟨#[]⟩, .string ⟨#[]⟩, .string ⟨#[]⟩] 29 (0, 0))) := pz.row; clear pz HB_3 HG_3)
  refine (T1.out _).mono ?_
  rintro e W_5 ⟨rfl, hbz⟩
  have HB_5 : Hid (Below w.heap.size w W_5) := Below.next HB_4.out (Nat.le_refl _) hbz
  have HG_5 : Hid (W_5.heap[wz.heap.size]? = some (.cells #[.int .i64 1, .int .i64 5, .string ⟨#[]⟩, .string ⟨(104 :: hn).toArray⟩, .string ⟨#[]⟩, .string ⟨#[]⟩, .string ⟨#[]⟩, .string ⟨#[]⟩, .string ⟨#[]⟩] 29 (0, 0))) := (hbz.block _ (Array.getElem?_eq_some_iff.1 HG_4.out).1).trans HG_4.out
  clear hbz HB_4 HG_4
  go_wp2_with fail
  refine (T2.out _).mono ?_
  rintro e W_6 ⟨rfl, hbz⟩
  have HB_6 : Hid (Below w.heap.size w W_6) := Below.next HB_5.out (Nat.le_refl _) hbz
  have HG_6 : Hid (W_6.heap[wz.heap.size]? = some (.cells #[.int .i64 1, .int .i64 5, .string ⟨#[]⟩, .string ⟨(104 :: hn).toArray⟩, .string ⟨#[]⟩, .string ⟨#[]⟩, .string ⟨#[]⟩, .string ⟨#[]⟩, .string ⟨#[]⟩] 29 (0, 0))) := (hbz.block _ (Array.getElem?_eq_some_iff.1 HG_5.out).1).trans HG_5.out
  clear hbz HB_5 HG_5
  go_wp2_with fail
  refine (T3.out _).mono ?_
  rintro e W_7 ⟨rfl, hbz⟩
  have HB_7 : Hid (Below w.heap.size w W_7) := Below.next HB_6.out (Nat.le_refl _) hbz
  have HG_7 : Hid (W_7.heap[wz.heap.size]? = some (.cells #[.int .i64 1, .int .i64 5, .string ⟨#[]⟩, .string ⟨(104 :: hn).toArray⟩, .string ⟨#[]⟩, .string ⟨#[]⟩, .string ⟨#[]⟩, .string ⟨#[]⟩, .string ⟨#[]⟩] 29 (0, 0))) := (hbz.block _ (Array.getElem?_eq_some_iff.1 HG_6.out).1).trans HG_6.out
  clear hbz HB_6 HG_6
  go_wp2_with fail
  refine (T4.out _).mono ?_
  rintro e W_8 ⟨rfl, hbz⟩
  have HB_8 : Hid (Below w.heap.size w W_8) := Below.next HB_7.out (Nat.le_refl _) hbz
  have HG_8 : Hid (W_8.heap[wz.heap.size]? = some (.cells #[.int .i64 1, .int .i64 5, .string ⟨#[]⟩, .string ⟨(104 :: hn).toArray⟩, .string ⟨#[]⟩, .string ⟨#[]⟩, .string ⟨#[]⟩, .string ⟨#[]⟩, .string ⟨#[]⟩] 29 (0, 0))) := (hbz.block _ (Array.getElem?_eq_some_iff.1 HG_7.out).1).trans HG_7.out
  clear hbz HB_7 HG_7
  go_wp2_with (refine Hw.wpList_store_fieldP rfl _ _ _ rfl rfl wz.heap.size 2 _ rfl rfl _ _ #[.int .i64 1, .int .i64 5, .string ⟨(y1 ++ (y2 ++ 45 :: (m2 ++ 45 :: (dd ++ 84 :: (h1 ++ 58 :: (h2 ++ 58 :: (h3 ++ [90]))))))).toArray⟩, .string ⟨(104 :: hn).toArray⟩, .string ⟨#[]⟩, .string ⟨#[]⟩, .string ⟨#[]⟩, .string ⟨#[]⟩, .string ⟨#[]⟩] HG_8.out size_str (by simp) rfl rfl ?_; intro W_9 pz; have HB_9 : Hid (Below w.heap.size w W_9) := HB_8.out.trans (pz.below hlo); have HG_9 : Hid (W_9.heap[wz.heap.size]? = some (.cells #[.int .i64 1, .int .i64 5, .string ⟨(y1 ++ (y2 ++ 45 :: (m2 ++ 45 :: (dd ++ 84 :: (h1 ++ 58 :: (h2 ++ 58 :: (h3 ++ [90]))))))).toArray⟩, .string ⟨(104 :: hn).toArray⟩, .string ⟨#[]⟩, .string ⟨#[]⟩, .string ⟨#[]⟩, .string ⟨#[]⟩, .string ⟨#[]⟩] 29 (0, 0))) := pz.row; have cc2 : W_9.cell? ⟨wz.heap.size, 2, none⟩ = some (.string ⟨(y1 ++ (y2 ++ 45 :: (m2 ++ 45 :: (dd ++ 84 :: (h1 ++ 58 :: (h2 ++ 58 :: (h3 ++ [90]))))))).toArray⟩) := cell_of_row _ _ _ _ _ _ pz.row; have cc3 : W_9.cell? ⟨wz.heap.size, 3, none⟩ = some (.string ⟨(104 :: hn).toArray⟩) := cell_of_row _ _ _ _ _ _ pz.row; clear pz HB_8 HG_8)
  go_region
  have HB_10 : Hid (Below w.heap.size w W_9.drew) := HB_9.out.drew
  have HG_10 : Hid (W_9.drew.heap[wz.heap.size]? = some (.cells #[.int .i64 1, .int .i64 5, .string ⟨(y1 ++ (y2 ++ 45 :: (m2 ++ 45 :: (dd ++ 84 :: (h1 ++ 58 :: (h2 ++ 58 :: (h3 ++ [90]))))))).toArray⟩, .string ⟨(104 :: hn).toArray⟩, .string ⟨#[]⟩, .string ⟨#[]⟩, .string ⟨#[]⟩, .string ⟨#[]⟩, .string ⟨#[]⟩] 29 (0, 0))) := HG_9.out
  generalize W_9.drew = W_10 at HB_10 HG_10 ⊢
  clear HB_9 HG_9 cc2 cc3
  go_wp2_with fail
  have HB_11 : Hid (Below w.heap.size w (W_10.alloc (.cells #[.string ⟨#[]⟩, .string ⟨#[104, 101, 108, 108, 111, 32, 119, 111, 114, 108, 100]⟩, .string ⟨#[120, 32, 121, 58, 32, 122]⟩, .string ⟨#[91, 49, 93, 58, 32, 110, 111, 32, 116, 97, 103]⟩, .string ⟨#[97, 32, 32, 98]⟩] 9))) := HB_10.out.alloc HB_10.out.size _
  have HG_11 : Hid ((W_10.alloc (.cells #[.string ⟨#[]⟩, .string ⟨#[104, 101, 108, 108, 111, 32, 119, 111, 114, 108, 100]⟩, .string ⟨#[120, 32, 121, 58, 32, 122]⟩, .string ⟨#[91, 49, 93, 58, 32, 110, 111, 32, 116, 97, 103]⟩, .string ⟨#[97, 32, 32, 98]⟩] 9)).heap[wz.heap.size]? = some (.cells #[.int .i64 1, .int .i64 5, .string ⟨(y1 ++ (y2 ++ 45 :: (m2 ++ 45 :: (dd ++ 84 :: (h1 ++ 58 :: (h2 ++ 58 :: (h3 ++ [90]))))))).toArray⟩, .string ⟨(104 :: hn).toArray⟩, .string ⟨#[]⟩, .string ⟨#[]⟩, .string ⟨#[]⟩, .string ⟨#[]⟩, .string ⟨#[]⟩] 29 (0, 0))) := (heap_alloc_old _ _ (Array.getElem?_eq_some_iff.1 HG_10.out).1).trans HG_10.out
  have ct : (W_10.alloc (.cells #[.string ⟨#[]⟩, .string ⟨#[104, 101, 108, 108, 111, 32, 119, 111, 114, 108, 100]⟩, .string ⟨#[120, 32, 121, 58, 32, 122]⟩, .string ⟨#[91, 49, 93, 58, 32, 110, 111, 32, 116, 97, 103]⟩, .string ⟨#[97, 32, 32, 98]⟩] 9)).cell? ⟨W_10.heap.size, wq, none⟩ = some (.string ⟨x.toArray⟩) := by rw [← hx.out]; exact strs_cell (ls := Hm.otexts) b9
  generalize W_10.alloc (.cells #[.string ⟨#[]⟩, .string ⟨#[104, 101, 108, 108, 111, 32, 119, 111, 114, 108, 100]⟩, .string ⟨#[120, 32, 121, 58, 32, 122]⟩, .string ⟨#[91, 49, 93, 58, 32, 110, 111, 32, 116, 97, 103]⟩, .string ⟨#[97, 32, 32, 98]⟩] 9) = W_11 at HB_11 HG_11 ct ⊢
  clear HB_10 HG_10
  refine (P10.out _).mono ?_
  rintro e wy ⟨rfl, hwy⟩
  subst hwy
  go_wp2_with (refine Hw.wpList_store_fieldP rfl _ _ _ rfl rfl wz.heap.size 8 _ rfl rfl _ _ #[.int .i64 1, .int .i64 5, .string ⟨(y1 ++ (y2 ++ 45 :: (m2 ++ 45 :: (dd ++ 84 :: (h1 ++ 58 :: (h2 ++ 58 :: (h3 ++ [90]))))))).toArray⟩, .string ⟨(104 :: hn).toArray⟩, .string ⟨#[]⟩, .string ⟨#[]⟩, .string ⟨#[]⟩, .string ⟨#[]⟩, .string ⟨x.toArray⟩] HG_11.out size_str (by simp) rfl rfl ?_; intro W_12 pz; have HB_12 : Hid (Below w.heap.size w W_12) := HB_11.out.trans (pz.below hlo); have HG_12 : Hid (W_12.heap[wz.heap.size]? = some (.cells #[.int .i64 1, .int .i64 5, .string ⟨(y1 ++ (y2 ++ 45 :: (m2 ++ 45 :: (dd ++ 84 :: (h1 ++ 58 :: (h2 ++ 58 :: (h3 ++ [90]))))))).toArray⟩, .string ⟨(104 :: hn).toArray⟩, .string ⟨#[]⟩, .string ⟨#[]⟩, .string ⟨#[]⟩, .string ⟨#[]⟩, .string ⟨x.toArray⟩] 29 (0, 0))) := pz.row; have cc8 : W_12.cell? ⟨wz.heap.size, 8, none⟩ = some (.string ⟨x.toArray⟩) := cell_of_row _ _ _ _ _ _ pz.row; clear pz HB_11 HG_11)
  refine (RD.out _ _ (by simp) (hT.next HB_12.out)).mono ?_
  rintro e w9 ⟨rfl, hb9⟩
  have hg9 : w9.heap[wz.heap.size]? = some (.cells #[.int .i64 1, .int .i64 5, .string ⟨(y1 ++ (y2 ++ 45 :: (m2 ++ 45 :: (dd ++ 84 :: (h1 ++ 58 :: (h2 ++ 58 :: (h3 ++ [90]))))))).toArray⟩, .string ⟨(104 :: hn).toArray⟩, .string ⟨#[]⟩, .string ⟨#[]⟩, .string ⟨#[]⟩, .string ⟨#[]⟩, .string ⟨x.toArray⟩] 29 (0, 0)) := (hb9.block _ (Array.getElem?_eq_some_iff.1 HG_12.out).1).trans HG_12.out
  have HB9 : Hid (Below w.heap.size w w9) := Below.next HB_12.out (Nat.le_refl _) hb9
  have hlt9 : wz.heap.size < w9.heap.size := (Array.getElem?_eq_some_iff.1 hg9).1
  have hne : ¬ wz.heap.size = w9.heap.size := by omega
  have hne' : ¬ w9.heap.size = wz.heap.size := by omega
  obtain ⟨e0, e1, e2, e3, e4, e5, e6, e7, e8⟩ := cells9 hg9
  clear hb9 hg9 HB_12 HG_12
  go_wp2
  go_ret
  exact ⟨rfl, HB9.out.alloc HB9.out.size _⟩

set_option maxRecDepth 20000 in
set_option maxHeartbeats 4000000 in
theorem Old_0110 (source day second host tag proc words year : Int) (q1 q2 D q3 s n hq tq pq wq : Nat) (y1 y2 m2 dd h1 h2 h3 dn nn hn tn pn mn x : List UInt8) (w : World) (hT : Tabs w) (c : OldC source day second host tag proc words year q1 q2 D q3 s n hq tq pq wq y1 y2 m2 dd h1 h2 h3 dn nn hn tn pn mn x)
    (RD : Hid (∀ w (b : ByteArray), b.data.toList = (mn ++ 32 :: (32 :: dn ++ 32 :: ((h1 ++ 58 :: (h2 ++ 58 :: h3)) ++ 32 :: ((104 :: hn) ++ [32])))) ++ ((97 :: 112 :: 112 :: 47 :: tn) ++ [58, 32]) ++ (x) → Tabs w → Calls Tryz.prog 21 #[.string b, .int .i64 (1 + (q1 : Int))] w fun e w' => e = .returned (.tuple #[.agg #[.int .i64 1, .int .i64 5, .string ⟨(y1 ++ (y2 ++ 45 :: (m2 ++ 45 :: (dd ++ 84 :: (h1 ++ 58 :: (h2 ++ 58 :: (h3 ++ [90]))))))).toArray⟩, .string ⟨(104 :: hn).toArray⟩, .string ⟨(97 :: 112 :: 112 :: 47 :: tn).toArray⟩, .string ⟨#[]⟩, .string ⟨#[]⟩, .string ⟨#[]⟩, .string ⟨x.toArray⟩], .int .i64 0, .int .i64 0]) ∧ Below w.heap.size w w'))
    (hbn : ∀ w : World, (binOp .eql 29 (.agg #[.int .i64 1, .int .i64 5, .string ⟨(y1 ++ (y2 ++ 45 :: (m2 ++ 45 :: (dd ++ 84 :: (h1 ++ 58 :: (h2 ++ 58 :: (h3 ++ [90]))))))).toArray⟩, .string ⟨(104 :: hn).toArray⟩, .string ⟨(97 :: 112 :: 112 :: 47 :: tn).toArray⟩, .string ⟨#[]⟩, .string ⟨#[]⟩, .string ⟨#[]⟩, .string ⟨x.toArray⟩]) (.agg #[.int .i64 1, .int .i64 5, .string ⟨(y1 ++ (y2 ++ 45 :: (m2 ++ 45 :: (dd ++ 84 :: (h1 ++ 58 :: (h2 ++ 58 :: (h3 ++ [90]))))))).toArray⟩, .string ⟨(104 :: hn).toArray⟩, .string ⟨(97 :: 112 :: 112 :: 47 :: tn).toArray⟩, .string ⟨#[]⟩, .string ⟨#[]⟩, .string ⟨#[]⟩, .string ⟨x.toArray⟩])).run Tryz.prog w = .ok (.bool true) w)
    (s0 : source.tmod 3 = 0) (s1 : ¬ host.tmod 4 = 0) (s2 : ¬ tag.tmod 4 = 0) (s3 : proc.tmod 3 = 0) (s4 : 1 + (q3 : Int) < 10) :
    Calls Tryz.prog 9 #[.int .i64 source, .int .i64 day, .int .i64 second, .int .i64 host, .int .i64 tag, .int .i64 proc, .int .i64 words, .int .i64 year] w fun e w' => e = .returned (.bool true) ∧ Below w.heap.size w w' := by
  obtain ⟨P1, P2, P3, P4, P5, P6, P7, P8, P9, P10, T1, T2, T3, T4, T5, T6, T7, D1, D2, D3, D4, D5, AW, b1, b2, b3, bD, b4, b5, b6, b7, b8, b9, l1, l2, l3, l4, l5, l6, l7, l8, l9, l10, l11, l12, l13, l14, t13, hmn, hx⟩ := c
  have zs1 : (host.tmod 4 == 0) = false := beq_eq_false_iff_ne.2 s1
  have zs2 : (tag.tmod 4 == 0) = false := beq_eq_false_iff_ne.2 s2
  have hgd := fun x y a b w => msg_guard x y a b w
  go_enter Tryz.func9, Tryz.ntmps9
  go_wp2_with fail
  refine (AW.out _ hT).mono ?_
  rintro e w1 ⟨rfl, hb1⟩
  have HB1 : Hid (Below w.heap.size w w1) := hb1
  have HT1 : Hid (Tabs w1) := hT.next hb1
  clear hb1
  go_wp2_with fail
  refine (P1.out _).mono ?_
  rintro e wz ⟨rfl, rfl⟩
  go_wp2_with fail
  refine (P2.out _).mono ?_
  rintro e wz ⟨rfl, rfl⟩
  go_wp2_with fail
  refine (P3.out _).mono ?_
  rintro e wz ⟨rfl, rfl⟩
  go_wp2_with fail
  refine (P4.out _).mono ?_
  rintro e wz ⟨rfl, rfl⟩
  go_wp2_with fail
  refine (P5.out _).mono ?_
  rintro e wz ⟨rfl, rfl⟩
  go_wp2_with fail
  have HB_0 : Hid (Below w.heap.size w (wz.alloc (.cells #[.int .i64 1, .int .i64 5, .string ⟨#[]⟩, .string ⟨#[]⟩, .string ⟨#[]⟩, .string ⟨#[]⟩, .string ⟨#[]⟩, .string ⟨#[]⟩, .string ⟨#[]⟩] 29))) := HB1.out.alloc HB1.out.size _
  have HG_0 : Hid ((wz.alloc (.cells #[.int .i64 1, .int .i64 5, .string ⟨#[]⟩, .string ⟨#[]⟩, .string ⟨#[]⟩, .string ⟨#[]⟩, .string ⟨#[]⟩, .string ⟨#[]⟩, .string ⟨#[]⟩] 29)).heap[wz.heap.size]? = some (.cells #[.int .i64 1, .int .i64 5, .string ⟨#[]⟩, .string ⟨#[]⟩, .string ⟨#[]⟩, .string ⟨#[]⟩, .string ⟨#[]⟩, .string ⟨#[]⟩, .string ⟨#[]⟩] 29 (0, 0))) := heap_alloc_new _ _
  have hlo : w.heap.size ≤ wz.heap.size := HB1.out.size
  have hsz0 : (wz.alloc (.cells #[.int .i64 1, .int .i64 5, .string ⟨#[]⟩, .string ⟨#[]⟩, .string ⟨#[]⟩, .string ⟨#[]⟩, .string ⟨#[]⟩, .string ⟨#[]⟩, .string ⟨#[]⟩] 29)).heap.size = wz.heap.size + 1 := World.size_alloc _ _
  generalize wz.alloc (.cells #[.int .i64 1, .int .i64 5, .string ⟨#[]⟩, .string ⟨#[]⟩, .string ⟨#[]⟩, .string ⟨#[]⟩, .string ⟨#[]⟩, .string ⟨#[]⟩, .string ⟨#[]⟩] 29) = W_0 at HB_0 HG_0 hsz0 ⊢
  clear hsz0
  refine (D1.out _).mono ?_
  rintro e wy ⟨rfl, hwy⟩
  subst hwy
  go_wp2_with fail
  refine (T5.out _).mono ?_
  rintro e W_1 ⟨rfl, hbz⟩
  have HB_1 : Hid (Below w.heap.size w W_1) := Below.next HB_0.out (Nat.le_refl _) hbz
  have HG_1 : Hid (W_1.heap[wz.heap.size]? = some (.cells #[.int .i64 1, .int .i64 5, .string ⟨#[]⟩, .string ⟨#[]⟩, .string ⟨#[]⟩, .string ⟨#[]⟩, .string ⟨#[]⟩, .string ⟨#[]⟩, .string ⟨#[]⟩] 29 (0, 0))) := (hbz.block _ (Array.getElem?_eq_some_iff.1 HG_0.out).1).trans HG_0.out
  clear hbz HB_0 HG_0
  go_wp2_with fail
  refine (T6.out _).mono ?_
  rintro e W_2 ⟨rfl, hbz⟩
  have HB_2 : Hid (Below w.heap.size w W_2) := Below.next HB_1.out (Nat.le_refl _) hbz
  have HG_2 : Hid (W_2.heap[wz.heap.size]? = some (.cells #[.int .i64 1, .int .i64 5, .string ⟨#[]⟩, .string ⟨#[]⟩, .string ⟨#[]⟩, .string ⟨#[]⟩, .string ⟨#[]⟩, .string ⟨#[]⟩, .string ⟨#[]⟩] 29 (0, 0))) := (hbz.block _ (Array.getElem?_eq_some_iff.1 HG_1.out).1).trans HG_1.out
  clear hbz HB_1 HG_1
  go_wp2_with fail
  refine (T7.out _).mono ?_
  rintro e W_3 ⟨rfl, hbz⟩
  have HB_3 : Hid (Below w.heap.size w W_3) := Below.next HB_2.out (Nat.le_refl _) hbz
  have HG_3 : Hid (W_3.heap[wz.heap.size]? = some (.cells #[.int .i64 1, .int .i64 5, .string ⟨#[]⟩, .string ⟨#[]⟩, .string ⟨#[]⟩, .string ⟨#[]⟩, .string ⟨#[]⟩, .string ⟨#[]⟩, .string ⟨#[]⟩] 29 (0, 0))) := (hbz.block _ (Array.getElem?_eq_some_iff.1 HG_2.out).1).trans HG_2.out
  clear hbz HB_2 HG_2
  go_wp2_with fail
  refine (P7.out _).mono ?_
  rintro e wy ⟨rfl, hwy⟩
  subst hwy
  go_wp2_with fail
  refine (D3.out _).mono ?_
  rintro e wy ⟨rfl, hwy⟩
  subst hwy
  go_wp2_with (refine Hw.wpList_store_fieldP rfl _ _ _ rfl rfl wz.heap.size 3 _ rfl rfl _ _ #[.int .i64 1, .int .i64 5, .string ⟨#[]⟩, .string ⟨(104 :: hn).toArray⟩, .string ⟨#[]⟩, .string ⟨#[]⟩, .string ⟨#[]⟩, .string ⟨#[]⟩, .string ⟨#[]⟩] HG_3.out size_str (by simp) rfl rfl ?_; intro W_4 pz; have HB_4 : Hid (Below w.heap.size w W_4) := HB_3.out.trans (pz.below hlo); have HG_4 : Hid (W_4.heap[wz.heap.size]? = some (.cells #[.int .i64 1, .int .i64 5, .string ⟨#[]⟩, .string ⟨(104 :: hn).toArray⟩, .string ⟨#[]⟩, .string ⟨#[]⟩, .string ⟨#[]⟩, .string ⟨#[]⟩, .string ⟨#[]⟩] 29 (0, 0))) := pz.row; clear pz HB_3 HG_3)
  refine (T1.out _).mono ?_
  rintro e W_5 ⟨rfl, hbz⟩
  have HB_5 : Hid (Below w.heap.size w W_5) := Below.next HB_4.out (Nat.le_refl _) hbz
  have HG_5 : Hid (W_5.heap[wz.heap.size]? = some (.cells #[.int .i64 1, .int .i64 5, .string ⟨#[]⟩, .string ⟨(104 :: hn).toArray⟩, .string ⟨#[]⟩, .string ⟨#[]⟩, .string ⟨#[]⟩, .string ⟨#[]⟩, .string ⟨#[]⟩] 29 (0, 0))) := (hbz.block _ (Array.getElem?_eq_some_iff.1 HG_4.out).1).trans HG_4.out
  clear hbz HB_4 HG_4
  go_wp2_with fail
  refine (T2.out _).mono ?_
  rintro e W_6 ⟨rfl, hbz⟩
  have HB_6 : Hid (Below w.heap.size w W_6) := Below.next HB_5.out (Nat.le_refl _) hbz
  have HG_6 : Hid (W_6.heap[wz.heap.size]? = some (.cells #[.int .i64 1, .int .i64 5, .string ⟨#[]⟩, .string ⟨(104 :: hn).toArray⟩, .string ⟨#[]⟩, .string ⟨#[]⟩, .string ⟨#[]⟩, .string ⟨#[]⟩, .string ⟨#[]⟩] 29 (0, 0))) := (hbz.block _ (Array.getElem?_eq_some_iff.1 HG_5.out).1).trans HG_5.out
  clear hbz HB_5 HG_5
  go_wp2_with fail
  refine (T3.out _).mono ?_
  rintro e W_7 ⟨rfl, hbz⟩
  have HB_7 : Hid (Below w.heap.size w W_7) := Below.next HB_6.out (Nat.le_refl _) hbz
  have HG_7 : Hid (W_7.heap[wz.heap.size]? = some (.cells #[.int .i64 1, .int .i64 5, .string ⟨#[]⟩, .string ⟨(104 :: hn).toArray⟩, .string ⟨#[]⟩, .string ⟨#[]⟩, .string ⟨#[]⟩, .string ⟨#[]⟩, .string ⟨#[]⟩] 29 (0, 0))) := (hbz.block _ (Array.getElem?_eq_some_iff.1 HG_6.out).1).trans HG_6.out
  clear hbz HB_6 HG_6
  go_wp2_with fail
  refine (T4.out _).mono ?_
  rintro e W_8 ⟨rfl, hbz⟩
  have HB_8 : Hid (Below w.heap.size w W_8) := Below.next HB_7.out (Nat.le_refl _) hbz
  have HG_8 : Hid (W_8.heap[wz.heap.size]? = some (.cells #[.int .i64 1, .int .i64 5, .string ⟨#[]⟩, .string ⟨(104 :: hn).toArray⟩, .string ⟨#[]⟩, .string ⟨#[]⟩, .string ⟨#[]⟩, .string ⟨#[]⟩, .string ⟨#[]⟩] 29 (0, 0))) := (hbz.block _ (Array.getElem?_eq_some_iff.1 HG_7.out).1).trans HG_7.out
  clear hbz HB_7 HG_7
  go_wp2_with (refine Hw.wpList_store_fieldP rfl _ _ _ rfl rfl wz.heap.size 2 _ rfl rfl _ _ #[.int .i64 1, .int .i64 5, .string ⟨(y1 ++ (y2 ++ 45 :: (m2 ++ 45 :: (dd ++ 84 :: (h1 ++ 58 :: (h2 ++ 58 :: (h3 ++ [90]))))))).toArray⟩, .string ⟨(104 :: hn).toArray⟩, .string ⟨#[]⟩, .string ⟨#[]⟩, .string ⟨#[]⟩, .string ⟨#[]⟩, .string ⟨#[]⟩] HG_8.out size_str (by simp) rfl rfl ?_; intro W_9 pz; have HB_9 : Hid (Below w.heap.size w W_9) := HB_8.out.trans (pz.below hlo); have HG_9 : Hid (W_9.heap[wz.heap.size]? = some (.cells #[.int .i64 1, .int .i64 5, .string ⟨(y1 ++ (y2 ++ 45 :: (m2 ++ 45 :: (dd ++ 84 :: (h1 ++ 58 :: (h2 ++ 58 :: (h3 ++ [90]))))))).toArray⟩, .string ⟨(104 :: hn).toArray⟩, .string ⟨#[]⟩, .string ⟨#[]⟩, .string ⟨#[]⟩, .string ⟨#[]⟩, .string ⟨#[]⟩] 29 (0, 0))) := pz.row; have cc2 : W_9.cell? ⟨wz.heap.size, 2, none⟩ = some (.string ⟨(y1 ++ (y2 ++ 45 :: (m2 ++ 45 :: (dd ++ 84 :: (h1 ++ 58 :: (h2 ++ 58 :: (h3 ++ [90]))))))).toArray⟩) := cell_of_row _ _ _ _ _ _ pz.row; have cc3 : W_9.cell? ⟨wz.heap.size, 3, none⟩ = some (.string ⟨(104 :: hn).toArray⟩) := cell_of_row _ _ _ _ _ _ pz.row; clear pz HB_8 HG_8)
  go_region
  have HB_10 : Hid (Below w.heap.size w W_9.drew) := HB_9.out.drew
  have HG_10 : Hid (W_9.drew.heap[wz.heap.size]? = some (.cells #[.int .i64 1, .int .i64 5, .string ⟨(y1 ++ (y2 ++ 45 :: (m2 ++ 45 :: (dd ++ 84 :: (h1 ++ 58 :: (h2 ++ 58 :: (h3 ++ [90]))))))).toArray⟩, .string ⟨(104 :: hn).toArray⟩, .string ⟨#[]⟩, .string ⟨#[]⟩, .string ⟨#[]⟩, .string ⟨#[]⟩, .string ⟨#[]⟩] 29 (0, 0))) := HG_9.out
  generalize W_9.drew = W_10 at HB_10 HG_10 ⊢
  clear HB_9 HG_9 cc2 cc3
  go_wp2_with fail
  refine (P8.out _).mono ?_
  rintro e wy ⟨rfl, hwy⟩
  subst hwy
  go_wp2_with fail
  refine (D4.out _).mono ?_
  rintro e wy ⟨rfl, hwy⟩
  subst hwy
  go_wp2_with (refine Hw.wpList_store_fieldP rfl _ _ _ rfl rfl wz.heap.size 4 _ rfl rfl _ _ #[.int .i64 1, .int .i64 5, .string ⟨(y1 ++ (y2 ++ 45 :: (m2 ++ 45 :: (dd ++ 84 :: (h1 ++ 58 :: (h2 ++ 58 :: (h3 ++ [90]))))))).toArray⟩, .string ⟨(104 :: hn).toArray⟩, .string ⟨(97 :: 112 :: 112 :: 47 :: tn).toArray⟩, .string ⟨#[]⟩, .string ⟨#[]⟩, .string ⟨#[]⟩, .string ⟨#[]⟩] HG_10.out size_str (by simp) rfl rfl ?_; intro W_11 pz; have HB_11 : Hid (Below w.heap.size w W_11) := HB_10.out.trans (pz.below hlo); have HG_11 : Hid (W_11.heap[wz.heap.size]? = some (.cells #[.int .i64 1, .int .i64 5, .string ⟨(y1 ++ (y2 ++ 45 :: (m2 ++ 45 :: (dd ++ 84 :: (h1 ++ 58 :: (h2 ++ 58 :: (h3 ++ [90]))))))).toArray⟩, .string ⟨(104 :: hn).toArray⟩, .string ⟨(97 :: 112 :: 112 :: 47 :: tn).toArray⟩, .string ⟨#[]⟩, .string ⟨#[]⟩, .string ⟨#[]⟩, .string ⟨#[]⟩] 29 (0, 0))) := pz.row; have cc4 : W_11.cell? ⟨wz.heap.size, 4, none⟩ = some (.string ⟨(97 :: 112 :: 112 :: 47 :: tn).toArray⟩) := cell_of_row _ _ _ _ _ _ pz.row; clear pz HB_10 HG_10)
  have HB_12 : Hid (Below w.heap.size w (W_11.alloc (.cells #[.string ⟨#[]⟩, .string ⟨#[104, 101, 108, 108, 111, 32, 119, 111, 114, 108, 100]⟩, .string ⟨#[120, 32, 121, 58, 32, 122]⟩, .string ⟨#[91, 49, 93, 58, 32, 110, 111, 32, 116, 97, 103]⟩, .string ⟨#[97, 32, 32, 98]⟩] 9))) := HB_11.out.alloc HB_11.out.size _
  have HG_12 : Hid ((W_11.alloc (.cells #[.string ⟨#[]⟩, .string ⟨#[104, 101, 108, 108, 111, 32, 119, 111, 114, 108, 100]⟩, .string ⟨#[120, 32, 121, 58, 32, 122]⟩, .string ⟨#[91, 49, 93, 58, 32, 110, 111, 32, 116, 97, 103]⟩, .string ⟨#[97, 32, 32, 98]⟩] 9)).heap[wz.heap.size]? = some (.cells #[.int .i64 1, .int .i64 5, .string ⟨(y1 ++ (y2 ++ 45 :: (m2 ++ 45 :: (dd ++ 84 :: (h1 ++ 58 :: (h2 ++ 58 :: (h3 ++ [90]))))))).toArray⟩, .string ⟨(104 :: hn).toArray⟩, .string ⟨(97 :: 112 :: 112 :: 47 :: tn).toArray⟩, .string ⟨#[]⟩, .string ⟨#[]⟩, .string ⟨#[]⟩, .string ⟨#[]⟩] 29 (0, 0))) := (heap_alloc_old _ _ (Array.getElem?_eq_some_iff.1 HG_11.out).1).trans HG_11.out
  have ct : (W_11.alloc (.cells #[.string ⟨#[]⟩, .string ⟨#[104, 101, 108, 108, 111, 32, 119, 111, 114, 108, 100]⟩, .string ⟨#[120, 32, 121, 58, 32, 122]⟩, .string ⟨#[91, 49, 93, 58, 32, 110, 111, 32, 116, 97, 103]⟩, .string ⟨#[97, 32, 32, 98]⟩] 9)).cell? ⟨W_11.heap.size, wq, none⟩ = some (.string ⟨x.toArray⟩) := by rw [← hx.out]; exact strs_cell (ls := Hm.otexts) b9
  generalize W_11.alloc (.cells #[.string ⟨#[]⟩, .string ⟨#[104, 101, 108, 108, 111, 32, 119, 111, 114, 108, 100]⟩, .string ⟨#[120, 32, 121, 58, 32, 122]⟩, .string ⟨#[91, 49, 93, 58, 32, 110, 111, 32, 116, 97, 103]⟩, .string ⟨#[97, 32, 32, 98]⟩] 9) = W_12 at HB_12 HG_12 ct ⊢
  clear HB_11 HG_11
  refine (P10.out _).mono ?_
  rintro e wy ⟨rfl, hwy⟩
  subst hwy
  go_wp2_with (refine Hw.wpList_store_fieldP rfl _ _ _ rfl rfl wz.heap.size 8 _ rfl rfl _ _ #[.int .i64 1, .int .i64 5, .string ⟨(y1 ++ (y2 ++ 45 :: (m2 ++ 45 :: (dd ++ 84 :: (h1 ++ 58 :: (h2 ++ 58 :: (h3 ++ [90]))))))).toArray⟩, .string ⟨(104 :: hn).toArray⟩, .string ⟨(97 :: 112 :: 112 :: 47 :: tn).toArray⟩, .string ⟨#[]⟩, .string ⟨#[]⟩, .string ⟨#[]⟩, .string ⟨x.toArray⟩] HG_12.out size_str (by simp) rfl rfl ?_; intro W_13 pz; have HB_13 : Hid (Below w.heap.size w W_13) := HB_12.out.trans (pz.below hlo); have HG_13 : Hid (W_13.heap[wz.heap.size]? = some (.cells #[.int .i64 1, .int .i64 5, .string ⟨(y1 ++ (y2 ++ 45 :: (m2 ++ 45 :: (dd ++ 84 :: (h1 ++ 58 :: (h2 ++ 58 :: (h3 ++ [90]))))))).toArray⟩, .string ⟨(104 :: hn).toArray⟩, .string ⟨(97 :: 112 :: 112 :: 47 :: tn).toArray⟩, .string ⟨#[]⟩, .string ⟨#[]⟩, .string ⟨#[]⟩, .string ⟨x.toArray⟩] 29 (0, 0))) := pz.row; have cc8 : W_13.cell? ⟨wz.heap.size, 8, none⟩ = some (.string ⟨x.toArray⟩) := cell_of_row _ _ _ _ _ _ pz.row; clear pz HB_12 HG_12)
  refine (RD.out _ _ (by simp) (hT.next HB_13.out)).mono ?_
  rintro e w9 ⟨rfl, hb9⟩
  have hg9 : w9.heap[wz.heap.size]? = some (.cells #[.int .i64 1, .int .i64 5, .string ⟨(y1 ++ (y2 ++ 45 :: (m2 ++ 45 :: (dd ++ 84 :: (h1 ++ 58 :: (h2 ++ 58 :: (h3 ++ [90]))))))).toArray⟩, .string ⟨(104 :: hn).toArray⟩, .string ⟨(97 :: 112 :: 112 :: 47 :: tn).toArray⟩, .string ⟨#[]⟩, .string ⟨#[]⟩, .string ⟨#[]⟩, .string ⟨x.toArray⟩] 29 (0, 0)) := (hb9.block _ (Array.getElem?_eq_some_iff.1 HG_13.out).1).trans HG_13.out
  have HB9 : Hid (Below w.heap.size w w9) := Below.next HB_13.out (Nat.le_refl _) hb9
  have hlt9 : wz.heap.size < w9.heap.size := (Array.getElem?_eq_some_iff.1 hg9).1
  have hne : ¬ wz.heap.size = w9.heap.size := by omega
  have hne' : ¬ w9.heap.size = wz.heap.size := by omega
  obtain ⟨e0, e1, e2, e3, e4, e5, e6, e7, e8⟩ := cells9 hg9
  clear hb9 hg9 HB_13 HG_13
  go_wp2
  go_ret
  exact ⟨rfl, HB9.out.alloc HB9.out.size _⟩

set_option maxRecDepth 20000 in
set_option maxHeartbeats 4000000 in
theorem Old_0111 (source day second host tag proc words year : Int) (q1 q2 D q3 s n hq tq pq wq : Nat) (y1 y2 m2 dd h1 h2 h3 dn nn hn tn pn mn x : List UInt8) (w : World) (hT : Tabs w) (c : OldC source day second host tag proc words year q1 q2 D q3 s n hq tq pq wq y1 y2 m2 dd h1 h2 h3 dn nn hn tn pn mn x)
    (RD : Hid (∀ w (b : ByteArray), b.data.toList = (mn ++ 32 :: (32 :: dn ++ 32 :: ((h1 ++ 58 :: (h2 ++ 58 :: h3)) ++ 32 :: ((104 :: hn) ++ [32])))) ++ ((97 :: 112 :: 112 :: 47 :: tn) ++ (91 :: (pn ++ [93])) ++ [58, 32]) ++ (x) → Tabs w → Calls Tryz.prog 21 #[.string b, .int .i64 (1 + (q1 : Int))] w fun e w' => e = .returned (.tuple #[.agg #[.int .i64 1, .int .i64 5, .string ⟨(y1 ++ (y2 ++ 45 :: (m2 ++ 45 :: (dd ++ 84 :: (h1 ++ 58 :: (h2 ++ 58 :: (h3 ++ [90]))))))).toArray⟩, .string ⟨(104 :: hn).toArray⟩, .string ⟨(97 :: 112 :: 112 :: 47 :: tn).toArray⟩, .string ⟨pn.toArray⟩, .string ⟨#[]⟩, .string ⟨#[]⟩, .string ⟨x.toArray⟩], .int .i64 0, .int .i64 0]) ∧ Below w.heap.size w w'))
    (hbn : ∀ w : World, (binOp .eql 29 (.agg #[.int .i64 1, .int .i64 5, .string ⟨(y1 ++ (y2 ++ 45 :: (m2 ++ 45 :: (dd ++ 84 :: (h1 ++ 58 :: (h2 ++ 58 :: (h3 ++ [90]))))))).toArray⟩, .string ⟨(104 :: hn).toArray⟩, .string ⟨(97 :: 112 :: 112 :: 47 :: tn).toArray⟩, .string ⟨pn.toArray⟩, .string ⟨#[]⟩, .string ⟨#[]⟩, .string ⟨x.toArray⟩]) (.agg #[.int .i64 1, .int .i64 5, .string ⟨(y1 ++ (y2 ++ 45 :: (m2 ++ 45 :: (dd ++ 84 :: (h1 ++ 58 :: (h2 ++ 58 :: (h3 ++ [90]))))))).toArray⟩, .string ⟨(104 :: hn).toArray⟩, .string ⟨(97 :: 112 :: 112 :: 47 :: tn).toArray⟩, .string ⟨pn.toArray⟩, .string ⟨#[]⟩, .string ⟨#[]⟩, .string ⟨x.toArray⟩])).run Tryz.prog w = .ok (.bool true) w)
    (s0 : source.tmod 3 = 0) (s1 : ¬ host.tmod 4 = 0) (s2 : ¬ tag.tmod 4 = 0) (s3 : ¬ proc.tmod 3 = 0) (s4 : 1 + (q3 : Int) < 10) :
    Calls Tryz.prog 9 #[.int .i64 source, .int .i64 day, .int .i64 second, .int .i64 host, .int .i64 tag, .int .i64 proc, .int .i64 words, .int .i64 year] w fun e w' => e = .returned (.bool true) ∧ Below w.heap.size w w' := by
  obtain ⟨P1, P2, P3, P4, P5, P6, P7, P8, P9, P10, T1, T2, T3, T4, T5, T6, T7, D1, D2, D3, D4, D5, AW, b1, b2, b3, bD, b4, b5, b6, b7, b8, b9, l1, l2, l3, l4, l5, l6, l7, l8, l9, l10, l11, l12, l13, l14, t13, hmn, hx⟩ := c
  have zs1 : (host.tmod 4 == 0) = false := beq_eq_false_iff_ne.2 s1
  have zs2 : (tag.tmod 4 == 0) = false := beq_eq_false_iff_ne.2 s2
  have zs3 : (proc.tmod 3 == 0) = false := beq_eq_false_iff_ne.2 s3
  have hgd := fun x y a b w => msg_guard x y a b w
  go_enter Tryz.func9, Tryz.ntmps9
  go_wp2_with fail
  refine (AW.out _ hT).mono ?_
  rintro e w1 ⟨rfl, hb1⟩
  have HB1 : Hid (Below w.heap.size w w1) := hb1
  have HT1 : Hid (Tabs w1) := hT.next hb1
  clear hb1
  go_wp2_with fail
  refine (P1.out _).mono ?_
  rintro e wz ⟨rfl, rfl⟩
  go_wp2_with fail
  refine (P2.out _).mono ?_
  rintro e wz ⟨rfl, rfl⟩
  go_wp2_with fail
  refine (P3.out _).mono ?_
  rintro e wz ⟨rfl, rfl⟩
  go_wp2_with fail
  refine (P4.out _).mono ?_
  rintro e wz ⟨rfl, rfl⟩
  go_wp2_with fail
  refine (P5.out _).mono ?_
  rintro e wz ⟨rfl, rfl⟩
  go_wp2_with fail
  have HB_0 : Hid (Below w.heap.size w (wz.alloc (.cells #[.int .i64 1, .int .i64 5, .string ⟨#[]⟩, .string ⟨#[]⟩, .string ⟨#[]⟩, .string ⟨#[]⟩, .string ⟨#[]⟩, .string ⟨#[]⟩, .string ⟨#[]⟩] 29))) := HB1.out.alloc HB1.out.size _
  have HG_0 : Hid ((wz.alloc (.cells #[.int .i64 1, .int .i64 5, .string ⟨#[]⟩, .string ⟨#[]⟩, .string ⟨#[]⟩, .string ⟨#[]⟩, .string ⟨#[]⟩, .string ⟨#[]⟩, .string ⟨#[]⟩] 29)).heap[wz.heap.size]? = some (.cells #[.int .i64 1, .int .i64 5, .string ⟨#[]⟩, .string ⟨#[]⟩, .string ⟨#[]⟩, .string ⟨#[]⟩, .string ⟨#[]⟩, .string ⟨#[]⟩, .string ⟨#[]⟩] 29 (0, 0))) := heap_alloc_new _ _
  have hlo : w.heap.size ≤ wz.heap.size := HB1.out.size
  have hsz0 : (wz.alloc (.cells #[.int .i64 1, .int .i64 5, .string ⟨#[]⟩, .string ⟨#[]⟩, .string ⟨#[]⟩, .string ⟨#[]⟩, .string ⟨#[]⟩, .string ⟨#[]⟩, .string ⟨#[]⟩] 29)).heap.size = wz.heap.size + 1 := World.size_alloc _ _
  generalize wz.alloc (.cells #[.int .i64 1, .int .i64 5, .string ⟨#[]⟩, .string ⟨#[]⟩, .string ⟨#[]⟩, .string ⟨#[]⟩, .string ⟨#[]⟩, .string ⟨#[]⟩, .string ⟨#[]⟩] 29) = W_0 at HB_0 HG_0 hsz0 ⊢
  clear hsz0
  refine (D1.out _).mono ?_
  rintro e wy ⟨rfl, hwy⟩
  subst hwy
  go_wp2_with fail
  refine (T5.out _).mono ?_
  rintro e W_1 ⟨rfl, hbz⟩
  have HB_1 : Hid (Below w.heap.size w W_1) := Below.next HB_0.out (Nat.le_refl _) hbz
  have HG_1 : Hid (W_1.heap[wz.heap.size]? = some (.cells #[.int .i64 1, .int .i64 5, .string ⟨#[]⟩, .string ⟨#[]⟩, .string ⟨#[]⟩, .string ⟨#[]⟩, .string ⟨#[]⟩, .string ⟨#[]⟩, .string ⟨#[]⟩] 29 (0, 0))) := (hbz.block _ (Array.getElem?_eq_some_iff.1 HG_0.out).1).trans HG_0.out
  clear hbz HB_0 HG_0
  go_wp2_with fail
  refine (T6.out _).mono ?_
  rintro e W_2 ⟨rfl, hbz⟩
  have HB_2 : Hid (Below w.heap.size w W_2) := Below.next HB_1.out (Nat.le_refl _) hbz
  have HG_2 : Hid (W_2.heap[wz.heap.size]? = some (.cells #[.int .i64 1, .int .i64 5, .string ⟨#[]⟩, .string ⟨#[]⟩, .string ⟨#[]⟩, .string ⟨#[]⟩, .string ⟨#[]⟩, .string ⟨#[]⟩, .string ⟨#[]⟩] 29 (0, 0))) := (hbz.block _ (Array.getElem?_eq_some_iff.1 HG_1.out).1).trans HG_1.out
  clear hbz HB_1 HG_1
  go_wp2_with fail
  refine (T7.out _).mono ?_
  rintro e W_3 ⟨rfl, hbz⟩
  have HB_3 : Hid (Below w.heap.size w W_3) := Below.next HB_2.out (Nat.le_refl _) hbz
  have HG_3 : Hid (W_3.heap[wz.heap.size]? = some (.cells #[.int .i64 1, .int .i64 5, .string ⟨#[]⟩, .string ⟨#[]⟩, .string ⟨#[]⟩, .string ⟨#[]⟩, .string ⟨#[]⟩, .string ⟨#[]⟩, .string ⟨#[]⟩] 29 (0, 0))) := (hbz.block _ (Array.getElem?_eq_some_iff.1 HG_2.out).1).trans HG_2.out
  clear hbz HB_2 HG_2
  go_wp2_with fail
  refine (P7.out _).mono ?_
  rintro e wy ⟨rfl, hwy⟩
  subst hwy
  go_wp2_with fail
  refine (D3.out _).mono ?_
  rintro e wy ⟨rfl, hwy⟩
  subst hwy
  go_wp2_with (refine Hw.wpList_store_fieldP rfl _ _ _ rfl rfl wz.heap.size 3 _ rfl rfl _ _ #[.int .i64 1, .int .i64 5, .string ⟨#[]⟩, .string ⟨(104 :: hn).toArray⟩, .string ⟨#[]⟩, .string ⟨#[]⟩, .string ⟨#[]⟩, .string ⟨#[]⟩, .string ⟨#[]⟩] HG_3.out size_str (by simp) rfl rfl ?_; intro W_4 pz; have HB_4 : Hid (Below w.heap.size w W_4) := HB_3.out.trans (pz.below hlo); have HG_4 : Hid (W_4.heap[wz.heap.size]? = some (.cells #[.int .i64 1, .int .i64 5, .string ⟨#[]⟩, .string ⟨(104 :: hn).toArray⟩, .string ⟨#[]⟩, .string ⟨#[]⟩, .string ⟨#[]⟩, .string ⟨#[]⟩, .string ⟨#[]⟩] 29 (0, 0))) := pz.row; clear pz HB_3 HG_3)
  refine (T1.out _).mono ?_
  rintro e W_5 ⟨rfl, hbz⟩
  have HB_5 : Hid (Below w.heap.size w W_5) := Below.next HB_4.out (Nat.le_refl _) hbz
  have HG_5 : Hid (W_5.heap[wz.heap.size]? = some (.cells #[.int .i64 1, .int .i64 5, .string ⟨#[]⟩, .string ⟨(104 :: hn).toArray⟩, .string ⟨#[]⟩, .string ⟨#[]⟩, .string ⟨#[]⟩, .string ⟨#[]⟩, .string ⟨#[]⟩] 29 (0, 0))) := (hbz.block _ (Array.getElem?_eq_some_iff.1 HG_4.out).1).trans HG_4.out
  clear hbz HB_4 HG_4
  go_wp2_with fail
  refine (T2.out _).mono ?_
  rintro e W_6 ⟨rfl, hbz⟩
  have HB_6 : Hid (Below w.heap.size w W_6) := Below.next HB_5.out (Nat.le_refl _) hbz
  have HG_6 : Hid (W_6.heap[wz.heap.size]? = some (.cells #[.int .i64 1, .int .i64 5, .string ⟨#[]⟩, .string ⟨(104 :: hn).toArray⟩, .string ⟨#[]⟩, .string ⟨#[]⟩, .string ⟨#[]⟩, .string ⟨#[]⟩, .string ⟨#[]⟩] 29 (0, 0))) := (hbz.block _ (Array.getElem?_eq_some_iff.1 HG_5.out).1).trans HG_5.out
  clear hbz HB_5 HG_5
  go_wp2_with fail
  refine (T3.out _).mono ?_
  rintro e W_7 ⟨rfl, hbz⟩
  have HB_7 : Hid (Below w.heap.size w W_7) := Below.next HB_6.out (Nat.le_refl _) hbz
  have HG_7 : Hid (W_7.heap[wz.heap.size]? = some (.cells #[.int .i64 1, .int .i64 5, .string ⟨#[]⟩, .string ⟨(104 :: hn).toArray⟩, .string ⟨#[]⟩, .string ⟨#[]⟩, .string ⟨#[]⟩, .string ⟨#[]⟩, .string ⟨#[]⟩] 29 (0, 0))) := (hbz.block _ (Array.getElem?_eq_some_iff.1 HG_6.out).1).trans HG_6.out
  clear hbz HB_6 HG_6
  go_wp2_with fail
  refine (T4.out _).mono ?_
  rintro e W_8 ⟨rfl, hbz⟩
  have HB_8 : Hid (Below w.heap.size w W_8) := Below.next HB_7.out (Nat.le_refl _) hbz
  have HG_8 : Hid (W_8.heap[wz.heap.size]? = some (.cells #[.int .i64 1, .int .i64 5, .string ⟨#[]⟩, .string ⟨(104 :: hn).toArray⟩, .string ⟨#[]⟩, .string ⟨#[]⟩, .string ⟨#[]⟩, .string ⟨#[]⟩, .string ⟨#[]⟩] 29 (0, 0))) := (hbz.block _ (Array.getElem?_eq_some_iff.1 HG_7.out).1).trans HG_7.out
  clear hbz HB_7 HG_7
  go_wp2_with (refine Hw.wpList_store_fieldP rfl _ _ _ rfl rfl wz.heap.size 2 _ rfl rfl _ _ #[.int .i64 1, .int .i64 5, .string ⟨(y1 ++ (y2 ++ 45 :: (m2 ++ 45 :: (dd ++ 84 :: (h1 ++ 58 :: (h2 ++ 58 :: (h3 ++ [90]))))))).toArray⟩, .string ⟨(104 :: hn).toArray⟩, .string ⟨#[]⟩, .string ⟨#[]⟩, .string ⟨#[]⟩, .string ⟨#[]⟩, .string ⟨#[]⟩] HG_8.out size_str (by simp) rfl rfl ?_; intro W_9 pz; have HB_9 : Hid (Below w.heap.size w W_9) := HB_8.out.trans (pz.below hlo); have HG_9 : Hid (W_9.heap[wz.heap.size]? = some (.cells #[.int .i64 1, .int .i64 5, .string ⟨(y1 ++ (y2 ++ 45 :: (m2 ++ 45 :: (dd ++ 84 :: (h1 ++ 58 :: (h2 ++ 58 :: (h3 ++ [90]))))))).toArray⟩, .string ⟨(104 :: hn).toArray⟩, .string ⟨#[]⟩, .string ⟨#[]⟩, .string ⟨#[]⟩, .string ⟨#[]⟩, .string ⟨#[]⟩] 29 (0, 0))) := pz.row; have cc2 : W_9.cell? ⟨wz.heap.size, 2, none⟩ = some (.string ⟨(y1 ++ (y2 ++ 45 :: (m2 ++ 45 :: (dd ++ 84 :: (h1 ++ 58 :: (h2 ++ 58 :: (h3 ++ [90]))))))).toArray⟩) := cell_of_row _ _ _ _ _ _ pz.row; have cc3 : W_9.cell? ⟨wz.heap.size, 3, none⟩ = some (.string ⟨(104 :: hn).toArray⟩) := cell_of_row _ _ _ _ _ _ pz.row; clear pz HB_8 HG_8)
  go_region
  have HB_10 : Hid (Below w.heap.size w W_9.drew) := HB_9.out.drew
  have HG_10 : Hid (W_9.drew.heap[wz.heap.size]? = some (.cells #[.int .i64 1, .int .i64 5, .string ⟨(y1 ++ (y2 ++ 45 :: (m2 ++ 45 :: (dd ++ 84 :: (h1 ++ 58 :: (h2 ++ 58 :: (h3 ++ [90]))))))).toArray⟩, .string ⟨(104 :: hn).toArray⟩, .string ⟨#[]⟩, .string ⟨#[]⟩, .string ⟨#[]⟩, .string ⟨#[]⟩, .string ⟨#[]⟩] 29 (0, 0))) := HG_9.out
  generalize W_9.drew = W_10 at HB_10 HG_10 ⊢
  clear HB_9 HG_9 cc2 cc3
  go_wp2_with fail
  refine (P8.out _).mono ?_
  rintro e wy ⟨rfl, hwy⟩
  subst hwy
  go_wp2_with fail
  refine (D4.out _).mono ?_
  rintro e wy ⟨rfl, hwy⟩
  subst hwy
  go_wp2_with (refine Hw.wpList_store_fieldP rfl _ _ _ rfl rfl wz.heap.size 4 _ rfl rfl _ _ #[.int .i64 1, .int .i64 5, .string ⟨(y1 ++ (y2 ++ 45 :: (m2 ++ 45 :: (dd ++ 84 :: (h1 ++ 58 :: (h2 ++ 58 :: (h3 ++ [90]))))))).toArray⟩, .string ⟨(104 :: hn).toArray⟩, .string ⟨(97 :: 112 :: 112 :: 47 :: tn).toArray⟩, .string ⟨#[]⟩, .string ⟨#[]⟩, .string ⟨#[]⟩, .string ⟨#[]⟩] HG_10.out size_str (by simp) rfl rfl ?_; intro W_11 pz; have HB_11 : Hid (Below w.heap.size w W_11) := HB_10.out.trans (pz.below hlo); have HG_11 : Hid (W_11.heap[wz.heap.size]? = some (.cells #[.int .i64 1, .int .i64 5, .string ⟨(y1 ++ (y2 ++ 45 :: (m2 ++ 45 :: (dd ++ 84 :: (h1 ++ 58 :: (h2 ++ 58 :: (h3 ++ [90]))))))).toArray⟩, .string ⟨(104 :: hn).toArray⟩, .string ⟨(97 :: 112 :: 112 :: 47 :: tn).toArray⟩, .string ⟨#[]⟩, .string ⟨#[]⟩, .string ⟨#[]⟩, .string ⟨#[]⟩] 29 (0, 0))) := pz.row; have cc4 : W_11.cell? ⟨wz.heap.size, 4, none⟩ = some (.string ⟨(97 :: 112 :: 112 :: 47 :: tn).toArray⟩) := cell_of_row _ _ _ _ _ _ pz.row; clear pz HB_10 HG_10)
  refine (P9.out _).mono ?_
  rintro e wy ⟨rfl, hwy⟩
  subst hwy
  go_wp2_with fail
  refine (D5.out _).mono ?_
  rintro e wy ⟨rfl, hwy⟩
  subst hwy
  go_wp2_with (refine Hw.wpList_store_fieldP rfl _ _ _ rfl rfl wz.heap.size 5 _ rfl rfl _ _ #[.int .i64 1, .int .i64 5, .string ⟨(y1 ++ (y2 ++ 45 :: (m2 ++ 45 :: (dd ++ 84 :: (h1 ++ 58 :: (h2 ++ 58 :: (h3 ++ [90]))))))).toArray⟩, .string ⟨(104 :: hn).toArray⟩, .string ⟨(97 :: 112 :: 112 :: 47 :: tn).toArray⟩, .string ⟨pn.toArray⟩, .string ⟨#[]⟩, .string ⟨#[]⟩, .string ⟨#[]⟩] HG_11.out size_str (by simp) rfl rfl ?_; intro W_12 pz; have HB_12 : Hid (Below w.heap.size w W_12) := HB_11.out.trans (pz.below hlo); have HG_12 : Hid (W_12.heap[wz.heap.size]? = some (.cells #[.int .i64 1, .int .i64 5, .string ⟨(y1 ++ (y2 ++ 45 :: (m2 ++ 45 :: (dd ++ 84 :: (h1 ++ 58 :: (h2 ++ 58 :: (h3 ++ [90]))))))).toArray⟩, .string ⟨(104 :: hn).toArray⟩, .string ⟨(97 :: 112 :: 112 :: 47 :: tn).toArray⟩, .string ⟨pn.toArray⟩, .string ⟨#[]⟩, .string ⟨#[]⟩, .string ⟨#[]⟩] 29 (0, 0))) := pz.row; have cc5 : W_12.cell? ⟨wz.heap.size, 5, none⟩ = some (.string ⟨pn.toArray⟩) := cell_of_row _ _ _ _ _ _ pz.row; clear pz HB_11 HG_11)
  have HB_13 : Hid (Below w.heap.size w (W_12.alloc (.cells #[.string ⟨#[]⟩, .string ⟨#[104, 101, 108, 108, 111, 32, 119, 111, 114, 108, 100]⟩, .string ⟨#[120, 32, 121, 58, 32, 122]⟩, .string ⟨#[91, 49, 93, 58, 32, 110, 111, 32, 116, 97, 103]⟩, .string ⟨#[97, 32, 32, 98]⟩] 9))) := HB_12.out.alloc HB_12.out.size _
  have HG_13 : Hid ((W_12.alloc (.cells #[.string ⟨#[]⟩, .string ⟨#[104, 101, 108, 108, 111, 32, 119, 111, 114, 108, 100]⟩, .string ⟨#[120, 32, 121, 58, 32, 122]⟩, .string ⟨#[91, 49, 93, 58, 32, 110, 111, 32, 116, 97, 103]⟩, .string ⟨#[97, 32, 32, 98]⟩] 9)).heap[wz.heap.size]? = some (.cells #[.int .i64 1, .int .i64 5, .string ⟨(y1 ++ (y2 ++ 45 :: (m2 ++ 45 :: (dd ++ 84 :: (h1 ++ 58 :: (h2 ++ 58 :: (h3 ++ [90]))))))).toArray⟩, .string ⟨(104 :: hn).toArray⟩, .string ⟨(97 :: 112 :: 112 :: 47 :: tn).toArray⟩, .string ⟨pn.toArray⟩, .string ⟨#[]⟩, .string ⟨#[]⟩, .string ⟨#[]⟩] 29 (0, 0))) := (heap_alloc_old _ _ (Array.getElem?_eq_some_iff.1 HG_12.out).1).trans HG_12.out
  have ct : (W_12.alloc (.cells #[.string ⟨#[]⟩, .string ⟨#[104, 101, 108, 108, 111, 32, 119, 111, 114, 108, 100]⟩, .string ⟨#[120, 32, 121, 58, 32, 122]⟩, .string ⟨#[91, 49, 93, 58, 32, 110, 111, 32, 116, 97, 103]⟩, .string ⟨#[97, 32, 32, 98]⟩] 9)).cell? ⟨W_12.heap.size, wq, none⟩ = some (.string ⟨x.toArray⟩) := by rw [← hx.out]; exact strs_cell (ls := Hm.otexts) b9
  generalize W_12.alloc (.cells #[.string ⟨#[]⟩, .string ⟨#[104, 101, 108, 108, 111, 32, 119, 111, 114, 108, 100]⟩, .string ⟨#[120, 32, 121, 58, 32, 122]⟩, .string ⟨#[91, 49, 93, 58, 32, 110, 111, 32, 116, 97, 103]⟩, .string ⟨#[97, 32, 32, 98]⟩] 9) = W_13 at HB_13 HG_13 ct ⊢
  clear HB_12 HG_12
  refine (P10.out _).mono ?_
  rintro e wy ⟨rfl, hwy⟩
  subst hwy
  go_wp2_with (refine Hw.wpList_store_fieldP rfl _ _ _ rfl rfl wz.heap.size 8 _ rfl rfl _ _ #[.int .i64 1, .int .i64 5, .string ⟨(y1 ++ (y2 ++ 45 :: (m2 ++ 45 :: (dd ++ 84 :: (h1 ++ 58 :: (h2 ++ 58 :: (h3 ++ [90]))))))).toArray⟩, .string ⟨(104 :: hn).toArray⟩, .string ⟨(97 :: 112 :: 112 :: 47 :: tn).toArray⟩, .string ⟨pn.toArray⟩, .string ⟨#[]⟩, .string ⟨#[]⟩, .string ⟨x.toArray⟩] HG_13.out size_str (by simp) rfl rfl ?_; intro W_14 pz; have HB_14 : Hid (Below w.heap.size w W_14) := HB_13.out.trans (pz.below hlo); have HG_14 : Hid (W_14.heap[wz.heap.size]? = some (.cells #[.int .i64 1, .int .i64 5, .string ⟨(y1 ++ (y2 ++ 45 :: (m2 ++ 45 :: (dd ++ 84 :: (h1 ++ 58 :: (h2 ++ 58 :: (h3 ++ [90]))))))).toArray⟩, .string ⟨(104 :: hn).toArray⟩, .string ⟨(97 :: 112 :: 112 :: 47 :: tn).toArray⟩, .string ⟨pn.toArray⟩, .string ⟨#[]⟩, .string ⟨#[]⟩, .string ⟨x.toArray⟩] 29 (0, 0))) := pz.row; have cc8 : W_14.cell? ⟨wz.heap.size, 8, none⟩ = some (.string ⟨x.toArray⟩) := cell_of_row _ _ _ _ _ _ pz.row; clear pz HB_13 HG_13)
  refine (RD.out _ _ (by simp) (hT.next HB_14.out)).mono ?_
  rintro e w9 ⟨rfl, hb9⟩
  have hg9 : w9.heap[wz.heap.size]? = some (.cells #[.int .i64 1, .int .i64 5, .string ⟨(y1 ++ (y2 ++ 45 :: (m2 ++ 45 :: (dd ++ 84 :: (h1 ++ 58 :: (h2 ++ 58 :: (h3 ++ [90]))))))).toArray⟩, .string ⟨(104 :: hn).toArray⟩, .string ⟨(97 :: 112 :: 112 :: 47 :: tn).toArray⟩, .string ⟨pn.toArray⟩, .string ⟨#[]⟩, .string ⟨#[]⟩, .string ⟨x.toArray⟩] 29 (0, 0)) := (hb9.block _ (Array.getElem?_eq_some_iff.1 HG_14.out).1).trans HG_14.out
  have HB9 : Hid (Below w.heap.size w w9) := Below.next HB_14.out (Nat.le_refl _) hb9
  have hlt9 : wz.heap.size < w9.heap.size := (Array.getElem?_eq_some_iff.1 hg9).1
  have hne : ¬ wz.heap.size = w9.heap.size := by omega
  have hne' : ¬ w9.heap.size = wz.heap.size := by omega
  obtain ⟨e0, e1, e2, e3, e4, e5, e6, e7, e8⟩ := cells9 hg9
  clear hb9 hg9 HB_14 HG_14
  go_wp2
  go_ret
  exact ⟨rfl, HB9.out.alloc HB9.out.size _⟩
end Go.Proofs.YtdlhbmncbmconaaGreatDoor

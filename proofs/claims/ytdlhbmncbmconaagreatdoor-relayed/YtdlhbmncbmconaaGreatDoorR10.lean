/- Contract: Back. -/
import Derived.Test.YtdlhbmncbmconaaGreatDoorR9
import Derived.Test.YtdlhbmncbmconaaGreatDoorR4
namespace Go.Hm
theorem flatMap_len {f : Nat → List UInt8} {B : Nat} : ∀ n, (∀ i, i < n → (f i).length ≤ B) → ((List.range n).flatMap f).length ≤ B * n
  | 0, _ => by simp
  | n + 1, h => by
    have ih := flatMap_len n (fun i hi => h i (by omega))
    have := h n (by omega)
    rw [List.range_succ, List.flatMap_append, List.length_append]
    simp only [List.flatMap_cons, List.flatMap_nil, List.append_nil]
    rw [Nat.mul_succ]
    omega
theorem kdata_len (c : Int) : (kdata c).length ≤ 400 := by
  have hq := pick_lt c (n := 4) (by decide)
  have : (kdata c).length ≤ 100 * pick c 4 := by
    refine flatMap_len _ (fun i hi => ?_)
    have hk := pick_lt (c.tdiv 5 + i) (n := 3) (by decide)
    have hp : (kpairs c i (pick (c.tdiv 5 + i) 3)).length ≤ 20 * pick (c.tdiv 5 + i) 3 := by
      refine flatMap_len _ (fun j hj => ?_)
      have := kvalue_len (c.tdiv 13 + i + j)
      have := dd_len2 (n := j) (by omega)
      unfold kpair pairB
      simp only [List.length_append, List.length_cons, List.length_nil]
      omega
    have := dd_len2 (n := i) (by omega)
    unfold kelem
    simp only [List.length_append, List.length_cons, List.length_nil]
    omega
  omega
theorem ktexts_len : ∀ j, j < 9 → (ktexts.getD j []).length ≤ 13 := by
  intro j hj
  rcases (by omega : j = 0 ∨ j = 1 ∨ j = 2 ∨ j = 3 ∨ j = 4 ∨ j = 5 ∨ j = 6 ∨ j = 7 ∨ j = 8) with h | h | h | h | h | h | h | h | h <;> subst h <;> decide
theorem ktext_len (c : Int) : (ktext c).length ≤ 26 := by
  have hp := pick_lt c (n := 81) (by decide)
  have a := ktexts_len (pick c 81 % 9) (by omega)
  have b := ktexts_len (pick c 81 / 9) (by omega)
  unfold ktext
  simp only [List.length_append]
  omega
theorem kmessage_small (r : Raw) : (kmessage r).Small := by
  refine ⟨?_, ?_, ?_, ?_, ?_, ?_, ?_⟩
  · show (if r.day.tmod 5 = 0 then [] else kmoment r.day r.second r.part).length ≤ 4000
    split
    · simp
    · have := kmoment_len r.day r.second r.part; omega
  · exact Nat.le_trans (kplain_len _ _) (by decide)
  · exact Nat.le_trans (kplain_len _ _) (by decide)
  · exact Nat.le_trans (kplain_len _ _) (by decide)
  · exact Nat.le_trans (kplain_len _ _) (by decide)
  · exact Nat.le_trans (kdata_len _) (by decide)
  · exact Nat.le_trans (ktext_len _) (by decide)
end Go.Hm
namespace Go.Proofs.YtdlhbmncbmconaaGreatDoor
open Go.RowKit Go.Sort
attribute [local go_sem] alloc_drewN setCell_drewN

theorem kmessage_line_any (r : Hm.Raw) (w : World) (hT : Tabs w) : Calls Tryz.prog 20 #[.agg (msgCells (Hm.kmessage r))] w fun e w' => e = .returned (.tuple #[.string ⟨(Hm.line (Hm.kmessage r)).1.toArray⟩, .int .i64 (Hm.line (Hm.kmessage r)).2]) ∧ Below w.heap.size w w' := by
  obtain ⟨h1, h2, h3, h4, h5, h6, h7⟩ := Hm.kmessage_small r
  exact Line_any _ w hT (by omega) (by omega) (by omega) (by omega) (by omega) (by omega) (by omega)

theorem cells7 {w : World} {g : Nat} {a0 a1 a2 a3 a4 a5 a6 : Value} {t : TypeId} {fr : Nat × Nat} (h : w.heap[g]? = some (.cells #[a0, a1, a2, a3, a4, a5, a6] t fr)) :
    w.cell? ⟨g, 0, none⟩ = some a0 ∧ w.cell? ⟨g, 1, none⟩ = some a1 ∧ w.cell? ⟨g, 2, none⟩ = some a2 ∧ w.cell? ⟨g, 3, none⟩ = some a3 ∧ w.cell? ⟨g, 4, none⟩ = some a4 ∧ w.cell? ⟨g, 5, none⟩ = some a5 ∧ w.cell? ⟨g, 6, none⟩ = some a6 :=
  ⟨cell_of_row _ _ _ _ _ _ h, cell_of_row _ _ _ _ _ _ h, cell_of_row _ _ _ _ _ _ h, cell_of_row _ _ _ _ _ _ h, cell_of_row _ _ _ _ _ _ h, cell_of_row _ _ _ _ _ _ h, cell_of_row _ _ _ _ _ _ h⟩

set_option maxRecDepth 20000 in
set_option maxHeartbeats 2000000 in
theorem Back_any (r : Hm.Raw) (hr : RawFits r) (year : Int) (hb0 : -9223372036854775808 ≤ year) (hb1 : year ≤ 9223372036854775807) (w : World) (hT : Tabs w) :
    Calls Tryz.prog 6 #[.agg #[.int .i64 r.source, .int .i64 r.day, .int .i64 r.second, .int .i64 r.part, .int .i64 r.plain, .int .i64 r.data, .int .i64 r.text], .int .i64 year] w fun e w' => e = .returned (.bool true) ∧ Below w.heap.size w w' := by
  have AW : Hid (∀ w, Tabs w → Calls Tryz.prog 18 #[] w fun e w' => e = .returned (.bool true) ∧ Below w.heap.size w w') := awake_any
  have PK : Hid (∀ w, Calls Tryz.prog 22 #[.int .i64 year, .int .i64 9999] w fun e w' => e = .returned (.int .i64 (Hm.pick year 9999)) ∧ w' = w) := fun w => pick_any year 9999 (by decide) (by decide) hb0 hb1 w
  have hq := Hm.pick_lt year (n := 9999) (by decide)
  have hyr : Hm.isYear (1 + (Hm.pick year 9999 : Int)) = true := by simp [Hm.isYear]; omega
  have MS : Hid (∀ w, Calls Tryz.prog 19 #[.agg #[.int .i64 r.source, .int .i64 r.day, .int .i64 r.second, .int .i64 r.part, .int .i64 r.plain, .int .i64 r.data, .int .i64 r.text]] w fun e w' => e = .returned (.agg (msgCells (Hm.kmessage r))) ∧ Below w.heap.size w w') := kmessage_any r hr
  have LN : Hid (∀ w, Tabs w → Calls Tryz.prog 20 #[.agg (msgCells (Hm.kmessage r))] w fun e w' => e = .returned (.tuple #[.string ⟨(Hm.line (Hm.kmessage r)).1.toArray⟩, .int .i64 (Hm.line (Hm.kmessage r)).2]) ∧ Below w.heap.size w w') := kmessage_line_any r
  have hsm := Hm.kmessage_small r
  have hfit := small_fits hsm (Hm.kmessage_good r)
  have hli := Hm.kmessage_line r
  generalize Hm.kmessage r = m at MS LN hsm hfit hli
  have hrd : (Hm.line m).2 = 0 → Hm.read (Hm.line m).1 (1 + (Hm.pick year 9999 : Int)) = (m, 0, 0) := fun h => Hm.read_line h hyr
  have hln : (Hm.line m).2 = 0 → (Hm.line m).1.length ≤ 200 := fun h => Hm.line_lenL h
  generalize Hm.pick year 9999 = q at PK hq hyr hrd
  have hgd := fun x y a b w => msg_guard x y a b w
  have hbn : ∀ w : World, (binOp .eql 29 (.agg (msgCells m)) (.agg (msgCells m))).run Tryz.prog w = .ok (.bool true) w := fun w => msg_bin m hfit w
  obtain ⟨_, _, _, _, _, l6, l7⟩ := hsm
  clear hb0 hb1 hfit hyr hr
  obtain ⟨rs, rd, rc, rp, rl, ra, rt⟩ := r
  dsimp only at MS ⊢
  obtain ⟨mf, ms, mt, mh, ma, mp, mi, md, mx⟩ := m
  dsimp only at l6 l7 hli
  rcases hli with h0 | ⟨h0, h50⟩
  · have hrd := hrd h0
    have hln := hln h0
    have RD2 : Hid (∀ w, Tabs w → Calls Tryz.prog 21 #[.string ⟨(Hm.line ⟨mf, ms, mt, mh, ma, mp, mi, md, mx⟩).1.toArray⟩, .int .i64 (1 + (q : Int))] w fun e w' => e = .returned (.tuple #[.agg (msgCells ⟨mf, ms, mt, mh, ma, mp, mi, md, mx⟩), .int .i64 0, .int .i64 0]) ∧ Below w.heap.size w w') := fun w hT => by
      have := Read_any ⟨(Hm.line ⟨mf, ms, mt, mh, ma, mp, mi, md, mx⟩).1.toArray⟩ (1 + (q : Int)) w hT (by show (Hm.line _).1.toArray.size ≤ _; rw [List.size_toArray]; omega)
      rw [show (⟨(Hm.line ⟨mf, ms, mt, mh, ma, mp, mi, md, mx⟩).1.toArray⟩ : ByteArray).data.toList = (Hm.line ⟨mf, ms, mt, mh, ma, mp, mi, md, mx⟩).1 by simp, hrd] at this
      exact this
    rw [h0] at LN
    clear hrd h0
    generalize (Hm.line ⟨mf, ms, mt, mh, ma, mp, mi, md, mx⟩).1 = t at LN RD2 hln
    have hlni : (t.length : Int) ≤ 200 := by omega
    unfold msgCells at MS LN hbn RD2
    dsimp only at MS LN hbn RD2
    go_enter Tryz.func6, Tryz.ntmps6
    go_wp2_with fail
    refine (AW.out _ (hT.alloc _)).mono ?_
    rintro e w1 ⟨rfl, hb1⟩
    have hr1 : w1.heap[w.heap.size]? = some (.cells #[.int .i64 rs, .int .i64 rd, .int .i64 rc, .int .i64 rp, .int .i64 rl, .int .i64 ra, .int .i64 rt] 26 (0, 0)) := (hb1.block _ (by simp)).trans (heap_alloc_new _ _)
    have HB1 : Hid (Below w.heap.size w w1) := Below.next ((Below.refl _ _).alloc (Nat.le_refl _) _) (by simp) hb1
    obtain ⟨c0, c1, c2, c3, c4, c5, c6⟩ := cells7 hr1
    clear hb1 hr1
    go_wp2_with fail
    refine (MS.out _).mono ?_
    rintro e w2 ⟨rfl, hb2⟩
    have HB2 : Hid (Below w.heap.size w w2) := Below.next HB1.out (Nat.le_refl _) hb2
    clear hb2 HB1 c0 c1 c2 c3 c4 c5 c6
    go_wp2_with fail
    refine (LN.out _ (hT.next (HB2.out.alloc HB2.out.size _))).mono ?_
    rintro e w3 ⟨rfl, hb3⟩
    have HR3 : Hid (w3.heap[w2.heap.size]? = some (.cells #[.int .i64 mf, .int .i64 ms, .string ⟨mt.toArray⟩, .string ⟨mh.toArray⟩, .string ⟨ma.toArray⟩, .string ⟨mp.toArray⟩, .string ⟨mi.toArray⟩, .string ⟨md.toArray⟩, .string ⟨mx.toArray⟩] 29 (0, 0))) := (hb3.block _ (by simp)).trans (heap_alloc_new _ _)
    have HB3 : Hid (Below w.heap.size w w3) := Below.next (HB2.out.alloc HB2.out.size _) (Nat.le_refl _) hb3
    have hlt3 : w2.heap.size < w3.heap.size := (Array.getElem?_eq_some_iff.1 HR3.out).1
    clear hb3 HB2
    go_wp2_with fail
    refine (PK.out _).mono ?_
    rintro e w4 ⟨rfl, rfl⟩
    go_wp2_with fail
    refine (RD2.out _ (hT.next HB3.out)).mono ?_
    rintro e w5 ⟨rfl, hb5⟩
    have HB5 : Hid (Below w.heap.size w w5) := Below.next HB3.out (Nat.le_refl _) hb5
    have hr5 : w5.heap[w2.heap.size]? = some (.cells #[.int .i64 mf, .int .i64 ms, .string ⟨mt.toArray⟩, .string ⟨mh.toArray⟩, .string ⟨ma.toArray⟩, .string ⟨mp.toArray⟩, .string ⟨mi.toArray⟩, .string ⟨md.toArray⟩, .string ⟨mx.toArray⟩] 29 (0, 0)) := (hb5.block _ hlt3).trans HR3.out
    have hlt5 : w2.heap.size < w5.heap.size := Nat.lt_of_lt_of_le hlt3 hb5.size
    obtain ⟨b0, b1, b2, b3, b4, b5, b6, b7, b8⟩ := cells9 hr5
    have hne : ¬ w2.heap.size = w5.heap.size := by omega
    have hne' : ¬ w5.heap.size = w2.heap.size := by omega
    clear hb5 HB3 HR3 hr5
    go_wp2
    go_ret
    exact ⟨rfl, HB5.out.alloc HB5.out.size _⟩
  · rw [h0] at LN
    have hg50 : (50 : Int) < (md.length : Int) + (mx.length : Int) := by omega
    clear hrd hln h0 h50
    unfold msgCells at MS LN hbn
    dsimp only at MS LN hbn
    go_enter Tryz.func6, Tryz.ntmps6
    go_wp2_with fail
    refine (AW.out _ (hT.alloc _)).mono ?_
    rintro e w1 ⟨rfl, hb1⟩
    have hr1 : w1.heap[w.heap.size]? = some (.cells #[.int .i64 rs, .int .i64 rd, .int .i64 rc, .int .i64 rp, .int .i64 rl, .int .i64 ra, .int .i64 rt] 26 (0, 0)) := (hb1.block _ (by simp)).trans (heap_alloc_new _ _)
    have HB1 : Hid (Below w.heap.size w w1) := Below.next ((Below.refl _ _).alloc (Nat.le_refl _) _) (by simp) hb1
    have HT1 : Hid (Tabs w1) := (hT.alloc _).next hb1
    obtain ⟨c0, c1, c2, c3, c4, c5, c6⟩ := cells7 hr1
    clear hb1 hr1
    go_wp2_with fail
    refine (MS.out _).mono ?_
    rintro e w2 ⟨rfl, hb2⟩
    have HB2 : Hid (Below w.heap.size w w2) := Below.next HB1.out (Nat.le_refl _) hb2
    clear hb2 HB1 c0 c1 c2 c3 c4 c5 c6
    go_wp2_with fail
    refine (LN.out _ (hT.next (HB2.out.alloc HB2.out.size _))).mono ?_
    rintro e w3 ⟨rfl, hb3⟩
    have hr3 : w3.heap[w2.heap.size]? = some (.cells #[.int .i64 mf, .int .i64 ms, .string ⟨mt.toArray⟩, .string ⟨mh.toArray⟩, .string ⟨ma.toArray⟩, .string ⟨mp.toArray⟩, .string ⟨mi.toArray⟩, .string ⟨md.toArray⟩, .string ⟨mx.toArray⟩] 29 (0, 0)) := (hb3.block _ (by simp)).trans (heap_alloc_new _ _)
    have HB3 : Hid (Below w.heap.size w w3) := Below.next (HB2.out.alloc HB2.out.size _) (Nat.le_refl _) hb3
    obtain ⟨_, _, _, _, _, _, _, c7, c8⟩ := cells9 hr3
    clear hb3 hr3 HB2
    go_wp2
    go_ret
    exact ⟨rfl, HB3.out⟩
end Go.Proofs.YtdlhbmncbmconaaGreatDoor

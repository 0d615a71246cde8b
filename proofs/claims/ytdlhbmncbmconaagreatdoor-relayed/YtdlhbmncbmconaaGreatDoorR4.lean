/- Contract: Fixed. -/
import Derived.Test.YtdlhbmncbmconaaGreatDoorBq
import Derived.Test.YtdlhbmncbmconaaGreatDoorR3
import Derived.Test.YtdlhbmncbmconaaGreatDoorMb
namespace Go.Proofs.YtdlhbmncbmconaaGreatDoor
open Go.RowKit Go.Sort
attribute [local go_sem] alloc_drewN setCell_drewN

theorem small_fits {m : Hm.Msg} (hm : m.Small) (hg : Hm.Good m) : MsgFits m := by
  obtain ⟨h1, h2, h3, h4, h5, h6, h7⟩ := hm
  have e : (4000 : Nat) ≤ maxLen := by decide
  have f0 := hg.f0
  have f1 := hg.f1
  have s0 := hg.s0
  have s1 := hg.s1
  exact ⟨wf_i64 (by omega) (by omega), wf_i64 (by omega) (by omega), by omega, by omega, by omega, by omega, by omega, by omega, by omega⟩

theorem cells9 {w : World} {g : Nat} {a0 a1 a2 a3 a4 a5 a6 a7 a8 : Value} {t : TypeId} {fr : Nat × Nat} (h : w.heap[g]? = some (.cells #[a0, a1, a2, a3, a4, a5, a6, a7, a8] t fr)) :
    w.cell? ⟨g, 0, none⟩ = some a0 ∧ w.cell? ⟨g, 1, none⟩ = some a1 ∧ w.cell? ⟨g, 2, none⟩ = some a2 ∧ w.cell? ⟨g, 3, none⟩ = some a3 ∧ w.cell? ⟨g, 4, none⟩ = some a4 ∧ w.cell? ⟨g, 5, none⟩ = some a5 ∧ w.cell? ⟨g, 6, none⟩ = some a6 ∧ w.cell? ⟨g, 7, none⟩ = some a7 ∧ w.cell? ⟨g, 8, none⟩ = some a8 :=
  ⟨cell_of_row _ _ _ _ _ _ h, cell_of_row _ _ _ _ _ _ h, cell_of_row _ _ _ _ _ _ h, cell_of_row _ _ _ _ _ _ h, cell_of_row _ _ _ _ _ _ h, cell_of_row _ _ _ _ _ _ h, cell_of_row _ _ _ _ _ _ h, cell_of_row _ _ _ _ _ _ h, cell_of_row _ _ _ _ _ _ h⟩

set_option maxRecDepth 20000 in
set_option maxHeartbeats 2000000 in
theorem Fixed_long (s : ByteArray) (hs : s.size ≤ 9223372036854775800) (year : Int) (hb0 : -9223372036854775808 ≤ year) (hb1 : year ≤ 9223372036854775807) (w : World) (hT : Tabs w) (h200 : 200 < s.size) :
    Calls Tryz.prog 7 #[.string s, .int .i64 year] w fun e w' => e = .returned (.bool true) ∧ Below w.heap.size w w' := by
  have AW : Hid (∀ w, Tabs w → Calls Tryz.prog 18 #[] w fun e w' => e = .returned (.bool true) ∧ Below w.heap.size w w') := awake_any
  have PK : Hid (∀ w, Calls Tryz.prog 22 #[.int .i64 year, .int .i64 9999] w fun e w' => e = .returned (.int .i64 (Hm.pick year 9999)) ∧ w' = w) := fun w => pick_any year 9999 (by decide) (by decide) hb0 hb1 w
  have hq := Hm.pick_lt year (n := 9999) (by decide)
  generalize Hm.pick year 9999 = q at PK hq
  have RD : Hid (∀ w, Tabs w → Calls Tryz.prog 21 #[.string s, .int .i64 (1 + (q : Int))] w fun e w' => e = .returned (.tuple #[.agg #[.int .i64 0, .int .i64 0, .string ⟨#[]⟩, .string ⟨#[]⟩, .string ⟨#[]⟩, .string ⟨#[]⟩, .string ⟨#[]⟩, .string ⟨#[]⟩, .string ⟨#[]⟩], .int .i64 1, .int .i64 0]) ∧ Below w.heap.size w w') := fun w hT => by
    have := Read_any s (1 + (q : Int)) w hT hs
    rw [Hm.read_long (by rw [Hm.len]; exact h200)] at this
    exact this
  have hgd := fun x y a b w => msg_guard x y a b w
  have hbn : ∀ w : World, (binOp .eql 29 (.agg #[.int .i64 0, .int .i64 0, .string ⟨#[]⟩, .string ⟨#[]⟩, .string ⟨#[]⟩, .string ⟨#[]⟩, .string ⟨#[]⟩, .string ⟨#[]⟩, .string ⟨#[]⟩]) (.agg #[.int .i64 0, .int .i64 0, .string ⟨#[]⟩, .string ⟨#[]⟩, .string ⟨#[]⟩, .string ⟨#[]⟩, .string ⟨#[]⟩, .string ⟨#[]⟩, .string ⟨#[]⟩])).run Tryz.prog w = .ok (.bool true) w := fun w => msg_bin Hm.Msg.none fits_none w
  have hi : (200 : Int) < (s.size : Int) := by omega
  have hi0 : (0 : Int) ≤ (s.size : Int) := by omega
  clear hb0 hb1
  go_enter Tryz.func7, Tryz.ntmps7
  go_wp2_with fail
  refine (AW.out _ hT).mono ?_
  rintro e w1 ⟨rfl, hb1⟩
  have HB1 : Hid (Below w.heap.size w w1) := hb1
  have HT1 : Hid (Tabs w1) := hT.next hb1
  clear hb1
  go_wp2_with fail
  refine (PK.out _).mono ?_
  rintro e w2 ⟨rfl, rfl⟩
  go_wp2_with fail
  refine (RD.out _ HT1.out).mono ?_
  rintro e w3 ⟨rfl, hb3⟩
  have HB3 : Hid (Below w.heap.size w w3) := Below.next HB1.out (Nat.le_refl _) hb3
  clear hb3 HB1
  go_wp2
  go_ret
  exact ⟨rfl, HB3.out.alloc HB3.out.size _⟩

set_option maxRecDepth 20000 in
set_option maxHeartbeats 2000000 in
theorem Fixed_bad (s : ByteArray) (hs : s.size ≤ 9223372036854775800) (year : Int) (hb0 : -9223372036854775808 ≤ year) (hb1 : year ≤ 9223372036854775807) (w : World) (hT : Tabs w) (h200 : ¬ 200 < s.size) (he : ¬ (Hm.read s.data.toList (1 + (Hm.pick year 9999 : Int))).2.1 = 0) :
    Calls Tryz.prog 7 #[.string s, .int .i64 year] w fun e w' => e = .returned (.bool true) ∧ Below w.heap.size w w' := by
  have AW : Hid (∀ w, Tabs w → Calls Tryz.prog 18 #[] w fun e w' => e = .returned (.bool true) ∧ Below w.heap.size w w') := awake_any
  have PK : Hid (∀ w, Calls Tryz.prog 22 #[.int .i64 year, .int .i64 9999] w fun e w' => e = .returned (.int .i64 (Hm.pick year 9999)) ∧ w' = w) := fun w => pick_any year 9999 (by decide) (by decide) hb0 hb1 w
  have hq := Hm.pick_lt year (n := 9999) (by decide)
  have hyr : Hm.isYear (1 + (Hm.pick year 9999 : Int)) = true := by simp [Hm.isYear]; omega
  have hR := Hm.read_bad hyr he
  have RD : Hid (∀ w, Tabs w → Calls Tryz.prog 21 #[.string s, .int .i64 (1 + (Hm.pick year 9999 : Int))] w fun e w' => e = .returned (.tuple #[.agg #[.int .i64 0, .int .i64 0, .string ⟨#[]⟩, .string ⟨#[]⟩, .string ⟨#[]⟩, .string ⟨#[]⟩, .string ⟨#[]⟩, .string ⟨#[]⟩, .string ⟨#[]⟩], .int .i64 (Hm.read s.data.toList (1 + (Hm.pick year 9999 : Int))).2.1, .int .i64 (Hm.read s.data.toList (1 + (Hm.pick year 9999 : Int))).2.2]) ∧ Below w.heap.size w w') := fun w hT => by
    have := Read_any s (1 + (Hm.pick year 9999 : Int)) w hT hs
    rw [hR.msg] at this
    exact this
  have hpl := hR.pl
  have hlg := hR.long
  rw [Hm.len] at hpl hlg
  generalize (Hm.read s.data.toList (1 + (Hm.pick year 9999 : Int))).2.1 = e0 at RD he hlg
  generalize (Hm.read s.data.toList (1 + (Hm.pick year 9999 : Int))).2.2 = a0 at RD hpl
  clear hyr hR
  generalize Hm.pick year 9999 = q at PK hq RD
  have hgd := fun x y a b w => msg_guard x y a b w
  have hbn : ∀ w : World, (binOp .eql 29 (.agg #[.int .i64 0, .int .i64 0, .string ⟨#[]⟩, .string ⟨#[]⟩, .string ⟨#[]⟩, .string ⟨#[]⟩, .string ⟨#[]⟩, .string ⟨#[]⟩, .string ⟨#[]⟩]) (.agg #[.int .i64 0, .int .i64 0, .string ⟨#[]⟩, .string ⟨#[]⟩, .string ⟨#[]⟩, .string ⟨#[]⟩, .string ⟨#[]⟩, .string ⟨#[]⟩, .string ⟨#[]⟩])).run Tryz.prog w = .ok (.bool true) w := fun w => msg_bin Hm.Msg.none fits_none w
  have h1 : ¬ e0 = 1 := fun e => h200 (hlg e)
  have b0 : ((e0 : Int) == 0) = false := beq_eq_false_iff_ne.2 (by omega)
  have b1 : ((e0 : Int) == 1) = false := beq_eq_false_iff_ne.2 (by omega)
  have hi : ¬ (200 : Int) < (s.size : Int) := by omega
  have hi1 : (0 : Int) ≤ (a0 : Int) := by omega
  have hi2 : (a0 : Int) ≤ (s.size : Int) := by omega
  clear hb0 hb1 hlg he h1 h200 hpl
  go_enter Tryz.func7, Tryz.ntmps7
  go_wp2_with fail
  refine (AW.out _ hT).mono ?_
  rintro e w1 ⟨rfl, hb1⟩
  have HB1 : Hid (Below w.heap.size w w1) := hb1
  have HT1 : Hid (Tabs w1) := hT.next hb1
  clear hb1
  go_wp2_with fail
  refine (PK.out _).mono ?_
  rintro e w2 ⟨rfl, rfl⟩
  go_wp2_with fail
  refine (RD.out _ HT1.out).mono ?_
  rintro e w3 ⟨rfl, hb3⟩
  have HB3 : Hid (Below w.heap.size w w3) := Below.next HB1.out (Nat.le_refl _) hb3
  clear hb3 HB1
  go_wp2
  go_ret
  refine ⟨?_, HB3.out.alloc HB3.out.size _⟩
  show Ending.returned (.bool (!decide ((200 : Int) < (s.size : Int)))) = _
  rw [decide_eq_false (show ¬ (200 : Int) < (s.size : Int) by omega)]
  rfl

set_option maxRecDepth 20000 in
set_option maxHeartbeats 2000000 in
theorem Fixed_ok (s : ByteArray) (hs : s.size ≤ 9223372036854775800) (year : Int) (hb0 : -9223372036854775808 ≤ year) (hb1 : year ≤ 9223372036854775807) (w : World) (hT : Tabs w) (he : (Hm.read s.data.toList (1 + (Hm.pick year 9999 : Int))).2.1 = 0) :
    Calls Tryz.prog 7 #[.string s, .int .i64 year] w fun e w' => e = .returned (.bool true) ∧ Below w.heap.size w w' := by
  have AW : Hid (∀ w, Tabs w → Calls Tryz.prog 18 #[] w fun e w' => e = .returned (.bool true) ∧ Below w.heap.size w w') := awake_any
  have PK : Hid (∀ w, Calls Tryz.prog 22 #[.int .i64 year, .int .i64 9999] w fun e w' => e = .returned (.int .i64 (Hm.pick year 9999)) ∧ w' = w) := fun w => pick_any year 9999 (by decide) (by decide) hb0 hb1 w
  have hq := Hm.pick_lt year (n := 9999) (by decide)
  have hyr : Hm.isYear (1 + (Hm.pick year 9999 : Int)) = true := by simp [Hm.isYear]; omega
  have hat := Hm.read_place he
  have hsm := Hm.read_small s.data.toList (1 + (Hm.pick year 9999 : Int))
  have hgo := Hm.read_good he
  have hli := Hm.line_read he
  have RD : Hid (∀ w, Tabs w → Calls Tryz.prog 21 #[.string s, .int .i64 (1 + (Hm.pick year 9999 : Int))] w fun e w' => e = .returned (.tuple #[.agg (msgCells (Hm.read s.data.toList (1 + (Hm.pick year 9999 : Int))).1), .int .i64 0, .int .i64 0]) ∧ Below w.heap.size w w') := fun w hT => by
    have := Read_any s (1 + (Hm.pick year 9999 : Int)) w hT hs
    rw [he, hat] at this
    exact this
  generalize (Hm.read s.data.toList (1 + (Hm.pick year 9999 : Int))).1 = m at RD hsm hgo hli
  have hfit := small_fits hsm hgo
  obtain ⟨h1, h2, h3, h4, h5, h6, h7⟩ := hsm
  have LN : Hid (∀ w, Tabs w → Calls Tryz.prog 20 #[.agg (msgCells m)] w fun r w' => r = .returned (.tuple #[.string ⟨(Hm.line m).1.toArray⟩, .int .i64 (Hm.line m).2]) ∧ Below w.heap.size w w') := fun w hT => Line_any m w hT (by omega) (by omega) (by omega) (by omega) (by omega) (by omega) (by omega)
  have hrd : (Hm.line m).2 = 0 → Hm.read (Hm.line m).1 (1 + (Hm.pick year 9999 : Int)) = (m, 0, 0) := fun h => Hm.read_line h hyr
  have hln : (Hm.line m).2 = 0 → (Hm.line m).1.length ≤ 200 := fun h => Hm.line_lenL h
  clear he hat hyr
  generalize Hm.pick year 9999 = q at PK hq RD hrd
  have hgd := fun x y a b w => msg_guard x y a b w
  have hbn : ∀ w : World, (binOp .eql 29 (.agg (msgCells m)) (.agg (msgCells m))).run Tryz.prog w = .ok (.bool true) w := fun w => msg_bin m hfit w
  clear hb0 hb1 hgo hfit h1 h2 h3 h4 h5 h6 h7
  obtain ⟨mf, ms, mt, mh, ma, mp, mi, md, mx⟩ := m
  rcases hli with h0 | h0
  · have hrd := hrd h0
    have hln := hln h0
    have RD2 : Hid (∀ w, Tabs w → Calls Tryz.prog 21 #[.string ⟨(Hm.line ⟨mf, ms, mt, mh, ma, mp, mi, md, mx⟩).1.toArray⟩, .int .i64 (1 + (q : Int))] w fun e w' => e = .returned (.tuple #[.agg (msgCells ⟨mf, ms, mt, mh, ma, mp, mi, md, mx⟩), .int .i64 0, .int .i64 0]) ∧ Below w.heap.size w w') := fun w hT => by
      have := Read_any ⟨(Hm.line ⟨mf, ms, mt, mh, ma, mp, mi, md, mx⟩).1.toArray⟩ (1 + (q : Int)) w hT (by show (Hm.line _).1.toArray.size ≤ _; rw [List.size_toArray]; omega)
      rw [show (⟨(Hm.line ⟨mf, ms, mt, mh, ma, mp, mi, md, mx⟩).1.toArray⟩ : ByteArray).data.toList = (Hm.line ⟨mf, ms, mt, mh, ma, mp, mi, md, mx⟩).1 by simp, hrd] at this
      exact this
    rw [h0] at LN
    clear hrd hln h0
    generalize (Hm.line ⟨mf, ms, mt, mh, ma, mp, mi, md, mx⟩).1 = t at LN RD2
    unfold msgCells at RD LN RD2 hbn
    dsimp only at RD LN RD2 hbn
    go_enter Tryz.func7, Tryz.ntmps7
    go_wp2_with fail
    refine (AW.out _ hT).mono ?_
    rintro e w1 ⟨rfl, hb1⟩
    have HB1 : Hid (Below w.heap.size w w1) := hb1
    have HT1 : Hid (Tabs w1) := hT.next hb1
    clear hb1
    go_wp2_with fail
    refine (PK.out _).mono ?_
    rintro e w2 ⟨rfl, rfl⟩
    go_wp2_with fail
    refine (RD.out _ HT1.out).mono ?_
    rintro e w3 ⟨rfl, hb3⟩
    have HB3 : Hid (Below w.heap.size w w3) := Below.next HB1.out (Nat.le_refl _) hb3
    clear hb3 HB1
    go_wp2_with fail
    refine (LN.out _ (hT.next (HB3.out.alloc HB3.out.size _))).mono ?_
    rintro e w4 ⟨rfl, hb4⟩
    have hr4 : w4.heap[w3.heap.size]? = some (.cells #[.int .i64 mf, .int .i64 ms, .string ⟨mt.toArray⟩, .string ⟨mh.toArray⟩, .string ⟨ma.toArray⟩, .string ⟨mp.toArray⟩, .string ⟨mi.toArray⟩, .string ⟨md.toArray⟩, .string ⟨mx.toArray⟩] 29 (0, 0)) := (hb4.block _ (by simp)).trans (World.alloc_heap_new _ _)
    have HR4 : Hid (w4.heap[w3.heap.size]? = some (.cells #[.int .i64 mf, .int .i64 ms, .string ⟨mt.toArray⟩, .string ⟨mh.toArray⟩, .string ⟨ma.toArray⟩, .string ⟨mp.toArray⟩, .string ⟨mi.toArray⟩, .string ⟨md.toArray⟩, .string ⟨mx.toArray⟩] 29 (0, 0))) := hr4
    have HB4 : Hid (Below w.heap.size w w4) := Below.next (HB3.out.alloc HB3.out.size _) (Nat.le_refl _) hb4
    have hlt4 : w3.heap.size < w4.heap.size := (Array.getElem?_eq_some_iff.1 hr4).1
    clear hb4 HB3 hr4
    go_wp2_with fail
    refine (RD2.out _ (hT.next HB4.out)).mono ?_
    rintro e w5 ⟨rfl, hb5⟩
    have HB5 : Hid (Below w.heap.size w w5) := Below.next HB4.out (Nat.le_refl _) hb5
    have HR5 : Hid (w5.heap[w3.heap.size]? = some (.cells #[.int .i64 mf, .int .i64 ms, .string ⟨mt.toArray⟩, .string ⟨mh.toArray⟩, .string ⟨ma.toArray⟩, .string ⟨mp.toArray⟩, .string ⟨mi.toArray⟩, .string ⟨md.toArray⟩, .string ⟨mx.toArray⟩] 29 (0, 0))) := (hb5.block _ hlt4).trans HR4.out
    have hlt5 : w3.heap.size < w5.heap.size := Nat.lt_of_lt_of_le hlt4 hb5.size
    clear hb5 HB4 HR4
    go_wp2_with fail
    refine (LN.out _ (hT.next (HB5.out.alloc HB5.out.size _))).mono ?_
    rintro e w6 ⟨rfl, hb6⟩
    have hra : w6.heap[w5.heap.size]? = some (.cells #[.int .i64 mf, .int .i64 ms, .string ⟨mt.toArray⟩, .string ⟨mh.toArray⟩, .string ⟨ma.toArray⟩, .string ⟨mp.toArray⟩, .string ⟨mi.toArray⟩, .string ⟨md.toArray⟩, .string ⟨mx.toArray⟩] 29 (0, 0)) := (hb6.block _ (by simp)).trans (World.alloc_heap_new _ _)
    have hrb : w6.heap[w3.heap.size]? = some (.cells #[.int .i64 mf, .int .i64 ms, .string ⟨mt.toArray⟩, .string ⟨mh.toArray⟩, .string ⟨ma.toArray⟩, .string ⟨mp.toArray⟩, .string ⟨mi.toArray⟩, .string ⟨md.toArray⟩, .string ⟨mx.toArray⟩] 29 (0, 0)) := (hb6.block _ (by simp; omega)).trans ((Below.heap_alloc _ _ _ hlt5).trans HR5.out)
    obtain ⟨a0, a1, a2, a3, a4, a5, a6, a7, a8⟩ := cells9 hra
    obtain ⟨b0, b1, b2, b3, b4, b5, b6, b7, b8⟩ := cells9 hrb
    have HB6 : Hid (Below w.heap.size w w6) := Below.next (HB5.out.alloc HB5.out.size _) (Nat.le_refl _) hb6
    clear hb6 HB5 hra hrb HR5
    go_wp2
    go_ret
    exact ⟨rfl, HB6.out⟩
  · rw [h0] at LN
    clear hrd hln h0
    unfold msgCells at RD LN hbn
    dsimp only at RD LN hbn
    go_enter Tryz.func7, Tryz.ntmps7
    go_wp2_with fail
    refine (AW.out _ hT).mono ?_
    rintro e w1 ⟨rfl, hb1⟩
    have HB1 : Hid (Below w.heap.size w w1) := hb1
    have HT1 : Hid (Tabs w1) := hT.next hb1
    clear hb1
    go_wp2_with fail
    refine (PK.out _).mono ?_
    rintro e w2 ⟨rfl, rfl⟩
    go_wp2_with fail
    refine (RD.out _ HT1.out).mono ?_
    rintro e w3 ⟨rfl, hb3⟩
    have HB3 : Hid (Below w.heap.size w w3) := Below.next HB1.out (Nat.le_refl _) hb3
    clear hb3 HB1
    go_wp2_with fail
    refine (LN.out _ (hT.next (HB3.out.alloc HB3.out.size _))).mono ?_
    rintro e w4 ⟨rfl, hb4⟩
    have HB4 : Hid (Below w.heap.size w w4) := Below.next (HB3.out.alloc HB3.out.size _) (Nat.le_refl _) hb4
    clear hb4 HB3
    go_wp2
    go_ret
    exact ⟨rfl, HB4.out⟩
theorem Fixed_any (s : ByteArray) (hs : s.size ≤ 9223372036854775800) (year : Int) (hb0 : -9223372036854775808 ≤ year) (hb1 : year ≤ 9223372036854775807) (w : World) (hT : Tabs w) :
    Calls Tryz.prog 7 #[.string s, .int .i64 year] w fun e w' => e = .returned (.bool true) ∧ Below w.heap.size w w' := by
  by_cases h200 : 200 < s.size
  · exact Fixed_long s hs year hb0 hb1 w hT h200
  · by_cases he : (Hm.read s.data.toList (1 + (Hm.pick year 9999 : Int))).2.1 = 0
    · exact Fixed_ok s hs year hb0 hb1 w hT he
    · exact Fixed_bad s hs year hb0 hb1 w hT h200 he
end Go.Proofs.YtdlhbmncbmconaaGreatDoor

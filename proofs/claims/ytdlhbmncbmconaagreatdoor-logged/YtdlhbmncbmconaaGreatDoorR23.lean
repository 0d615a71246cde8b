/- Contract: Logged. -/
import Derived.Test.YtdlhbmncbmconaaGreatDoorR22
namespace Go.Proofs.YtdlhbmncbmconaaGreatDoor
open Go.RowKit Go.Sort
theorem cut_take (l : List UInt8) (k : Nat) : (⟨l.toArray⟩ : ByteArray).extract 0 k = ⟨(l.take k).toArray⟩ := by
  apply ByteArray.ext
  simp
attribute [local go_sem] alloc_drewN setCell_drewN cut_take
attribute [local go_sem high] run_cut_l run_cut_lh
theorem RowsAt.next {k : Nat} {W W' : World} {ad : Option Addr} {rows : List (List Int)} (h : RowsAt k W ad rows) (hb : Below W.heap.size W W') : RowsAt k W' ad rows :=
  ⟨fun j r hj => by
    obtain ⟨b, off, e, hc⟩ := h.cells j r hj
    exact ⟨b, off, e, fun i v hv => by
      have := hc i v hv
      exact (hb.cell (p := ⟨b, off + j * k + i, none⟩) (block_lt_of_cell this)).trans this⟩, h.len, h.lo, h.hi, h.most⟩
theorem IntsAt.next {W W' : World} {ad : Option Addr} {cs : List Int} (h : IntsAt W ad cs) (hb : Below W.heap.size W W') : IntsAt W' ad cs :=
  ⟨fun j z hj => by
    obtain ⟨b, off, e, hc⟩ := h.at_ j z hj
    exact ⟨b, off, e, (hb.cell (p := ⟨b, off + j, none⟩) (block_lt_of_cell hc)).trans hc⟩, h.lo, h.hi, h.many⟩
theorem own_next {w w' : World} {base : Nat} {e : TypeId} {v : Value} {n : Nat} {xs : List Value} (h : w.ownsRow base e 1 v n xs) (hb : Below w.heap.size w w') : w'.ownsRow base e 1 v n xs := Hw.ownsRow_keptS h (Hw.Kept.of_below (S := fun _ => False) hb) (fun _ _ e => e)
theorem own_cap {w : World} {base : Nat} {e : TypeId} {ad : Option Addr} {n m c : Nat} {xs : List Value} (h : w.ownsRow base e 1 (.slice ad n c) m xs) : m ≤ c := by
  rcases h.2 with ⟨hv, h0⟩ | ⟨g, cap, cur, hv, _, _, h1, _⟩
  · cases hv; omega
  · cases hv; omega
set_option maxRecDepth 50000 in
set_option maxHeartbeats 8000000 in
theorem Logged_any (ad : Option Addr) (rows : List (List Int)) (cap : Nat) (ad2 : Option Addr) (ks : List Int) (cap2 : Nat) (cut : Int) (k0 : -9223372036854775808 ≤ cut) (k1 : cut ≤ 9223372036854775807) (w : World) (hT : Tabs w) (hr : RowsAt 7 w ad rows) (hk : IntsAt w ad2 ks) :
    Calls Tryz.prog 13 #[.slice ad rows.length cap, .slice ad2 ks.length cap2, .int .i64 cut] w fun e w' => e = .returned (.bool true) ∧ Below w.heap.size w w' := by
  have AW : Hid (∀ w, Tabs w → Calls Tryz.prog 18 #[] w fun e w' => e = .returned (.bool true) ∧ Below w.heap.size w w') := awake_any
  have HR : Hid (RowsAt 7 w ad rows) := hr
  have HK : Hid (IntsAt w ad2 ks) := hk
  have PT : Hid (∀ n : Nat, 0 < n → n ≤ 4000000000 → ∀ w, Calls Tryz.prog 22 #[.int .i64 cut, .int .i64 n] w fun e w' => e = .returned (.int .i64 (Hm.pick cut n)) ∧ w' = w) := fun n h1 h2 w => pick_any cut n h1 h2 k0 k1 w
  clear hr hk k0 k1
  go_enter Tryz.func13, Tryz.ntmps13
  go_wp2_with fail
  refine (AW.out _ hT).mono ?_
  rintro e w1 ⟨rfl, hb1⟩
  have HB1 : Hid (Below w.heap.size w w1) := hb1
  have HT1 : Hid (Tabs w1) := hT.next hb1
  clear hb1
  go_wp2_with fail
  refine (Open_none 4 (by decide) (by decide) _ HT1.out.size).mono ?_
  rintro e w2 ⟨p, rfl, hp, hl2, hb2⟩
  have HL2 := show Hid _ from LogIn.of hl2
  have HB2 := show Hid _ from hb2
  have HP := show Hid _ from hp
  clear hb2 hl2 hp
  go_wp2_with fail
  refine (fill_any p ad rows cap ad2 ks cap2 w1 w2 HT1.out HB2.out HP.out HL2.out (HR.out.next HB1.out) (HK.out.next HB1.out)).mono ?_
  rintro e w3 ⟨g, lines, rv, wv, lv, rfl, hI, hl40, hrl⟩
  have HI := show Hid _ from hI
  have hlv : ∃ la lc, lv = .slice la lines.length lc := by
    obtain ⟨a, c, e⟩ := own_form hI.own
    exact ⟨a, c, e⟩
  obtain ⟨la, lc, rfl⟩ := hlv
  have hcap := own_cap hI.own
  have hhad := hI.bk.had
  have hwt := hI.bk.waits
  clear hI HL2 HB2 HP HR HK
  go_wp2_with fail
  refine (Waiting_in p g rv wv w3 HI.out.log (by omega)).mono ?_
  rintro e w4 ⟨wa, rfl, ho4, hb4⟩
  have HI4 := show Hid _ from HI.out.next hb4
  have HO4 := show Hid _ from ho4
  clear hb4 ho4
  have SM : Hid (Calls Tryz.prog 29 #[wa, cutV la g.had lines.length lc] w4 fun e w' => e = .returned (.bool true) ∧ Below w4.heap.size w4 w') := by
    have hB := ownsFrom_cut (Hw.ownsFrom_row HI4.out.own) (lo := g.had) (hi := lines.length) (by omega) (by rw [List.length_map]; omega)
    rw [List.take_of_length_le (by rw [List.length_drop, List.length_map]; omega), ← List.map_drop, ← HI4.out.bk.wait] at hB
    have := same_from g.waiting g.waiting wa _ _ _ w4 (Hw.ownsFrom_row HO4.out) hB (by omega) (by omega)
    rwa [decide_eq_true rfl] at this
  go_wp2_with fail
  refine SM.out.mono ?_
  rintro e w5 ⟨rfl, hb5⟩
  have HI5 := show Hid _ from HI4.out.next hb5
  have HO5 := show Hid _ from own_next HO4.out hb5
  clear hb5 SM HI4 HO4
  go_wp2_with fail
  refine (Bytes_in p g rv wv w5 HI5.out.log).mono ?_
  rintro e w5' ⟨rfl, rfl⟩
  have OP : Hid (∀ w, Tabs w → Calls Tryz.prog 34 #[.string ⟨g.records.toArray⟩, .int .i64 4] w fun e w' => ∃ p rv wv, e = .returned (.tuple #[.pointer (some ⟨p, 0, none⟩), .int .i64 0]) ∧ w.heap.size ≤ p ∧ LogIn w' p g rv wv ∧ Below w.heap.size w w') := fun w hT => by
    have := Open_any ⟨g.records.toArray⟩ (by show g.records.toArray.size ≤ _; rw [List.size_toArray]; omega) 4 (by decide) (by decide) w hT
    rwa [show (⟨g.records.toArray⟩ : ByteArray).data.toList = g.records by simp, HI.out.bk.opens] at this
  go_wp2_with fail
  refine (OP.out _ (HT1.out.next HI5.out.bel)).mono ?_
  rintro e w6 ⟨p2, rv2, wv2, rfl, hp6, hl6, hb6⟩
  have HI6 := show Hid _ from HI5.out.next hb6
  have HO6 := show Hid _ from own_next HO5.out hb6
  have HL6 := show Hid _ from hl6
  clear hb6 hl6 hp6 HI5 HO5 OP
  go_wp2_with fail
  refine (Waiting_in p2 g rv2 wv2 w6 HL6.out (by omega)).mono ?_
  rintro e w7 ⟨wa2, rfl, ho7, hb7⟩
  have HI7 := show Hid _ from HI6.out.next hb7
  have HO7 := show Hid _ from own_next HO6.out hb7
  have HL7 := show Hid _ from HL6.out.below hb7
  have HP7 := show Hid _ from ho7
  clear hb7 ho7 HI6 HO6 HL6
  have SM : Hid (Calls Tryz.prog 29 #[wa, wa2] w7 fun e w' => e = .returned (.bool true) ∧ Below w7.heap.size w7 w') := by
    have := same_from g.waiting g.waiting wa wa2 _ _ w7 (Hw.ownsFrom_row HO7.out) (Hw.ownsFrom_row HP7.out) (by omega) (by omega)
    rwa [decide_eq_true rfl] at this
  go_wp2_with fail
  refine SM.out.mono ?_
  rintro e w8 ⟨rfl, hb8⟩
  have HI8 := show Hid _ from HI7.out.next hb8
  have HL8 := show Hid _ from HL7.out.below hb8
  clear hb8 SM HI7 HO7 HP7 HL7
  go_wp2_with fail
  refine (Bytes_in p2 g rv2 wv2 w8 HL8.out).mono ?_
  rintro e w8' ⟨rfl, rfl⟩
  have hkl := Hm.pick_lt cut (n := g.records.length + 1) (by omega)
  have PK : Hid (∀ w, Calls Tryz.prog 22 #[.int .i64 cut, .int .i64 ((g.records.length : Int) + 1)] w fun e w' => e = .returned (.int .i64 (Hm.pick cut (g.records.length + 1))) ∧ w' = w) := fun w => by
    have := PT.out (g.records.length + 1) (by omega) (by omega) w
    rwa [Int.natCast_add, show ((1 : Nat) : Int) = 1 from rfl] at this
  generalize Hm.pick cut (g.records.length + 1) = k at PK hkl
  obtain ⟨hcutR, hcutT⟩ := HI8.out.bk.cut k
  obtain ⟨ct, hct⟩ := hcutT
  obtain ⟨fr, hfr1, hfr2⟩ := hcutR
  have OP : Hid (∀ w, Tabs w → Calls Tryz.prog 34 #[.string ⟨(g.records.take k).toArray⟩, .int .i64 4] w fun e w' => ∃ p rv wv, e = .returned (.tuple #[.pointer (some ⟨p, 0, none⟩), .int .i64 0]) ∧ w.heap.size ≤ p ∧ LogIn w' p (Hm.opens (g.records.take k) 4) rv wv ∧ Below w.heap.size w w') := fun w hT => by
    have := Open_any ⟨(g.records.take k).toArray⟩ (by show (g.records.take k).toArray.size ≤ _; rw [List.size_toArray, List.length_take]; omega) 4 (by decide) (by decide) w hT
    rwa [show (⟨(g.records.take k).toArray⟩ : ByteArray).data.toList = g.records.take k by simp] at this
  generalize Hm.opens (g.records.take k) 4 = g3 at OP hct hfr1 hfr2
  have hpl : g3.records.length ≤ k := by
    have := congrArg List.length hct
    rw [List.length_take, List.length_append] at this
    omega
  have hpart : g.records.take g3.records.length = g3.records := by
    have := congrArg (List.take g3.records.length) hct
    rwa [List.take_take, Nat.min_eq_left hpl, List.take_left] at this
  have HFR := show Hid _ from hfr2
  have hpli : ¬ (k : Int) < (g3.records.length : Int) := by omega
  have hkli : (k : Int) ≤ (g.records.length : Int) := by omega
  have HHH : Hid True := trivial
  clear hct hfr2 PT
  go_wp2_with fail
  refine (PK.out _).mono ?_
  rintro e w8'' ⟨rfl, rfl⟩
  go_wp2_with fail
  refine (OP.out _ (HT1.out.next HI8.out.bel)).mono ?_
  rintro e w9 ⟨p3, rv3, wv3, rfl, hp9, hl9, hb9⟩
  have HI9 := show Hid _ from HI8.out.next hb9
  have HL9 := show Hid _ from hl9
  clear hb9 hl9 hp9 HI8 OP PK HL8
  go_wp2_with fail
  refine (Bytes_in p3 g3 rv3 wv3 w9 HL9.out).mono ?_
  rintro e w9' ⟨rfl, rfl⟩
  go_wp2_with fail
  refine (Waiting_in p3 g3 rv3 wv3 _ HL9.out (by omega)).mono ?_
  rintro e w10 ⟨wa3, rfl, ho10, hb10⟩
  have HI10 := show Hid _ from HI9.out.next hb10
  have HO10 := show Hid _ from ho10
  have hw3 : ∃ a c, wa3 = .slice a g3.waiting.length c := by
    obtain ⟨a, c, e⟩ := own_form ho10
    exact ⟨a, c, e⟩
  obtain ⟨a3, c3, rfl⟩ := hw3
  clear hb10 ho10 HI9 HL9 hpart hpli hkli
  generalize g3.waiting = ws at HO10 hfr1 HFR
  have SM : Hid (∀ (j : Nat) (w' : World), j + ws.length ≤ lines.length → Below w10.heap.size w10 w' → Calls Tryz.prog 29 #[.slice a3 ws.length c3, cutV la j (j + ws.length) lc] w' fun e w'' => e = .returned (.bool (decide (ws = (lines.drop j).take ws.length))) ∧ Below w'.heap.size w' w'') := fun j w' hj hb => by
    have hB := ownsFrom_cut (Hw.ownsFrom_row (own_next HI10.out.own hb)) (lo := j) (hi := j + ws.length) (by omega) (by rw [List.length_map]; omega)
    rw [Nat.add_sub_cancel_left, ← List.map_drop, ← List.map_take] at hB
    exact same_from ws ((lines.drop j).take ws.length) _ _ _ _ w' (Hw.ownsFrom_row (own_next HO10.out hb)) hB (by omega) (by rw [List.length_take]; omega)
  have HBW : Hid (Below w.heap.size w w10) := Below.next HB1.out (Nat.le_refl _) HI10.out.bel
  clear HI10 HO10
  go_wp2
  go_loopw [26] (fun ix wr => ∃ j : Nat, j ≤ fr ∧ ix = .int .i64 j ∧ Below w10.heap.size w10 wr) (fun ix _ => fr + 1 - (intOf ix).toNat)
  case atStart => exact ⟨0, by omega, rfl, Below.refl _ _⟩
  case round =>
    obtain ⟨j, hj, rfl, hbr⟩ := hrel
    have HBR := show Hid _ from hbr
    have hji : (j : Int) + (ws.length : Int) ≤ (lines.length : Int) := by omega
    have hjc : (j : Int) + (ws.length : Int) ≤ (lc : Int) := by omega
    have hj1 : (j : Int) ≤ (j : Int) + (ws.length : Int) := by omega
    have htn : ((j : Int) + (ws.length : Int)).toNat = j + ws.length := by omega
    have SJ : Hid (Calls Tryz.prog 29 #[.slice a3 ws.length c3, cutV la j (j + ws.length) lc] wr fun e w'' => e = .returned (.bool (decide (ws = (lines.drop j).take ws.length))) ∧ Below wr.heap.size wr w'') := SM.out j wr (by omega) hbr
    have HN : Hid (¬ decide (ws = (lines.drop j).take ws.length) = true → j < fr) := fun h => by
      rcases Nat.lt_or_ge j fr with h' | h'
      · exact h'
      · have : j = fr := by omega
        subst this
        exact absurd (decide_eq_true HFR.out) h
    clear hbr
    generalize decide (ws = (lines.drop j).take ws.length) = yes at SJ HN
    go_wp2_with fail
    refine SJ.out.mono ?_
    rintro e w11 ⟨rfl, hb11⟩
    have HB11 : Hid (Below w10.heap.size w10 w11) := Below.next HBR.out (Nat.le_refl _) hb11
    clear hb11
    cases yes
    · have hjf := HN.out (by simp)
      go_wp2
      go_roundw
      case rel => exact ⟨j + 1, by omega, int_eq (by simp), HB11.out⟩
      case measure => simp [intOf]; omega
    · go_wp2
      go_ret
      exact ⟨rfl, Below.next HBW.out (Nat.le_refl _) HB11.out⟩
end Go.Proofs.YtdlhbmncbmconaaGreatDoor

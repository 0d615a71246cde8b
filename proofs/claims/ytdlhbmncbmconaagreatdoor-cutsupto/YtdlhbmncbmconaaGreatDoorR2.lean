/- Contract: Cuts. -/
import Derived.Test.YtdlhbmncbmconaaGreatDoorBs
import Derived.Test.YtdlhbmncbmconaaGreatDoorMx
import Derived.Test.YtdlhbmncbmconaaGreatDoorWd
namespace Go.Proofs.YtdlhbmncbmconaaGreatDoor
open Go.RowKit Go.Sort
attribute [local go_sem] alloc_drewN setCell_drewN

/-- A list of numbers that came in. -/
structure IntsIn (w : World) (ad : Option Addr) (cs : List Int) : Prop where
  at_ : ∀ j z, cs[j]? = some z → ∃ b off, ad = some ⟨b, off, none⟩ ∧ w.cell? ⟨b, off + j, none⟩ = some (.int .i64 z)
  lo : ∀ z ∈ cs, -9223372036854775808 ≤ z
  hi : ∀ z ∈ cs, z ≤ 9223372036854775807
  len : cs.length ≤ 2000000

/-- What the loop over the cuts keeps: what is behind (pre), what is ahead (r), the frames so far. -/
structure CutI (s : ByteArray) (b py : Nat) (w5 : World) (pre : List UInt8) (r : ByteArray) (ov yv : Value) (wr : World) : Prop where
  all : pre ++ r.data.toList = s.data.toList
  out : wr.ownsRow w5.heap.size 9 1 ov ((Hm.Frs.fresh b).feed pre).2.length (((Hm.Frs.fresh b).feed pre).2.map strV)
  fr : FramesAt wr py ((Hm.Frs.fresh b).feed pre).1 yv
  own : ∀ k, yv.ownBlock = some k → w5.heap.size ≤ k
  kept : Hw.Kept (fun k => k = py) w5 wr
theorem CutI.step {s : ByteArray} {b py : Nat} {w5 wr w7 w8 : World} {pre x : List UInt8} {r r' : ByteArray} {ov yv v7 ov8 : Value} (h : CutI s b py w5 pre r ov yv wr) (ha : (pre ++ x) ++ r'.data.toList = s.data.toList)
    (f7 : FramesAt w7 py (((Hm.Frs.fresh b).feed pre).1.feed x).1 v7) (s7 : StepF py yv wr v7 w7)
    (o8 : w8.ownsRow w5.heap.size 9 1 ov8 (((Hm.Frs.fresh b).feed pre).2.length + (((Hm.Frs.fresh b).feed pre).1.feed x).2.length) (((Hm.Frs.fresh b).feed pre).2.map strV ++ (((Hm.Frs.fresh b).feed pre).1.feed x).2.map strV))
    (g8 : w7.grownBy w8 ov.ownBlock) : CutI s b py w5 (pre ++ x) r' ov8 v7 w8 := by
  have o7 := told_keep h.out h.fr s7
  have e := Hm.Frs.feed_append pre x (Hm.Frs.fresh b)
  have k8 : Hw.Kept (fun k => some k = ov.ownBlock) w7 w8 := Hw.Kept.of_grown g8
  refine ⟨ha, ?_, ?_, fun k hk => ?_, ?_⟩
  · rw [e]; simpa using o8
  · rw [e]
    refine f7.keep k8 (fun hk => ?_) (fun k hk hk' => ?_)
    · obtain ⟨c, hc⟩ := Hw.ownsRow_cells o7 hk.symm
      exact ne_types hc f7.row (by decide) rfl
    · obtain ⟨c, hc⟩ := Hw.ownsRow_cells o7 hk'.symm
      obtain ⟨c', hc'⟩ := Hw.ownsRow_cells f7.own hk
      exact ne_types hc hc' (by decide) rfl
  · rcases s7.lies k hk with hk | hk
    · exact h.own k hk
    · exact Nat.le_trans h.kept.size hk
  · have k7 := h.kept.trans s7.kept (fun k hk e => by
      rcases e with e | e
      · exact e
      · have := h.own k e; omega)
    exact k7.trans k8 (fun k hk e => by have := (o7.lt k e.symm).1; omega)
theorem strs_one (l : List (List UInt8)) : ∀ u ∈ l.map strV, u.oneCell' = true := by
  intro u hu
  obtain ⟨x, _, rfl⟩ := List.mem_map.1 hu
  rfl
theorem told_len (l : List UInt8) : ∀ f : Hm.Frs, (f.feed l).2.length ≤ l.length := by
  induction l with
  | nil => intro f; exact Nat.le_refl _
  | cons c t ih =>
    intro f
    rw [Hm.Frs.feed_cons]
    have := ih (f.take c).1
    dsimp only
    split <;> simp <;> omega

set_option maxRecDepth 50000 in
set_option maxHeartbeats 4000000 in
theorem Cuts_any (s : ByteArray) (hs : s.size ≤ 2000000) (ad : Option Addr) (cs : List Int) (cap : Nat) (bound : Int) (hb0 : -9223372036854775808 ≤ bound) (hb1 : bound ≤ 9223372036854775807) (w : World) (hT : Tabs w) (hc : IntsIn w ad cs) :
    Calls Tryz.prog 10 #[.string s, .slice ad cs.length cap, .int .i64 bound] w fun e w' => e = .returned (.bool true) ∧ Below w.heap.size w w' := by
  have AW : Hid (∀ w, Tabs w → Calls Tryz.prog 18 #[] w fun e w' => e = .returned (.bool true) ∧ Below w.heap.size w w') := awake_any
  have PK : Hid (∀ w, Calls Tryz.prog 22 #[.int .i64 bound, .int .i64 200] w fun e w' => e = .returned (.int .i64 (Hm.pick bound 200)) ∧ w' = w) := fun w => pick_any bound 200 (by decide) (by decide) hb0 hb1 w
  have hq := Hm.pick_lt bound (n := 200) (by decide)
  generalize Hm.pick bound 200 = q at PK hq
  have NF : Hid (∀ w, 11 ≤ w.heap.size → Calls Tryz.prog 27 #[.int .i64 (1 + (q : Int))] w fun e w' => e = .returned (.tuple #[.pointer (some ⟨w.heap.size, 0, none⟩), .int .i64 0]) ∧ FramesAt w' w.heap.size (Hm.Frs.fresh (1 + q)) (.slice none 0 0) ∧ Below w.heap.size w w') := fun w h => by
    have := NewFrames_any (1 + q) w h (by omega) (by omega)
    rwa [show ((1 + q : Nat) : Int) = 1 + (q : Int) by omega] at this
  have HC : Hid (IntsIn w ad cs) := hc
  have hcl := hc.len
  clear hc hb0 hb1
  go_enter Tryz.func10, Tryz.ntmps10
  go_wp2_with fail
  refine (AW.out _ hT).mono ?_
  rintro e w1 ⟨rfl, hb1⟩
  have HB1 : Hid (Below w.heap.size w w1) := hb1
  have HT1 : Hid (Tabs w1) := hT.next hb1
  clear hb1
  go_wp2_with fail
  refine (PK.out _).mono ?_
  rintro e w2 ⟨rfl, rfl⟩
  go_wp2_with fail
  refine (NF.out _ HT1.out.size).mono ?_
  rintro e w3 ⟨rfl, f3, hb3⟩
  have HB3 : Hid (Below w.heap.size w w3) := Below.next HB1.out (Nat.le_refl _) hb3
  have HF3 : Hid (FramesAt w3 w2.heap.size (Hm.Frs.fresh (1 + q)) (.slice none 0 0)) := f3
  clear f3
  go_wp2_with fail
  refine (NF.out _ (Nat.le_trans HT1.out.size hb3.size)).mono ?_
  rintro e w4 ⟨rfl, f4, hb4⟩
  have HB4 : Hid (Below w.heap.size w w4) := Below.next HB3.out (Nat.le_refl _) hb4
  have HY4 : Hid (FramesAt w4 w3.heap.size (Hm.Frs.fresh (1 + q)) (.slice none 0 0)) := f4
  have HX4 : Hid (FramesAt w4 w2.heap.size (Hm.Frs.fresh (1 + q)) (.slice none 0 0)) := HF3.out.keep (S := fun _ => False) (Hw.Kept.of_below hb4) (fun e => e) (fun _ _ e => e)
  have hlt23 : w2.heap.size < w3.heap.size := (Array.getElem?_eq_some_iff.1 HF3.out.row).1
  have HP2 : Hid (w.heap.size ≤ w2.heap.size) := HB1.out.size
  clear f4 hb3 hb4 HB3 HF3
  go_wp2_with fail
  refine (Feed_any _ _ _ s (by omega) _ HX4.out (Hm.Frs.fresh_ok (by omega) (by omega))).mono ?_
  rintro e w5 ⟨tv, v5, rfl, f5, s5, o5⟩
  have HY5 : Hid (FramesAt w5 w3.heap.size (Hm.Frs.fresh (1 + q)) (.slice none 0 0)) := HY4.out.keep s5.kept (fun e => by rcases e with e | e; omega; cases e) (fun _ e => by cases e)
  have HO5 : Hid (w5.ownsRow w4.heap.size 9 1 tv ((Hm.Frs.fresh (1 + q)).feed s.data.toList).2.length (((Hm.Frs.fresh (1 + q)).feed s.data.toList).2.map strV)) := o5
  have HB5 : Hid (Below w.heap.size w w5) := HB4.out.trans (s5.kept.below (fun k _ e => by
    rcases e with rfl | e
    · exact HP2.out
    · cases e) HB4.out.size)
  clear f5 s5 o5 HX4 HY4 HB4
  obtain ⟨i0, hi, hz0, hz1, hz2'⟩ := info_parts info_str
  go_wp2
  go_loopw [15, 16, 17, 18] (fun ov rs lv ix wr => ∃ (k : Nat) (pre : List UInt8) (r : ByteArray) (z : Int) (o yv : Value), ov = o ∧ k ≤ cs.length ∧ ix = .int .i64 k ∧ rs = .string r ∧ lv = .int .i64 z ∧ CutI s (1 + q) w3.heap.size w5 pre r o yv wr) (fun _ _ _ ix _ => cs.length - (intOf ix).toNat)
  case atStart => exact ⟨0, [], s, 0, .slice none 0 0, .slice none 0 0, rfl, by omega, rfl, rfl, rfl, rfl, World.ownsRow_nil _ _ _ _, HY5.out, fun _ e => (by cases e), Hw.Kept.refl _ _⟩
  case round =>
    obtain ⟨k, pre, r, z, ov, yv, rfl, hk, rfl, rfl, rfl, hI⟩ := hrel
    have HI : Hid (CutI s (1 + q) w3.heap.size w5 pre r _ yv wr) := hI
    have hrl : r.size ≤ s.size := by
      have := congrArg List.length hI.all
      rw [List.length_append, Hm.len, Hm.len] at this
      omega
    have hpl : pre.length ≤ s.size := by
      have := congrArg List.length hI.all
      rw [List.length_append, Hm.len, Hm.len] at this
      omega
    clear hI
    by_cases hlt : k < cs.length
    · have hki : (k : Int) < (cs.length : Int) := by omega
      obtain ⟨bb, off, had, hcell⟩ := HC.out.at_ k cs[k] (List.getElem?_eq_getElem hlt)
      have HBr : Hid (Below w.heap.size w wr) := HB5.out.trans (HI.out.kept.below (fun x _ e => by subst e; exact Nat.le_of_lt (Nat.lt_of_le_of_lt HP2.out hlt23)) HB5.out.size)
      have hcr : wr.cell? ⟨bb, off + k, none⟩ = some (.int .i64 cs[k]) := (HBr.out.cell (p := ⟨bb, off + k, none⟩) (block_lt_of_cell hcell)).trans hcell
      have PK2 : Hid (∀ w, Calls Tryz.prog 22 #[.int .i64 cs[k], .int .i64 ((r.size : Int) + 1)] w fun e w' => e = .returned (.int .i64 (Hm.pick cs[k] (r.size + 1))) ∧ w' = w) := fun w => by
        have := pick_any cs[k] (r.size + 1) (by omega) (by omega) (HC.out.lo _ (List.getElem_mem hlt)) (HC.out.hi _ (List.getElem_mem hlt)) w
        rwa [show ((r.size + 1 : Nat) : Int) = (r.size : Int) + 1 by omega] at this
      have hk2 := Hm.pick_lt cs[k] (n := r.size + 1) (by omega)
      generalize cs[k] = cz at hcr PK2 hk2
      generalize Hm.pick cz (r.size + 1) = k2 at PK2 hk2
      have hk2i : (k2 : Int) ≤ (r.size : Int) := by omega
      subst had
      clear hcell
      go_wp2_with fail
      refine (PK2.out _).mono ?_
      rintro e w6 ⟨rfl, rfl⟩
      go_wp2_with fail
      have hok := Hm.Frs.feed_ok pre (Hm.Frs.fresh_ok (b := 1 + q) (by omega) (by omega))
      refine (Feed_any _ _ _ (r.extract 0 k2) (by simp; omega) _ HI.out.fr hok).mono ?_
      rintro e w7 ⟨tl, v7, rfl, f7, s7, o7⟩
      rw [show (r.extract 0 k2).data.toList = r.data.toList.take k2 by rw [ex_take, List.drop_zero, Nat.sub_zero]] at f7 o7 ⊢
      have hl1 := told_len pre (Hm.Frs.fresh (1 + q))
      have hl2 := told_len (r.data.toList.take k2) ((Hm.Frs.fresh (1 + q)).feed pre).1
      have hl3 : (r.data.toList.take k2).length ≤ s.size := by rw [List.length_take, Hm.len]; omega
      have HF7 : Hid (FramesAt w7 w3.heap.size (((Hm.Frs.fresh (1 + q)).feed pre).1.feed (r.data.toList.take k2)).1 v7) := f7
      have HS7 : Hid (StepF w3.heap.size yv _ v7 w7) := s7
      have HTl : Hid (w7.ownsRow _ 9 1 tl (((Hm.Frs.fresh (1 + q)).feed pre).1.feed (r.data.toList.take k2)).2.length ((((Hm.Frs.fresh (1 + q)).feed pre).1.feed (r.data.toList.take k2)).2.map strV)) := o7
      have HOv := told_keep HI.out.out HI.out.fr s7
      have HO7 : Hid (w7.ownsRow w5.heap.size 9 1 _ ((Hm.Frs.fresh (1 + q)).feed pre).2.length (((Hm.Frs.fresh (1 + q)).feed pre).2.map strV)) := HOv
      have hsz7 : w5.heap.size ≤ w7.heap.size := Nat.le_trans HI.out.kept.size s7.kept.size
      clear f7 s7 o7 HOv hok
      go_wp2_with (at_builtin; refine Hw.wpList_append_list rfl _ _ 42 rfl w5.heap.size 9 i0 (.string ByteArray.empty) 16 Tryz.underlying42 hi hz0 hz1 hz2' rfl _ _ _ rfl HO7.out _ _ _ _ rfl HTl.out (strs_one _) (by unfold maxLen; omega) (by omega) hsz7 ?_; intro ov8 w8 hown' hgrow hat; have HO8 : Hid (w8.ownsRow w5.heap.size 9 1 ov8 _ _) := hown'; have HG8 : Hid (World.grownBy w7 w8 _) := hgrow; clear hown' hgrow hat)
      go_roundw
      case rel =>
        refine ⟨k + 1, pre ++ r.data.toList.take k2, r.extract k2 r.size, _, ov8, v7, rfl, by omega, int_eq (by simp), rfl, rfl, HI.out.step ?_ HF7.out HS7.out HO8.out HG8.out⟩
        rw [Hm.drop_ex, List.append_assoc, List.take_append_drop]
        exact HI.out.all
      case measure => simp [intOf]; omega
    · have hki : ¬ (k : Int) < (cs.length : Int) := by omega
      go_wp2_with fail
      have hok := Hm.Frs.feed_ok pre (Hm.Frs.fresh_ok (b := 1 + q) (by omega) (by omega))
      refine (Feed_any _ _ _ r (by omega) _ HI.out.fr hok).mono ?_
      rintro e w7 ⟨tl, v7, rfl, f7, s7, o7⟩
      have hl1 := told_len pre (Hm.Frs.fresh (1 + q))
      have hl2 := told_len (r.data.toList) ((Hm.Frs.fresh (1 + q)).feed pre).1
      have hl3 : (r.data.toList).length ≤ s.size := by rw [Hm.len]; omega
      have HF7 : Hid (FramesAt w7 w3.heap.size (((Hm.Frs.fresh (1 + q)).feed pre).1.feed (r.data.toList)).1 v7) := f7
      have HS7 : Hid (StepF w3.heap.size yv _ v7 w7) := s7
      have HTl : Hid (w7.ownsRow _ 9 1 tl (((Hm.Frs.fresh (1 + q)).feed pre).1.feed (r.data.toList)).2.length ((((Hm.Frs.fresh (1 + q)).feed pre).1.feed (r.data.toList)).2.map strV)) := o7
      have HOv := told_keep HI.out.out HI.out.fr s7
      have HO7 : Hid (w7.ownsRow w5.heap.size 9 1 _ ((Hm.Frs.fresh (1 + q)).feed pre).2.length (((Hm.Frs.fresh (1 + q)).feed pre).2.map strV)) := HOv
      have hsz7 : w5.heap.size ≤ w7.heap.size := Nat.le_trans HI.out.kept.size s7.kept.size
      clear f7 s7 o7 HOv hok
      go_wp2_with (at_builtin; refine Hw.wpList_append_list rfl _ _ 42 rfl w5.heap.size 9 i0 (.string ByteArray.empty) 16 Tryz.underlying42 hi hz0 hz1 hz2' rfl _ _ _ rfl HO7.out _ _ _ _ rfl HTl.out (strs_one _) (by unfold maxLen; omega) (by omega) hsz7 ?_; intro ov8 w8 hown' hgrow hat; have HO8 : Hid (w8.ownsRow w5.heap.size 9 1 ov8 _ _) := hown'; have HG8 : Hid (World.grownBy w7 w8 _) := hgrow; clear hown' hgrow hat)
      have hI8 : CutI s (1 + q) w3.heap.size w5 (pre ++ r.data.toList) ByteArray.empty ov8 v7 w8 := HI.out.step (by rw [show ByteArray.empty.data.toList = [] from rfl, List.append_nil]; exact HI.out.all) HF7.out HS7.out HO8.out HG8.out
      have hfe := Hm.Frs.feed_append pre r.data.toList (Hm.Frs.fresh (1 + q))
      have hal : pre ++ r.data.toList = s.data.toList := HI.out.all
      rw [hal] at hI8 hfe
      have HSm : Hid (∀ w, w.ownsRow w4.heap.size 9 1 tv ((Hm.Frs.fresh (1 + q)).feed s.data.toList).2.length (((Hm.Frs.fresh (1 + q)).feed s.data.toList).2.map strV) → w.ownsRow w5.heap.size 9 1 ov8 ((Hm.Frs.fresh (1 + q)).feed s.data.toList).2.length (((Hm.Frs.fresh (1 + q)).feed s.data.toList).2.map strV) →
          Calls Tryz.prog 29 #[tv, ov8] w fun e w' => e = .returned (.bool true) ∧ Below w.heap.size w w') := fun w h1 h2 => by
        have hl := told_len s.data.toList (Hm.Frs.fresh (1 + q))
        rw [Hm.len] at hl
        have := same_any _ _ _ _ _ _ w h1 h2 (by omega) (by omega)
        rwa [decide_eq_true rfl] at this
      have hA8 : w8.ownsRow w4.heap.size 9 1 tv ((Hm.Frs.fresh (1 + q)).feed s.data.toList).2.length (((Hm.Frs.fresh (1 + q)).feed s.data.toList).2.map strV) := Hw.ownsRow_keptS HO5.out hI8.kept (fun x e e' => by
        subst e'
        obtain ⟨c, hc⟩ := Hw.ownsRow_cells HO5.out e
        exact ne_types hc HY5.out.row (by decide) rfl)
      have HB8 : Hid (Below w.heap.size w w8) := HB5.out.trans (hI8.kept.below (fun x _ e => by subst e; exact Nat.le_of_lt (Nat.lt_of_le_of_lt HP2.out hlt23)) HB5.out.size)
      have hokR := Hm.Frs.feed_ok s.data.toList (Hm.Frs.fresh_ok (b := 1 + q) (by omega) (by omega))
      have hhd := hokR.head
      have hbd := Hm.Frs.feed_bound s.data.toList (Hm.Frs.fresh (1 + q))
      have HTd : Hid (∀ x ∈ ((Hm.Frs.fresh (1 + q)).feed s.data.toList).2, Hm.Toldable (1 + q) x) := Hm.feed_told s.data.toList (Hm.Frs.fresh_ok (b := 1 + q) (by omega) (by omega))
      have hl9 := told_len s.data.toList (Hm.Frs.fresh (1 + q))
      rw [Hm.len] at hl9
      have e1 : (((Hm.Frs.fresh (1 + q)).feed pre).1.feed r.data.toList).1 = ((Hm.Frs.fresh (1 + q)).feed s.data.toList).1 := by rw [hfe]
      rw [e1]
      have hO8 : w8.ownsRow w5.heap.size 9 1 ov8 ((Hm.Frs.fresh (1 + q)).feed s.data.toList).2.length (((Hm.Frs.fresh (1 + q)).feed s.data.toList).2.map strV) := hI8.out
      have HO8b : Hid (w8.ownsRow w5.heap.size 9 1 ov8 ((Hm.Frs.fresh (1 + q)).feed s.data.toList).2.length (((Hm.Frs.fresh (1 + q)).feed s.data.toList).2.map strV)) := hO8
      have HA8 : Hid (w8.ownsRow w4.heap.size 9 1 tv ((Hm.Frs.fresh (1 + q)).feed s.data.toList).2.length (((Hm.Frs.fresh (1 + q)).feed s.data.toList).2.map strV)) := hA8
      clear e1 hfe hal hI8 hO8 hA8 hokR HI HF7 HS7 HTl HO7 HO8 HG8 hl1 hl2 hl3 HO5 HY5 hsz7 hrl hpl hlt hki
      generalize (Hm.Frs.fresh (1 + q)).feed s.data.toList = X at HSm HA8 HO8b hhd hbd HTd hl9 ⊢
      obtain ⟨⟨fb, fs, fh, fn, fo⟩, told⟩ := X
      dsimp only at HSm HA8 HO8b hhd hbd HTd hl9 ⊢
      obtain ⟨ta, tcap, htv⟩ := own_form HA8.out
      subst htv
      refine (HSm.out _ HA8.out HO8b.out).mono ?_
      rintro e w9 ⟨rfl, hb9⟩
      have HB9 : Hid (Below w.heap.size w w9) := Below.next HB8.out (Nat.le_refl _) hb9
      have HA9 : Hid (w9.ownsRow w4.heap.size 9 1 (.slice ta told.length tcap) told.length (told.map strV)) := Hw.ownsRow_keptS (S := fun _ => False) HA8.out (Hw.Kept.of_below hb9) (fun _ _ e => e)
      have hbq : fb = 1 + q := hbd
      have hle : (fh : Int) + (fo.length : Int) ≤ 1 + (q : Int) + 5 := by omega
      have hle2 : fh + fo.length ≤ 1 + q + 5 := by omega
      clear hb9 HB8 HA8 HO8b HSm hbd hhd
      go_wp2_with fail
      go_loopw [25] (fun ix wr => ∃ k : Nat, k ≤ told.length ∧ ix = .int .i64 k ∧ Below w9.heap.size w9 wr) (fun ix _ => told.length - (intOf ix).toNat)
      case atStart => exact ⟨0, by omega, rfl, Below.refl _ _⟩
      case round =>
        obtain ⟨k, hk, rfl, hbr⟩ := hrel
        have HBr : Hid (Below w9.heap.size w9 wr) := hbr
        clear hbr
        by_cases hlt : k < told.length
        · have hki : (k : Int) < (told.length : Int) := by omega
          obtain ⟨g, cap1, cur1, e1, _⟩ := own_slice HA9.out (by omega)
          cases e1
          have c1 : w9.cell? ⟨g, k, none⟩ = some (strV told[k]) := told_cell HA9.out k _ (by simp [hlt])
          have d1 : wr.cell? ⟨g, k, none⟩ = some (strV told[k]) := (HBr.out.cell (p := ⟨g, k, none⟩) (block_lt_of_cell c1)).trans c1
          have hT2 := HTd.out told[k] (List.getElem_mem hlt)
          unfold strV at d1
          clear c1
          generalize told[k] = x at d1 hT2
          rcases hT2 with rfl | ⟨o, rfl, ho⟩
          · go_wp2_with fail
            go_roundw
            case rel => exact ⟨k + 1, by omega, int_eq (by simp), HBr.out⟩
            case measure => simp [intOf]; omega
          · have ho' : ¬ (1 : Int) + (q : Int) + 1 < (o.length : Int) + 1 := by omega
            go_wp2_with fail
            go_roundw
            case rel => exact ⟨k + 1, by omega, int_eq (by simp), HBr.out⟩
            case measure => simp [intOf]; omega
        · have hki : ¬ (k : Int) < (told.length : Int) := by omega
          go_wp2_with fail
          go_ret
          exact ⟨rfl, Below.next HB9.out (Nat.le_refl _) HBr.out⟩
end Go.Proofs.YtdlhbmncbmconaaGreatDoor

/- Contract: Framed. -/
import Derived.Test.YtdlhbmncbmconaaGreatDoorBq
import Derived.Test.YtdlhbmncbmconaaGreatDoorR7
import Derived.Test.YtdlhbmncbmconaaGreatDoorMb
namespace Go.Proofs.YtdlhbmncbmconaaGreatDoor
open Go.RowKit Go.Sort
theorem byte_at (l : List UInt8) (j : Nat) (h : j < (⟨l.toArray⟩ : ByteArray).size) : (⟨l.toArray⟩ : ByteArray)[j] = l[j]'(by simpa [ByteArray.size] using h) := rfl
attribute [local go_sem] alloc_drewN setCell_drewN app_list byte_at

structure StrsIn (w : World) (ad : Option Addr) (ts : List (List UInt8)) : Prop where
  at_ : ∀ j t, ts[j]? = some t → ∃ b off, ad = some ⟨b, off, none⟩ ∧ w.cell? ⟨b, off + j, none⟩ = some (.string ⟨t.toArray⟩)
  each : ∀ t ∈ ts, t.length ≤ 1000000000000000
  many : ts.length ≤ 1000000000000000
structure IntsAt (w : World) (ad : Option Addr) (cs : List Int) : Prop where
  at_ : ∀ j z, cs[j]? = some z → ∃ b off, ad = some ⟨b, off, none⟩ ∧ w.cell? ⟨b, off + j, none⟩ = some (.int .i64 z)
  lo : ∀ z ∈ cs, -9223372036854775808 ≤ z
  hi : ∀ z ∈ cs, z ≤ 9223372036854775807
  many : cs.length ≤ 1000000000000000
structure FramI (w1 : World) (bs : List UInt8) (told : List (List UInt8)) (wv : Value) (wr : World) : Prop where
  own : wr.ownsRow w1.heap.size 9 1 wv told.length (told.map strV)
  feed : (Hm.Frs.fresh 200).feed bs = (Hm.Frs.fresh 200, told)
  bel : Below w1.heap.size w1 wr

theorem FramI.step {w1 wr w8 : World} {bs fr : List UInt8} {told : List (List UInt8)} {v v8 : Value} {t : List UInt8} {o : Obj} (h : FramI w1 bs told v wr) (hf : (Hm.Frs.fresh 200).feed fr = (Hm.Frs.fresh 200, [61 :: t]))
    (hown : w8.ownsRow w1.heap.size 9 1 v8 (told.length + 1) (told.map strV ++ [.string ⟨(61 :: t).toArray⟩])) (hg : World.grownBy (wr.alloc o) w8 v.ownBlock) : FramI w1 (bs ++ fr) (told ++ [61 :: t]) v8 w8 where
  own := by rw [List.length_append, List.map_append]; exact hown
  feed := Hm.feed_frames h.feed hf
  bel := by
    have h1 : Below w1.heap.size w1 (wr.alloc o) := h.bel.alloc h.bel.size _
    refine h1.trans ((Hw.Kept.of_grown hg).below (fun k _ e => ?_) h1.size)
    rcases h.own.2 with ⟨rfl, _⟩ | ⟨g, cap, cur, rfl, hb, _⟩
    · cases e
    · cases e; exact hb

set_option maxRecDepth 50000 in
set_option maxHeartbeats 4000000 in
theorem Framed_any (ad : Option Addr) (ts : List (List UInt8)) (cap : Nat) (ad2 : Option Addr) (ks : List Int) (cap2 : Nat) (w : World) (hT : Tabs w) (hs : StrsIn w ad ts) (hk : IntsAt w ad2 ks) :
    Calls Tryz.prog 11 #[.slice ad ts.length cap, .slice ad2 ks.length cap2] w fun e w' => e = .returned (.bool true) ∧ Below w.heap.size w w' := by
  have AW : Hid (∀ w, Tabs w → Calls Tryz.prog 18 #[] w fun e w' => e = .returned (.bool true) ∧ Below w.heap.size w w') := awake_any
  have NF : Hid (∀ w, 11 ≤ w.heap.size → Calls Tryz.prog 27 #[.int .i64 200] w fun e w' => e = .returned (.tuple #[.pointer (some ⟨w.heap.size, 0, none⟩), .int .i64 0]) ∧ FramesAt w' w.heap.size (Hm.Frs.fresh 200) (.slice none 0 0) ∧ Below w.heap.size w w') := fun w h => NewFrames_any 200 w h (by decide) (by decide)
  have HS : Hid (StrsIn w ad ts) := hs
  have HK : Hid (IntsAt w ad2 ks) := hk
  have hm1 := hs.many
  have hm2 := hk.many
  clear hs hk
  go_enter Tryz.func11, Tryz.ntmps11
  go_wp2_with fail
  refine (AW.out _ hT).mono ?_
  rintro e w0 ⟨rfl, hb0⟩
  have HB0 : Hid (Below w.heap.size w w0) := hb0
  have HT0 : Hid (Tabs w0) := hT.next hb0
  clear hb0
  go_wp2_with fail
  refine (NF.out _ HT0.out.size).mono ?_
  rintro e w1 ⟨rfl, f1, hb1⟩
  have HF1 : Hid (FramesAt w1 w0.heap.size (Hm.Frs.fresh 200) (.slice none 0 0)) := f1
  have HB1 : Hid (Below w.heap.size w w1) := Below.next HB0.out (Nat.le_refl _) hb1
  have HP0 : Hid (w.heap.size ≤ w0.heap.size) := HB0.out.size
  clear f1 hb1
  obtain ⟨i0, hi, hz0, hz1, hz2'⟩ := info_parts info_str
  go_wp2_with fail
  go_loopw [8, 9, 10] (fun bv wv iv wr => ∃ (k : Nat) (bs : List UInt8) (told : List (List UInt8)) (v : Value), k ≤ ts.length ∧ k ≤ 30 ∧ iv = .int .i64 k ∧ bv = .string ⟨bs.toArray⟩ ∧ wv = v ∧ bs.length ≤ 300 * k ∧ told.length ≤ k ∧ FramI w1 bs told v wr) (fun _ _ iv _ => 30 - (intOf iv).toNat)
  case atStart => exact ⟨0, [], [], .slice none 0 0, by omega, by omega, rfl, rfl, rfl, by simp, by simp, World.ownsRow_nil _ _ _ _, rfl, Below.refl _ _⟩
  case round =>
    obtain ⟨k, bs, told, v, hk1, hk2, rfl, rfl, rfl, hbl, htl, hI⟩ := hrel
    have HI : Hid (FramI w1 bs told _ wr) := hI
    clear hI
    have HBr : Hid (Below w.heap.size w wr) := HB1.out.trans (HI.out.bel.mono HB1.out.size)
    by_cases hlt : k < ts.length ∧ k < 30
    · obtain ⟨hlt1, hlt2⟩ := hlt
      have hl1 : (k : Int) < (ts.length : Int) := by omega
      have hl2 : (k : Int) < 30 := by omega
      obtain ⟨bb, off, had, hcell⟩ := HS.out.at_ k ts[k] (List.getElem?_eq_getElem hlt1)
      have hcr : wr.cell? ⟨bb, off + k, none⟩ = some (.string ⟨ts[k].toArray⟩) := (HBr.out.cell (p := ⟨bb, off + k, none⟩) (block_lt_of_cell hcell)).trans hcell
      have htlen := HS.out.each ts[k] (List.getElem_mem hlt1)
      generalize ts[k] = tx at hcr htlen
      subst had
      clear hcell hlt1 hlt2
      cases tx with
      | nil =>
        go_wp2_with fail
        go_roundw
        case rel => exact ⟨k + 1, bs, told, _, by omega, by omega, int_eq (by simp), rfl, rfl, by omega, by omega, HI.out⟩
        case measure => simp [intOf]; omega
      | cons c t =>
        by_cases hlong : 200 < (c :: t).length
        · have hli : (200 : Int) < (t.length : Int) + 1 := by simp at hlong; omega
          go_wp2_with fail
          go_roundw
          case rel => exact ⟨k + 1, bs, told, _, by omega, by omega, int_eq (by simp), rfl, rfl, by omega, by omega, HI.out⟩
          case measure => simp [intOf]; omega
        · have hli : ¬ (200 : Int) < (t.length : Int) + 1 := by simp at hlong; omega
          have htl2 : t.length + 1 ≤ 200 := by simp at hlong; omega
          by_cases hc1 : c.toNat < 49
          · have hci : (c.toNat : Int) < 49 := by omega
            go_wp2_with fail
            go_loopw [12, 13] (fun lv jv wx => ∃ (j : Nat) (b : Bool), j ≤ t.length + 1 ∧ jv = .int .i64 j ∧ lv = .bool b ∧ b = (true && ((c :: t).take j).all fun c => !decide (c.toNat = 10)) ∧ wx = wr) (fun _ jv _ => t.length + 1 - (intOf jv).toNat)
            case atStart => exact ⟨0, true, by omega, rfl, rfl, rfl, rfl⟩
            case round =>
              obtain ⟨j, b, hj, rfl, rfl, hbb, rfl⟩ := hrel
              have HBb : Hid (b = (true && ((c :: t).take j).all fun c => !decide (c.toNat = 10))) := hbb
              clear hbb
              by_cases hjl : j < t.length + 1
              · have hji : (j : Int) < (t.length : Int) + 1 := by omega
                have htk : ((c :: t).take (j + 1)).all (fun c => !decide (c.toNat = 10)) = (((c :: t).take j).all (fun c => !decide (c.toNat = 10)) && !decide ((c :: t)[j].toNat = 10)) := by
                  rw [List.take_succ_eq_append_getElem (by simpa using hjl), List.all_append]
                  simp
                have HTk := show Hid _ from htk
                clear htk
                cases b with
                | false =>
                  go_wp2_with fail
                  go_roundw
                  case rel => exact ⟨j + 1, false, by omega, int_eq (by simp), rfl, by rw [HTk.out, ← Bool.and_assoc, ← HBb.out]; rfl, trivial⟩
                  case measure => simp [intOf]; omega
                | true =>
                  by_cases hten : (c :: t)[j].toNat = 10
                  · have hti : ((c :: t)[j].toNat : Int) = 10 := by omega
                    go_wp2_with fail
                    go_roundw
                    case rel => exact ⟨j + 1, false, by omega, int_eq (by simp), rfl, by rw [HTk.out, ← Bool.and_assoc, ← HBb.out, hten]; rfl, trivial⟩
                    case measure => simp [intOf]; omega
                  · have hti : (((c :: t)[j].toNat : Int) == 10) = false := beq_eq_false_iff_ne.2 (by omega)
                    go_wp2_with fail
                    go_roundw
                    case rel => exact ⟨j + 1, true, by omega, int_eq (by simp), by simp [bne, hti], by rw [HTk.out, ← Bool.and_assoc, ← HBb.out]; simp [hten], trivial⟩
                    case measure => simp [intOf]; omega
              · have hji : ¬ (j : Int) < (t.length : Int) + 1 := by omega
                have hjl2 : j = (c :: t).length := by simp; omega
                have HLn : Hid (b = Hm.lined (c :: t)) := by
                  show b = _
                  rw [HBb.out, hjl2, List.take_length]
                  unfold Hm.lined
                  rw [List.getD_cons_zero]
                  rw [decide_eq_true hc1]; simp
                have DC : Hid (∀ w, Calls Tryz.prog 26 #[.int .i64 ((t.length : Int) + 1)] w fun e w' => e = .returned (.string ⟨(Lib.decDigits (t.length + 1)).toArray⟩) ∧ w' = w) := fun w => kdecimal_int _ _ (by omega) (by omega) w
                have ldc : (Lib.decDigits (t.length + 1)).length ≤ 3 := Hm.dd_len3 (by omega)
                clear hjl2 HBb hjl
                cases b with
                | false =>
                  go_wp2_with fail
                  refine (DC.out _).mono ?_
                  rintro e wy ⟨rfl, rfl⟩
                  go_wp2_with (at_builtin; refine wpList_append_own_at _ rfl _ _ 42 rfl w1.heap.size 9 i0 (.string ByteArray.empty) 1 16 Tryz.underlying42 hi hz0 hz1 hz2' rfl (by decide) _ _ _ rfl (HI.out.own.alloc _) ⟨wy.heap.size, 0, none⟩ 1 1 [.string ⟨(61 :: c :: t).toArray⟩] rfl rfl (cell_one_new _ _ _) (fun x hx => by simp at hx; subst hx; rfl) (by unfold maxLen; (try dsimp only); omega) (by (try dsimp only); omega) (by have := HI.out.bel.size; simp; omega) ?_; intro v8 w8 hown' hgrow hnil hat; have HO8 : Hid (w8.ownsRow w1.heap.size 9 1 v8 (told.length + 1) (told.map strV ++ [.string ⟨(61 :: c :: t).toArray⟩])) := hown'; have HG8 : Hid (World.grownBy (wy.alloc _) w8 _) := hgrow; clear hown' hgrow hat hnil)
                  go_roundw
                  case rel =>
                    have hst := HI.out.step (Hm.feed_frame (n := 200) (b := false) (t := c :: t) (by simp) (by simp; omega) (fun e => by cases e)) HO8.out HG8.out
                    refine ⟨k + 1, _, _, v8, by omega, by omega, int_eq (by simp), ?_, rfl, ?_, by simp; omega, hst⟩
                    · simp [Hm.frame]
                    · simp [Hm.frame]; omega
                  case measure => simp [intOf]; omega
                | true =>
                  by_cases hkk : k < ks.length
                  · have hki : (k : Int) < (ks.length : Int) := by omega
                    obtain ⟨bb2, off2, had2, hcell2⟩ := HK.out.at_ k ks[k] (List.getElem?_eq_getElem hkk)
                    have hcr2 : wr.cell? ⟨bb2, off2 + k, none⟩ = some (.int .i64 ks[k]) := (HBr.out.cell (p := ⟨bb2, off2 + k, none⟩) (block_lt_of_cell hcell2)).trans hcell2
                    generalize ks[k] = z at hcr2
                    subst had2
                    clear hcell2
                    by_cases hz : z.tmod 2 = 0
                    · go_wp2_with (at_builtin; refine wpList_append_own_at _ rfl _ _ 42 rfl w1.heap.size 9 i0 (.string ByteArray.empty) 1 16 Tryz.underlying42 hi hz0 hz1 hz2' rfl (by decide) _ _ _ rfl (HI.out.own.alloc _) ⟨wr.heap.size, 0, none⟩ 1 1 [.string ⟨(61 :: c :: t).toArray⟩] rfl rfl (cell_one_new _ _ _) (fun x hx => by simp at hx; subst hx; rfl) (by unfold maxLen; (try dsimp only); omega) (by (try dsimp only); omega) (by have := HI.out.bel.size; simp; omega) ?_; intro v8 w8 hown' hgrow hnil hat; have HO8 : Hid (w8.ownsRow w1.heap.size 9 1 v8 (told.length + 1) (told.map strV ++ [.string ⟨(61 :: c :: t).toArray⟩])) := hown'; have HG8 : Hid (World.grownBy (wr.alloc _) w8 _) := hgrow; clear hown' hgrow hat hnil)
                      go_roundw
                      case rel =>
                        have hst := HI.out.step (Hm.feed_frame (n := 200) (b := true) (t := c :: t) (by simp) (by simp; omega) (fun _ => HLn.out.symm)) HO8.out HG8.out
                        refine ⟨k + 1, _, _, v8, by omega, by omega, int_eq (by simp), ?_, rfl, ?_, by simp; omega, hst⟩
                        · simp [Hm.frame]
                        · simp [Hm.frame]; omega
                      case measure => simp [intOf]; omega
                    · have hz' : (z.tmod 2 == 0) = false := beq_eq_false_iff_ne.2 hz
                      go_wp2_with fail
                      refine (DC.out _).mono ?_
                      rintro e wy ⟨rfl, rfl⟩
                      go_wp2_with (at_builtin; refine wpList_append_own_at _ rfl _ _ 42 rfl w1.heap.size 9 i0 (.string ByteArray.empty) 1 16 Tryz.underlying42 hi hz0 hz1 hz2' rfl (by decide) _ _ _ rfl (HI.out.own.alloc _) ⟨wy.heap.size, 0, none⟩ 1 1 [.string ⟨(61 :: c :: t).toArray⟩] rfl rfl (cell_one_new _ _ _) (fun x hx => by simp at hx; subst hx; rfl) (by unfold maxLen; (try dsimp only); omega) (by (try dsimp only); omega) (by have := HI.out.bel.size; simp; omega) ?_; intro v8 w8 hown' hgrow hnil hat; have HO8 : Hid (w8.ownsRow w1.heap.size 9 1 v8 (told.length + 1) (told.map strV ++ [.string ⟨(61 :: c :: t).toArray⟩])) := hown'; have HG8 : Hid (World.grownBy (wy.alloc _) w8 _) := hgrow; clear hown' hgrow hat hnil)
                      go_roundw
                      case rel =>
                        have hst := HI.out.step (Hm.feed_frame (n := 200) (b := false) (t := c :: t) (by simp) (by simp; omega) (fun e => by cases e)) HO8.out HG8.out
                        refine ⟨k + 1, _, _, v8, by omega, by omega, int_eq (by simp), ?_, rfl, ?_, by simp; omega, hst⟩
                        · simp [Hm.frame]
                        · simp [Hm.frame]; omega
                      case measure => simp [intOf]; omega
                  · have hki : ¬ (k : Int) < (ks.length : Int) := by omega
                    go_wp2_with fail
                    refine (DC.out _).mono ?_
                    rintro e wy ⟨rfl, rfl⟩
                    go_wp2_with (at_builtin; refine wpList_append_own_at _ rfl _ _ 42 rfl w1.heap.size 9 i0 (.string ByteArray.empty) 1 16 Tryz.underlying42 hi hz0 hz1 hz2' rfl (by decide) _ _ _ rfl (HI.out.own.alloc _) ⟨wy.heap.size, 0, none⟩ 1 1 [.string ⟨(61 :: c :: t).toArray⟩] rfl rfl (cell_one_new _ _ _) (fun x hx => by simp at hx; subst hx; rfl) (by unfold maxLen; (try dsimp only); omega) (by (try dsimp only); omega) (by have := HI.out.bel.size; simp; omega) ?_; intro v8 w8 hown' hgrow hnil hat; have HO8 : Hid (w8.ownsRow w1.heap.size 9 1 v8 (told.length + 1) (told.map strV ++ [.string ⟨(61 :: c :: t).toArray⟩])) := hown'; have HG8 : Hid (World.grownBy (wy.alloc _) w8 _) := hgrow; clear hown' hgrow hat hnil)
                    go_roundw
                    case rel =>
                      have hst := HI.out.step (Hm.feed_frame (n := 200) (b := false) (t := c :: t) (by simp) (by simp; omega) (fun e => by cases e)) HO8.out HG8.out
                      refine ⟨k + 1, _, _, v8, by omega, by omega, int_eq (by simp), ?_, rfl, ?_, by simp; omega, hst⟩
                      · simp [Hm.frame]
                      · simp [Hm.frame]; omega
                    case measure => simp [intOf]; omega
          · have hci : ¬ (c.toNat : Int) < 49 := by omega
            by_cases hc2 : 57 < c.toNat
            · have hci2 : (57 : Int) < (c.toNat : Int) := by omega
              go_wp2_with fail
              go_loopw [12, 13] (fun lv jv wx => ∃ (j : Nat) (b : Bool), j ≤ t.length + 1 ∧ jv = .int .i64 j ∧ lv = .bool b ∧ b = (true && ((c :: t).take j).all fun c => !decide (c.toNat = 10)) ∧ wx = wr) (fun _ jv _ => t.length + 1 - (intOf jv).toNat)
              case atStart => exact ⟨0, true, by omega, rfl, rfl, rfl, rfl⟩
              case round =>
                obtain ⟨j, b, hj, rfl, rfl, hbb, rfl⟩ := hrel
                have HBb : Hid (b = (true && ((c :: t).take j).all fun c => !decide (c.toNat = 10))) := hbb
                clear hbb
                by_cases hjl : j < t.length + 1
                · have hji : (j : Int) < (t.length : Int) + 1 := by omega
                  have htk : ((c :: t).take (j + 1)).all (fun c => !decide (c.toNat = 10)) = (((c :: t).take j).all (fun c => !decide (c.toNat = 10)) && !decide ((c :: t)[j].toNat = 10)) := by
                    rw [List.take_succ_eq_append_getElem (by simpa using hjl), List.all_append]
                    simp
                  have HTk := show Hid _ from htk
                  clear htk
                  cases b with
                  | false =>
                    go_wp2_with fail
                    go_roundw
                    case rel => exact ⟨j + 1, false, by omega, int_eq (by simp), rfl, by rw [HTk.out, ← Bool.and_assoc, ← HBb.out]; rfl, trivial⟩
                    case measure => simp [intOf]; omega
                  | true =>
                    by_cases hten : (c :: t)[j].toNat = 10
                    · have hti : ((c :: t)[j].toNat : Int) = 10 := by omega
                      go_wp2_with fail
                      go_roundw
                      case rel => exact ⟨j + 1, false, by omega, int_eq (by simp), rfl, by rw [HTk.out, ← Bool.and_assoc, ← HBb.out, hten]; rfl, trivial⟩
                      case measure => simp [intOf]; omega
                    · have hti : (((c :: t)[j].toNat : Int) == 10) = false := beq_eq_false_iff_ne.2 (by omega)
                      go_wp2_with fail
                      go_roundw
                      case rel => exact ⟨j + 1, true, by omega, int_eq (by simp), by simp [bne, hti], by rw [HTk.out, ← Bool.and_assoc, ← HBb.out]; simp [hten], trivial⟩
                      case measure => simp [intOf]; omega
                · have hji : ¬ (j : Int) < (t.length : Int) + 1 := by omega
                  have hjl2 : j = (c :: t).length := by simp; omega
                  have HLn : Hid (b = Hm.lined (c :: t)) := by
                    show b = _
                    rw [HBb.out, hjl2, List.take_length]
                    unfold Hm.lined
                    rw [List.getD_cons_zero]
                    rw [decide_eq_true hc2]; simp
                  have DC : Hid (∀ w, Calls Tryz.prog 26 #[.int .i64 ((t.length : Int) + 1)] w fun e w' => e = .returned (.string ⟨(Lib.decDigits (t.length + 1)).toArray⟩) ∧ w' = w) := fun w => kdecimal_int _ _ (by omega) (by omega) w
                  have ldc : (Lib.decDigits (t.length + 1)).length ≤ 3 := Hm.dd_len3 (by omega)
                  clear hjl2 HBb hjl
                  cases b with
                  | false =>
                    go_wp2_with fail
                    refine (DC.out _).mono ?_
                    rintro e wy ⟨rfl, rfl⟩
                    go_wp2_with (at_builtin; refine wpList_append_own_at _ rfl _ _ 42 rfl w1.heap.size 9 i0 (.string ByteArray.empty) 1 16 Tryz.underlying42 hi hz0 hz1 hz2' rfl (by decide) _ _ _ rfl (HI.out.own.alloc _) ⟨wy.heap.size, 0, none⟩ 1 1 [.string ⟨(61 :: c :: t).toArray⟩] rfl rfl (cell_one_new _ _ _) (fun x hx => by simp at hx; subst hx; rfl) (by unfold maxLen; (try dsimp only); omega) (by (try dsimp only); omega) (by have := HI.out.bel.size; simp; omega) ?_; intro v8 w8 hown' hgrow hnil hat; have HO8 : Hid (w8.ownsRow w1.heap.size 9 1 v8 (told.length + 1) (told.map strV ++ [.string ⟨(61 :: c :: t).toArray⟩])) := hown'; have HG8 : Hid (World.grownBy (wy.alloc _) w8 _) := hgrow; clear hown' hgrow hat hnil)
                    go_roundw
                    case rel =>
                      have hst := HI.out.step (Hm.feed_frame (n := 200) (b := false) (t := c :: t) (by simp) (by simp; omega) (fun e => by cases e)) HO8.out HG8.out
                      refine ⟨k + 1, _, _, v8, by omega, by omega, int_eq (by simp), ?_, rfl, ?_, by simp; omega, hst⟩
                      · simp [Hm.frame]
                      · simp [Hm.frame]; omega
                    case measure => simp [intOf]; omega
                  | true =>
                    by_cases hkk : k < ks.length
                    · have hki : (k : Int) < (ks.length : Int) := by omega
                      obtain ⟨bb2, off2, had2, hcell2⟩ := HK.out.at_ k ks[k] (List.getElem?_eq_getElem hkk)
                      have hcr2 : wr.cell? ⟨bb2, off2 + k, none⟩ = some (.int .i64 ks[k]) := (HBr.out.cell (p := ⟨bb2, off2 + k, none⟩) (block_lt_of_cell hcell2)).trans hcell2
                      generalize ks[k] = z at hcr2
                      subst had2
                      clear hcell2
                      by_cases hz : z.tmod 2 = 0
                      · go_wp2_with (at_builtin; refine wpList_append_own_at _ rfl _ _ 42 rfl w1.heap.size 9 i0 (.string ByteArray.empty) 1 16 Tryz.underlying42 hi hz0 hz1 hz2' rfl (by decide) _ _ _ rfl (HI.out.own.alloc _) ⟨wr.heap.size, 0, none⟩ 1 1 [.string ⟨(61 :: c :: t).toArray⟩] rfl rfl (cell_one_new _ _ _) (fun x hx => by simp at hx; subst hx; rfl) (by unfold maxLen; (try dsimp only); omega) (by (try dsimp only); omega) (by have := HI.out.bel.size; simp; omega) ?_; intro v8 w8 hown' hgrow hnil hat; have HO8 : Hid (w8.ownsRow w1.heap.size 9 1 v8 (told.length + 1) (told.map strV ++ [.string ⟨(61 :: c :: t).toArray⟩])) := hown'; have HG8 : Hid (World.grownBy (wr.alloc _) w8 _) := hgrow; clear hown' hgrow hat hnil)
                        go_roundw
                        case rel =>
                          have hst := HI.out.step (Hm.feed_frame (n := 200) (b := true) (t := c :: t) (by simp) (by simp; omega) (fun _ => HLn.out.symm)) HO8.out HG8.out
                          refine ⟨k + 1, _, _, v8, by omega, by omega, int_eq (by simp), ?_, rfl, ?_, by simp; omega, hst⟩
                          · simp [Hm.frame]
                          · simp [Hm.frame]; omega
                        case measure => simp [intOf]; omega
                      · have hz' : (z.tmod 2 == 0) = false := beq_eq_false_iff_ne.2 hz
                        go_wp2_with fail
                        refine (DC.out _).mono ?_
                        rintro e wy ⟨rfl, rfl⟩
                        go_wp2_with (at_builtin; refine wpList_append_own_at _ rfl _ _ 42 rfl w1.heap.size 9 i0 (.string ByteArray.empty) 1 16 Tryz.underlying42 hi hz0 hz1 hz2' rfl (by decide) _ _ _ rfl (HI.out.own.alloc _) ⟨wy.heap.size, 0, none⟩ 1 1 [.string ⟨(61 :: c :: t).toArray⟩] rfl rfl (cell_one_new _ _ _) (fun x hx => by simp at hx; subst hx; rfl) (by unfold maxLen; (try dsimp only); omega) (by (try dsimp only); omega) (by have := HI.out.bel.size; simp; omega) ?_; intro v8 w8 hown' hgrow hnil hat; have HO8 : Hid (w8.ownsRow w1.heap.size 9 1 v8 (told.length + 1) (told.map strV ++ [.string ⟨(61 :: c :: t).toArray⟩])) := hown'; have HG8 : Hid (World.grownBy (wy.alloc _) w8 _) := hgrow; clear hown' hgrow hat hnil)
                        go_roundw
                        case rel =>
                          have hst := HI.out.step (Hm.feed_frame (n := 200) (b := false) (t := c :: t) (by simp) (by simp; omega) (fun e => by cases e)) HO8.out HG8.out
                          refine ⟨k + 1, _, _, v8, by omega, by omega, int_eq (by simp), ?_, rfl, ?_, by simp; omega, hst⟩
                          · simp [Hm.frame]
                          · simp [Hm.frame]; omega
                        case measure => simp [intOf]; omega
                    · have hki : ¬ (k : Int) < (ks.length : Int) := by omega
                      go_wp2_with fail
                      refine (DC.out _).mono ?_
                      rintro e wy ⟨rfl, rfl⟩
                      go_wp2_with (at_builtin; refine wpList_append_own_at _ rfl _ _ 42 rfl w1.heap.size 9 i0 (.string ByteArray.empty) 1 16 Tryz.underlying42 hi hz0 hz1 hz2' rfl (by decide) _ _ _ rfl (HI.out.own.alloc _) ⟨wy.heap.size, 0, none⟩ 1 1 [.string ⟨(61 :: c :: t).toArray⟩] rfl rfl (cell_one_new _ _ _) (fun x hx => by simp at hx; subst hx; rfl) (by unfold maxLen; (try dsimp only); omega) (by (try dsimp only); omega) (by have := HI.out.bel.size; simp; omega) ?_; intro v8 w8 hown' hgrow hnil hat; have HO8 : Hid (w8.ownsRow w1.heap.size 9 1 v8 (told.length + 1) (told.map strV ++ [.string ⟨(61 :: c :: t).toArray⟩])) := hown'; have HG8 : Hid (World.grownBy (wy.alloc _) w8 _) := hgrow; clear hown' hgrow hat hnil)
                      go_roundw
                      case rel =>
                        have hst := HI.out.step (Hm.feed_frame (n := 200) (b := false) (t := c :: t) (by simp) (by simp; omega) (fun e => by cases e)) HO8.out HG8.out
                        refine ⟨k + 1, _, _, v8, by omega, by omega, int_eq (by simp), ?_, rfl, ?_, by simp; omega, hst⟩
                        · simp [Hm.frame]
                        · simp [Hm.frame]; omega
                      case measure => simp [intOf]; omega
            · have hci2 : ¬ (57 : Int) < (c.toNat : Int) := by omega
              go_wp2_with fail
              go_loopw [12, 13] (fun lv jv wx => ∃ (j : Nat) (b : Bool), j ≤ t.length + 1 ∧ jv = .int .i64 j ∧ lv = .bool b ∧ b = (false && ((c :: t).take j).all fun c => !decide (c.toNat = 10)) ∧ wx = wr) (fun _ jv _ => t.length + 1 - (intOf jv).toNat)
              case atStart => exact ⟨0, false, by omega, rfl, rfl, rfl, rfl⟩
              case round =>
                obtain ⟨j, b, hj, rfl, rfl, hbb, rfl⟩ := hrel
                have HBb : Hid (b = (false && ((c :: t).take j).all fun c => !decide (c.toNat = 10))) := hbb
                clear hbb
                by_cases hjl : j < t.length + 1
                · have hji : (j : Int) < (t.length : Int) + 1 := by omega
                  have htk : ((c :: t).take (j + 1)).all (fun c => !decide (c.toNat = 10)) = (((c :: t).take j).all (fun c => !decide (c.toNat = 10)) && !decide ((c :: t)[j].toNat = 10)) := by
                    rw [List.take_succ_eq_append_getElem (by simpa using hjl), List.all_append]
                    simp
                  have HTk := show Hid _ from htk
                  clear htk
                  cases b with
                  | false =>
                    go_wp2_with fail
                    go_roundw
                    case rel => exact ⟨j + 1, false, by omega, int_eq (by simp), rfl, by rw [HTk.out, ← Bool.and_assoc, ← HBb.out]; rfl, trivial⟩
                    case measure => simp [intOf]; omega
                  | true =>
                    by_cases hten : (c :: t)[j].toNat = 10
                    · have hti : ((c :: t)[j].toNat : Int) = 10 := by omega
                      go_wp2_with fail
                      go_roundw
                      case rel => exact ⟨j + 1, false, by omega, int_eq (by simp), rfl, by rw [HTk.out, ← Bool.and_assoc, ← HBb.out, hten]; rfl, trivial⟩
                      case measure => simp [intOf]; omega
                    · have hti : (((c :: t)[j].toNat : Int) == 10) = false := beq_eq_false_iff_ne.2 (by omega)
                      go_wp2_with fail
                      go_roundw
                      case rel => exact ⟨j + 1, true, by omega, int_eq (by simp), by simp [bne, hti], by rw [HTk.out, ← Bool.and_assoc, ← HBb.out]; simp [hten], trivial⟩
                      case measure => simp [intOf]; omega
                · have hji : ¬ (j : Int) < (t.length : Int) + 1 := by omega
                  have hjl2 : j = (c :: t).length := by simp; omega
                  have HLn : Hid (b = Hm.lined (c :: t)) := by
                    show b = _
                    rw [HBb.out, hjl2, List.take_length]
                    unfold Hm.lined
                    rw [List.getD_cons_zero]
                    rw [decide_eq_false hc1, decide_eq_false hc2]; simp
                  have DC : Hid (∀ w, Calls Tryz.prog 26 #[.int .i64 ((t.length : Int) + 1)] w fun e w' => e = .returned (.string ⟨(Lib.decDigits (t.length + 1)).toArray⟩) ∧ w' = w) := fun w => kdecimal_int _ _ (by omega) (by omega) w
                  have ldc : (Lib.decDigits (t.length + 1)).length ≤ 3 := Hm.dd_len3 (by omega)
                  clear hjl2 HBb hjl
                  cases b with
                  | false =>
                    go_wp2_with fail
                    refine (DC.out _).mono ?_
                    rintro e wy ⟨rfl, rfl⟩
                    go_wp2_with (at_builtin; refine wpList_append_own_at _ rfl _ _ 42 rfl w1.heap.size 9 i0 (.string ByteArray.empty) 1 16 Tryz.underlying42 hi hz0 hz1 hz2' rfl (by decide) _ _ _ rfl (HI.out.own.alloc _) ⟨wy.heap.size, 0, none⟩ 1 1 [.string ⟨(61 :: c :: t).toArray⟩] rfl rfl (cell_one_new _ _ _) (fun x hx => by simp at hx; subst hx; rfl) (by unfold maxLen; (try dsimp only); omega) (by (try dsimp only); omega) (by have := HI.out.bel.size; simp; omega) ?_; intro v8 w8 hown' hgrow hnil hat; have HO8 : Hid (w8.ownsRow w1.heap.size 9 1 v8 (told.length + 1) (told.map strV ++ [.string ⟨(61 :: c :: t).toArray⟩])) := hown'; have HG8 : Hid (World.grownBy (wy.alloc _) w8 _) := hgrow; clear hown' hgrow hat hnil)
                    go_roundw
                    case rel =>
                      have hst := HI.out.step (Hm.feed_frame (n := 200) (b := false) (t := c :: t) (by simp) (by simp; omega) (fun e => by cases e)) HO8.out HG8.out
                      refine ⟨k + 1, _, _, v8, by omega, by omega, int_eq (by simp), ?_, rfl, ?_, by simp; omega, hst⟩
                      · simp [Hm.frame]
                      · simp [Hm.frame]; omega
                    case measure => simp [intOf]; omega
                  | true =>
                    by_cases hkk : k < ks.length
                    · have hki : (k : Int) < (ks.length : Int) := by omega
                      obtain ⟨bb2, off2, had2, hcell2⟩ := HK.out.at_ k ks[k] (List.getElem?_eq_getElem hkk)
                      have hcr2 : wr.cell? ⟨bb2, off2 + k, none⟩ = some (.int .i64 ks[k]) := (HBr.out.cell (p := ⟨bb2, off2 + k, none⟩) (block_lt_of_cell hcell2)).trans hcell2
                      generalize ks[k] = z at hcr2
                      subst had2
                      clear hcell2
                      by_cases hz : z.tmod 2 = 0
                      · go_wp2_with (at_builtin; refine wpList_append_own_at _ rfl _ _ 42 rfl w1.heap.size 9 i0 (.string ByteArray.empty) 1 16 Tryz.underlying42 hi hz0 hz1 hz2' rfl (by decide) _ _ _ rfl (HI.out.own.alloc _) ⟨wr.heap.size, 0, none⟩ 1 1 [.string ⟨(61 :: c :: t).toArray⟩] rfl rfl (cell_one_new _ _ _) (fun x hx => by simp at hx; subst hx; rfl) (by unfold maxLen; (try dsimp only); omega) (by (try dsimp only); omega) (by have := HI.out.bel.size; simp; omega) ?_; intro v8 w8 hown' hgrow hnil hat; have HO8 : Hid (w8.ownsRow w1.heap.size 9 1 v8 (told.length + 1) (told.map strV ++ [.string ⟨(61 :: c :: t).toArray⟩])) := hown'; have HG8 : Hid (World.grownBy (wr.alloc _) w8 _) := hgrow; clear hown' hgrow hat hnil)
                        go_roundw
                        case rel =>
                          have hst := HI.out.step (Hm.feed_frame (n := 200) (b := true) (t := c :: t) (by simp) (by simp; omega) (fun _ => HLn.out.symm)) HO8.out HG8.out
                          refine ⟨k + 1, _, _, v8, by omega, by omega, int_eq (by simp), ?_, rfl, ?_, by simp; omega, hst⟩
                          · simp [Hm.frame]
                          · simp [Hm.frame]; omega
                        case measure => simp [intOf]; omega
                      · have hz' : (z.tmod 2 == 0) = false := beq_eq_false_iff_ne.2 hz
                        go_wp2_with fail
                        refine (DC.out _).mono ?_
                        rintro e wy ⟨rfl, rfl⟩
                        go_wp2_with (at_builtin; refine wpList_append_own_at _ rfl _ _ 42 rfl w1.heap.size 9 i0 (.string ByteArray.empty) 1 16 Tryz.underlying42 hi hz0 hz1 hz2' rfl (by decide) _ _ _ rfl (HI.out.own.alloc _) ⟨wy.heap.size, 0, none⟩ 1 1 [.string ⟨(61 :: c :: t).toArray⟩] rfl rfl (cell_one_new _ _ _) (fun x hx => by simp at hx; subst hx; rfl) (by unfold maxLen; (try dsimp only); omega) (by (try dsimp only); omega) (by have := HI.out.bel.size; simp; omega) ?_; intro v8 w8 hown' hgrow hnil hat; have HO8 : Hid (w8.ownsRow w1.heap.size 9 1 v8 (told.length + 1) (told.map strV ++ [.string ⟨(61 :: c :: t).toArray⟩])) := hown'; have HG8 : Hid (World.grownBy (wy.alloc _) w8 _) := hgrow; clear hown' hgrow hat hnil)
                        go_roundw
                        case rel =>
                          have hst := HI.out.step (Hm.feed_frame (n := 200) (b := false) (t := c :: t) (by simp) (by simp; omega) (fun e => by cases e)) HO8.out HG8.out
                          refine ⟨k + 1, _, _, v8, by omega, by omega, int_eq (by simp), ?_, rfl, ?_, by simp; omega, hst⟩
                          · simp [Hm.frame]
                          · simp [Hm.frame]; omega
                        case measure => simp [intOf]; omega
                    · have hki : ¬ (k : Int) < (ks.length : Int) := by omega
                      go_wp2_with fail
                      refine (DC.out _).mono ?_
                      rintro e wy ⟨rfl, rfl⟩
                      go_wp2_with (at_builtin; refine wpList_append_own_at _ rfl _ _ 42 rfl w1.heap.size 9 i0 (.string ByteArray.empty) 1 16 Tryz.underlying42 hi hz0 hz1 hz2' rfl (by decide) _ _ _ rfl (HI.out.own.alloc _) ⟨wy.heap.size, 0, none⟩ 1 1 [.string ⟨(61 :: c :: t).toArray⟩] rfl rfl (cell_one_new _ _ _) (fun x hx => by simp at hx; subst hx; rfl) (by unfold maxLen; (try dsimp only); omega) (by (try dsimp only); omega) (by have := HI.out.bel.size; simp; omega) ?_; intro v8 w8 hown' hgrow hnil hat; have HO8 : Hid (w8.ownsRow w1.heap.size 9 1 v8 (told.length + 1) (told.map strV ++ [.string ⟨(61 :: c :: t).toArray⟩])) := hown'; have HG8 : Hid (World.grownBy (wy.alloc _) w8 _) := hgrow; clear hown' hgrow hat hnil)
                      go_roundw
                      case rel =>
                        have hst := HI.out.step (Hm.feed_frame (n := 200) (b := false) (t := c :: t) (by simp) (by simp; omega) (fun e => by cases e)) HO8.out HG8.out
                        refine ⟨k + 1, _, _, v8, by omega, by omega, int_eq (by simp), ?_, rfl, ?_, by simp; omega, hst⟩
                        · simp [Hm.frame]
                        · simp [Hm.frame]; omega
                      case measure => simp [intOf]; omega
    · have HFr : Hid (FramesAt wr w0.heap.size (Hm.Frs.fresh 200) (.slice none 0 0)) := HF1.out.keep (S := fun _ => False) (Hw.Kept.of_below HI.out.bel) (fun e => e) (fun _ _ e => e)
      have hfd := HI.out.feed
      have FD : Hid (Calls Tryz.prog 28 #[.pointer (some ⟨w0.heap.size, 0, none⟩), .string ⟨bs.toArray⟩] wr fun e w' => ∃ tv v', e = .returned (.tuple #[tv, .int .i64 0]) ∧ StepF w0.heap.size (.slice none 0 0) wr v' w' ∧ w'.ownsRow wr.heap.size 9 1 tv told.length (told.map strV)) := by
        refine (Feed_any w0.heap.size (Hm.Frs.fresh 200) (.slice none 0 0) ⟨bs.toArray⟩ (by show bs.toArray.size ≤ _; simp; omega) wr HFr.out (Hm.Frs.fresh_ok (by decide) (by decide))).mono ?_
        rintro e w7 ⟨tv, v7, rfl, f7, s7, o7⟩
        rw [show (⟨bs.toArray⟩ : ByteArray).data.toList = bs by simp, hfd] at o7 ⊢
        exact ⟨tv, v7, rfl, s7, o7⟩
      clear hfd
      have hlast : (¬ (k : Int) < (ts.length : Int)) ∨ ((k : Int) < (ts.length : Int) ∧ ¬ (k : Int) < 30) := by omega
      have OI : Hid (wr.ownsRow w1.heap.size 9 1 _ told.length (told.map strV)) := HI.out.own
      have SM : Hid (∀ w v tv, w.ownsRow wr.heap.size 9 1 tv told.length (told.map strV) → w.ownsRow w1.heap.size 9 1 v told.length (told.map strV) → Calls Tryz.prog 29 #[tv, v] w fun e w' => e = .returned (.bool true) ∧ Below w.heap.size w w') := fun w v tv h1 h2 => by
        have := same_any _ _ _ _ _ _ w h1 h2 (by omega) (by omega)
        rwa [decide_eq_true rfl] at this
      have HK2 : Hid (∀ w' v', StepF w0.heap.size (.slice none 0 0) wr v' w' → Below w.heap.size w w') := fun w' v' h => HBr.out.trans (h.kept.below (fun k hk e => e.elim (fun e => by have := HP0.out; omega) (fun e => by cases e)) HBr.out.size)
      clear hlt
      rcases hlast with hl1 | ⟨hl1, hl2⟩
      all_goals
        go_wp2_with fail
        refine FD.out.mono ?_
        rintro e w7 ⟨tv, v7, rfl, s7, o7⟩
        have HS7 : Hid (StepF w0.heap.size (.slice none 0 0) wr v7 w7) := s7
        have HO7 : Hid (w7.ownsRow wr.heap.size 9 1 tv told.length (told.map strV)) := o7
        have HO7' := show Hid _ from Hw.ownsRow_keptS OI.out s7.kept (fun x hx e => by
          have hlt : w0.heap.size < w1.heap.size := (Array.getElem?_eq_some_iff.1 HF1.out.row).1
          rcases OI.out.2 with ⟨h0, _⟩ | ⟨g, cap, cur, h0, hb, _⟩
          · rw [h0] at hx; cases hx
          · rw [h0] at hx; cases hx
            rcases e with e | e
            · have e' : g = w0.heap.size := e
              omega
            · cases e)
        clear s7 o7
        go_wp2_with fail
        refine (SM.out _ _ _ HO7.out HO7'.out).mono ?_
        rintro e w9 ⟨rfl, hb9⟩
        have HB9 : Hid (Below w.heap.size w w9) := Below.next (HK2.out _ _ HS7.out) (Nat.le_refl _) hb9
        clear hb9
        go_wp2_with fail
        go_ret
        exact ⟨rfl, HB9.out⟩
end Go.Proofs.YtdlhbmncbmconaaGreatDoor

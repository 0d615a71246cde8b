/- Contract: Opened. -/
import Derived.Test.YtdlhbmncbmconaaGreatDoorR21
import Derived.Test.YtdlhbmncbmconaaGreatDoorR18
import Derived.Test.YtdlhbmncbmconaaGreatDoorMe
import Derived.Test.YtdlhbmncbmconaaGreatDoorWs
import Derived.Deep.DeepCutAuto
import Derived.Deep.CutBlock
import Derived.Laws.BitsAllLaws
namespace Go.Proofs.YtdlhbmncbmconaaGreatDoor
open Go.RowKit Go.Sort
attribute [local go_sem] alloc_drewN setCell_drewN app_list
attribute [local go_sem high] run_cut_l
structure Own2 (w1 : World) (A : List Value) (lv : Value) (B : List Value) (ev : Value) (wr : World) : Prop where
  a : wr.ownsRow w1.heap.size 9 1 lv A.length A
  b : wr.ownsRow w1.heap.size 3 1 ev B.length B
  bel : Below w1.heap.size w1 wr
theorem Own2.next {w1 wr wr' : World} {A B : List Value} {lv ev : Value} (h : Own2 w1 A lv B ev wr) (hb : Below wr.heap.size wr wr') : Own2 w1 A lv B ev wr' :=
  ⟨Hw.ownsRow_keptS h.a (Hw.Kept.of_below (S := fun _ => False) hb) (fun _ _ e => e), Hw.ownsRow_keptS h.b (Hw.Kept.of_below (S := fun _ => False) hb) (fun _ _ e => e), Below.next h.bel (Nat.le_refl _) hb⟩
theorem Own2.addA {w1 wr w8 : World} {A B : List Value} {lv ev v8 x : Value} {o : Obj} (h : Own2 w1 A lv B ev wr) (hown : w8.ownsRow w1.heap.size 9 1 v8 (A.length + 1) (A ++ [x])) (hg : World.grownBy (wr.alloc o) w8 lv.ownBlock) : Own2 w1 (A ++ [x]) v8 B ev w8 where
  a := by rw [List.length_append]; exact hown
  b := by
    refine Hw.ownsRow_keptS h.b (((Hw.Kept.refl (fun k => some k = lv.ownBlock) wr).alloc o).trans (Hw.Kept.of_grown hg) (fun _ _ e => e)) (fun k e e' => ?_)
    obtain ⟨c, hc⟩ := Hw.ownsRow_cells h.b e
    obtain ⟨c', hc'⟩ := Hw.ownsRow_cells h.a e'.symm
    exact ne_types hc hc' (by decide) rfl
  bel := own_bel h.a h.bel hg
theorem Own2.addB {w1 wr w8 : World} {A B : List Value} {lv ev v8 x : Value} {o : Obj} (h : Own2 w1 A lv B ev wr) (hown : w8.ownsRow w1.heap.size 3 1 v8 (B.length + 1) (B ++ [x])) (hg : World.grownBy (wr.alloc o) w8 ev.ownBlock) : Own2 w1 A lv (B ++ [x]) v8 w8 where
  b := by rw [List.length_append]; exact hown
  a := by
    refine Hw.ownsRow_keptS h.a (((Hw.Kept.refl (fun k => some k = ev.ownBlock) wr).alloc o).trans (Hw.Kept.of_grown hg) (fun _ _ e => e)) (fun k e e' => ?_)
    obtain ⟨c, hc⟩ := Hw.ownsRow_cells h.a e
    obtain ⟨c', hc'⟩ := Hw.ownsRow_cells h.b e'.symm
    exact ne_types hc hc' (by decide) rfl
  bel := own_bel h.b h.bel hg
def intV (n : Nat) : Value := .int .i64 (n : Int)
abbrev OpnI (w1 : World) (L : List (List UInt8)) (lv ev : Value) (wr : World) : Prop := Own2 w1 (L.map strV) lv ((Hm.oEnds L).map intV) ev wr
def opV (lg : List UInt8) (k : Nat) (by_ : Int) (pb : Nat) (x c : UInt8) : Nat → Value
  | 0 | 3 | 14 => .string ⟨lg.toArray⟩
  | 1 | 4 | 15 => .int .i64 k
  | 2 => .string ⟨(lg.take k).toArray⟩
  | 5 => .int .u8 x.toNat
  | 6 => .int .i64 by_
  | 7 => .int .i64 pb
  | 8 => .int .i64 (1 + (pb : Int))
  | 9 => .int .u8 (1 + (pb : Int))
  | 10 => .int .u8 c.toNat
  | 12 => .string ⟨#[c]⟩
  | 13 => .string ⟨(lg.take k ++ [c]).toArray⟩
  | 16 => .int .i64 ((k : Int) + 1)
  | 17 => .string ⟨(lg.drop (k + 1)).toArray⟩
  | _ => .string ⟨(lg.take k ++ c :: lg.drop (k + 1)).toArray⟩
theorem obyte_back (w : World) (g : Nat) (c : UInt8) (h : w.cell? ⟨g, 0, none⟩ = some (.int .u8 c.toNat)) :
    (convert 72 9 (.slice (some ⟨g, 0, none⟩) 1 1)).run Tryz.prog w = .ok (.string ⟨#[c]⟩) w :=
  run_convert_bytes_back _ 72 9 5 ⟨g, 0, none⟩ 1 [c] Tryz.underlying72 Tryz.underlying5 Tryz.underlying9 (fun j hj => by
    have : j = 0 := by simp at hj; omega
    subst this
    simpa [Addr.add] using h)
theorem cutb_take (l : List UInt8) (k : Nat) : (⟨l.toArray⟩ : ByteArray).extract 0 k = ⟨(l.take k).toArray⟩ := by
  apply ByteArray.ext
  simp
theorem cutb_drop (l : List UInt8) (k n : Nat) (h : n = l.length) : (⟨l.toArray⟩ : ByteArray).extract k n = ⟨(l.drop k).toArray⟩ := by
  subst h
  apply ByteArray.ext
  simp
  rw [List.take_of_length_le (by rw [List.length_drop]; omega)]
theorem byteb_at (l : List UInt8) (j : Nat) (h : j < (⟨l.toArray⟩ : ByteArray).size) : (⟨l.toArray⟩ : ByteArray)[j] = l[j]'(by simpa [ByteArray.size] using h) := rfl
attribute [local go_sem] cutb_take byteb_at
theorem own_at {w : World} {base : Nat} {e : TypeId} {ad : Option Addr} {n m c : Nat} {xs : List Value} (h : w.ownsRow base e 1 (.slice ad n c) m xs) {j : Nat} {u : Value} (hj : xs[j]? = some u) : ∃ g, ad = some ⟨g, 0, none⟩ ∧ w.cell? ⟨g, j, none⟩ = some u := by
  have hF := Hw.ownsFrom_row h
  have hlt := (List.getElem?_eq_some_iff.1 hj).1
  rcases h.2 with ⟨hv, h0⟩ | ⟨g, cap, cur, hv, _⟩
  · have := h.1
    omega
  · cases hv
    have := Hw.ownsFrom_at hF hj
    rw [Nat.zero_add] at this
    exact ⟨g, rfl, this⟩
theorem info_int1 : (Tryz.prog.info? 3).map (fun i => (i.zero, i.size, i.bytes)) = some (some (.int .i64 0), 1, 8) := by kernel_rfl
set_option maxRecDepth 50000 in
set_option maxHeartbeats 8000000 in
theorem Opened_any (ad : Option Addr) (rows : List (List Int)) (cap : Nat) (ack at_ by_ : Int) (k0 : -9223372036854775808 ≤ ack) (k1 : ack ≤ 9223372036854775807) (a0 : -9223372036854775808 ≤ at_) (a1 : at_ ≤ 9223372036854775807) (y0 : -9223372036854775808 ≤ by_) (y1 : by_ ≤ 9223372036854775807) (w : World) (hT : Tabs w) (hr : RowsAt 7 w ad rows) :
    Calls Tryz.prog 14 #[.slice ad rows.length cap, .int .i64 ack, .int .i64 at_, .int .i64 by_] w fun e w' => e = .returned (.bool true) ∧ Below w.heap.size w w' := by
  have AW : Hid (∀ w, Tabs w → Calls Tryz.prog 18 #[] w fun e w' => e = .returned (.bool true) ∧ Below w.heap.size w w') := awake_any
  have HR : Hid (RowsAt 7 w ad rows) := hr
  have hmost := hr.most
  have PA : Hid (∀ n : Nat, 0 < n → n ≤ 4000000000 → ∀ w, Calls Tryz.prog 22 #[.int .i64 ack, .int .i64 n] w fun e w' => e = .returned (.int .i64 (Hm.pick ack n)) ∧ w' = w) := fun n h1 h2 w => pick_any ack n h1 h2 k0 k1 w
  have PT : Hid (∀ n : Nat, 0 < n → n ≤ 4000000000 → ∀ w, Calls Tryz.prog 22 #[.int .i64 at_, .int .i64 n] w fun e w' => e = .returned (.int .i64 (Hm.pick at_ n)) ∧ w' = w) := fun n h1 h2 w => pick_any at_ n h1 h2 a0 a1 w
  have PB : Hid (∀ w, Calls Tryz.prog 22 #[.int .i64 by_, .int .i64 255] w fun e w' => e = .returned (.int .i64 (Hm.pick by_ 255)) ∧ w' = w) := fun w => pick_any by_ 255 (by decide) (by decide) y0 y1 w
  clear hr k0 k1 a0 a1 y0 y1
  obtain ⟨i0, hi, hz0, hz1, hz2⟩ := info_parts info_str
  obtain ⟨j0, hj, hy0, hy1, hy2⟩ := info_parts info_int1
  go_enter Tryz.func14, Tryz.ntmps14
  go_wp2_with fail
  refine (AW.out _ hT).mono ?_
  rintro e w1 ⟨rfl, hb1⟩
  have HB1 : Hid (Below w.heap.size w w1) := hb1
  have HT1 : Hid (Tabs w1) := hT.next hb1
  clear hb1
  go_upto_block 0 with fail
  go_cut [10, 11, 12, 13] (fun tx lv ev ix wc => ∃ L : List (List UInt8), L.length ≤ 6 ∧ (∀ l ∈ L, ∃ m, (Hm.line m).2 = 0 ∧ (Hm.line m).1 = l) ∧ tx = .string ⟨(Hm.oPuts L).toArray⟩ ∧ OpnI w1 L lv ev wc)
  case first =>
    go_wp2
    go_loopw [10, 11, 12, 13] (fun tx lv ev ix wr => ∃ k : Nat, k ≤ rows.length ∧ k ≤ 6 ∧ tx = .string ⟨(Hm.oPuts (Hm.oLines (msOf (rows.take k)))).toArray⟩ ∧ ix = .int .i64 k ∧ OpnI w1 (Hm.oLines (msOf (rows.take k))) lv ev wr) (fun _ _ _ ix _ => 6 - (intOf ix).toNat)
    case atStart => exact ⟨0, by omega, by omega, rfl, rfl, ⟨World.ownsRow_nil _ _ _ _, World.ownsRow_nil _ _ _ _, Below.refl _ _⟩⟩
    case round =>
      obtain ⟨k, hk, hk6, rfl, rfl, hI⟩ := hrel
      have HI := show Hid _ from hI
      have HB : Hid (Below w.heap.size w wr) := Below.next HB1.out (Nat.le_refl _) hI.bel
      have hLl : (Hm.oLines (msOf (rows.take k))).length ≤ 6 := by
        have := Hm.oLines_len (msOf (rows.take k))
        have h2 : (msOf (rows.take k)).length = min k rows.length := by simp [msOf]
        omega
      have hpl := Hm.oPuts_len _ (Hm.oLines_short (msOf (rows.take k)))
      clear hI
      by_cases hlt : k < rows.length ∧ k < 6
      · obtain ⟨hlt, hlt6⟩ := hlt
        have hki : (k : Int) < (rows.length : Int) := by omega
        have hk6i : (k : Int) < 6 := by omega
        obtain ⟨r, hrk⟩ : ∃ r, rows[k]? = some r := ⟨_, List.getElem?_eq_getElem hlt⟩
        have hrm : r ∈ rows := List.mem_of_getElem? hrk
        have HTK : Hid (msOf (rows.take (k + 1)) = msOf (rows.take k) ++ [Hm.kmessage (rawOf r)]) := by
          show _ = _
          unfold msOf
          rw [List.take_add_one, hrk, List.map_append]; rfl
        obtain ⟨b, off, rfl, hcs⟩ := HR.out.cells k r hrk
        have hlo := HR.out.lo r hrm
        have hhi := HR.out.hi r hrm
        obtain ⟨r0, r1, r2, r3, r4, r5, r6, rfl⟩ := seven (HR.out.len r hrm)
        obtain ⟨d0, d1, d2, d3, d4, d5, d6⟩ := RowsAt.row7 hcs HB.out
        have hfit : RawFits (rawOf [r0, r1, r2, r3, r4, r5, r6]) := ⟨hlo r0 (by simp), hhi r0 (by simp), hlo r1 (by simp), hhi r1 (by simp), hlo r2 (by simp), hhi r2 (by simp), hlo r3 (by simp), hhi r3 (by simp), hlo r4 (by simp), hhi r4 (by simp), hlo r5 (by simp), hhi r5 (by simp), hlo r6 (by simp), hhi r6 (by simp)⟩
        have MS : Hid (∀ w, Calls Tryz.prog 19 #[.agg #[.int .i64 r0, .int .i64 r1, .int .i64 r2, .int .i64 r3, .int .i64 r4, .int .i64 r5, .int .i64 r6]] w fun e w' => e = .returned (.agg (msgCells (Hm.kmessage (rawOf [r0, r1, r2, r3, r4, r5, r6])))) ∧ Below w.heap.size w w') := fun w => kmessage_any (rawOf [r0, r1, r2, r3, r4, r5, r6]) hfit w
        have LN : Hid (∀ w, Tabs w → Calls Tryz.prog 20 #[.agg (msgCells (Hm.kmessage (rawOf [r0, r1, r2, r3, r4, r5, r6])))] w fun e w' => e = .returned (.tuple #[.string ⟨(Hm.line (Hm.kmessage (rawOf [r0, r1, r2, r3, r4, r5, r6]))).1.toArray⟩, .int .i64 (Hm.line (Hm.kmessage (rawOf [r0, r1, r2, r3, r4, r5, r6]))).2]) ∧ Below w.heap.size w w') := fun w hT => kmessage_line_any _ w hT
        generalize Hm.kmessage (rawOf [r0, r1, r2, r3, r4, r5, r6]) = m at HTK MS LN
        have hln : (Hm.line m).2 = 0 → (Hm.line m).1.length ≤ 200 := fun h => Hm.line_lenL h
        have HK1 : Hid (k + 1 ≤ rows.length) := hlt
        obtain ⟨mf, ms, mt, mh, ma, mp, mi, md, mx⟩ := m
        unfold msgCells at MS LN
        dsimp only at MS LN
        clear hcs hlo hhi hrk hrm hfit hlt hk
        go_wp2_with fail
        refine (MS.out _).mono ?_
        rintro e w4 ⟨rfl, hb4⟩
        have HI4 := show Hid _ from HI.out.next hb4
        have HB4 : Hid (Below w.heap.size w w4) := Below.next HB.out (Nat.le_refl _) hb4
        have HT4 : Hid (Tabs w4) := hT.next HB4.out
        clear hb4 d0 d1 d2 d3 d4 d5 d6
        go_wp2_with fail
        refine (LN.out _ HT4.out).mono ?_
        rintro e w5 ⟨rfl, hb5⟩
        have HI5 := show Hid _ from HI4.out.next hb5
        clear hb5
        by_cases he : (Hm.line ⟨mf, ms, mt, mh, ma, mp, mi, md, mx⟩).2 = 0
        · have hSl := hln he
          have HLN : Hid (Hm.oLines (msOf (rows.take (k + 1))) = Hm.oLines (msOf (rows.take k)) ++ [(Hm.line ⟨mf, ms, mt, mh, ma, mp, mi, md, mx⟩).1]) := by
            show _ = _
            rw [HTK.out, Hm.oLines_yes he]
          rw [he]
          generalize (Hm.line ⟨mf, ms, mt, mh, ma, mp, mi, md, mx⟩).1 = S at hSl HLN
          have RC : Hid (∀ w, Calls Tryz.prog 38 #[.string ⟨#[80]⟩, .string ⟨S.toArray⟩] w fun e w' => e = .returned (.string ⟨(Hm.writeRec 80 S).toArray⟩) ∧ Below w.heap.size w w') := fun w => krecord_any 80 S (by omega) w
          have hwl : (Hm.writeRec 80 S).length ≤ 205 := by rw [Hm.writeRec_length]; omega
          have HPS := show Hid _ from Hm.oPuts_snoc (Hm.oLines (msOf (rows.take k))) S
          have HES := show Hid _ from Hm.oEnds_snoc (Hm.oLines (msOf (rows.take k))) S
          have hel := Hm.oEnds_length (Hm.oLines (msOf (rows.take k)))
          generalize Hm.oLines (msOf (rows.take k)) = L at HI5 HLN hLl HPS HES hel hpl
          have hpl2 : (Hm.oPuts L).length ≤ 1230 := by omega
          clear he hln HTK MS LN HI HI4
          go_wp2_with (at_builtin; refine wpList_append_own_at _ rfl _ _ 42 rfl w1.heap.size 9 i0 (.string ByteArray.empty) 1 16 Tryz.underlying42 hi hz0 hz1 hz2 rfl (by decide) _ _ _ rfl (HI5.out.a.alloc _) ⟨w5.heap.size, 0, none⟩ 1 1 [.string ⟨S.toArray⟩] rfl rfl (cell_one_new _ _ _) (fun x hx => by simp at hx; subst hx; rfl) (by unfold maxLen; rw [List.length_map]; omega) (by rw [List.length_map]; omega) (by have := HI5.out.bel.size; simp; omega) ?_; intro v6 w6 hown' hgrow hnil hat; have HI6 := show Hid _ from HI5.out.addA hown' hgrow; clear hown' hgrow hat hnil)
          refine (RC.out _).mono ?_
          rintro e w7 ⟨rfl, hb7⟩
          have HI7 := show Hid _ from HI6.out.next hb7
          clear hb7 HI6 HI5
          go_wp2_with (at_builtin; refine wpList_append_own_at _ rfl _ _ 44 rfl w1.heap.size 3 j0 (.int .i64 0) 1 8 Tryz.underlying44 hj hy0 hy1 hy2 rfl (by decide) _ _ _ rfl (HI7.out.b.alloc _) ⟨w7.heap.size, 0, none⟩ 1 1 [_] rfl rfl (cell_one_new _ _ _) (fun x hx => by simp at hx; subst hx; rfl) (by unfold maxLen; rw [List.length_map]; omega) (by rw [List.length_map]; omega) (by have := HI7.out.bel.size; simp; omega) ?_; intro v8 w8 hown' hgrow hnil hat; have HI8 := show Hid _ from HI7.out.addB hown' hgrow; clear hown' hgrow hat hnil)
          go_roundw
          case rel =>
            refine ⟨k + 1, HK1.out, by omega, by rw [HLN.out, HPS.out], int_eq (by simp), ?_⟩
            have := HI8.out
            rw [HLN.out]
            unfold OpnI
            rw [HES.out, HPS.out, List.map_append, List.map_append]
            simpa [strV, intV] using this
          case measure => simp [intOf]; omega
        · have f1 : (((Hm.line ⟨mf, ms, mt, mh, ma, mp, mi, md, mx⟩).2 : Int) == 0) = false := by simp; omega
          have HLN : Hid (Hm.oLines (msOf (rows.take (k + 1))) = Hm.oLines (msOf (rows.take k))) := by
            show _ = _
            rw [HTK.out, Hm.oLines_no he]
          clear he hln HTK MS LN
          go_wp2
          go_roundw
          case rel => exact ⟨k + 1, HK1.out, by omega, by rw [HLN.out], int_eq (by simp), by rw [HLN.out]; exact HI5.out⟩
          case measure => simp [intOf]; omega
      · have HLA := show Hid _ from Hm.oLines_all (msOf (rows.take k))
        have hcase : ((k : Int) < (rows.length : Int) ∧ ¬ (k : Int) < 6) ∨ ¬ (k : Int) < (rows.length : Int) := by omega
        generalize Hm.oLines (msOf (rows.take k)) = L at HI hLl hpl HLA
        clear hlt hk hk6
        rcases hcase with ⟨hki, hk6i⟩ | hki
        all_goals (
          go_wp2
          go_meet
          case rel => exact ⟨L, hLl, HLA.out, rfl, HI.out⟩)
  case rest =>
    obtain ⟨L, hLl, hLA, rfl, hI⟩ := hcut
    have HI := show Hid _ from hI
    have HLA := show Hid _ from hLA
    clear hI hLA
    have hpl := Hm.oPuts_len L (fun l hl => by obtain ⟨m, h1, rfl⟩ := HLA.out l hl; exact Hm.line_lenL h1)
    have hel := Hm.oEnds_length L
    have hpl2 : (Hm.oPuts L).length ≤ 1230 := by omega
    have hnl := Hm.pick_lt ack (n := L.length + 1) (by omega)
    have PK : Hid (∀ w, Calls Tryz.prog 22 #[.int .i64 ack, .int .i64 ((L.length : Int) + 1)] w fun e w' => e = .returned (.int .i64 (Hm.pick ack (L.length + 1))) ∧ w' = w) := fun w => by
      have := PA.out (L.length + 1) (by omega) (by omega) w
      rwa [Int.natCast_add, show ((1 : Nat) : Int) = 1 from rfl] at this
    generalize Hm.pick ack (L.length + 1) = n at PK hnl
    have hlv : ∃ la lc, u11 = .slice la L.length lc := by
      obtain ⟨a, c, e⟩ := own_form HI.out.a
      exact ⟨a, c, by rw [e, List.length_map]⟩
    obtain ⟨la, lc, rfl⟩ := hlv
    have hev : ∃ ea ec, u12 = .slice ea L.length ec := by
      obtain ⟨a, c, e⟩ := own_form HI.out.b
      exact ⟨a, c, by rw [e, List.length_map, hel]⟩
    obtain ⟨ea, ec, rfl⟩ := hev
    go_wp2_with fail
    refine (PK.out _).mono ?_
    rintro e w2 ⟨rfl, rfl⟩
    go_upto_if 70 with fail
    go_cut [10] (fun s10 wc => s10 = .string ⟨(Hm.oLog L n).toArray⟩ ∧ OpnI w1 L (.slice la L.length lc) (.slice ea L.length ec) wc)
    case first =>
      by_cases hn0 : n = 0
      · have qn : ¬ (0 : Int) < (n : Int) := by omega
        have HLG : Hid (Hm.oLog L n = Hm.oPuts L) := by
          show _ = _
          unfold Hm.oLog
          rw [if_pos hn0, List.append_nil]
        clear hn0
        go_wp2
        go_meet
        case rel => exact ⟨by rw [HLG.out], HI.out⟩
      · have qn : (0 : Int) < (n : Int) := by omega
        have HLG : Hid (Hm.oLog L n = Hm.oPuts L ++ Hm.writeRec 65 [0, UInt8.ofNat n]) := by
          show _ = _
          unfold Hm.oLog
          rw [if_neg hn0, Hm.twoB_small (by omega)]
        have hn7 : (n : Int) < 7 := by omega
        have hback := two_back w2 0 (UInt8.ofNat n) 0 (n : Int) rfl (by simp; omega)
        have RC : Hid (∀ w, Calls Tryz.prog 38 #[.string ⟨#[65]⟩, .string ⟨#[0, UInt8.ofNat n]⟩] w fun e w' => e = .returned (.string ⟨(Hm.writeRec 65 [0, UInt8.ofNat n]).toArray⟩) ∧ Below w.heap.size w w') := fun w => krecord_any 65 [0, UInt8.ofNat n] (by simp) w
        have hwl : (Hm.writeRec 65 [0, UInt8.ofNat n]).length ≤ 7 := by rw [Hm.writeRec_length]; simp
        clear hn0
        go_wp2_with fail
        refine (RC.out _).mono ?_
        rintro e w3 ⟨rfl, hb3⟩
        have HI3 := show Hid _ from (HI.out.next ((Below.refl _ _).alloc (Nat.le_refl _) _)).next hb3
        clear hb3
        go_wp2
        go_meet
        case rel => exact ⟨by rw [HLG.out], HI3.out⟩
    case rest =>
      obtain ⟨rfl, hIc⟩ := hcut
      have HIc := show Hid _ from hIc
      have HBc : Hid (Below w.heap.size w wc) := Below.next HB1.out (Nat.le_refl _) hIc.bel
      have HTc : Hid (Tabs wc) := hT.next HBc.out
      have hll : (Hm.oLog L n).length ≤ 1240 := by
        unfold Hm.oLog
        rw [List.length_append]
        split
        · simp; omega
        · rw [Hm.writeRec_length, Hm.twoB_length]; omega
      obtain ⟨hR1, hR2⟩ := Hm.opened_right HLA.out (by omega) (n := n) (by omega) 8
      have OP : Hid (∀ w, Tabs w → Calls Tryz.prog 34 #[.string ⟨(Hm.oLog L n).toArray⟩, .int .i64 8] w fun e w' => ∃ p rv wv, e = .returned (.tuple #[.pointer (some ⟨p, 0, none⟩), .int .i64 0]) ∧ w.heap.size ≤ p ∧ LogIn w' p (Hm.opens (Hm.oLog L n) 8) rv wv ∧ Below w.heap.size w w') := fun w hT => by
        have := Open_any ⟨(Hm.oLog L n).toArray⟩ (by show (Hm.oLog L n).toArray.size ≤ _; rw [List.size_toArray]; omega) 8 (by decide) (by decide) w hT
        rwa [show (⟨(Hm.oLog L n).toArray⟩ : ByteArray).data.toList = Hm.oLog L n by simp] at this
      generalize Hm.opens (Hm.oLog L n) 8 = G at OP hR1 hR2
      have HR1 := show Hid _ from hR1
      have HR2 := show Hid _ from hR2
      have hwl : G.waiting.length ≤ 900000 := by rw [hR2, List.length_drop]; omega
      clear hIc PK hR1 hR2
      go_wp2_with fail
      refine (OP.out _ HTc.out).mono ?_
      rintro e w3 ⟨p, rv, wv, rfl, hp, hl3, hb3⟩
      have HI3 := show Hid _ from HIc.out.next hb3
      have HL3 := show Hid _ from hl3
      have HB3 : Hid (Below w.heap.size w w3) := Below.next HBc.out (Nat.le_refl _) hb3
      clear hb3 hl3 hp
      go_wp2_with fail
      refine (Waiting_in p G rv wv w3 HL3.out hwl).mono ?_
      rintro e w4 ⟨wa, rfl, ho4, hb4⟩
      have HI4 := show Hid _ from HI3.out.next hb4
      have HL4 := show Hid _ from HL3.out.below hb4
      have HB4 : Hid (Below w.heap.size w w4) := Below.next HB3.out (Nat.le_refl _) hb4
      rw [HR2.out] at ho4
      have HO4 := show Hid _ from ho4
      clear hb4 ho4
      have hnl2 : n ≤ L.length := by omega
      have hF := Hw.ownsFrom_row HI4.out.a
      have SM : Hid (Calls Tryz.prog 29 #[wa, cutV la n L.length lc] w4 fun e w' => e = .returned (.bool true) ∧ Below w4.heap.size w4 w') := by
        have hB := ownsFrom_cut hF (lo := n) (hi := L.length) (by omega) (by rw [List.length_map]; omega)
        rw [List.take_of_length_le (by rw [List.length_drop, List.length_map]; omega), ← List.map_drop] at hB
        have hdl : (L.drop n).length ≤ 1000000000 := by rw [List.length_drop]; omega
        have := same_from (L.drop n) (L.drop n) wa _ _ _ w4 (Hw.ownsFrom_row HO4.out) hB hdl hdl
        rwa [decide_eq_true rfl] at this
      clear hF
      go_wp2_with fail
      refine SM.out.mono ?_
      rintro e w5 ⟨rfl, hb5⟩
      have HI5 := show Hid _ from HI4.out.next hb5
      have HL5 := show Hid _ from HL4.out.below hb5
      have HB5 : Hid (Below w.heap.size w w5) := Below.next HB4.out (Nat.le_refl _) hb5
      clear hb5 SM HL4 HI4 HB4
      go_wp2_with fail
      refine (Bytes_in p G rv wv w5 HL5.out).mono ?_
      rintro e w6 ⟨rfl, rfl⟩
      rw [HR1.out]
      have HLG : Hid (∃ t, Hm.oLog L n = Hm.oPuts L ++ t) := ⟨_, rfl⟩
      generalize Hm.oLog L n = lg at hll HLG HR1 ⊢
      by_cases hlz : lg = []
      · subst hlz
        go_wp2
        go_ret
        exact ⟨rfl, HB5.out⟩
      have hne : (lg == []) = false := beq_eq_false_iff_ne.2 hlz
      have hlp : 0 < lg.length := List.length_pos_iff.2 hlz
      have hk := Hm.pick_lt at_ (n := lg.length) hlp
      have PK : Hid (∀ w, Calls Tryz.prog 22 #[.int .i64 at_, .int .i64 (lg.length : Int)] w fun e w' => e = .returned (.int .i64 (Hm.pick at_ lg.length)) ∧ w' = w) := fun w => PT.out lg.length hlp (by omega) w
      generalize Hm.pick at_ lg.length = k at PK hk
      have hpb := Hm.pick_lt by_ (n := 255) (by decide)
      generalize Hm.pick by_ 255 = pb at PB hpb
      clear hlz PT PA
      go_wp2_with fail
      refine (PK.out _).mono ?_
      rintro e w6 ⟨rfl, rfl⟩
      obtain ⟨x, hx⟩ : ∃ x, lg[k]? = some x := ⟨_, List.getElem?_eq_getElem hk⟩
      obtain ⟨c, hc⟩ : ∃ c : UInt8, bits .xor .u8 (x.toNat : Int) (1 + (pb : Int)) = (c.toNat : Int) := by
        refine ⟨UInt8.ofNat (x.toNat ^^^ (1 + pb)), ?_⟩
        have h1 : x.toNat < 256 := x.toNat_lt
        have h2 : x.toNat ^^^ (1 + pb) < 2 ^ 8 := Nat.xor_lt_two_pow (by omega) (by omega)
        have h3 := u8_xor_nat x.toNat (1 + pb) h1 (by omega)
        rw [show ((1 + pb : Nat) : Int) = 1 + (pb : Int) by omega] at h3
        have h4 : (UInt8.ofNat (x.toNat ^^^ (1 + pb))).toNat = x.toNat ^^^ (1 + pb) := by
          rw [UInt8.toNat_ofNat']
          exact Nat.mod_eq_of_lt h2
        rw [h3, h4]
      have hxk : lg[k] = x := by have := List.getElem?_eq_getElem hk; rw [hx] at this; exact (Option.some.inj this).symm
      have hki : (k : Int) < (lg.length : Int) := by omega
      have hki2 : (k : Int) ≤ (lg.length : Int) := by omega
      have hki3 : (k : Int) + 1 ≤ (lg.length : Int) := by omega
      have hcd : (⟨lg.toArray⟩ : ByteArray).extract (k + 1) lg.length = ⟨(lg.drop (k + 1)).toArray⟩ := cutb_drop lg (k + 1) _ rfl
      have OP2 : Hid (∀ w, Tabs w → Calls Tryz.prog 34 #[.string ⟨(lg.take k ++ c :: lg.drop (k + 1)).toArray⟩, .int .i64 8] w fun e w' => ∃ p rv wv, e = .returned (.tuple #[.pointer (some ⟨p, 0, none⟩), .int .i64 0]) ∧ w.heap.size ≤ p ∧ LogIn w' p (Hm.opens (lg.take k ++ c :: lg.drop (k + 1)) 8) rv wv ∧ Below w.heap.size w w') := fun w hT => by
        have := Open_any ⟨(lg.take k ++ c :: lg.drop (k + 1)).toArray⟩ (by show (lg.take k ++ c :: lg.drop (k + 1)).toArray.size ≤ _; rw [List.size_toArray, List.length_append, List.length_take, List.length_cons, List.length_drop]; omega) 8 (by decide) (by decide) w hT
        rwa [show (⟨(lg.take k ++ c :: lg.drop (k + 1)).toArray⟩ : ByteArray).data.toList = lg.take k ++ c :: lg.drop (k + 1) by simp] at this
      go_wp2_with fail
      obtain ⟨opX, hopX⟩ : ∃ X : Nat → Value, X = fun j => match j with | 0 => u115 | 1 => u116 | 2 => u117 | 3 => u118 | 4 => u119 | 5 => u120 | 6 => u121 | 7 => u122 | 8 => u123 | 9 => u124 | 10 => u125 | 11 => u126 | 12 => u127 | 13 => u128 | 14 => u129 | 15 => u130 | 16 => u131 | 17 => u132 | 18 => u133 | _ => undef := ⟨_, rfl⟩
      refine Hw.region_slots0 [(115, 0), (116, 1), (117, 2), (118, 3), (119, 4), (120, 5), (121, 6), (122, 7), (123, 8), (124, 9), (125, 10), (126, 11), (127, 12), (128, 13), (129, 14), (130, 15), (131, 16), (132, 17), (133, 18), (23, 19)] opX (Hw.DrS (opV lg k by_ pb x c) 11 (.cells #[.int .u8 c.toNat] 5 (0, 0)) (fun a => .slice (some a) 1 1) w6) mixed (by kernel_rfl) (by rw [hopX]; simp only [Hw.putAll, List.setIfInBounds_toArray, List.set_cons_succ, List.set_cons_zero]) Hw.DrS.start ?_ ?_
      rintro LD X w' i hD hi hdep hno
      have hi20 : i < 20 := hi
      have HD : Hid (Hw.DrS (opV lg k by_ pb x c) 11 (.cells #[.int .u8 c.toNat] 5 (0, 0)) (fun a => .slice (some a) 1 1) w6 LD X w') := hD
      clear hD hi hno HI5 HL5 HB5 OP2 PK
      rcases (by omega : i = 0 ∨ i = 1 ∨ i = 2 ∨ i = 3 ∨ i = 4 ∨ i = 5 ∨ i = 6 ∨ i = 7 ∨ i = 8 ∨ i = 9 ∨ i = 10 ∨ i = 11 ∨ i = 12 ∨ i = 13 ∨ i = 14 ∨ i = 15 ∨ i = 16 ∨ i = 17 ∨ i = 18 ∨ i = 19) with h | h | h | h | h | h | h | h | h | h | h | h | h | h | h | h | h | h | h | h <;> subst h
      · clear hdep
        simp only [Hw.putAll, List.setIfInBounds_toArray, List.set_cons_succ, List.set_cons_zero]
        refine wpOp_step rfl (fun K hK => ?_)
        go_simp
        exact hK _ _ ⟨Hw.upd X 0 (opV lg k by_ pb x c 0), by simp [Hw.upd, opV], HD.out.step 0 (by decide) rfl⟩
      · clear hdep
        simp only [Hw.putAll, List.setIfInBounds_toArray, List.set_cons_succ, List.set_cons_zero]
        refine wpOp_step rfl (fun K hK => ?_)
        go_simp
        exact hK _ _ ⟨Hw.upd X 1 (opV lg k by_ pb x c 1), by simp [Hw.upd, opV], HD.out.step 1 (by decide) rfl⟩
      · have hd := hdep _ rfl
        have e0 := HD.out.f 0 (by decide) (hd ⟨0, .data⟩ (by simp) rfl)
        have e1 := HD.out.f 1 (by decide) (hd ⟨1, .data⟩ (by simp) rfl)
        clear hdep hd
        simp only [Hw.putAll, List.setIfInBounds_toArray, List.set_cons_succ, List.set_cons_zero]
        simp only [opV] at e0
        simp only [opV] at e1
        refine wpOp_step rfl (fun K hK => ?_)
        try simp only [e0]
        try simp only [e1]
        go_wp2_with fail
        exact ⟨Hw.upd X 2 (opV lg k by_ pb x c 2), by simp [Hw.upd, opV, e0, e1], HD.out.step 2 (by decide) rfl⟩
      · clear hdep
        simp only [Hw.putAll, List.setIfInBounds_toArray, List.set_cons_succ, List.set_cons_zero]
        refine wpOp_step rfl (fun K hK => ?_)
        go_simp
        exact hK _ _ ⟨Hw.upd X 3 (opV lg k by_ pb x c 3), by simp [Hw.upd, opV], HD.out.step 3 (by decide) rfl⟩
      · clear hdep
        simp only [Hw.putAll, List.setIfInBounds_toArray, List.set_cons_succ, List.set_cons_zero]
        refine wpOp_step rfl (fun K hK => ?_)
        go_simp
        exact hK _ _ ⟨Hw.upd X 4 (opV lg k by_ pb x c 4), by simp [Hw.upd, opV], HD.out.step 4 (by decide) rfl⟩
      · have hd := hdep _ rfl
        have e3 := HD.out.f 3 (by decide) (hd ⟨3, .data⟩ (by simp) rfl)
        have e4 := HD.out.f 4 (by decide) (hd ⟨4, .data⟩ (by simp) rfl)
        clear hdep hd
        simp only [Hw.putAll, List.setIfInBounds_toArray, List.set_cons_succ, List.set_cons_zero]
        simp only [opV] at e3
        simp only [opV] at e4
        refine wpOp_step rfl (fun K hK => ?_)
        try simp only [e3]
        try simp only [e4]
        go_wp2_with fail
        exact ⟨Hw.upd X 5 (opV lg k by_ pb x c 5), by simp [Hw.upd, opV, e3, e4], HD.out.step 5 (by decide) rfl⟩
      · clear hdep
        simp only [Hw.putAll, List.setIfInBounds_toArray, List.set_cons_succ, List.set_cons_zero]
        refine wpOp_step rfl (fun K hK => ?_)
        go_simp
        exact hK _ _ ⟨Hw.upd X 6 (opV lg k by_ pb x c 6), by simp [Hw.upd, opV], HD.out.step 6 (by decide) rfl⟩
      · have hd := hdep _ rfl
        have e6 := HD.out.f 6 (by decide) (hd ⟨6, .data⟩ (by simp) rfl)
        clear hdep hd
        simp only [Hw.putAll, List.setIfInBounds_toArray, List.set_cons_succ, List.set_cons_zero]
        simp only [opV] at e6
        refine wpOp_step rfl (fun K hK => ?_)
        try simp only [e6]
        go_wp2_with fail
        refine (PB.out _).mono ?_
        rintro e w2 ⟨rfl, rfl⟩
        go_wp2_with fail
        exact ⟨Hw.upd X 7 (opV lg k by_ pb x c 7), by simp [Hw.upd, opV, e6], HD.out.step 7 (by decide) rfl⟩
      · have hd := hdep _ rfl
        have e7 := HD.out.f 7 (by decide) (hd ⟨7, .data⟩ (by simp) rfl)
        clear hdep hd
        simp only [Hw.putAll, List.setIfInBounds_toArray, List.set_cons_succ, List.set_cons_zero]
        simp only [opV] at e7
        refine wpOp_step rfl (fun K hK => ?_)
        try simp only [e7]
        go_wp2_with fail
        exact ⟨Hw.upd X 8 (opV lg k by_ pb x c 8), by simp [Hw.upd, opV, e7], HD.out.step 8 (by decide) rfl⟩
      · have hd := hdep _ rfl
        have e8 := HD.out.f 8 (by decide) (hd ⟨8, .data⟩ (by simp) rfl)
        clear hdep hd
        simp only [Hw.putAll, List.setIfInBounds_toArray, List.set_cons_succ, List.set_cons_zero]
        simp only [opV] at e8
        refine wpOp_step rfl (fun K hK => ?_)
        try simp only [e8]
        go_wp2_with fail
        exact ⟨Hw.upd X 9 (opV lg k by_ pb x c 9), by simp [Hw.upd, opV, e8], HD.out.step 9 (by decide) rfl⟩
      · have hd := hdep _ rfl
        have e5 := HD.out.f 5 (by decide) (hd ⟨5, .data⟩ (by simp) rfl)
        have e9 := HD.out.f 9 (by decide) (hd ⟨9, .data⟩ (by simp) rfl)
        clear hdep hd
        simp only [Hw.putAll, List.setIfInBounds_toArray, List.set_cons_succ, List.set_cons_zero]
        simp only [opV] at e5
        simp only [opV] at e9
        refine wpOp_step rfl (fun K hK => ?_)
        try simp only [e5]
        try simp only [e9]
        go_wp2_with fail
        exact ⟨Hw.upd X 10 (opV lg k by_ pb x c 10), by simp [Hw.upd, opV, e5, e9], HD.out.step 10 (by decide) rfl⟩
      · have hd := hdep _ rfl
        have e10 := HD.out.f 10 (by decide) (hd ⟨10, .data⟩ (by simp) rfl)
        clear hdep hd
        simp only [Hw.putAll, List.setIfInBounds_toArray, List.set_cons_succ, List.set_cons_zero]
        simp only [opV] at e10
        refine wpOp_step rfl (fun K hK => ?_)
        try simp only [e10]
        go_wp2_with fail
        exact ⟨Hw.upd X 11 (.slice (some ⟨w'.heap.size, 0, none⟩) 1 1), by simp [Hw.upd, e10], HD.out.alloc⟩
      · have hd := hdep _ rfl
        obtain ⟨g, e11, hg1, hg2⟩ := HD.out.fs (hd ⟨11, .data⟩ (by simp) rfl)
        clear hdep hd
        simp only [Hw.putAll, List.setIfInBounds_toArray, List.set_cons_succ, List.set_cons_zero]
        have hcell : w'.cell? ⟨g, 0, none⟩ = some (.int .u8 c.toNat) := by simp [World.cell?, hg2]
        have hbk := obyte_back w' g c hcell
        refine wpOp_step rfl (fun K hK => ?_)
        try simp only [e11]
        go_wp2_with fail
        exact ⟨Hw.upd X 12 (opV lg k by_ pb x c 12), by simp [Hw.upd, opV, e11], HD.out.step 12 (by decide) rfl⟩
      · have hd := hdep _ rfl
        have e2 := HD.out.f 2 (by decide) (hd ⟨2, .data⟩ (by simp) rfl)
        have e12 := HD.out.f 12 (by decide) (hd ⟨12, .data⟩ (by simp) rfl)
        clear hdep hd
        simp only [Hw.putAll, List.setIfInBounds_toArray, List.set_cons_succ, List.set_cons_zero]
        simp only [opV] at e2
        simp only [opV] at e12
        refine wpOp_step rfl (fun K hK => ?_)
        try simp only [e2]
        try simp only [e12]
        go_wp2_with fail
        exact ⟨Hw.upd X 13 (opV lg k by_ pb x c 13), by simp [Hw.upd, opV, e2, e12], HD.out.step 13 (by decide) rfl⟩
      · clear hdep
        simp only [Hw.putAll, List.setIfInBounds_toArray, List.set_cons_succ, List.set_cons_zero]
        refine wpOp_step rfl (fun K hK => ?_)
        go_simp
        exact hK _ _ ⟨Hw.upd X 14 (opV lg k by_ pb x c 14), by simp [Hw.upd, opV], HD.out.step 14 (by decide) rfl⟩
      · clear hdep
        simp only [Hw.putAll, List.setIfInBounds_toArray, List.set_cons_succ, List.set_cons_zero]
        refine wpOp_step rfl (fun K hK => ?_)
        go_simp
        exact hK _ _ ⟨Hw.upd X 15 (opV lg k by_ pb x c 15), by simp [Hw.upd, opV], HD.out.step 15 (by decide) rfl⟩
      · have hd := hdep _ rfl
        have e15 := HD.out.f 15 (by decide) (hd ⟨15, .data⟩ (by simp) rfl)
        clear hdep hd
        simp only [Hw.putAll, List.setIfInBounds_toArray, List.set_cons_succ, List.set_cons_zero]
        simp only [opV] at e15
        refine wpOp_step rfl (fun K hK => ?_)
        try simp only [e15]
        go_wp2_with fail
        exact ⟨Hw.upd X 16 (opV lg k by_ pb x c 16), by simp [Hw.upd, opV, e15], HD.out.step 16 (by decide) rfl⟩
      · have hd := hdep _ rfl
        have e14 := HD.out.f 14 (by decide) (hd ⟨14, .data⟩ (by simp) rfl)
        have e16 := HD.out.f 16 (by decide) (hd ⟨16, .data⟩ (by simp) rfl)
        clear hdep hd
        simp only [Hw.putAll, List.setIfInBounds_toArray, List.set_cons_succ, List.set_cons_zero]
        simp only [opV] at e14
        simp only [opV] at e16
        refine wpOp_step rfl (fun K hK => ?_)
        try simp only [e14]
        try simp only [e16]
        go_wp2_with fail
        exact ⟨Hw.upd X 17 (opV lg k by_ pb x c 17), by simp [Hw.upd, opV, e14, e16], HD.out.step 17 (by decide) rfl⟩
      · have hd := hdep _ rfl
        have e13 := HD.out.f 13 (by decide) (hd ⟨13, .data⟩ (by simp) rfl)
        have e17 := HD.out.f 17 (by decide) (hd ⟨17, .data⟩ (by simp) rfl)
        clear hdep hd
        simp only [Hw.putAll, List.setIfInBounds_toArray, List.set_cons_succ, List.set_cons_zero]
        simp only [opV] at e13
        simp only [opV] at e17
        refine wpOp_step rfl (fun K hK => ?_)
        try simp only [e13]
        try simp only [e17]
        go_wp2_with fail
        exact ⟨Hw.upd X 18 (opV lg k by_ pb x c 18), by simp [Hw.upd, opV, e13, e17], HD.out.step 18 (by decide) rfl⟩
      · have hd := hdep _ rfl
        have e18 := HD.out.f 18 (by decide) (hd ⟨18, .data⟩ (by simp) rfl)
        clear hdep hd
        simp only [Hw.putAll, List.setIfInBounds_toArray, List.set_cons_succ, List.set_cons_zero]
        simp only [opV] at e18
        refine wpOp_step rfl (fun K hK => ?_)
        try simp only [e18]
        go_simp
        exact hK _ _ ⟨Hw.upd X 19 (opV lg k by_ pb x c 19), by simp [Hw.upd, opV, e18], HD.out.step 19 (by decide) rfl⟩
      rintro LD X w7 hD hall
      have e19 := hD.f 19 (by decide) (hall 19 (by decide))
      have hb7 : Below w6.heap.size w6 w7 := hD.bel
      have HI7 := show Hid _ from HI5.out.next hb7
      have HB7 : Hid (Below w.heap.size w w7) := Below.next HB5.out (Nat.le_refl _) hb7
      clear hb7 hD hall HI5 HB5 HL5 PB PK hcd hc hne
      simp only [opV] at e19
      simp only [Hw.putAll, List.setIfInBounds_toArray, List.set_cons_succ, List.set_cons_zero, e19]
      clear e19
      have HSP := show Hid _ from fun (j : Nat) (h1 : j ≤ L.length) (h2 : (Hm.oPuts (L.take j)).length ≤ k) => HLG.out.elim fun t ht => Hm.opened_spoilt HLA.out (by omega) t ht (w := j) h1 h2 c 8
      have hspl : (lg.take k ++ c :: lg.drop (k + 1)).length = lg.length := by simp; omega
      generalize lg.take k ++ c :: lg.drop (k + 1) = sp at OP2 HSP hspl ⊢
      generalize Hm.opens sp 8 = G2 at OP2 HSP
      go_wp2_with fail
      refine (OP2.out _ (hT.next HB7.out)).mono ?_
      rintro e w8 ⟨p2, rv2, wv2, rfl, hp8, hl8, hb8⟩
      have HI8 := show Hid _ from HI7.out.next hb8
      have HL8 := show Hid _ from hl8
      have HB8 : Hid (Below w.heap.size w w8) := Below.next HB7.out (Nat.le_refl _) hb8
      clear hb8 hl8 hp8 HI7 HB7 OP2
      go_upto_block 2 with fail
      go_cut [26] (fun ix wc => ∃ j : Nat, j ≤ L.length ∧ (Hm.oPuts (L.take j)).length ≤ k ∧ ix = .int .i64 j ∧ wc = w8)
      case first =>
        go_wp2
        go_loopw [26] (fun ix wr => ∃ j : Nat, j ≤ L.length ∧ (Hm.oPuts (L.take j)).length ≤ k ∧ ix = .int .i64 j ∧ wr = w8) (fun ix _ => L.length - (intOf ix).toNat)
        case atStart => exact ⟨0, by omega, by simp [Hm.oPuts, Hm.flatR_nil], rfl, rfl⟩
        case round =>
          obtain ⟨j, hj, hjk, rfl, rfl⟩ := hrel
          by_cases hjl : j < L.length
          · have hji : (j : Int) < (L.length : Int) := by omega
            obtain ⟨eb, rfl, ce⟩ := own_at HI8.out.b (j := j) (u := intV (Hm.oPuts (L.take (j + 1))).length) (by rw [List.getElem?_map, Hm.oEnds_at hjl]; rfl)
            obtain ⟨en, hen⟩ : ∃ en, (Hm.oPuts (L.take (j + 1))).length = en := ⟨_, rfl⟩
            rw [hen] at ce
            unfold intV at ce
            have HEN := show Hid _ from hen
            clear hen
            by_cases hle : en ≤ k
            · have hei : (en : Int) ≤ (k : Int) := by omega
              go_wp2
              go_roundw
              case rel => exact ⟨j + 1, hjl, by rw [HEN.out]; exact hle, int_eq (by simp), by first | rfl | trivial⟩
              case measure => simp [intOf]; omega
            · have hei : ¬ (en : Int) ≤ (k : Int) := by omega
              go_wp2
              go_meet
              case rel => exact ⟨j, hj, hjk, rfl, rfl⟩
          · have hji : ¬ (j : Int) < (L.length : Int) := by omega
            go_wp2
            go_meet
            case rel => exact ⟨j, hj, hjk, rfl, rfl⟩
      case rest =>
        obtain ⟨j, hj, hjk, rfl, rfl⟩ := hcut
        have HS := show Hid _ from HSP.out j hj hjk
        have hst : (Hm.oPuts (L.take j)).length ≤ lg.length := by omega
        clear HSP
        go_upto_if 160 with fail
        go_cut [27] (fun s27 wd => s27 = .int .i64 (Hm.oPuts (L.take j)).length ∧ wd = wc)
        case first =>
          cases j with
          | zero =>
            go_wp2
            go_meet
            case rel => exact ⟨by simp [Hm.oPuts, Hm.flatR_nil], rfl⟩
          | succ i =>
            obtain ⟨eb, rfl, ce⟩ := own_at HI8.out.b (j := i) (u := intV (Hm.oPuts (L.take (i + 1))).length) (by rw [List.getElem?_map, Hm.oEnds_at hj]; rfl)
            unfold intV at ce
            have hi0 : (0 : Int) < (i : Int) + 1 := by omega
            have hi1 : (i : Int) < (L.length : Int) := by omega
            obtain ⟨en, hen⟩ : ∃ en, (Hm.oPuts (L.take (i + 1))).length = en := ⟨_, rfl⟩
            rw [hen] at ce
            have HEN := show Hid _ from hen
            clear hen HS hjk hst
            go_wp2
            go_meet
            case rel => exact ⟨by rw [HEN.out], rfl⟩
        case rest =>
          obtain ⟨rfl, rfl⟩ := hcut
          generalize (Hm.oPuts (L.take j)).length = st at HS hst hjk
          go_wp2_with fail
          refine (Bytes_in p2 G2 rv2 wv2 _ HL8.out).mono ?_
          rintro e w9 ⟨rfl, rfl⟩
          generalize G2.records = Q at HS
          have hsti : (st : Int) ≤ (lg.length : Int) := by omega
          rcases HS.out with hA | ⟨hB1, hB2⟩
          · subst hA
            clear HS
            go_wp2
            go_ret
            exact ⟨rfl, HB8.out⟩
          · have b1 : (st : Int) < (Q.length : Int) := by omega
            have b2 : (Q == lg.take st) = false := beq_eq_false_iff_ne.2 (fun e => by
              have := congrArg List.length e
              rw [List.length_take] at this
              omega)
            have b3 : (Q == sp.take Q.length) = true := by rw [← hB2]; simp
            have b4 : (Q.length : Int) ≤ (sp.length : Int) := by
              have := congrArg List.length hB2
              rw [List.length_take] at this
              omega
            clear HS hB1 hB2
            go_wp2
            go_ret
            exact ⟨rfl, HB8.out⟩
end Go.Proofs.YtdlhbmncbmconaaGreatDoor

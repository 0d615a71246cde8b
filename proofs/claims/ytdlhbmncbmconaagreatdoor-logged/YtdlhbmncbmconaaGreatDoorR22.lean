/- Contract: fill (of Logged). -/
import Derived.Test.YtdlhbmncbmconaaGreatDoorR21
import Derived.Test.YtdlhbmncbmconaaGreatDoorR13
import Derived.Deep.DeepCutAuto
import Derived.Deep.CutBlock
namespace Go.Proofs.YtdlhbmncbmconaaGreatDoor
open Go.RowKit Go.Sort
attribute [local go_sem] alloc_drewN setCell_drewN
structure FillI (W0 : World) (p : Nat) (g : Hm.Lg) (lines A : List (List UInt8)) (rv wv lv : Value) (wr : World) : Prop where
  bk : Hm.Book 4 g lines
  log : LogIn wr p g rv wv
  own : wr.ownsRow 11 9 1 lv A.length (A.map strV)
  bel : Below W0.heap.size W0 wr
  hp : W0.heap.size ≤ p
  hr : ∀ k, rv.ownBlock = some k → W0.heap.size ≤ k
  hw : ∀ k, wv.ownBlock = some k → W0.heap.size ≤ k
  hl : ∀ k, lv.ownBlock = some k → W0.heap.size ≤ k ∧ wv.ownBlock ≠ some k
theorem FillI.next {W0 wr wr' : World} {p : Nat} {g : Hm.Lg} {lines A : List (List UInt8)} {rv wv lv : Value} (h : FillI W0 p g lines A rv wv lv wr) (hb : Below wr.heap.size wr wr') : FillI W0 p g lines A rv wv lv wr' :=
  ⟨h.bk, h.log.below hb, Hw.ownsRow_keptS h.own (Hw.Kept.of_below (S := fun _ => False) hb) (fun _ _ e => e), Below.next h.bel (Nat.le_refl _) hb, h.hp, h.hr, h.hw, h.hl⟩
theorem FillI.apart {W0 wr : World} {p : Nat} {g : Hm.Lg} {lines A : List (List UInt8)} {rv wv lv : Value} (h : FillI W0 p g lines A rv wv lv wr) {k : Nat} (hk : lv.ownBlock = some k) : k ≠ p ∧ rv.ownBlock ≠ some k ∧ wv.ownBlock ≠ some k ∧ k < wr.heap.size := by
  obtain ⟨cur, hc⟩ := Hw.ownsRow_cells h.own hk
  refine ⟨ne_types hc h.log.row (by decide), fun e => ?_, (h.hl k hk).2, (Array.getElem?_eq_some_iff.1 hc).1⟩
  obtain ⟨cur', hc'⟩ := Hw.ownsRow_cells h.log.recs e
  exact ne_types hc hc' (by decide) rfl
theorem FillI.step {W0 wr wr' : World} {p : Nat} {g g' : Hm.Lg} {lines lines' A : List (List UInt8)} {rv wv lv rv' wv' : Value} (h : FillI W0 p g lines A rv wv lv wr) (hs : StepL p rv wv wr rv' wv' wr') (hl : LogIn wr' p g' rv' wv') (hb : Hm.Book 4 g' lines') : FillI W0 p g' lines' A rv' wv' lv wr' where
  bk := hb
  log := hl
  own := Hw.ownsRow_keptS h.own hs.kept (fun k e s => by
    obtain ⟨a1, a2, a3, _⟩ := h.apart e
    rcases s with s | s | s
    · exact a1 s
    · exact a2 s
    · exact a3 s)
  bel := h.bel.trans (hs.kept.below (fun k _ s => by
    rcases s with s | s | s
    · rw [s]; exact h.hp
    · exact h.hr k s
    · exact h.hw k s) h.bel.size)
  hp := h.hp
  hr k e := by
    rcases hs.lr k e with e | e
    · exact h.hr k e
    · exact Nat.le_trans h.bel.size e
  hw k e := by
    rcases hs.lw k e with e | e
    · exact h.hw k e
    · exact Nat.le_trans h.bel.size e
  hl k e := by
    obtain ⟨a1, a2, a3, a4⟩ := h.apart e
    refine ⟨(h.hl k e).1, fun e' => ?_⟩
    rcases hs.lw k e' with e' | e'
    · exact a3 e'
    · omega
theorem FillI.add {W0 wr w8 : World} {p : Nat} {g : Hm.Lg} {lines A : List (List UInt8)} {rv wv lv v8 : Value} {x : List UInt8} {o : Obj} (h : FillI W0 p g lines A rv wv lv wr) (hown : w8.ownsRow 11 9 1 v8 (A.length + 1) (A.map strV ++ [strV x])) (hg : World.grownBy (wr.alloc o) w8 lv.ownBlock) (hat : v8.ownBlock = lv.ownBlock ∨ v8.ownBlock = some (wr.alloc o).heap.size) : FillI W0 p g lines (A ++ [x]) rv wv v8 w8 := by
  have K : Hw.Kept (fun k => some k = lv.ownBlock) wr w8 := ((Hw.Kept.refl (fun k => some k = lv.ownBlock) wr).alloc o).trans (Hw.Kept.of_grown hg) (fun _ _ e => e)
  refine ⟨h.bk, h.log.keep K (fun e => (h.apart e.symm).1 rfl) (fun k e e' => (h.apart e'.symm).2.1 e) (fun k e e' => (h.apart e'.symm).2.2.1 e), ?_, h.bel.trans (K.below (fun k _ e => (h.hl k e.symm).1) h.bel.size), h.hp, h.hr, h.hw, fun k e => ?_⟩
  · rw [List.length_append, List.map_append]; exact hown
  · rcases hat with hat | hat
    · exact h.hl k (hat ▸ e)
    · rw [hat] at e
      have hk : wr.heap.size < k := by
        have := Option.some.inj e
        simp at this
        omega
      refine ⟨Nat.le_trans h.bel.size (Nat.le_of_lt hk), fun e' => ?_⟩
      obtain ⟨_, cur, hc⟩ := Hw.ownsFrom_cells h.log.wai e'
      have := (Array.getElem?_eq_some_iff.1 hc).1
      omega
theorem FillI.small {W0 wr : World} {p : Nat} {g : Hm.Lg} {lines A : List (List UInt8)} {rv wv lv : Value} (h : FillI W0 p g lines A rv wv lv wr) (h1 : lines.length ≤ 41) (h2 : g.records.length ≤ 20000) : LgSmall g := by
  have a := h.bk.waits
  have b := h.bk.had
  have c := h.bk.room
  exact ⟨by omega, by omega, by omega, by omega⟩
end Go.Proofs.YtdlhbmncbmconaaGreatDoor
namespace Go.Hm
theorem put_err {g : Lg} {m : Msg} (h : ¬ (line m).2 = 0) : g.put m = (g, 0, (line m).2) := by unfold Lg.put; rw [if_pos h]
theorem put_full {g : Lg} {m : Msg} {lines : List (List UInt8)} (hb : Book 4 g lines) (h : (line m).2 = 0) (hf : g.had + 4 ≤ lines.length) : g.put m = (g, 0, 12) := by
  unfold Lg.put
  rw [if_neg (by simp [h]), if_pos (.inl (by rw [hb.waits, hb.room]; omega))]
theorem put_add {g : Lg} {m : Msg} {lines : List (List UInt8)} (hb : Book 4 g lines) (h : (line m).2 = 0) (hf : ¬ g.had + 4 ≤ lines.length) (hl : lines.length ≤ 41) : g.put m = (g.add (line m).1, lines.length + 1, 0) := by
  unfold Lg.put
  have := hb.waits
  have := hb.room
  have := hb.messages
  have := hb.had
  rw [if_neg (by simp [h]), if_neg (by omega), hb.messages]
theorem ack_yes {g : Lg} {lines : List (List UInt8)} (hb : Book 4 g lines) {q : Nat} (h1 : g.had < q) (h2 : q ≤ lines.length) : g.ack (q : Int) = (g.ackTo q, 0) := by
  unfold Lg.ack
  rw [if_neg (by rw [hb.messages]; omega), Int.toNat_natCast]
theorem ack_no {g : Lg} {lines : List (List UInt8)} (hb : Book 4 g lines) {q : Nat} (h : ¬ (g.had < q ∧ q ≤ lines.length)) : g.ack (q : Int) = (g, 10) := by
  unfold Lg.ack
  rw [if_pos (by rw [hb.messages]; omega)]
end Go.Hm
namespace Go.Proofs.YtdlhbmncbmconaaGreatDoor
open Go.RowKit Go.Sort
attribute [local go_sem] alloc_drewN setCell_drewN
set_option maxRecDepth 50000 in
set_option maxHeartbeats 8000000 in
theorem fill_any (p : Nat) (ad : Option Addr) (rows : List (List Int)) (cap : Nat) (ad2 : Option Addr) (ks : List Int) (cap2 : Nat) (W0 w : World) (hT : Tabs W0) (hW : Below W0.heap.size W0 w) (hp : W0.heap.size ≤ p) (hlog : LogIn w p (Hm.Lg.fresh 4) (.slice none 0 0) (.slice none 0 0)) (hr : RowsAt 7 W0 ad rows) (hk : IntsAt W0 ad2 ks) :
    Calls Tryz.prog 35 #[.pointer (some ⟨p, 0, none⟩), .slice ad rows.length cap, .slice ad2 ks.length cap2] w fun e w' => ∃ (g : Hm.Lg) (lines : List (List UInt8)) (rv wv lv : Value), e = .returned (.tuple #[lv, .int .i64 g.had, .bool true]) ∧ FillI W0 p g lines lines rv wv lv w' ∧ lines.length ≤ 40 ∧ g.records.length ≤ 12000 := by
  have HR : Hid (RowsAt 7 W0 ad rows) := hr
  have HK : Hid (IntsAt W0 ad2 ks) := hk
  have hmost := hr.most
  have hmany := hk.many
  have HT0 : Hid (Tabs W0) := hT
  have HF0 : Hid (FillI W0 p (Hm.Lg.fresh 4) [] [] (.slice none 0 0) (.slice none 0 0) (.slice none 0 0) w) := ⟨Hm.Book.fresh 4, hlog, World.ownsRow_nil _ _ _ _, hW, hp, (fun _ e => by cases e), (fun _ e => by cases e), (fun _ e => by cases e)⟩
  clear hr hk hlog hW hp hT
  obtain ⟨i0, hi, hz0, hz1, hz2⟩ := info_parts info_str
  go_enter Tryz.func35, Tryz.ntmps35
  go_wp2
  go_loopw [9, 10, 11] (fun lv hd ix wr => ∃ (k : Nat) (g : Hm.Lg) (lines : List (List UInt8)) (rv wv : Value), k ≤ rows.length ∧ k ≤ 40 ∧ hd = .int .i64 g.had ∧ ix = .int .i64 k ∧ lines.length ≤ k ∧ g.records.length ≤ 300 * k ∧ FillI W0 p g lines lines rv wv lv wr) (fun _ _ ix _ => 40 - (intOf ix).toNat)
  case atStart => exact ⟨0, Hm.Lg.fresh 4, [], _, _, by omega, by omega, rfl, rfl, by simp, by simp [Hm.Lg.fresh], HF0.out⟩
  case round =>
    obtain ⟨k, g, lines, rv, wv, hk, hk40, rfl, rfl, hll, hrl, hI⟩ := hrel
    have HI := show Hid _ from hI
    have hlv : ∃ la lc, u9 = .slice la lines.length lc := by
      obtain ⟨a, c, e⟩ := own_form hI.own
      exact ⟨a, c, e⟩
    obtain ⟨la, lc, rfl⟩ := hlv
    have hhad := hI.bk.had
    clear hI
    by_cases hlt : k < rows.length ∧ k < 40
    · obtain ⟨hlt, hlt40⟩ := hlt
      have hki : (k : Int) < (rows.length : Int) := by omega
      have hk40i : (k : Int) < 40 := by omega
      obtain ⟨r, hrk⟩ : ∃ r, rows[k]? = some r := ⟨_, List.getElem?_eq_getElem hlt⟩
      have hrm : r ∈ rows := List.mem_of_getElem? hrk
      obtain ⟨b, off, rfl, hcs⟩ := HR.out.cells k r hrk
      have hlo := HR.out.lo r hrm
      have hhi := HR.out.hi r hrm
      obtain ⟨r0, r1, r2, r3, r4, r5, r6, rfl⟩ := seven (HR.out.len r hrm)
      obtain ⟨d0, d1, d2, d3, d4, d5, d6⟩ := RowsAt.row7 hcs HI.out.bel
      have hfit : RawFits (rawOf [r0, r1, r2, r3, r4, r5, r6]) := ⟨hlo r0 (by simp), hhi r0 (by simp), hlo r1 (by simp), hhi r1 (by simp), hlo r2 (by simp), hhi r2 (by simp), hlo r3 (by simp), hhi r3 (by simp), hlo r4 (by simp), hhi r4 (by simp), hlo r5 (by simp), hhi r5 (by simp), hlo r6 (by simp), hhi r6 (by simp)⟩
      have MS : Hid (∀ w, Calls Tryz.prog 19 #[.agg #[.int .i64 r0, .int .i64 r1, .int .i64 r2, .int .i64 r3, .int .i64 r4, .int .i64 r5, .int .i64 r6]] w fun e w' => e = .returned (.agg (msgCells (Hm.kmessage (rawOf [r0, r1, r2, r3, r4, r5, r6])))) ∧ Below w.heap.size w w') := fun w => kmessage_any (rawOf [r0, r1, r2, r3, r4, r5, r6]) hfit w
      have LN : Hid (∀ w, Tabs w → Calls Tryz.prog 20 #[.agg (msgCells (Hm.kmessage (rawOf [r0, r1, r2, r3, r4, r5, r6])))] w fun e w' => e = .returned (.tuple #[.string ⟨(Hm.line (Hm.kmessage (rawOf [r0, r1, r2, r3, r4, r5, r6]))).1.toArray⟩, .int .i64 (Hm.line (Hm.kmessage (rawOf [r0, r1, r2, r3, r4, r5, r6]))).2]) ∧ Below w.heap.size w w') := fun w hT => kmessage_line_any _ w hT
      have PU : Hid (∀ w, Tabs w → LogIn w p g rv wv → LgSmall g → Calls Tryz.prog 43 #[.pointer (some ⟨p, 0, none⟩), .agg (msgCells (Hm.kmessage (rawOf [r0, r1, r2, r3, r4, r5, r6])))] w fun e w' => e = .returned (.tuple #[.int .i64 (g.put (Hm.kmessage (rawOf [r0, r1, r2, r3, r4, r5, r6]))).2.1, .int .i64 (g.put (Hm.kmessage (rawOf [r0, r1, r2, r3, r4, r5, r6]))).2.2]) ∧ ∃ rv' wv', LogIn w' p (g.put (Hm.kmessage (rawOf [r0, r1, r2, r3, r4, r5, r6]))).1 rv' wv' ∧ StepL p rv wv w rv' wv' w') := fun w hT hl hg => by
        obtain ⟨h1, h2, h3, h4, h5, h6, h7⟩ := Hm.kmessage_small (rawOf [r0, r1, r2, r3, r4, r5, r6])
        exact Put_in p g rv wv w hT hl hg _ (by omega) (by omega) (by omega) (by omega) (by omega) (by omega) (by omega)
      generalize Hm.kmessage (rawOf [r0, r1, r2, r3, r4, r5, r6]) = m at MS LN PU
      have hln : (Hm.line m).2 = 0 → (Hm.line m).1.length ≤ 200 := fun h => Hm.line_lenL h
      have HK1 : Hid (k + 1 ≤ rows.length) := hlt
      obtain ⟨mf, ms, mt, mh, ma, mp, mi, md, mx⟩ := m
      unfold msgCells at MS LN PU
      dsimp only at MS LN PU
      clear hcs hlo hhi hrk hrm hfit hlt hk
      go_wp2_with fail
      refine (MS.out _).mono ?_
      rintro e w4 ⟨rfl, hb4⟩
      have HI4 := show Hid _ from HI.out.next hb4
      clear hb4 d0 d1 d2 d3 d4 d5 d6
      go_wp2_with fail
      refine (LN.out _ (HT0.out.next (HI4.out.bel.alloc HI4.out.bel.size _))).mono ?_
      rintro e w5 ⟨rfl, hb5⟩
      have hg5 : w5.heap[w4.heap.size]? = some (.cells #[.int .i64 mf, .int .i64 ms, .string ⟨mt.toArray⟩, .string ⟨mh.toArray⟩, .string ⟨ma.toArray⟩, .string ⟨mp.toArray⟩, .string ⟨mi.toArray⟩, .string ⟨md.toArray⟩, .string ⟨mx.toArray⟩] 29 (0, 0)) := (hb5.block _ (by simp)).trans (heap_alloc_new _ _)
      have HI5 := show Hid _ from (HI4.out.next ((Below.refl _ _).alloc (Nat.le_refl _) _)).next hb5
      obtain ⟨e0, e1, e2, e3, e4, e5, e6, e7, e8⟩ := cells9 hg5
      clear hb5 hg5
      go_wp2_with fail
      refine (PU.out _ (HT0.out.next HI5.out.bel) HI5.out.log (HI5.out.small (by omega) (by omega))).mono ?_
      rintro e w6 ⟨rfl, rv6, wv6, hl6, hs6⟩
      have HL6 := show Hid _ from hl6
      have HS6 := show Hid _ from hs6
      clear hl6 hs6 e0 e1 e2 e3 e4 e5 e6 e7 e8 PU LN MS HI4
      go_upto_block 2 with fail
      go_cut [9, 13, 14, 15, 16] (fun s9 _ _ _ _ wc => ∃ (g' : Hm.Lg) (lines' : List (List UInt8)) (rv' wv' : Value), FillI W0 p g' lines' lines' rv' wv' s9 wc ∧ g'.had = g.had ∧ lines'.length ≤ k + 1 ∧ g'.records.length ≤ 300 * k + 210)
      case first =>
        by_cases he : (Hm.line ⟨mf, ms, mt, mh, ma, mp, mi, md, mx⟩).2 = 0
        · have hSl := hln he
          by_cases hf : g.had + 4 ≤ lines.length
          · have hput := Hm.put_full HI5.out.bk he hf
            rw [hput] at HL6 ⊢
            have HI6 := show Hid _ from HI5.out.step HS6.out HL6.out HI5.out.bk
            rw [he]
            have q4 : (4 : Int) ≤ (lines.length : Int) - (g.had : Int) := by omega
            clear hput HL6 HS6 HI5 hln he hSl hf
            dsimp only
            go_wp2
            go_meet
            case rel => exact ⟨g, lines, rv6, wv6, HI6.out, rfl, by omega, by omega⟩
          · have hput := Hm.put_add HI5.out.bk he hf (by omega)
            rw [hput] at HL6 ⊢
            have HI6 := show Hid _ from HI5.out.step HS6.out HL6.out (HI5.out.bk.put he (by omega))
            rw [he]
            have q4 : ¬ (4 : Int) ≤ (lines.length : Int) - (g.had : Int) := by omega
            have hrl2 : (g.add (Hm.line ⟨mf, ms, mt, mh, ma, mp, mi, md, mx⟩).1).records.length ≤ 300 * k + 210 := by
              show (g.records ++ Hm.writeRec 80 _).length ≤ _
              rw [List.length_append, Hm.writeRec_length]
              omega
            clear hput HL6 HS6 HI5 hln he hf
            generalize (Hm.line ⟨mf, ms, mt, mh, ma, mp, mi, md, mx⟩).1 = S at HI6 hSl hrl2
            dsimp only
            go_wp2_with (at_builtin; refine wpList_append_own_at _ rfl _ _ 42 rfl 11 9 i0 (.string ByteArray.empty) 1 16 Tryz.underlying42 hi hz0 hz1 hz2 rfl (by decide) _ _ _ rfl (HI6.out.own.alloc _) ⟨w6.heap.size, 0, none⟩ 1 1 [.string ⟨S.toArray⟩] rfl rfl (cell_one_new _ _ _) (fun x hx => by simp at hx; subst hx; rfl) (by unfold maxLen; omega) (by omega) (by have := HI6.out.bel.size; have := HT0.out.size; simp; omega) ?_; intro v7 w7 hown' hgrow hnil hat; obtain ⟨a7, c7, rfl⟩ := own_form hown'; have HI7 := show Hid _ from HI6.out.add (x := S) hown' hgrow hat; clear hown' hgrow hat hnil)
            go_wp2
            go_meet
            case rel => exact ⟨g.add S, lines ++ [S], rv6, wv6, HI7.out, rfl, by simp; omega, hrl2⟩
        · have hput := Hm.put_err (g := g) he
          rw [hput] at HL6 ⊢
          have HI6 := show Hid _ from HI5.out.step HS6.out HL6.out HI5.out.bk
          have f1 : (((Hm.line ⟨mf, ms, mt, mh, ma, mp, mi, md, mx⟩).2 : Int) == 0) = false := by simp; omega
          clear hput HL6 HS6 HI5 hln he
          dsimp only
          generalize (Hm.line ⟨mf, ms, mt, mh, ma, mp, mi, md, mx⟩).2 = E at f1
          go_wp2
          go_meet
          case rel => exact ⟨g, lines, rv6, wv6, HI6.out, rfl, by omega, by omega⟩
      case rest =>
        obtain ⟨g2, lines2, rv2, wv2, hI2, hh2, hl2, hr2⟩ := hcut
        have HI2 := show Hid _ from hI2
        have HH2 := show Hid _ from hh2
        have hlv2 : ∃ la lc, u9 = .slice la lines2.length lc := by
          obtain ⟨a, c, e⟩ := own_form hI2.own
          exact ⟨a, c, e⟩
        obtain ⟨la2, lc2, rfl⟩ := hlv2
        have hhad2 := hI2.bk.had
        rw [hh2] at hhad2
        clear hI2 hh2 HI5 HL6 HS6 hln HI
        by_cases hka : k < ks.length
        · have hkai : (k : Int) < (ks.length : Int) := by omega
          obtain ⟨z, hzk⟩ : ∃ z, ks[k]? = some z := ⟨_, List.getElem?_eq_getElem hka⟩
          have hzm : z ∈ ks := List.mem_of_getElem? hzk
          obtain ⟨bz, oz, rfl, hcz⟩ := HK.out.at_ k z hzk
          have dz : wc.cell? ⟨bz, oz + k, none⟩ = some (.int .i64 z) := (HI2.out.bel.cell (p := ⟨bz, oz + k, none⟩) (block_lt_of_cell hcz)).trans hcz
          have hql := Hm.pick_lt z (n := 2 * lines2.length + 2) (by omega)
          have PK : Hid (∀ w, Calls Tryz.prog 22 #[.int .i64 z, .int .i64 (2 * (lines2.length : Int) + 2)] w fun e w' => e = .returned (.int .i64 (Hm.pick z (2 * lines2.length + 2))) ∧ w' = w) := fun w => by
            have := pick_any z (2 * lines2.length + 2) (by omega) (by omega) (HK.out.lo z hzm) (HK.out.hi z hzm) w
            rwa [show ((2 * lines2.length + 2 : Nat) : Int) = 2 * (lines2.length : Int) + 2 by omega] at this
          generalize Hm.pick z (2 * lines2.length + 2) = q at PK hql
          clear hzk hzm hcz hka
          go_wp2_with fail
          refine (PK.out _).mono ?_
          rintro e wd ⟨rfl, rfl⟩
          go_wp2_with fail
          refine (Ack_in p g2 rv2 wv2 wd HI2.out.log (HI2.out.small (by omega) (by omega)) (q : Int) (by omega) (by omega)).mono ?_
          rintro e w8 ⟨rfl, rv8, wv8, hl8, hs8⟩
          have HL8 := show Hid _ from hl8
          have HS8 := show Hid _ from hs8
          clear hl8 hs8 dz PK
          by_cases hq : g2.had < q ∧ q ≤ lines2.length
          · obtain ⟨hq1, hq2⟩ := hq
            have hack := Hm.ack_yes HI2.out.bk hq1 hq2
            rw [hack] at HL8 ⊢
            have HI8 := show Hid _ from HI2.out.step HS8.out HL8.out (HI2.out.bk.ack hq1 hq2 (by omega))
            have hr8 : (g2.ackTo q).records.length ≤ 300 * (k + 1) := by
              show (g2.records ++ Hm.writeRec 65 (Hm.twoB q)).length ≤ _
              rw [List.length_append, Hm.writeRec_length, Hm.twoB_length]
              omega
            rw [HH2.out] at hq1
            have q1 : (g.had : Int) < (q : Int) := by omega
            have q2 : (q : Int) ≤ (lines2.length : Int) := by omega
            clear hack HL8 HS8 HI2 hq1 hq2
            dsimp only
            go_wp2
            go_roundw
            case rel => exact ⟨k + 1, g2.ackTo q, lines2, rv8, wv8, HK1.out, by omega, rfl, int_eq (by simp), by omega, hr8, HI8.out⟩
            case measure => simp [intOf]; omega
          · have hack := Hm.ack_no HI2.out.bk hq
            rw [hack] at HL8 ⊢
            have HI8 := show Hid _ from HI2.out.step HS8.out HL8.out HI2.out.bk
            rw [HH2.out] at hq
            have hqq : ((g.had : Int) < (q : Int) ∧ ¬ (q : Int) ≤ (lines2.length : Int)) ∨ ¬ (g.had : Int) < (q : Int) := by omega
            clear hack HL8 HS8 HI2 hq
            dsimp only
            rcases hqq with ⟨q1, q2⟩ | q1
            all_goals (
              go_wp2
              go_roundw
              case rel => exact ⟨k + 1, g2, lines2, rv8, wv8, HK1.out, by omega, by rw [HH2.out], int_eq (by simp), by omega, by omega, HI8.out⟩
              case measure => simp [intOf]; omega)
        · have hkai : ¬ (k : Int) < (ks.length : Int) := by omega
          clear hka
          go_wp2
          go_roundw
          case rel => exact ⟨k + 1, g2, lines2, rv2, wv2, HK1.out, by omega, by rw [HH2.out], int_eq (by simp), by omega, by omega, HI2.out⟩
          case measure => simp [intOf]; omega
    · have hcase : ((k : Int) < (rows.length : Int) ∧ ¬ (k : Int) < 40) ∨ ¬ (k : Int) < (rows.length : Int) := by omega
      clear hlt hk
      rcases hcase with ⟨hki, hk40i⟩ | hki
      all_goals (
        go_wp2
        refine bodyPost_ret (v := .tuple #[.slice la lines.length lc, .int .i64 g.had, .bool true]) (by simp [results, Tryz.results35, go_sem]) rfl ?_
        exact ⟨g, lines, rv, wv, _, rfl, HI.out, by omega, by omega⟩)
end Go.Proofs.YtdlhbmncbmconaaGreatDoor

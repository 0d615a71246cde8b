/- Contract: Relayed. -/
import Derived.Test.YtdlhbmncbmconaaGreatDoorR29
import Derived.Test.YtdlhbmncbmconaaGreatDoorR15
import Derived.Deep.DeepCutAuto
import Derived.Deep.CutBlock
namespace Go.Proofs.YtdlhbmncbmconaaGreatDoor
open Go.RowKit Go.Sort
attribute [local go_sem] alloc_drewN setCell_drewN app_list
set_option maxRecDepth 50000 in
set_option maxHeartbeats 2000000 in
theorem relay_nof (r l : Option Addr) (s : ByteArray) (w : World) : Calls Tryz.prog 39 #[.pointer none, .pointer r, .pointer l, .string s, .int .i64 2000] w fun e w' => e = .returned (.tuple #[.string ⟨#[]⟩, .int .i64 10]) ∧ Below w.heap.size w w' := by
  go_enter Tryz.func39, Tryz.ntmps39
  go_wp2
  go_ret2
  exact ⟨rfl, (((Below.refl _ _).alloc (Nat.le_refl _) _).alloc (by simp) _).alloc (by simp; omega) _⟩
set_option maxRecDepth 50000 in
set_option maxHeartbeats 2000000 in
theorem relay_nor (f : Addr) (l : Option Addr) (s : ByteArray) (w : World) : Calls Tryz.prog 39 #[.pointer (some f), .pointer none, .pointer l, .string s, .int .i64 2000] w fun e w' => e = .returned (.tuple #[.string ⟨#[]⟩, .int .i64 10]) ∧ Below w.heap.size w w' := by
  go_enter Tryz.func39, Tryz.ntmps39
  go_wp2
  go_ret2
  exact ⟨rfl, (((Below.refl _ _).alloc (Nat.le_refl _) _).alloc (by simp) _).alloc (by simp; omega) _⟩
set_option maxRecDepth 50000 in
set_option maxHeartbeats 2000000 in
theorem relay_nol (f r : Addr) (s : ByteArray) (w : World) : Calls Tryz.prog 39 #[.pointer (some f), .pointer (some r), .pointer none, .string s, .int .i64 2000] w fun e w' => e = .returned (.tuple #[.string ⟨#[]⟩, .int .i64 10]) ∧ Below w.heap.size w w' := by
  go_enter Tryz.func39, Tryz.ntmps39
  go_wp2
  go_ret2
  exact ⟨rfl, (((Below.refl _ _).alloc (Nat.le_refl _) _).alloc (by simp) _).alloc (by simp; omega) _⟩
theorem own_nxt {w w' : World} {base : Nat} {e : TypeId} {v : Value} {n : Nat} {xs : List Value} (h : w.ownsRow base e 1 v n xs) (hb : Below w.heap.size w w') : w'.ownsRow base e 1 v n xs := Hw.ownsRow_keptS h (Hw.Kept.of_below (S := fun _ => False) hb) (fun _ _ e => e)
def okVal (z : OkMsg) : Hm.Msg := z.1
structure RelS (w1 : World) (lv : Value) (ls : List (List UInt8)) (wr : World) : Prop where
  own : wr.ownsRow w1.heap.size 9 1 lv ls.length (ls.map strV)
  bel : Below w1.heap.size w1 wr
theorem RelS.next {w1 wr wr' : World} {lv : Value} {ls : List (List UInt8)} (h : RelS w1 lv ls wr) (hb : Below wr.heap.size wr wr') : RelS w1 lv ls wr' :=
  ⟨Hw.ownsRow_keptS h.own (Hw.Kept.of_below (S := fun _ => False) hb) (fun _ _ e => e), Below.next h.bel (Nat.le_refl _) hb⟩
theorem RelS.add {w1 wr w8 : World} {lv v8 : Value} {ls : List (List UInt8)} {x : List UInt8} {o : Obj} (h : RelS w1 lv ls wr) (hown : w8.ownsRow w1.heap.size 9 1 v8 (ls.length + 1) (ls.map strV ++ [strV x])) (hg : World.grownBy (wr.alloc o) w8 lv.ownBlock) : RelS w1 v8 (ls ++ [x]) w8 :=
  ⟨by rw [List.length_append, List.map_append]; exact hown, own_bel h.own h.bel hg⟩
set_option maxRecDepth 50000 in
set_option maxHeartbeats 8000000 in
theorem Relayed_any (ad : Option Addr) (rows : List (List Int)) (cap : Nat) (grave : Int) (k0 : -9223372036854775808 ≤ grave) (k1 : grave ≤ 9223372036854775807) (w : World) (hT : Tabs w) (hr : RowsAt 7 w ad rows) :
    Calls Tryz.prog 15 #[.slice ad rows.length cap, .int .i64 grave] w fun e w' => e = .returned (.bool true) ∧ Below w.heap.size w w' := by
  have AW : Hid (∀ w, Tabs w → Calls Tryz.prog 18 #[] w fun e w' => e = .returned (.bool true) ∧ Below w.heap.size w w') := awake_any
  have NF : Hid (∀ w, 11 ≤ w.heap.size → Calls Tryz.prog 27 #[.int .i64 200] w fun e w' => e = .returned (.tuple #[.pointer (some ⟨w.heap.size, 0, none⟩), .int .i64 0]) ∧ FramesAt w' w.heap.size (Hm.Frs.fresh 200) (.slice none 0 0) ∧ Below w.heap.size w w') := fun w h => NewFrames_any 200 w h (by decide) (by decide)
  have SV : Hid (∀ w, Calls Tryz.prog 31 #[.int .i64 grave] w fun e w' => e = .returned (.string ⟨(Hm.sevName (Hm.pick grave 8)).toArray⟩) ∧ Below w.heap.size w w') := fun w => kseverity_any grave k0 k1 w
  have PK : Hid (∀ w, Calls Tryz.prog 22 #[.int .i64 grave, .int .i64 8] w fun e w' => e = .returned (.int .i64 (Hm.pick grave 8)) ∧ w' = w) := fun w => pick_any grave 8 (by decide) (by decide) k0 k1 w
  have hq := Hm.pick_lt grave (n := 8) (by decide)
  have hmade := Hm.newRules_made (Hm.relRules grave) (by simp [Hm.relRules])
  have hsl : (Hm.sevName (Hm.pick grave 8)).length ≤ 7 := (Hm.sev_one ⟨Hm.pick grave 8, hq⟩).2.2.1
  have NR : Hid (∀ w, Tabs w → Calls Tryz.prog 32 #[.string ⟨(42 :: 46 :: (Hm.sevName (Hm.pick grave 8) ++ [32, 107, 101, 101, 112, 10, 42, 46, 42, 32, 100, 114, 111, 112, 10])).toArray⟩] w fun e w' => Below w.heap.size w w' ∧ ∃ v, e = .returned (.tuple #[.pointer (some ⟨w.heap.size, 0, none⟩), .int .i64 0, .int .i64 0]) ∧ RulesAt w' w.heap.size ((Hm.relRules grave).map (·.rl)) v) := fun w hT => by
    rw [← Hm.relRules_text]
    have := NewRules_any ⟨(Hm.rText (Hm.relRules grave)).toArray⟩ w hT (by show (Hm.rText (Hm.relRules grave)).toArray.size ≤ _; rw [List.size_toArray, Hm.relRules_text]; simp; omega)
    rw [show (⟨(Hm.rText (Hm.relRules grave)).toArray⟩ : ByteArray).data.toList = Hm.rText (Hm.relRules grave) by simp, hmade] at this
    refine this.mono fun e w' ⟨h1, h2, v, h3⟩ => ⟨h1, v, h2, h3⟩
  have HKP : Hid (∀ x y : Nat, x < 24 → y < 8 → Hm.keeps ((Hm.relRules grave).map (·.rl)) x y = decide (y ≤ Hm.pick grave 8)) := fun x y hx hy => by rw [Hm.keeps_made _ hx hy, Hm.relRules_want]
  have HSM := show Hid _ from Hm.newRules_small hmade
  have HRN : Hid (((Hm.relRules grave).map (·.rl)).length ≤ 1000) := by show _ ≤ _; simp [Hm.relRules]
  have HR : Hid (RowsAt 7 w ad rows) := hr
  have hmost := hr.most
  clear hr k0 k1 hmade
  generalize (Hm.relRules grave).map (·.rl) = RL at NR HKP HSM HRN
  generalize Hm.sevName (Hm.pick grave 8) = sn at SV NR hsl
  generalize Hm.pick grave 8 = sv at PK hq HKP
  obtain ⟨i0, hi, hz0, hz1, hz2⟩ := info_parts info_str
  go_enter Tryz.func15, Tryz.ntmps15
  go_wp2_with fail
  refine (AW.out _ hT).mono ?_
  rintro e w1 ⟨rfl, hb1⟩
  have HB1 : Hid (Below w.heap.size w w1) := hb1
  have HT1 : Hid (Tabs w1) := hT.next hb1
  clear hb1
  go_wp2_with fail
  refine (NF.out _ HT1.out.size).mono ?_
  rintro e w2 ⟨rfl, hf2, hb2⟩
  have HF2 := show Hid _ from hf2
  have HB2 : Hid (Below w1.heap.size w1 w2) := hb2
  have HT2 : Hid (Tabs w2) := HT1.out.next hb2
  clear hb2 hf2
  go_wp2_with fail
  refine (SV.out _).mono ?_
  rintro e w3 ⟨rfl, hb3⟩
  have HF3 := show Hid _ from HF2.out.keep (S := fun _ => False) (Hw.Kept.of_below hb3) (fun e => e) (fun _ _ e => e)
  have HB3 : Hid (Below w1.heap.size w1 w3) := Below.next HB2.out (Nat.le_refl _) hb3
  have HT3 : Hid (Tabs w3) := HT2.out.next hb3
  clear hb3 HF2
  go_wp2_with fail
  refine (NR.out _ HT3.out).mono ?_
  rintro e w4 ⟨hb4, rlv, rfl, hr4⟩
  have HF4 := show Hid _ from HF3.out.keep (S := fun _ => False) (Hw.Kept.of_below hb4) (fun e => e) (fun _ _ e => e)
  have HB4 : Hid (Below w1.heap.size w1 w4) := Below.next HB3.out (Nat.le_refl _) hb4
  have HT4 : Hid (Tabs w4) := HT3.out.next hb4
  have HR4 := show Hid _ from hr4
  clear hb4 hr4 HF3
  go_wp2_with fail
  refine (Open_none 8 (by decide) (by decide) _ HT4.out.size).mono ?_
  rintro e w5 ⟨pl, rfl, hp5, hl5, hb5⟩
  have HF5 := show Hid _ from HF4.out.keep (S := fun _ => False) (Hw.Kept.of_below hb5) (fun e => e) (fun _ _ e => e)
  have HR5 := show Hid _ from HR4.out.below hb5
  have HL5 := show Hid _ from LogIn.of hl5
  have HB5 : Hid (Below w.heap.size w w5) := Below.next (Below.next HB1.out (Nat.le_refl _) HB4.out) (Nat.le_refl _) hb5
  have HT5 : Hid (Tabs w5) := HT4.out.next hb5
  have HPL : Hid (w.heap.size ≤ pl) := by
    have := HB1.out.size
    have := HB4.out.size
    show _ ≤ _
    omega
  clear hb5 hl5 hp5 HF4 HR4 SV NR NF
  go_upto_block 0 with fail
  go_cut [13, 14, 15, 16] (fun bt wt lv ix wc => ∃ zs : List OkMsg, zs.length ≤ 20 ∧ bt = .string ⟨(Hm.relBytes (zs.map okVal)).toArray⟩ ∧ wt = .string ⟨(Hm.rel sv (zs.map okVal)).2.toArray⟩ ∧ RelS w5 lv (Hm.rel sv (zs.map okVal)).1.waiting wc)
  case first =>
    go_wp2
    go_loopw [13, 14, 15, 16] (fun bt wt lv ix wr => ∃ (k : Nat) (zs : List OkMsg), k ≤ rows.length ∧ k ≤ 20 ∧ zs.length ≤ k ∧ bt = .string ⟨(Hm.relBytes (zs.map okVal)).toArray⟩ ∧ wt = .string ⟨(Hm.rel sv (zs.map okVal)).2.toArray⟩ ∧ ix = .int .i64 k ∧ RelS w5 lv (Hm.rel sv (zs.map okVal)).1.waiting wr) (fun _ _ _ ix _ => 20 - (intOf ix).toNat)
    case atStart => exact ⟨0, [], by omega, by omega, by simp, rfl, rfl, rfl, ⟨World.ownsRow_nil _ _ _ _, Below.refl _ _⟩⟩
    case round =>
      obtain ⟨k, zs, hk, hk20, hzk, rfl, rfl, rfl, hI⟩ := hrel
      have HI := show Hid _ from hI
      have HB : Hid (Below w.heap.size w wr) := Below.next HB5.out (Nat.le_refl _) hI.bel
      have hms : ∀ m ∈ zs.map okVal, (Hm.line m).2 = 0 := fun m hm => by
        obtain ⟨z, _, rfl⟩ := List.mem_map.1 hm
        exact z.2.1
      have hro := Hm.rel_good sv hms
      have hsh := Hm.rel_short sv hms
      have hbl := Hm.relBytes_len _ hms
      rw [List.length_map] at hsh hbl
      have hsh2 : (Hm.rel sv (zs.map okVal)).2.length ≤ 180 := by omega
      have hbl2 : (Hm.relBytes (zs.map okVal)).length ≤ 4200 := by omega
      clear hsh hbl
      have hlv : ∃ la lc, u15 = .slice la (Hm.rel sv (zs.map okVal)).1.waiting.length lc := by
        obtain ⟨a, c, e⟩ := own_form hI.own
        exact ⟨a, c, e⟩
      obtain ⟨la, lc, rfl⟩ := hlv
      have hw8 := hro.wait
      clear hI
      by_cases hlt : k < rows.length ∧ k < 20
      · obtain ⟨hlt, hlt20⟩ := hlt
        have hki : (k : Int) < (rows.length : Int) := by omega
        have hk20i : (k : Int) < 20 := by omega
        obtain ⟨r, hrk⟩ : ∃ r, rows[k]? = some r := ⟨_, List.getElem?_eq_getElem hlt⟩
        have hrm : r ∈ rows := List.mem_of_getElem? hrk
        obtain ⟨b, off, rfl, hcs⟩ := HR.out.cells k r hrk
        have hlo := HR.out.lo r hrm
        have hhi := HR.out.hi r hrm
        obtain ⟨r0, r1, r2, r3, r4, r5, r6, rfl⟩ := seven (HR.out.len r hrm)
        obtain ⟨d0, d1, d2, d3, d4, d5, d6⟩ := RowsAt.row7 hcs HB.out
        have hfit : RawFits (rawOf [r0, r1, r2, r3, r4, r5, r6]) := ⟨hlo r0 (by simp), hhi r0 (by simp), hlo r1 (by simp), hhi r1 (by simp), hlo r2 (by simp), hhi r2 (by simp), hlo r3 (by simp), hhi r3 (by simp), hlo r4 (by simp), hhi r4 (by simp), hlo r5 (by simp), hhi r5 (by simp), hlo r6 (by simp), hhi r6 (by simp)⟩
        have MS : Hid (∀ w, Calls Tryz.prog 19 #[.agg #[.int .i64 r0, .int .i64 r1, .int .i64 r2, .int .i64 r3, .int .i64 r4, .int .i64 r5, .int .i64 r6]] w fun e w' => e = .returned (.agg (msgCells (Hm.kmessage (rawOf [r0, r1, r2, r3, r4, r5, r6])))) ∧ Below w.heap.size w w') := fun w => kmessage_any (rawOf [r0, r1, r2, r3, r4, r5, r6]) hfit w
        have LN : Hid (∀ w, Tabs w → Calls Tryz.prog 20 #[.agg (msgCells (Hm.kmessage (rawOf [r0, r1, r2, r3, r4, r5, r6])))] w fun e w' => e = .returned (.tuple #[.string ⟨(Hm.line (Hm.kmessage (rawOf [r0, r1, r2, r3, r4, r5, r6]))).1.toArray⟩, .int .i64 (Hm.line (Hm.kmessage (rawOf [r0, r1, r2, r3, r4, r5, r6]))).2]) ∧ Below w.heap.size w w') := fun w hT => kmessage_line_any _ w hT
        have hgd := Hm.kmessage_good (rawOf [r0, r1, r2, r3, r4, r5, r6])
        have hsm := Hm.kmessage_small (rawOf [r0, r1, r2, r3, r4, r5, r6])
        generalize Hm.kmessage (rawOf [r0, r1, r2, r3, r4, r5, r6]) = m at MS LN hgd hsm
        have HK1 : Hid (k + 1 ≤ rows.length) := hlt
        obtain ⟨mf, ms, mt, mh, ma, mp, mi, md, mx⟩ := m
        unfold msgCells at MS LN
        dsimp only at MS LN
        clear hcs hlo hhi hrk hrm hfit hlt hk
        go_wp2_with fail
        refine (MS.out _).mono ?_
        rintro e w6 ⟨rfl, hb6⟩
        have HI6 := show Hid _ from HI.out.next hb6
        have HT6 : Hid (Tabs w6) := hT.next (Below.next HB.out (Nat.le_refl _) hb6)
        clear hb6 d0 d1 d2 d3 d4 d5 d6
        go_wp2_with fail
        refine (LN.out _ (HT6.out.alloc _)).mono ?_
        rintro e w7 ⟨rfl, hb7⟩
        have hg7 : w7.heap[w6.heap.size]? = some (.cells #[.int .i64 mf, .int .i64 ms, .string ⟨mt.toArray⟩, .string ⟨mh.toArray⟩, .string ⟨ma.toArray⟩, .string ⟨mp.toArray⟩, .string ⟨mi.toArray⟩, .string ⟨md.toArray⟩, .string ⟨mx.toArray⟩] 29 (0, 0)) := (hb7.block _ (by simp)).trans (heap_alloc_new _ _)
        have HI7 := show Hid _ from (HI6.out.next ((Below.refl _ _).alloc (Nat.le_refl _) _)).next hb7
        have c1 : w7.cell? ⟨w6.heap.size, 1, none⟩ = some (.int .i64 ms) := by simp [World.cell?, hg7]
        clear hb7 hg7 MS LN HI6 HT6
        by_cases he : (Hm.line ⟨mf, ms, mt, mh, ma, mp, mi, md, mx⟩).2 = 0
        · obtain ⟨z, hz⟩ : ∃ z : OkMsg, okVal z = ⟨mf, ms, mt, mh, ma, mp, mi, md, mx⟩ := ⟨⟨_, he, hgd, hsm⟩, rfl⟩
          have hSl := Hm.line_lenL he
          have HBY : Hid (Hm.relBytes ((zs ++ [z]).map okVal) = Hm.relBytes (zs.map okVal) ++ (Lib.decDigits (Hm.line ⟨mf, ms, mt, mh, ma, mp, mi, md, mx⟩).1.length ++ 32 :: (Hm.line ⟨mf, ms, mt, mh, ma, mp, mi, md, mx⟩).1)) := by
            show _ = _
            rw [List.map_append, List.map_cons, List.map_nil, Hm.relBytes_snoc, hz]
            rfl
          have hst : Hm.rel sv ((zs ++ [z]).map okVal) = ((Hm.relTell sv (Hm.rel sv (zs.map okVal)).1 ⟨mf, ms, mt, mh, ma, mp, mi, md, mx⟩).1, (Hm.rel sv (zs.map okVal)).2 ++ ((Hm.relTell sv (Hm.rel sv (zs.map okVal)).1 ⟨mf, ms, mt, mh, ma, mp, mi, md, mx⟩).2 ++ [10])) := by
            rw [List.map_append, List.map_cons, List.map_nil, Hm.rel_snoc, hz]
            rfl
          have DC : Hid (∀ w, Calls Tryz.prog 26 #[.int .i64 (Hm.line ⟨mf, ms, mt, mh, ma, mp, mi, md, mx⟩).1.length] w fun e w' => e = .returned (.string ⟨(Lib.decDigits (Hm.line ⟨mf, ms, mt, mh, ma, mp, mi, md, mx⟩).1.length).toArray⟩) ∧ w' = w) := fun w => kdecimal_any _ (by omega) w
          have hdl : (Lib.decDigits (Hm.line ⟨mf, ms, mt, mh, ma, mp, mi, md, mx⟩).1.length).length ≤ 6 := Hm.dd_len6 (by omega)
          rw [he]
          by_cases hsv : (sv : Int) < ms
          · rw [Hm.relTell_drop (m := ⟨mf, ms, mt, mh, ma, mp, mi, md, mx⟩) hsv] at hst
            have HST := show Hid _ from hst
            clear hst hgd hsm he hz
            generalize (Hm.line ⟨mf, ms, mt, mh, ma, mp, mi, md, mx⟩).1 = S at DC hdl hSl HBY ⊢
            generalize Lib.decDigits S.length = D at DC hdl HBY
            generalize Hm.relBytes (zs.map okVal) = BY at HBY hbl2 ⊢
            go_wp2_with fail
            refine (DC.out _).mono ?_
            rintro e w8 ⟨rfl, rfl⟩
            go_wp2_with fail
            go_quiet ((go_at_call 22; exact Calls.quiet_of_same (PK.out _)))
            go_wp2
            go_roundw
            case rel => exact ⟨k + 1, zs ++ [z], HK1.out, by omega, by simp; omega, by rw [HBY.out], by rw [HST.out]; simp [Hm.tDropped], int_eq (by simp), by rw [HST.out]; exact HI7.out.next (drew_below ⟨nq, rfl⟩)⟩
            case measure => simp [intOf]; omega
          · by_cases hf : (Hm.rel sv (zs.map okVal)).1.waiting.length = 8
            · rw [Hm.relTell_full (m := ⟨mf, ms, mt, mh, ma, mp, mi, md, mx⟩) hsv hro he hf] at hst
              have HST := show Hid _ from hst
              have hfb : (((Hm.rel sv (zs.map okVal)).1.waiting.length : Int) == 8) = true := by simp [hf]
              clear hst hgd hsm he hz hf
              generalize (Hm.line ⟨mf, ms, mt, mh, ma, mp, mi, md, mx⟩).1 = S at DC hdl hSl HBY ⊢
              generalize Lib.decDigits S.length = D at DC hdl HBY
              generalize Hm.relBytes (zs.map okVal) = BY at HBY hbl2 ⊢
              go_wp2_with fail
              refine (DC.out _).mono ?_
              rintro e w8 ⟨rfl, rfl⟩
              go_wp2_with fail
              go_quiet ((go_at_call 22; exact Calls.quiet_of_same (PK.out _)))
              go_wp2
              go_roundw
              case rel => exact ⟨k + 1, zs ++ [z], HK1.out, by omega, by simp; omega, by rw [HBY.out], by rw [HST.out]; simp [Hm.tError], int_eq (by simp), by rw [HST.out]; exact HI7.out.next (drew_below ⟨nq, rfl⟩)⟩
              case measure => simp [intOf]; omega
            · rw [Hm.relTell_kept (m := ⟨mf, ms, mt, mh, ma, mp, mi, md, mx⟩) hsv hro he hf] at hst
              have HST := show Hid _ from hst
              have hfb : (((Hm.rel sv (zs.map okVal)).1.waiting.length : Int) == 8) = false := by simp; omega
              have DC2 : Hid (∀ w, Calls Tryz.prog 26 #[.int .i64 (((Hm.rel sv (zs.map okVal)).1.waiting.length : Int) + 1)] w fun e w' => e = .returned (.string ⟨(Lib.decDigits ((Hm.rel sv (zs.map okVal)).1.waiting.length + 1)).toArray⟩) ∧ w' = w) := fun w => kdecimal_int _ _ (by omega) (by omega) w
              have hdl2 : (Lib.decDigits ((Hm.rel sv (zs.map okVal)).1.waiting.length + 1)).length ≤ 6 := Hm.dd_len6 (by omega)
              clear hst hgd hsm he hz hf
              generalize (Hm.line ⟨mf, ms, mt, mh, ma, mp, mi, md, mx⟩).1 = S at DC hdl hSl HBY HST ⊢
              generalize Lib.decDigits S.length = D at DC hdl HBY
              generalize Hm.relBytes (zs.map okVal) = BY at HBY hbl2 ⊢
              generalize Lib.decDigits ((Hm.rel sv (zs.map okVal)).1.waiting.length + 1) = D2 at DC2 hdl2 HST
              go_wp2_with fail
              refine (DC.out _).mono ?_
              rintro e w8 ⟨rfl, rfl⟩
              go_wp2_with fail
              go_quiet ((go_at_call 22; exact Calls.quiet_of_same (PK.out _)))
              have HI8 := show Hid _ from HI7.out.next (drew_below ⟨nq, rfl⟩)
              go_wp2_with (at_builtin; refine wpList_append_own_at _ rfl _ _ 42 rfl w5.heap.size 9 i0 (.string ByteArray.empty) 1 16 Tryz.underlying42 hi hz0 hz1 hz2 rfl (by decide) _ _ _ rfl (HI8.out.own.alloc _) ⟨(w8.drewN nq).heap.size, 0, none⟩ 1 1 [.string ⟨S.toArray⟩] rfl rfl (cell_one_new _ _ _) (fun x hx => by simp at hx; subst hx; rfl) (by unfold maxLen; omega) (by omega) (by have := HI8.out.bel.size; simp; simp at this; omega) ?_; intro v9 w9 hown' hgrow hnil hat; obtain ⟨a9, c9, rfl⟩ := own_form hown'; have HI9 := show Hid _ from HI8.out.add (x := S) hown' hgrow; clear hown' hgrow hat hnil)
              refine (DC2.out _).mono ?_
              rintro e w10 ⟨rfl, rfl⟩
              go_wp2
              go_roundw
              case rel => exact ⟨k + 1, zs ++ [z], HK1.out, by omega, by simp; omega, by rw [HBY.out], by rw [HST.out]; simp [Hm.tKept], int_eq (by simp), by rw [HST.out]; exact HI9.out⟩
              case measure => simp [intOf]; omega
        · have f1 : (((Hm.line ⟨mf, ms, mt, mh, ma, mp, mi, md, mx⟩).2 : Int) == 0) = false := by simp; omega
          clear hgd hsm he
          go_wp2
          go_roundw
          case rel => exact ⟨k + 1, zs, HK1.out, by omega, by omega, rfl, rfl, int_eq (by simp), HI7.out⟩
          case measure => simp [intOf]; omega
      · have hcase : ((k : Int) < (rows.length : Int) ∧ ¬ (k : Int) < 20) ∨ ¬ (k : Int) < (rows.length : Int) := by omega
        clear hlt hk
        rcases hcase with ⟨hki, hk20i⟩ | hki
        all_goals (
          go_wp2
          go_meet
          case rel => exact ⟨zs, by omega, rfl, rfl, HI.out⟩)
  case rest =>
    obtain ⟨zs, hz20, rfl, rfl, hI⟩ := hcut
    have HI := show Hid _ from hI
    have hlv : ∃ la lc, u15 = .slice la (Hm.rel sv (zs.map okVal)).1.waiting.length lc := by
      obtain ⟨a, c, e⟩ := own_form hI.own
      exact ⟨a, c, e⟩
    obtain ⟨la, lc, rfl⟩ := hlv
    have hms : ∀ m ∈ zs.map okVal, (Hm.line m).2 = 0 := fun m hm => by
      obtain ⟨z, _, rfl⟩ := List.mem_map.1 hm
      exact z.2.1
    have hro := Hm.rel_good sv hms
    have hw8 := hro.wait
    have hbl := Hm.relBytes_len _ hms
    have hfe := Hm.rel_feed _ hms
    rw [List.length_map] at hbl
    have HFc := show Hid _ from HF5.out.keep (S := fun _ => False) (Hw.Kept.of_below hI.bel) (fun e => e) (fun _ _ e => e)
    have HRc := show Hid _ from HR5.out.below hI.bel
    have HLc := show Hid _ from HL5.out.below hI.bel
    have HBc : Hid (Below w.heap.size w wc) := Below.next HB5.out (Nat.le_refl _) hI.bel
    have HTc : Hid (Tabs wc) := HT5.out.next hI.bel
    have HC : Hid (RelC wc w1.heap.size w3.heap.size pl rlv) := by
      refine ⟨(Array.getElem?_eq_some_iff.1 HFc.out.row).1, (Array.getElem?_eq_some_iff.1 HRc.out.row).1, (Array.getElem?_eq_some_iff.1 HLc.out.row).1, ne_types HFc.out.row HLc.out.row (by decide), ne_types HRc.out.row HFc.out.row (by decide), ne_types HRc.out.row HLc.out.row (by decide), fun k e => ?_, HTc.out.size⟩
      obtain ⟨cur, hc⟩ := Hw.ownsRow_cells HRc.out.own e
      exact ⟨(Array.getElem?_eq_some_iff.1 hc).1, ne_types hc HFc.out.row (by decide), ne_types hc HLc.out.row (by decide)⟩
    have RY : Hid (Calls Tryz.prog 39 #[.pointer (some ⟨w1.heap.size, 0, none⟩), .pointer (some ⟨w3.heap.size, 0, none⟩), .pointer (some ⟨pl, 0, none⟩), .string ⟨(Hm.relBytes (zs.map okVal)).toArray⟩, .int .i64 2000] wc fun e w' => e = .returned (.tuple #[.string ⟨(Hm.rel sv (zs.map okVal)).2.toArray⟩, .int .i64 0]) ∧ ∃ rv wv, LogIn w' pl (Hm.rel sv (zs.map okVal)).1 rv wv ∧ Hw.Kept (fun k => k = w1.heap.size ∨ k = pl) wc w') :=
      callsIn_wide.1 (relay_in w1.heap.size w3.heap.size pl RL rlv zs ⟨(Hm.relBytes (zs.map okVal)).toArray⟩ (by show (Hm.relBytes (zs.map okVal)).toArray.size ≤ _; rw [List.size_toArray]; omega) sv wc HTc.out HC.out HFc.out HRc.out HSM.out HRN.out HLc.out (by
        rw [show (⟨(Hm.relBytes (zs.map okVal)).toArray⟩ : ByteArray).data.toList = Hm.relBytes (zs.map okVal) by simp, hfe, List.map_map]
        rfl) HKP.out hz20)
    clear hI hms hfe hbl
    have hpf : w1.heap.size < wc.heap.size := HC.out.f
    have HRo := show Hid _ from hro
    clear hro
    generalize Hm.relBytes (zs.map okVal) = BY at RY ⊢
    generalize Hm.rel sv (zs.map okVal) = r at RY HI HRo hw8 ⊢
    obtain ⟨g, txt⟩ := r
    dsimp only at RY HI HRo hw8 ⊢
    go_wp2_with fail
    refine RY.out.mono ?_
    rintro e w6 ⟨rfl, rv, wv, hl6, hk6⟩
    have HL6 := show Hid _ from hl6
    have HK6 := show Hid _ from hk6
    have HO6 : Hid (w6.ownsRow w5.heap.size 9 1 (.slice la g.waiting.length lc) g.waiting.length (g.waiting.map strV)) := Hw.ownsRow_keptS HI.out.own hk6 (fun k e s => by
      obtain ⟨cur, hc⟩ := Hw.ownsRow_cells HI.out.own e
      rcases s with s | s
      · exact ne_types hc HFc.out.row (by decide) s
      · exact ne_types hc HLc.out.row (by decide) s)
    have HB6 : Hid (Below w.heap.size w w6) := HBc.out.trans (hk6.below (fun k _ s => by
      have := HB1.out.size
      rcases s with s | s
      · omega
      · have := HPL.out; omega) HBc.out.size)
    clear hl6 hk6
    go_wp2_with fail
    refine (Waiting_in pl g rv wv w6 HL6.out (by omega)).mono ?_
    rintro e w7 ⟨wa, rfl, ho7, hb7⟩
    have HO7 := show Hid _ from ho7
    have HP7 := show Hid _ from own_nxt HO6.out hb7
    have HB7 : Hid (Below w.heap.size w w7) := Below.next HB6.out (Nat.le_refl _) hb7
    clear hb7 ho7
    have SM : Hid (Calls Tryz.prog 29 #[wa, .slice la g.waiting.length lc] w7 fun e w' => e = .returned (.bool true) ∧ Below w7.heap.size w7 w') := by
      have := same_from g.waiting g.waiting wa _ _ _ w7 (Hw.ownsFrom_row HO7.out) (Hw.ownsFrom_row HP7.out) (by omega) (by omega)
      rwa [decide_eq_true rfl] at this
    go_wp2_with fail
    refine SM.out.mono ?_
    rintro e w8 ⟨rfl, hb8⟩
    have HB8 : Hid (Below w.heap.size w w8) := Below.next HB7.out (Nat.le_refl _) hb8
    clear hb8
    go_wp2_with fail
    refine (relay_nof _ _ _ w8).mono ?_
    rintro e w9 ⟨rfl, hb9⟩
    have HB9 : Hid (Below w.heap.size w w9) := Below.next HB8.out (Nat.le_refl _) hb9
    clear hb9
    go_wp2_with fail
    refine (relay_nor _ _ _ w9).mono ?_
    rintro e w10 ⟨rfl, hb10⟩
    have HB10 : Hid (Below w.heap.size w w10) := Below.next HB9.out (Nat.le_refl _) hb10
    clear hb10
    go_wp2_with fail
    refine (relay_nol _ _ _ w10).mono ?_
    rintro e w11 ⟨rfl, hb11⟩
    have HB11 : Hid (Below w.heap.size w w11) := Below.next HB10.out (Nat.le_refl _) hb11
    clear hb11
    go_wp2
    go_ret
    exact ⟨rfl, HB11.out⟩
end Go.Proofs.YtdlhbmncbmconaaGreatDoor

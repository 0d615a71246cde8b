/- Contracts: failed, relayed (of Relay). -/
import Derived.Test.YtdlhbmncbmconaaGreatDoorR21
import Derived.Test.YtdlhbmncbmconaaGreatDoorMf
namespace Go.Hm
def relTellK (kp : Bool) (g : Lg) (m : Msg) : Lg × List UInt8 :=
  if kp = false then (g, tDropped) else
  if (g.put m).2.2 = 0 then ((g.put m).1, tKept ++ Lib.decDigits (g.put m).2.1) else ((g.put m).1, tError ++ Lib.decDigits (g.put m).2.2)
theorem relTellK_eq (sv : Nat) (g : Lg) (m : Msg) (s : Nat) (hs : m.sev = s) : relTellK (decide (s ≤ sv)) g m = relTell sv g m := by
  unfold relTellK relTell
  by_cases h : s ≤ sv
  · have h1 : ¬ (sv : Int) < m.sev := by omega
    rw [decide_eq_true h, if_neg (by simp), if_neg h1]
  · have h1 : (sv : Int) < m.sev := by omega
    rw [decide_eq_false h, if_pos rfl, if_pos h1]
end Go.Hm
namespace Go.Proofs.YtdlhbmncbmconaaGreatDoor
open Go.RowKit Go.Sort
attribute [local go_sem] alloc_drewN setCell_drewN app_list
theorem put_num (g : Hm.Lg) (m : Hm.Msg) : (g.put m).2.1 ≤ g.messages + 1 := by
  unfold Hm.Lg.put
  split
  · simp
  · split
    · simp
    · simp
theorem failed_any (e : Nat) (he : e ≤ 1000) (w : World) (hT : Tabs w) : Calls Tryz.prog 105 #[.int .i64 e] w fun r w' => r = .returned (.string ⟨(Hm.tError ++ Lib.decDigits e).toArray⟩) ∧ Below w.heap.size w w' := by
  have HI : Hid (∀ w, Tabs w → Calls Tryz.prog 48 #[.int .i64 e] w fun r w' => r = .returned (.string ⟨(Lib.decDigits e).toArray⟩) ∧ Below w.heap.size w w') := fun w hT => by
    have := itoa_any (e : Int) w (by omega) (by omega) hT
    rwa [Int.toNat_natCast] at this
  have hd : (Lib.decDigits e).length ≤ 6 := Hm.dd_len6 (by omega)
  generalize Lib.decDigits e = D at HI hd ⊢
  go_enter Tryz.func105, Tryz.ntmps105
  go_wp2_with fail
  refine (HI.out _ hT).mono ?_
  rintro r w1 ⟨rfl, hb1⟩
  go_wp2
  go_ret
  exact ⟨rfl, hb1⟩
set_option maxRecDepth 50000 in
set_option maxHeartbeats 8000000 in
theorem relayed_in (pr pl : Nat) (rs : List Hm.Rl) (rlv : Value) (g : Hm.Lg) (rv wv : Value) (m : Hm.Msg) (hl : (Hm.line m).2 = 0) (hgood : Hm.Good m) (hsm : m.Small) (w : World) (hT : Tabs w) (hr : RulesAt w pr rs rlv) (hrs : ∀ r ∈ rs, r.small) (hn : rs.length ≤ 1000) (hlog : LogIn w pl g rv wv) (hg : LgSmall g) (hmsg : g.messages ≤ 60000) :
    Calls Tryz.prog 67 #[.pointer (some ⟨pr, 0, none⟩), .pointer (some ⟨pl, 0, none⟩), .string ⟨(61 :: (Hm.line m).1).toArray⟩, .int .i64 2000] w fun e w' => e = .returned (.string ⟨(Hm.relTellK (Hm.keeps rs m.fac.toNat m.sev.toNat) g m).2.toArray⟩) ∧ ∃ rv' wv', LogIn w' pl (Hm.relTellK (Hm.keeps rs m.fac.toNat m.sev.toNat) g m).1 rv' wv' ∧ StepL pl rv wv w rv' wv' w' := by
  have HC : Hid (∀ w, Calls Tryz.prog 104 #[.string ⟨(61 :: (Hm.line m).1).toArray⟩, .string ⟨#[61]⟩] w fun e w' => e = .returned (.tuple #[.string ⟨(Hm.line m).1.toArray⟩, .bool true]) ∧ w' = w) := fun w => by
    have := Tryz.strings_CutPrefix ⟨(61 :: (Hm.line m).1).toArray⟩ ⟨#[61]⟩ w
    simpa [Lib.trimPrefix, Lib.hasPrefix] using this
  have hll := Hm.line_lenL hl
  have RD : Hid (∀ w, Tabs w → Calls Tryz.prog 21 #[.string ⟨(Hm.line m).1.toArray⟩, .int .i64 2000] w fun e w' => e = .returned (.tuple #[.agg (msgCells m), .int .i64 0, .int .i64 0]) ∧ Below w.heap.size w w') := fun w hT => by
    have := Read_any ⟨(Hm.line m).1.toArray⟩ 2000 w hT (by show (Hm.line m).1.toArray.size ≤ _; rw [List.size_toArray]; omega)
    rw [show (⟨(Hm.line m).1.toArray⟩ : ByteArray).data.toList = (Hm.line m).1 by simp, Hm.read_line hl (by decide)] at this
    exact this
  have KP : Hid (∀ w, RulesAt w pr rs rlv → Calls Tryz.prog 33 #[.pointer (some ⟨pr, 0, none⟩), .int .i64 m.fac, .int .i64 m.sev] w fun e w' => e = .returned (.tuple #[.bool (Hm.keeps rs m.fac.toNat m.sev.toNat), .int .i64 0]) ∧ Below w.heap.size w w') := fun w hr => by
    have h0 := hgood.f0
    have h1 := hgood.f1
    have h2 := hgood.s0
    have h3 := hgood.s1
    have := Keeps_any pr rs rlv m.fac.toNat m.sev.toNat w hr hrs (by omega) (by omega) hn
    rwa [Int.toNat_of_nonneg h0, Int.toNat_of_nonneg h2] at this
  have PU : Hid (∀ w, Tabs w → LogIn w pl g rv wv → Calls Tryz.prog 43 #[.pointer (some ⟨pl, 0, none⟩), .agg (msgCells m)] w fun e w' => e = .returned (.tuple #[.int .i64 (g.put m).2.1, .int .i64 (g.put m).2.2]) ∧ ∃ rv' wv', LogIn w' pl (g.put m).1 rv' wv' ∧ StepL pl rv wv w rv' wv' w') := fun w hT hl => by
    obtain ⟨h1, h2, h3, h4, h5, h6, h7⟩ := hsm
    exact Put_in pl g rv wv w hT hl hg m (by omega) (by omega) (by omega) (by omega) (by omega) (by omega) (by omega)
  have hpn := put_num g m
  have HR : Hid (RulesAt w pr rs rlv) := hr
  have HL : Hid (LogIn w pl g rv wv) := hlog
  have hpe : (g.put m).2.2 = 0 ∨ (g.put m).2.2 = 12 := by
    unfold Hm.Lg.put
    rw [if_neg (by simp [hl])]
    split
    · exact .inr rfl
    · exact .inl rfl
  have HIt : Hid (∀ n : Nat, n ≤ 70000 → ∀ w, Tabs w → Calls Tryz.prog 48 #[.int .i64 n] w fun r w' => r = .returned (.string ⟨(Lib.decDigits n).toArray⟩) ∧ Below w.heap.size w w') := fun n hn w hT => by
    have := itoa_any (n : Int) w (by omega) (by omega) hT
    rwa [Int.toNat_natCast] at this
  have hkk : Hm.relTellK (Hm.keeps rs m.fac.toNat m.sev.toNat) g m = if Hm.keeps rs m.fac.toNat m.sev.toNat = false then (g, Hm.tDropped) else if (g.put m).2.2 = 0 then ((g.put m).1, Hm.tKept ++ Lib.decDigits (g.put m).2.1) else ((g.put m).1, Hm.tError ++ Lib.decDigits (g.put m).2.2) := rfl
  rw [hkk]
  clear hkk hr hlog hg hrs hn
  generalize Hm.keeps rs m.fac.toNat m.sev.toNat = kp at KP
  generalize g.put m = pu at PU hpn hpe
  generalize (Hm.line m).1 = S at HC RD hll
  obtain ⟨g', n', e'⟩ := pu
  dsimp only at PU hpn hpe ⊢
  obtain ⟨mf, ms, mt, mh, ma, mp, mi, md, mx⟩ := m
  unfold msgCells at RD PU
  dsimp only at RD PU KP
  clear hl hgood hsm
  go_enter Tryz.func67, Tryz.ntmps67
  go_wp2_with fail
  refine (HC.out _).mono ?_
  rintro e w1 ⟨rfl, rfl⟩
  go_wp2_with fail
  refine (RD.out _ hT).mono ?_
  rintro e w2 ⟨rfl, hb2⟩
  have HB2 := show Hid _ from hb2
  have hb3 : Below w1.heap.size w1 (w2.alloc (.cells #[.int .i64 mf, .int .i64 ms, .string ⟨mt.toArray⟩, .string ⟨mh.toArray⟩, .string ⟨ma.toArray⟩, .string ⟨mp.toArray⟩, .string ⟨mi.toArray⟩, .string ⟨md.toArray⟩, .string ⟨mx.toArray⟩] 29)) := hb2.alloc hb2.size _
  have HB3 := show Hid _ from hb3
  clear hb2 hb3
  go_wp2_with fail
  refine (KP.out _ (HR.out.below HB3.out)).mono ?_
  rintro e w4 ⟨rfl, hb4⟩
  have HB4 : Hid (Below w1.heap.size w1 w4) := Below.next HB3.out (Nat.le_refl _) hb4
  have hg4 : w4.heap[w2.heap.size]? = some (.cells #[.int .i64 mf, .int .i64 ms, .string ⟨mt.toArray⟩, .string ⟨mh.toArray⟩, .string ⟨ma.toArray⟩, .string ⟨mp.toArray⟩, .string ⟨mi.toArray⟩, .string ⟨md.toArray⟩, .string ⟨mx.toArray⟩] 29 (0, 0)) := (hb4.block _ (by simp)).trans (heap_alloc_new _ _)
  obtain ⟨e0, e1, e2, e3, e4, e5, e6, e7, e8⟩ := cells9 hg4
  clear hb4 hg4
  cases kp
  · go_wp2
    go_ret
    exact ⟨rfl, rv, wv, HL.out.below HB4.out, StepL.refl.next HB4.out⟩
  · go_wp2_with fail
    refine (PU.out _ (hT.next HB4.out) (HL.out.below HB4.out)).mono ?_
    rintro e w5 ⟨rfl, rv', wv', hl5, hs5⟩
    have HL5 := show Hid _ from hl5
    have HT5 : Hid (Tabs w5) := StepL.tabs_in (hT.next HB4.out) (HL.out.below HB4.out) hs5
    have HS5 : Hid (StepL pl rv wv w1 rv' wv' w5) := (StepL.refl.next HB4.out).trans hs5
    clear hl5 hs5 e0 e1 e2 e3 e4 e5 e6 e7 e8
    rcases hpe with rfl | rfl
    · have hd : (Lib.decDigits n').length ≤ 6 := Hm.dd_len6 (by omega)
      have HI : Hid (∀ w, Tabs w → Calls Tryz.prog 48 #[.int .i64 n'] w fun r w' => r = .returned (.string ⟨(Lib.decDigits n').toArray⟩) ∧ Below w.heap.size w w') := HIt.out n' (by omega)
      clear HIt
      go_wp2_with fail
      refine (HI.out _ HT5.out).mono ?_
      rintro e w6 ⟨rfl, hb6⟩
      have HB6 := show Hid _ from hb6
      clear hb6
      go_wp2
      go_ret
      exact ⟨rfl, rv', wv', HL5.out.below HB6.out, HS5.out.next HB6.out⟩
    · have HF : Hid (∀ w, Tabs w → Calls Tryz.prog 105 #[.int .i64 12] w fun r w' => r = .returned (.string ⟨(Hm.tError ++ Lib.decDigits 12).toArray⟩) ∧ Below w.heap.size w w') := fun w hT => failed_any 12 (by decide) w hT
      go_wp2_with fail
      refine (HF.out _ HT5.out).mono ?_
      rintro e w6 ⟨rfl, hb6⟩
      have HB6 := show Hid _ from hb6
      clear hb6
      go_wp2
      go_ret
      exact ⟨rfl, rv', wv', HL5.out.below HB6.out, HS5.out.next HB6.out⟩
end Go.Proofs.YtdlhbmncbmconaaGreatDoor

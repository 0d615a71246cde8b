/- Contracts of the reference: behind, Split. -/
import Derived.Test.YtdlhbmncbmconaaGreatDoorEa
import Derived.Test.YtdlhbmncbmconaaGreatDoorRb
namespace Go.Proofs.YtdlhbmncbmconaaGreatDoor
open Go.RowKit Go.Sort
attribute [local go_sem] app_mk rcut rbyte
theorem rbehind_any (l : List UInt8) (hl : l.length ≤ 1000000000000000) (a : Nat) (ha : a ≤ l.length) (w : World) : Calls Tryz.prog 198 #[.string ⟨l.toArray⟩, .int .i64 a] w fun e w' => (∃ r : Nat, e = .returned (.int .i64 r) ∧ Hm.Bh l a r) ∧ w' = w := by
  go_enter Tryz.func198, Tryz.ntmps198
  go_wp2
  go_loopw [1] (fun s1 wr => ∃ j : Nat, s1 = .int .i64 j ∧ Hm.BhI l a j ∧ wr = w) (fun s1 _ => l.length - (intOf s1).toNat)
  case atStart => exact ⟨a, rfl, ⟨Nat.le_refl _, ha, fun k _ h1 h2 => absurd h1 (by omega)⟩, rfl⟩
  case round =>
    obtain ⟨j, rfl, hj, hwr⟩ := hrel
    have hwr := hwr.symm
    subst hwr
    have hjl := hj.2.1
    have HJ := show Hid _ from hj
    clear hj
    by_cases hlt : j < l.length
    case neg =>
      have hji : ¬ (j : Int) < (l.length : Int) := by omega
      go_wp2
      go_ret
      exact ⟨⟨j, rfl, .inl ⟨by omega, HJ.out⟩⟩, rfl⟩
    have hji : (j : Int) < (l.length : Int) := by omega
    have t0 : ((j : Int) + 1 - 1).toNat = j := by omega
    have t1 : (j : Int) + 1 - 1 = (j : Int) := by omega
    by_cases h10 : l[j].toNat = 10
    · have h10b : ((l[j].toNat : Int) == 10) = true := beq_iff_eq.2 (by omega)
      have HB : Hid (Hm.Bh l a (j + 1)) := .inr ⟨j, hlt, rfl, h10, HJ.out⟩
      clear h10
      go_wp2
      go_ret
      exact ⟨⟨j + 1, congrArg Ending.returned (int_eq (by simp)), HB.out⟩, rfl⟩
    · have h10b : ((l[j].toNat : Int) == 10) = false := beq_eq_false_iff_ne.2 (by omega)
      have HJ2 : Hid (Hm.BhI l a (j + 1)) := ⟨by have := HJ.out.1; omega, by omega, fun k hk h1 h2 => by
        by_cases e : k = j
        · subst e; exact h10
        · exact HJ.out.2.2 k hk h1 (by omega)⟩
      clear h10
      go_wp2
      go_roundw
      case rel => exact ⟨j + 1, int_eq (by simp), HJ2.out, by first | rfl | trivial⟩
      case measure => simp [intOf]; omega
set_option maxRecDepth 20000 in
set_option maxHeartbeats 4000000 in
theorem rSplit_any (l : List UInt8) (hl : l.length ≤ 4000000000) (b : Nat) (hb : 1 ≤ b) (hb2 : b ≤ 200) (w : World) :
    Calls Tryz.prog 165 #[.string ⟨l.toArray⟩, .int .i64 b] w fun e w' => ∃ v : Value, e = .returned (.tuple #[v, .int .i64 (Hm.splitOf b l).2]) ∧ w'.ownsRow w.heap.size 9 1 v (Hm.splitOf b l).1.length ((Hm.splitOf b l).1.map strV) ∧ Below w.heap.size w w' := by
  obtain ⟨N, hN⟩ : ∃ N, Hm.splitOf b l = N := ⟨_, rfl⟩
  rw [hN]
  have HN := show Hid _ from hN
  clear hN
  have BH : Hid (∀ a : Nat, a ≤ l.length → ∀ w, Calls Tryz.prog 198 #[.string ⟨l.toArray⟩, .int .i64 a] w fun e w' => (∃ r : Nat, e = .returned (.int .i64 r) ∧ Hm.Bh l a r) ∧ w' = w) := fun a ha w => rbehind_any l (by omega) a ha w
  obtain ⟨i0, hi, hz0, hz1, hz2'⟩ := info_parts info_str
  go_enter Tryz.func165, Tryz.ntmps165
  go_wp2
  go_loopw [6, 7, 8, 9, 10] (fun v s7 _ _ _ wr => ∃ (at_ : Nat) (out : List (List UInt8)), s7 = .int .i64 at_ ∧ Hm.Rdy b l at_ out ∧ out.length ≤ at_ ∧ wr.ownsRow w.heap.size 9 1 v out.length (out.map strV) ∧ Below w.heap.size w wr) (fun _ s7 _ _ _ _ => l.length - (intOf s7).toNat)
  case atStart => exact ⟨0, [], rfl, Hm.rdy_start b l, Nat.le_refl _, World.ownsRow_nil _ _ _ _, Below.refl _ _⟩
  case round =>
    obtain ⟨a, out, rfl, hR, hcnt, hown, hB⟩ := hrel
    have hal := hR.1
    have HR : Hid (Hm.Rdy b l a out) := hR
    have HO : Hid (wr.ownsRow w.heap.size 9 1 u6 out.length (out.map strV)) := hown
    have HB : Hid (Below w.heap.size w wr) := hB
    clear hR hown hB
    by_cases hat : a < l.length
    case neg =>
      have c0 : ¬ (a : Int) < (l.length : Int) := by omega
      have HE : Hid (N = (out, 0)) := by show _ = _; rw [← HN.out]; exact Hm.rdy_end HR.out (by omega)
      go_wp2
      go_ret2
      exact ⟨u6, by rw [HE.out]; rfl, by rw [HE.out]; exact HO.out, HB.out⟩
    have c0 : (a : Int) < (l.length : Int) := by omega
    by_cases h10 : l[a].toNat = 10
    · have h10b : ((l[a].toNat : Int) == 10) = true := beq_iff_eq.2 (by omega)
      have HR2 : Hid (Hm.Rdy b l (a + 1) out) := Hm.rdy_shut HR.out hat h10
      clear h10
      go_wp2
      go_roundw
      case rel => exact ⟨a + 1, out, int_eq (by simp), HR2.out, by omega, HO.out, HB.out⟩
      case measure => simp [intOf]; omega
    have h10b : ((l[a].toNat : Int) == 10) = false := beq_eq_false_iff_ne.2 (by omega)
    by_cases hd : 49 ≤ l[a].toNat ∧ l[a].toNat ≤ 57
    case neg =>
      have H0 : Hid (∀ h : a < l.length, ¬ (49 ≤ l[a].toNat ∧ l[a].toNat ≤ 57)) := fun _ => hd
      go_upto_region 6 with fail
      go_cut [30] (fun s30 wc => s30 = .bool true ∧ wc = wr)
      case first =>
        by_cases hlt : (l[a].toNat : Int) < 49
        · clear hd h10
          go_wp2
          go_meet
          case rel => exact ⟨rfl, rfl⟩
        · have hgt : (57 : Int) < (l[a].toNat : Int) := by omega
          clear hd h10
          go_wp2
          go_meet
          case rel => exact ⟨rfl, rfl⟩
      case rest =>
        obtain ⟨rfl, hwc⟩ := hcut
        have hwc := hwc.symm
        subst hwc
        go_upto_block 2 with fail
        go_cut [8] (fun s8 wc => ∃ e : Nat, s8 = .int .i64 e ∧ Hm.LnI b l a e out ∧ (l.length ≤ e ∨ (∃ h : e < l.length, l[e].toNat = 10) ∨ b < e - a) ∧ wc = wr)
        case first =>
          have HL0 : Hid (Hm.LnI b l a a out) := Hm.ln_start HR.out hat
          clear hd h10 HR HN
          go_wp2
          go_loopw [8] (fun s8 wq => ∃ e : Nat, s8 = .int .i64 e ∧ Hm.LnI b l a e out ∧ wq = wr) (fun s8 _ => l.length - (intOf s8).toNat)
          case atStart => exact ⟨a, rfl, HL0.out, rfl⟩
          case round =>
            obtain ⟨e, rfl, hL, hwq⟩ := hrel
            have hwq := hwq.symm
            subst hwq
            have hae := hL.1
            have HL : Hid (Hm.LnI b l a e out) := hL
            clear hL
            by_cases k0 : e < l.length
            case neg =>
              have k0i : ¬ (e : Int) < (l.length : Int) := by omega
              go_wp2
              go_meet
              case rel => exact ⟨e, rfl, HL.out, .inl (by omega), rfl⟩
            have k0i : (e : Int) < (l.length : Int) := by omega
            by_cases k1 : l[e].toNat = 10
            · have k1b : ((l[e].toNat : Int) != 10) = false := by simp; omega
              have HK := show Hid _ from k1
              clear k1
              go_wp2
              go_meet
              case rel => exact ⟨e, rfl, HL.out, .inr (.inl ⟨k0, HK.out⟩), rfl⟩
            have k1b : ((l[e].toNat : Int) != 10) = true := by simp; omega
            by_cases k2 : e - a ≤ b
            case neg =>
              have k2i : ¬ (e : Int) - (a : Int) ≤ (b : Int) := by omega
              clear k1
              go_wp2
              go_meet
              case rel => exact ⟨e, rfl, HL.out, .inr (.inr (by omega)), rfl⟩
            have k2i : (e : Int) - (a : Int) ≤ (b : Int) := by omega
            have HL2 : Hid (Hm.LnI b l a (e + 1) out) := Hm.ln_next hb HL.out k0 k1 k2 H0.out
            clear k1
            go_wp2
            go_roundw
            case rel => exact ⟨e + 1, int_eq (by simp), HL2.out, by first | rfl | trivial⟩
            case measure => simp [intOf]; omega
        case rest =>
          obtain ⟨e, rfl, hL, hx, hwc⟩ := hcut
          have hwc := hwc.symm
          subst hwc
          have hae := hL.1
          have hel := hL.2.1
          have HL : Hid (Hm.LnI b l a e out) := hL
          clear hL hd h10
          by_cases kb : b < e - a
          · have kbi : (b : Int) < (e : Int) - (a : Int) := by omega
            have HSK : Hid (Hm.Skip b l e (out ++ [[33]])) := ⟨hel, (Hm.ln_bad HL.out kb).1⟩
            have H10 : Hid (∀ h : e - 1 < l.length, ¬ l[e - 1].toNat = 10) := (Hm.ln_bad HL.out kb).2
            have BE : Hid (∀ w, Calls Tryz.prog 198 #[.string ⟨l.toArray⟩, .int .i64 ((e : Int) - 1)] w fun e' w' => (∃ r : Nat, e' = .returned (.int .i64 r) ∧ Hm.Bh l (e - 1) r) ∧ w' = w) := fun w => by
              have := BH.out (e - 1) (by omega) w
              rwa [show ((e - 1 : Nat) : Int) = (e : Int) - 1 by omega] at this
            clear hx
            go_wp2_with (first
              | (at_builtin; refine wpList_append_own _ rfl _ _ 42 rfl w.heap.size 9 i0 (.string ByteArray.empty) 1 16 Tryz.underlying42 hi hz0 hz1 hz2' rfl (by decide) _ _ _ rfl (HO.out.alloc _) ⟨wr.heap.size, 0, none⟩ 1 1 [.string ⟨([33] : List UInt8).toArray⟩] rfl rfl (cell_one_new _ _ _) (fun x hx => by simp at hx; subst hx; rfl) (by unfold maxLen; omega) (by omega) (by have := HB.out.size; simp; omega) ?_; intro v' w5 hown' hgrow hnil; have HO5 : Hid (w5.ownsRow w.heap.size 9 1 v' (out ++ [([33] : List UInt8)]).length ((out ++ [([33] : List UInt8)]).map strV)) := (by show World.ownsRow _ _ _ _ _ _ _; rw [List.map_append, List.length_append]; exact hown'); have HB5 : Hid (Below w.heap.size w w5) := (HB.out.alloc HB.out.size _).grown hgrow (by have := HB.out.size; simp; omega) (fun q hq => by have := HO.out.lt q hq; omega); clear hown' hgrow hnil)
              | fail)
            refine (BE.out _).mono ?_
            rintro e' w6 ⟨⟨r, rfl, hr⟩, hw6⟩
            have hw6 := hw6.symm
            subst hw6
            have HB2 := show Hid _ from Hm.bh_back (by omega) hel H10.out hr
            have hre : e ≤ r := by
              rcases HB2.out with ⟨e1, h1⟩ | ⟨j, _, e1, _, h1⟩
              · have := h1.1; omega
              · have := h1.1; omega
            have HR2 := show Hid _ from Hm.bh_rdy HSK.out HB2.out
            clear hr
            go_wp2
            go_roundw
            case rel => exact ⟨r, out ++ [[33]], rfl, HR2.out, by simp; omega, HO5.out, HB5.out⟩
            case measure => simp [intOf]; omega
          have kbi : ¬ (b : Int) < (e : Int) - (a : Int) := by omega
          by_cases ke : e = l.length
          · have keb : ((e : Int) == (l.length : Int)) = true := beq_iff_eq.2 (by omega)
            have HE : Hid (N = (out, e - a)) := by show _ = _; rw [← HN.out]; exact Hm.ln_part HL.out kb hat ke
            clear hx ke
            go_wp2
            go_ret2
            exact ⟨u6, by rw [HE.out]; exact congrArg (fun z => Ending.returned (Value.tuple #[u6, .int .i64 z])) (by show _ = ((e - a : Nat) : Int); omega), by rw [HE.out]; exact HO.out, HB.out⟩
          have keb : ((e : Int) == (l.length : Int)) = false := beq_eq_false_iff_ne.2 (by omega)
          have kel : e < l.length := by omega
          have k10 : l[e].toNat = 10 := by
            rcases hx with h | ⟨_, h⟩ | h
            · omega
            · exact h
            · omega
          have hane : a < e := by
            by_cases q : a = e
            · subst q; exact absurd (beq_iff_eq.2 (show (l[a].toNat : Int) = 10 by omega)) (by rw [h10b]; decide)
            · omega
          have HR2 := show Hid _ from Hm.ln_done HL.out kb hane kel k10
          obtain ⟨X, hX⟩ : ∃ X, (l.drop a).take (e - a) = X := ⟨_, rfl⟩
          have hXl : X.length = e - a := by rw [← hX]; exact Hm.seg_len l a e hel
          rw [hX] at HR2
          have e0 : (a : Int) ≤ (e : Int) := by omega
          have e1 : (e : Int) ≤ (l.length : Int) := by omega
          have r1 : ¬ 9223372036854775807 < 1 + X.length := by omega
          clear hx ke k10
          go_wp2_with (first
            | (at_builtin; refine wpList_append_own _ rfl _ _ 42 rfl w.heap.size 9 i0 (.string ByteArray.empty) 1 16 Tryz.underlying42 hi hz0 hz1 hz2' rfl (by decide) _ _ _ rfl (HO.out.alloc _) ⟨wr.heap.size, 0, none⟩ 1 1 [.string ⟨(61 :: X).toArray⟩] rfl rfl (cell_one_new _ _ _) (fun x hx => by simp at hx; subst hx; rfl) (by unfold maxLen; omega) (by omega) (by have := HB.out.size; simp; omega) ?_; intro v' w5 hown' hgrow hnil; have HO5 : Hid (w5.ownsRow w.heap.size 9 1 v' (out ++ [(61 :: X)]).length ((out ++ [(61 :: X)]).map strV)) := (by show World.ownsRow _ _ _ _ _ _ _; rw [List.map_append, List.length_append]; exact hown'); have HB5 : Hid (Below w.heap.size w w5) := (HB.out.alloc HB.out.size _).grown hgrow (by have := HB.out.size; simp; omega) (fun q hq => by have := HO.out.lt q hq; omega); clear hown' hgrow hnil)
            | fail)
          go_roundw
          case rel => exact ⟨e + 1, out ++ [61 :: X], int_eq (by simp), HR2.out, by simp; omega, HO5.out, HB5.out⟩
          case measure => simp [intOf]; omega
    -- NUMBER
    have H0 : Hid (∀ h : a < l.length, 49 ≤ l[a].toNat ∧ l[a].toNat ≤ 57) := fun _ => hd
    have hd1 : ¬ (l[a].toNat : Int) < 49 := by omega
    have hd2 : ¬ (57 : Int) < (l[a].toNat : Int) := by omega
    go_upto_block 4 with fail
    go_cut [9, 10] (fun s9 s10 wc => ∃ i n : Nat, s9 = .int .i64 n ∧ s10 = .int .i64 i ∧ Hm.NmI b l a i n out ∧ (l.length ≤ i ∨ (∃ h : i < l.length, ¬ (48 ≤ l[i].toNat ∧ l[i].toNat ≤ 57)) ∨ b < n) ∧ wc = wr)
    case first =>
      have HL0 : Hid (Hm.NmI b l a a 0 out) := Hm.nm_start HR.out hat
      clear hd hd1 hd2 h10 HR HN
      go_wp2
      go_loopw [9, 10] (fun s9 s10 wq => ∃ i n : Nat, s9 = .int .i64 n ∧ s10 = .int .i64 i ∧ Hm.NmI b l a i n out ∧ wq = wr) (fun _ s10 _ => l.length - (intOf s10).toNat)
      case atStart => exact ⟨a, 0, rfl, rfl, HL0.out, rfl⟩
      case round =>
        obtain ⟨i, n, rfl, rfl, hL, hwq⟩ := hrel
        have hwq := hwq.symm
        subst hwq
        have hnle := Hm.nm_le hL
        have HL : Hid (Hm.NmI b l a i n out) := hL
        clear hL
        by_cases k0 : i < l.length
        case neg =>
          have k0i : ¬ (i : Int) < (l.length : Int) := by omega
          go_wp2
          go_meet
          case rel => exact ⟨i, n, rfl, rfl, HL.out, .inl (by omega), rfl⟩
        have k0i : (i : Int) < (l.length : Int) := by omega
        by_cases k1 : 48 ≤ l[i].toNat
        case neg =>
          have k1i : ¬ (48 : Int) ≤ (l[i].toNat : Int) := by omega
          have HK : Hid (¬ (48 ≤ l[i].toNat ∧ l[i].toNat ≤ 57)) := fun h => k1 h.1
          clear k1
          go_wp2
          go_meet
          case rel => exact ⟨i, n, rfl, rfl, HL.out, .inr (.inl ⟨k0, HK.out⟩), rfl⟩
        have k1i : (48 : Int) ≤ (l[i].toNat : Int) := by omega
        by_cases k2 : l[i].toNat ≤ 57
        case neg =>
          have k2i : ¬ (l[i].toNat : Int) ≤ 57 := by omega
          have HK : Hid (¬ (48 ≤ l[i].toNat ∧ l[i].toNat ≤ 57)) := fun h => k2 h.2
          clear k1 k2
          go_wp2
          go_meet
          case rel => exact ⟨i, n, rfl, rfl, HL.out, .inr (.inl ⟨k0, HK.out⟩), rfl⟩
        have k2i : (l[i].toNat : Int) ≤ 57 := by omega
        by_cases k3 : n ≤ b
        case neg =>
          have k3i : ¬ (n : Int) ≤ (b : Int) := by omega
          clear k1 k2
          go_wp2
          go_meet
          case rel => exact ⟨i, n, rfl, rfl, HL.out, .inr (.inr (by omega)), rfl⟩
        have k3i : (n : Int) ≤ (b : Int) := by omega
        have HL2 : Hid (Hm.NmI b l a (i + 1) (10 * n + (l[i].toNat - 48)) out) := Hm.nm_next HL.out k0 ⟨k1, k2⟩ k3 H0.out
        have m1 : wrap64 ((l[i].toNat : Int) - 48) = (l[i].toNat : Int) - 48 := by unfold wrap64; omega
        have m0 : IntKind.u8.wrap ((l[i].toNat : Int) - 48) = (l[i].toNat : Int) - 48 := by simp [IntKind.wrap, IntKind.bits, IntKind.signed]; omega
        go_wp2
        go_roundw
        case rel => exact ⟨i + 1, 10 * n + (l[i].toNat - 48), int_eq (by simp; omega), int_eq (by simp), HL2.out, by first | rfl | trivial⟩
        case measure => simp [intOf]; omega
    case rest =>
      obtain ⟨i, n, rfl, rfl, hL, hx, hwc⟩ := hcut
      have hwc := hwc.symm
      subst hwc
      have hai := hL.1
      have hil := hL.2.1
      have hnle := Hm.nm_le hL
      have HL : Hid (Hm.NmI b l a i n out) := hL
      clear hL hd1 hd2 h10
      by_cases kb : b < n
      · have kbi : (b : Int) < (n : Int) := by omega
        obtain ⟨hai2, hst, h10'⟩ := Hm.nm_bad HL.out kb
        have HSK : Hid (Hm.Skip b l i (out ++ [[33]])) := ⟨hil, hst⟩
        have H10 : Hid (∀ h : i - 1 < l.length, ¬ l[i - 1].toNat = 10) := h10'
        have BE : Hid (∀ w, Calls Tryz.prog 198 #[.string ⟨l.toArray⟩, .int .i64 ((i : Int) - 1)] w fun e' w' => (∃ r : Nat, e' = .returned (.int .i64 r) ∧ Hm.Bh l (i - 1) r) ∧ w' = w) := fun w => by
          have := BH.out (i - 1) (by omega) w
          rwa [show ((i - 1 : Nat) : Int) = (i : Int) - 1 by omega] at this
        clear hx hst h10' hd
        go_wp2_with (first
          | (at_builtin; refine wpList_append_own _ rfl _ _ 42 rfl w.heap.size 9 i0 (.string ByteArray.empty) 1 16 Tryz.underlying42 hi hz0 hz1 hz2' rfl (by decide) _ _ _ rfl (HO.out.alloc _) ⟨wr.heap.size, 0, none⟩ 1 1 [.string ⟨([33] : List UInt8).toArray⟩] rfl rfl (cell_one_new _ _ _) (fun x hx => by simp at hx; subst hx; rfl) (by unfold maxLen; omega) (by omega) (by have := HB.out.size; simp; omega) ?_; intro v' w5 hown' hgrow hnil; have HO5 : Hid (w5.ownsRow w.heap.size 9 1 v' (out ++ [([33] : List UInt8)]).length ((out ++ [([33] : List UInt8)]).map strV)) := (by show World.ownsRow _ _ _ _ _ _ _; rw [List.map_append, List.length_append]; exact hown'); have HB5 : Hid (Below w.heap.size w w5) := (HB.out.alloc HB.out.size _).grown hgrow (by have := HB.out.size; simp; omega) (fun q hq => by have := HO.out.lt q hq; omega); clear hown' hgrow hnil)
          | fail)
        refine (BE.out _).mono ?_
        rintro e' w6 ⟨⟨r, rfl, hr⟩, hw6⟩
        have hw6 := hw6.symm
        subst hw6
        have HB2 := show Hid _ from Hm.bh_back (by omega) hil H10.out hr
        have hre : i ≤ r := by
          rcases HB2.out with ⟨e1, h1⟩ | ⟨j, _, e1, _, h1⟩
          · have := h1.1; omega
          · have := h1.1; omega
        have HR2 := show Hid _ from Hm.bh_rdy HSK.out HB2.out
        clear hr
        go_wp2
        go_roundw
        case rel => exact ⟨r, out ++ [[33]], rfl, HR2.out, by simp; omega, HO5.out, HB5.out⟩
        case measure => simp [intOf]; omega
      have kbi : ¬ (b : Int) < (n : Int) := by omega
      have hlt : a < i := by
        by_cases q : a = i
        · subst q
          rcases hx with h | ⟨_, h⟩ | h
          · omega
          · exact absurd ⟨by omega, by omega⟩ h
          · omega
        · omega
      by_cases ke : i = l.length
      · have keb : ((i : Int) == (l.length : Int)) = true := beq_iff_eq.2 (by omega)
        have HE : Hid (N = (out, i - a)) := by show _ = _; rw [← HN.out]; exact Hm.nm_part HL.out kb hlt ke
        clear hx ke hd
        go_wp2
        go_ret2
        exact ⟨u6, by rw [HE.out]; exact congrArg (fun z => Ending.returned (Value.tuple #[u6, .int .i64 z])) (by show _ = ((i - a : Nat) : Int); omega), by rw [HE.out]; exact HO.out, HB.out⟩
      have keb : ((i : Int) == (l.length : Int)) = false := beq_eq_false_iff_ne.2 (by omega)
      have kel : i < l.length := by omega
      have knd : ¬ (48 ≤ l[i].toNat ∧ l[i].toNat ≤ 57) := by
        rcases hx with h | ⟨_, h⟩ | h
        · omega
        · exact h
        · omega
      clear hx ke
      by_cases k32 : l[i].toNat = 32
      case neg =>
        have k32b : ((l[i].toNat : Int) != 32) = true := by simp; omega
        have HST := show Hid _ from Hm.nm_other HL.out kb hlt kel knd k32
        have BE := show Hid _ from BH.out i hil
        clear hd k32 knd
        go_wp2_with (first
          | (at_builtin; refine wpList_append_own _ rfl _ _ 42 rfl w.heap.size 9 i0 (.string ByteArray.empty) 1 16 Tryz.underlying42 hi hz0 hz1 hz2' rfl (by decide) _ _ _ rfl (HO.out.alloc _) ⟨wr.heap.size, 0, none⟩ 1 1 [.string ⟨([33] : List UInt8).toArray⟩] rfl rfl (cell_one_new _ _ _) (fun x hx => by simp at hx; subst hx; rfl) (by unfold maxLen; omega) (by omega) (by have := HB.out.size; simp; omega) ?_; intro v' w5 hown' hgrow hnil; have HO5 : Hid (w5.ownsRow w.heap.size 9 1 v' (out ++ [([33] : List UInt8)]).length ((out ++ [([33] : List UInt8)]).map strV)) := (by show World.ownsRow _ _ _ _ _ _ _; rw [List.map_append, List.length_append]; exact hown'); have HB5 : Hid (Below w.heap.size w w5) := (HB.out.alloc HB.out.size _).grown hgrow (by have := HB.out.size; simp; omega) (fun q hq => by have := HO.out.lt q hq; omega); clear hown' hgrow hnil)
          | fail)
        refine (BE.out _).mono ?_
        rintro e' w6 ⟨⟨r, rfl, hr⟩, hw6⟩
        have hw6 := hw6.symm
        subst hw6
        have hre : i ≤ r := by
          rcases hr with ⟨e1, h1⟩ | ⟨j, _, e1, _, h1⟩
          · have := h1.1; omega
          · have := h1.1; omega
        have HR2 := show Hid _ from Hm.other_rdy kel HST.out hr
        clear hr
        go_wp2
        go_roundw
        case rel => exact ⟨r, out ++ [[33]], rfl, HR2.out, by simp; omega, HO5.out, HB5.out⟩
        case measure => simp [intOf]; omega
      have k32b : ((l[i].toNat : Int) != 32) = false := by simp; omega
      by_cases kf : l.length < i + 1 + n
      · have kfi : (l.length : Int) < (i : Int) + 1 + (n : Int) := by omega
        have HE : Hid (N = (out, l.length - a)) := by show _ = _; rw [← HN.out]; exact Hm.nm_short HL.out kb hlt kel k32 kf
        clear hd k32 knd
        go_wp2
        go_ret2
        exact ⟨u6, by rw [HE.out]; exact congrArg (fun z => Ending.returned (Value.tuple #[u6, .int .i64 z])) (by show _ = ((l.length - a : Nat) : Int); omega), by rw [HE.out]; exact HO.out, HB.out⟩
      have kfi : ¬ (l.length : Int) < (i : Int) + 1 + (n : Int) := by omega
      have HR2 := show Hid _ from Hm.nm_frame HL.out kb hlt kel k32 (by omega)
      have hn1 := (Hm.nm_mid HL.out kb hlt).1
      obtain ⟨X, hX⟩ : ∃ X, (l.drop (i + 1)).take n = X := ⟨_, rfl⟩
      have hXl : X.length = n := by rw [← hX, List.length_take, List.length_drop]; omega
      rw [hX] at HR2
      have e0 : (i : Int) + 1 ≤ (i : Int) + 1 + (n : Int) := by omega
      have e1 : (i : Int) + 1 + (n : Int) ≤ (l.length : Int) := by omega
      have e2 : ((i : Int) + 1).toNat = i + 1 := by omega
      have e3 : ((i : Int) + 1 + (n : Int)).toNat = i + 1 + n := by omega
      have hX2 : (l.drop (i + 1)).take (i + 1 + n - (i + 1)) = X := by rw [show i + 1 + n - (i + 1) = n by omega]; exact hX
      have r1 : ¬ 9223372036854775807 < 1 + X.length := by omega
      clear hd k32 knd
      go_wp2_with (first
        | (at_builtin; refine wpList_append_own _ rfl _ _ 42 rfl w.heap.size 9 i0 (.string ByteArray.empty) 1 16 Tryz.underlying42 hi hz0 hz1 hz2' rfl (by decide) _ _ _ rfl (HO.out.alloc _) ⟨wr.heap.size, 0, none⟩ 1 1 [.string ⟨(61 :: X).toArray⟩] rfl rfl (cell_one_new _ _ _) (fun x hx => by simp at hx; subst hx; rfl) (by unfold maxLen; omega) (by omega) (by have := HB.out.size; simp; omega) ?_; intro v' w5 hown' hgrow hnil; have HO5 : Hid (w5.ownsRow w.heap.size 9 1 v' (out ++ [(61 :: X)]).length ((out ++ [(61 :: X)]).map strV)) := (by show World.ownsRow _ _ _ _ _ _ _; rw [List.map_append, List.length_append]; exact hown'); have HB5 : Hid (Below w.heap.size w w5) := (HB.out.alloc HB.out.size _).grown hgrow (by have := HB.out.size; simp; omega) (fun q hq => by have := HO.out.lt q hq; omega); clear hown' hgrow hnil)
        | fail)
      go_roundw
      case rel => exact ⟨i + 1 + n, out ++ [61 :: X], int_eq (by omega), HR2.out, by simp; omega, HO5.out, HB5.out⟩
      case measure => simp [intOf]; omega
end Go.Proofs.YtdlhbmncbmconaaGreatDoor

/- Contract: Decided. -/
import Derived.Test.YtdlhbmncbmconaaGreatDoorR15
import Derived.Deep.DeepCutAuto
namespace Go.Proofs.YtdlhbmncbmconaaGreatDoor
open Go.RowKit Go.Sort
attribute [local go_sem] alloc_drewN setCell_drewN app_list
def rr (r : List Int) : Hm.RRaw := ⟨r.getD 0 0, r.getD 1 0, r.getD 2 0, r.getD 3 0, r.getD 4 0⟩
theorem five {r : List Int} (h : r.length = 5) : ∃ a b c d e, r = [a, b, c, d, e] := by
  match r, h with
  | [a, b, c, d, e], _ => exact ⟨a, b, c, d, e, rfl⟩
theorem three {n : Nat} (h : n < 3) : n = 0 ∨ n = 1 ∨ n = 2 := by omega
theorem RowsAt.row5 {W wr : World} {b off : Nat} {k : Nat} {r0 r1 r2 r3 r4 : Int} (hc : W.rangeAt b (off + k * 5) ([r0, r1, r2, r3, r4].map (Value.int .i64))) (hb : Below W.heap.size W wr) :
    wr.cell? ⟨b, off + k * 5, none⟩ = some (.int .i64 r0) ∧ wr.cell? ⟨b, off + k * 5 + 1, none⟩ = some (.int .i64 r1) ∧ wr.cell? ⟨b, off + k * 5 + 2, none⟩ = some (.int .i64 r2) ∧ wr.cell? ⟨b, off + k * 5 + 3, none⟩ = some (.int .i64 r3) ∧ wr.cell? ⟨b, off + k * 5 + 4, none⟩ = some (.int .i64 r4) := by
  have h0 := hc 0 _ rfl
  have hl : b < W.heap.size := block_lt_of_cell h0
  have key : ∀ j v, ([r0, r1, r2, r3, r4].map (Value.int .i64))[j]? = some v → wr.cell? ⟨b, off + k * 5 + j, none⟩ = some v := fun j v h => (hb.cell (p := ⟨b, off + k * 5 + j, none⟩) hl).trans (hc j v h)
  exact ⟨key 0 _ rfl, key 1 _ rfl, key 2 _ rfl, key 3 _ rfl, key 4 _ rfl⟩
set_option maxRecDepth 50000 in
set_option maxHeartbeats 40000000 in
theorem Decided_any (ad : Option Addr) (rows : List (List Int)) (cap : Nat) (f s : Int) (f0 : -9223372036854775808 ≤ f) (f1 : f ≤ 9223372036854775807) (s0 : -9223372036854775808 ≤ s) (s1 : s ≤ 9223372036854775807) (w : World) (hT : Tabs w) (hr : RowsAt 5 w ad rows) :
    Calls Tryz.prog 12 #[.slice ad rows.length cap, .int .i64 f, .int .i64 s] w fun e w' => e = .returned (.bool true) ∧ Below w.heap.size w w' := by
  have AW : Hid (∀ w, Tabs w → Calls Tryz.prog 18 #[] w fun e w' => e = .returned (.bool true) ∧ Below w.heap.size w w') := awake_any
  have PX : Hid (∀ w, Calls Tryz.prog 22 #[.int .i64 f, .int .i64 24] w fun e w' => e = .returned (.int .i64 (Hm.pick f 24)) ∧ w' = w) := fun w => pick_any f 24 (by decide) (by decide) f0 f1 w
  have PY : Hid (∀ w, Calls Tryz.prog 22 #[.int .i64 s, .int .i64 8] w fun e w' => e = .returned (.int .i64 (Hm.pick s 8)) ∧ w' = w) := fun w => pick_any s 8 (by decide) (by decide) s0 s1 w
  have hx := Hm.pick_lt f (n := 24) (by decide)
  have hy := Hm.pick_lt s (n := 8) (by decide)
  generalize Hm.pick f 24 = x at PX hx
  generalize Hm.pick s 8 = y at PY hy
  have HR : Hid (RowsAt 5 w ad rows) := hr
  have hmost := hr.most
  clear hr f0 f1 s0 s1
  go_enter Tryz.func12, Tryz.ntmps12
  go_wp2_with fail
  refine (AW.out _ hT).mono ?_
  rintro e w1 ⟨rfl, hb1⟩
  have HB1 : Hid (Below w.heap.size w w1) := hb1
  have HT1 : Hid (Tabs w1) := hT.next hb1
  clear hb1
  go_wp2_with fail
  refine (PX.out _).mono ?_
  rintro e w2 ⟨rfl, rfl⟩
  go_wp2_with fail
  refine (PY.out _).mono ?_
  rintro e w3 ⟨rfl, rfl⟩
  go_wp2
  go_loopw [10, 11, 12, 13] (fun tx wn dn ix wr => ∃ k : Nat, k ≤ rows.length ∧ k ≤ 12 ∧ tx = .string ⟨(Hm.rText ((rows.map rr).take k)).toArray⟩ ∧ wn = .bool (Hm.rWant ((rows.map rr).take k) x y) ∧ dn = .bool (((rows.map rr).take k).any (·.fits x y)) ∧ ix = .int .i64 k ∧ Below w3.heap.size w3 wr) (fun _ _ _ ix _ => 12 - (intOf ix).toNat)
  case atStart => exact ⟨0, by omega, by omega, rfl, rfl, rfl, rfl, Below.refl _ _⟩
  case round =>
    obtain ⟨k, hk, hk12, rfl, rfl, rfl, rfl, hb⟩ := hrel
    have HB : Hid (Below w.heap.size w wr) := Below.next HB1.out (Nat.le_refl _) hb
    have HBr : Hid (Below w3.heap.size w3 wr) := hb
    have hlen := Hm.rtext_len ((rows.map rr).take k)
    have htk : ((rows.map rr).take k).length ≤ 12 := by simp; omega
    clear hb
    by_cases hlt : k < rows.length ∧ k < 12
    · obtain ⟨hlt, hlt12⟩ := hlt
      have hki : (k : Int) < (rows.length : Int) := by omega
      have hk12i : (k : Int) < 12 := by omega
      obtain ⟨r, hrk⟩ : ∃ r, rows[k]? = some r := ⟨_, List.getElem?_eq_getElem hlt⟩
      have hrm : r ∈ rows := List.mem_of_getElem? hrk
      have HTK : Hid ((rows.map rr).take (k + 1) = (rows.map rr).take k ++ [rr r]) := by
        show _ = _
        rw [List.take_add_one, List.getElem?_map, hrk]; rfl
      obtain ⟨b, off, rfl, hcs⟩ := HR.out.cells k r hrk
      have hlo := HR.out.lo r hrm
      have hhi := HR.out.hi r hrm
      obtain ⟨r0, r1, r2, r3, r4, rfl⟩ := five (HR.out.len r hrm)
      obtain ⟨d0, d1, d2, d3, d4⟩ := RowsAt.row5 hcs HB.out
      have P0 : Hid (∀ w, Calls Tryz.prog 22 #[.int .i64 r0, .int .i64 24] w fun e w' => e = .returned (.int .i64 (Hm.pick r0 24)) ∧ w' = w) := fun w => pick_any r0 24 (by decide) (by decide) (hlo _ (by simp)) (hhi _ (by simp)) w
      have P1 : Hid (∀ w, Calls Tryz.prog 22 #[.int .i64 r1, .int .i64 24] w fun e w' => e = .returned (.int .i64 (Hm.pick r1 24)) ∧ w' = w) := fun w => pick_any r1 24 (by decide) (by decide) (hlo _ (by simp)) (hhi _ (by simp)) w
      have P2 : Hid (∀ w, Calls Tryz.prog 22 #[.int .i64 r2, .int .i64 8] w fun e w' => e = .returned (.int .i64 (Hm.pick r2 8)) ∧ w' = w) := fun w => pick_any r2 8 (by decide) (by decide) (hlo _ (by simp)) (hhi _ (by simp)) w
      have P3 : Hid (∀ w, Calls Tryz.prog 22 #[.int .i64 r3, .int .i64 3] w fun e w' => e = .returned (.int .i64 (Hm.pick r3 3)) ∧ w' = w) := fun w => pick_any r3 3 (by decide) (by decide) (hlo _ (by simp)) (hhi _ (by simp)) w
      have l3 := hlo r3 (by simp)
      have u3 := hhi r3 (by simp)
      have t3 := Hm.tdiv_bd (d := 3) l3 u3 (by omega)
      have P4 : Hid (∀ w, Calls Tryz.prog 22 #[.int .i64 (r3.tdiv 3), .int .i64 3] w fun e w' => e = .returned (.int .i64 (Hm.pick (r3.tdiv 3) 3)) ∧ w' = w) := fun w => pick_any _ 3 (by decide) (by decide) (by omega) (by omega) w
      have XL : Hid ((rr [r0, r1, r2, r3, r4]).line = Hm.rFacs (Hm.pick r3 3) (Hm.pick r0 24) (Hm.pick r1 24) ++ 46 :: (Hm.rSev (Hm.pick (r3.tdiv 3) 3) (Hm.pick r2 8) ++ 32 :: Hm.rVerd r4)) := rfl
      have XF : Hid ((rr [r0, r1, r2, r3, r4]).fits x y = (Hm.fFits (Hm.pick r3 3) (Hm.pick r0 24) (Hm.pick r1 24) x && Hm.sFits (Hm.pick (r3.tdiv 3) 3) (Hm.pick r2 8) y)) := rfl
      have XK : Hid ((rr [r0, r1, r2, r3, r4]).keep = r4) := rfl
      have ha := Hm.pick_lt r0 (n := 24) (by decide)
      have hbb := Hm.pick_lt r1 (n := 24) (by decide)
      have hc := Hm.pick_lt r2 (n := 8) (by decide)
      have hm1 := Hm.pick_lt r3 (n := 3) (by decide)
      have hm2 := Hm.pick_lt (r3.tdiv 3) (n := 3) (by decide)
      generalize rr [r0, r1, r2, r3, r4] = R at HTK XL XF XK
      generalize Hm.pick r0 24 = a at P0 XL XF ha
      generalize Hm.pick r1 24 = b' at P1 XL XF hbb
      generalize Hm.pick r2 8 = c at P2 XL XF hc
      generalize Hm.pick r3 3 = m1 at P3 XL XF hm1
      generalize Hm.pick (r3.tdiv 3) 3 = m2 at P4 XL XF hm2
      have KA : Hid (∀ w, Calls Tryz.prog 30 #[.int .i64 (a : Int)] w fun e w' => e = .returned (.string ⟨(Hm.facName a).toArray⟩) ∧ Below w.heap.size w w') := fun w => by
        have := kfacility_any (a : Int) (by omega) (by omega) w
        rwa [Hm.pick_small ha] at this
      have KB : Hid (∀ w, Calls Tryz.prog 30 #[.int .i64 (b' : Int)] w fun e w' => e = .returned (.string ⟨(Hm.facName b').toArray⟩) ∧ Below w.heap.size w w') := fun w => by
        have := kfacility_any (b' : Int) (by omega) (by omega) w
        rwa [Hm.pick_small hbb] at this
      have KC : Hid (∀ w, Calls Tryz.prog 31 #[.int .i64 (c : Int)] w fun e w' => e = .returned (.string ⟨(Hm.sevName c).toArray⟩) ∧ Below w.heap.size w w') := fun w => by
        have := kseverity_any (c : Int) (by omega) (by omega) w
        rwa [Hm.pick_small hc] at this
      have hA := (Hm.fac_one ⟨a, ha⟩).2.1
      have hB := (Hm.fac_one ⟨b', hbb⟩).2.1
      have hC := (Hm.sev_one ⟨c, hc⟩).2.2.1
      dsimp only at hA hB hC
      have XA : Hid (∀ m, Hm.rFacs m a b' = if m = 0 then Hm.facName a else if m = 1 then Hm.facName a ++ 44 :: Hm.facName b' else [42]) := fun _ => rfl
      have XC : Hid (∀ m, Hm.rSev m c = if m = 0 then Hm.sevName c else if m = 1 then 61 :: Hm.sevName c else [42]) := fun _ => rfl
      generalize Hm.facName a = A at KA XA hA
      generalize Hm.facName b' = B at KB XA hB
      generalize Hm.sevName c = C at KC XC hC
      have HX : Hid (Hm.rText ((rows.map rr).take (k + 1)) = Hm.rText ((rows.map rr).take k) ++ (Hm.rFacs m1 a b' ++ 46 :: (Hm.rSev m2 c ++ 32 :: Hm.rVerd r4) ++ [10])) := by
        show _ = _
        rw [HTK.out, Hm.rText_snoc, XL.out]
      obtain ⟨D, hD⟩ : ∃ D, ((rows.map rr).take k).any (·.fits x y) = D := ⟨_, rfl⟩
      have HW : Hid (∀ ft, (Hm.fFits m1 a b' x && Hm.sFits m2 c y) = ft → Hm.rWant ((rows.map rr).take (k + 1)) x y = (if ft = true ∧ D = false then Hm.rKeep r4 else Hm.rWant ((rows.map rr).take k) x y) ∧ ((rows.map rr).take (k + 1)).any (·.fits x y) = (D || ft)) := fun ft hft => by
        have := Hm.step_want ((rows.map rr).take k) R x y hD (XF.out.trans hft)
        rw [XK.out] at this
        rw [HTK.out]
        exact this
      rw [hD]
      have htx : (Hm.rText ((rows.map rr).take k)).length ≤ 384 := by omega
      generalize Hm.rText ((rows.map rr).take k) = TX at HX htx hlen
      generalize Hm.rWant ((rows.map rr).take k) x y = bw at HW
      have HK1 : Hid (k + 1 ≤ rows.length) := hlt
      clear hD hcs hlo hhi hrk hrm HTK XL XF XK hlen htk hmost hlt hk
      go_wp2_with fail
      refine (P0.out _).mono ?_
      rintro e w4 ⟨rfl, rfl⟩
      go_wp2_with fail
      refine (P1.out _).mono ?_
      rintro e w4 ⟨rfl, rfl⟩
      go_wp2_with fail
      refine (P2.out _).mono ?_
      rintro e w4 ⟨rfl, rfl⟩
      go_wp2_with fail
      refine (KA.out _).mono ?_
      rintro e w5 ⟨rfl, hb5⟩
      have HR5 : Hid (w5.heap[wr.heap.size]? = some (.cells #[.int .i64 r0, .int .i64 r1, .int .i64 r2, .int .i64 r3, .int .i64 r4] 55 (0, 0))) := (hb5.block _ (by simp)).trans (heap_alloc_new _ _)
      have HB5 : Hid (Below w3.heap.size w3 w5) := Below.next (HBr.out.alloc HBr.out.size _) (Nat.le_refl _) hb5
      have c3 : w5.cell? ⟨wr.heap.size, 3, none⟩ = some (.int .i64 r3) := by simp [World.cell?, HR5.out]
      have c4 : w5.cell? ⟨wr.heap.size, 4, none⟩ = some (.int .i64 r4) := by simp [World.cell?, HR5.out]
      have hl5 : wr.heap.size < w5.heap.size := (Array.getElem?_eq_some_iff.1 HR5.out).1
      clear hb5 d0 d1 d2 d3 d4 HR5
      go_wp2_with fail
      refine (P3.out _).mono ?_
      rintro e w6 ⟨rfl, rfl⟩
      iterate 5 (first | go_values | go_skip | go_guarded | go_step | go_upon | go_back | go_simp)
      go_cut [18, 19] (fun s18 s19 wc => s18 = .bool (Hm.fFits m1 a b' x) ∧ s19 = .string ⟨(Hm.rFacs m1 a b').toArray⟩ ∧ Below w3.heap.size w3 wc ∧ wc.cell? ⟨wr.heap.size, 3, none⟩ = some (.int .i64 r3) ∧ wc.cell? ⟨wr.heap.size, 4, none⟩ = some (.int .i64 r4) ∧ wr.heap.size < wc.heap.size)
      case first =>
        rcases three hm1 with rfl | rfl | rfl
        · skip
          by_cases xa : x = a
          · have qxa : ((x : Int) == (a : Int)) = true := by simp; omega
            have HXA : Hid (decide (x = a) = true) := by show _ = _; simp [xa]
            clear xa
            go_wp2
            go_meet
            case rel => exact ⟨by rw [show Hm.fFits 0 a b' x = true from by unfold Hm.fFits; rw [if_pos rfl, HXA.out], qxa], by rw [XA.out]; simp, HB5.out, c3, c4, hl5⟩
          · have qxa : ((x : Int) == (a : Int)) = false := by simp; omega
            have HXA : Hid (decide (x = a) = false) := by show _ = _; simp [xa]
            clear xa
            go_wp2
            go_meet
            case rel => exact ⟨by rw [show Hm.fFits 0 a b' x = false from by unfold Hm.fFits; rw [if_pos rfl, HXA.out], qxa], by rw [XA.out]; simp, HB5.out, c3, c4, hl5⟩
        · skip
          by_cases xa : x = a
          · have qxa : ((x : Int) == (a : Int)) = true := by simp; omega
            have HXA : Hid (decide (x = a) = true) := by show _ = _; simp [xa]
            clear xa
            go_wp2_with fail
            refine (KB.out _).mono ?_
            rintro e w7 ⟨rfl, hb7⟩
            have HB7 : Hid (Below w3.heap.size w3 w7) := Below.next HB5.out (Nat.le_refl _) hb7
            have k3 := (hb7.cell (p := ⟨wr.heap.size, 3, none⟩) hl5).trans c3
            have k4 := (hb7.cell (p := ⟨wr.heap.size, 4, none⟩) hl5).trans c4
            have kl := Nat.lt_of_lt_of_le hl5 hb7.size
            clear hb7
            go_wp2
            go_meet
            case rel => exact ⟨by rw [show Hm.fFits 1 a b' x = true from by unfold Hm.fFits; rw [if_neg (by decide), if_pos rfl, HXA.out]; rfl], by rw [XA.out]; simp, HB7.out, k3, k4, kl⟩
          · have qxa : ((x : Int) == (a : Int)) = false := by simp; omega
            have HXA : Hid (decide (x = a) = false) := by show _ = _; simp [xa]
            clear xa
            by_cases xb : x = b'
            · have qxb : ((x : Int) == (b' : Int)) = true := by simp; omega
              have HXB : Hid (decide (x = b') = true) := by show _ = _; simp [xb]
              clear xb
              go_wp2_with fail
              refine (KB.out _).mono ?_
              rintro e w7 ⟨rfl, hb7⟩
              have HB7 : Hid (Below w3.heap.size w3 w7) := Below.next HB5.out (Nat.le_refl _) hb7
              have k3 := (hb7.cell (p := ⟨wr.heap.size, 3, none⟩) hl5).trans c3
              have k4 := (hb7.cell (p := ⟨wr.heap.size, 4, none⟩) hl5).trans c4
              have kl := Nat.lt_of_lt_of_le hl5 hb7.size
              clear hb7
              go_wp2
              go_meet
              case rel => exact ⟨by rw [show Hm.fFits 1 a b' x = true from by unfold Hm.fFits; rw [if_neg (by decide), if_pos rfl, HXA.out, HXB.out]; rfl], by rw [XA.out]; simp, HB7.out, k3, k4, kl⟩
            · have qxb : ((x : Int) == (b' : Int)) = false := by simp; omega
              have HXB : Hid (decide (x = b') = false) := by show _ = _; simp [xb]
              clear xb
              go_wp2_with fail
              refine (KB.out _).mono ?_
              rintro e w7 ⟨rfl, hb7⟩
              have HB7 : Hid (Below w3.heap.size w3 w7) := Below.next HB5.out (Nat.le_refl _) hb7
              have k3 := (hb7.cell (p := ⟨wr.heap.size, 3, none⟩) hl5).trans c3
              have k4 := (hb7.cell (p := ⟨wr.heap.size, 4, none⟩) hl5).trans c4
              have kl := Nat.lt_of_lt_of_le hl5 hb7.size
              clear hb7
              go_wp2
              go_meet
              case rel => exact ⟨by rw [show Hm.fFits 1 a b' x = false from by unfold Hm.fFits; rw [if_neg (by decide), if_pos rfl, HXA.out, HXB.out]; rfl], by rw [XA.out]; simp, HB7.out, k3, k4, kl⟩
        · skip
          go_wp2
          go_meet
          case rel => exact ⟨by rw [show Hm.fFits 2 a b' x = true from rfl], by rw [XA.out]; simp, HB5.out, c3, c4, hl5⟩
      case rest =>
        obtain ⟨rfl, rfl, hbc, c3, c4, hl5⟩ := hcut
        have HB5 : Hid (Below w3.heap.size w3 wc) := hbc
        have hFl := (Hm.rFacs_at (m := m1) ha hbb).2.2.2.1
        clear hbc P3 P0 P1 P2 KA KB XA hm1
        generalize Hm.rFacs m1 a b' = F at HX hFl
        generalize Hm.fFits m1 a b' x = f1 at HW
        go_wp2_with fail
        refine (P4.out _).mono ?_
        rintro e w7 ⟨rfl, rfl⟩
        iterate 5 (first | go_values | go_skip | go_guarded | go_step | go_upon | go_back | go_simp)
        go_cut [18, 19] (fun s18 s19 wc => s18 = .bool (f1 && Hm.sFits m2 c y) ∧ s19 = .string ⟨(F ++ 46 :: Hm.rSev m2 c).toArray⟩ ∧ Below w3.heap.size w3 wc ∧ wc.cell? ⟨wr.heap.size, 4, none⟩ = some (.int .i64 r4))
        case first =>
          rcases three hm2 with rfl | rfl | rfl
          · skip
            cases f1
            · go_wp2_with fail
              refine (KC.out _).mono ?_
              rintro e w8 ⟨rfl, hb8⟩
              have HB8 : Hid (Below w3.heap.size w3 w8) := Below.next HB5.out (Nat.le_refl _) hb8
              have k4 := (hb8.cell (p := ⟨wr.heap.size, 4, none⟩) hl5).trans c4
              clear hb8
              go_wp2
              go_meet
              case rel => exact ⟨by rw [show (false && Hm.sFits 0 c y) = false from rfl], by rw [XC.out]; simp, HB8.out, k4⟩
            · by_cases yc : y ≤ c
              · have qyc : (y : Int) ≤ (c : Int) := by omega
                have HYC : Hid (decide (y ≤ c) = true) := by show _ = _; simp [yc]
                clear yc
                go_wp2_with fail
                refine (KC.out _).mono ?_
                rintro e w8 ⟨rfl, hb8⟩
                have HB8 : Hid (Below w3.heap.size w3 w8) := Below.next HB5.out (Nat.le_refl _) hb8
                have k4 := (hb8.cell (p := ⟨wr.heap.size, 4, none⟩) hl5).trans c4
                clear hb8
                go_wp2
                go_meet
                case rel => exact ⟨by rw [show (true && Hm.sFits 0 c y) = true from by unfold Hm.sFits; rw [if_pos rfl, HYC.out]; rfl], by rw [XC.out]; simp, HB8.out, k4⟩
              · have qyc : ¬ (y : Int) ≤ (c : Int) := by omega
                have HYC : Hid (decide (y ≤ c) = false) := by show _ = _; simp [yc]
                clear yc
                go_wp2_with fail
                refine (KC.out _).mono ?_
                rintro e w8 ⟨rfl, hb8⟩
                have HB8 : Hid (Below w3.heap.size w3 w8) := Below.next HB5.out (Nat.le_refl _) hb8
                have k4 := (hb8.cell (p := ⟨wr.heap.size, 4, none⟩) hl5).trans c4
                clear hb8
                go_wp2
                go_meet
                case rel => exact ⟨by rw [show (true && Hm.sFits 0 c y) = false from by unfold Hm.sFits; rw [if_pos rfl, HYC.out]; rfl, HYC.out], by rw [XC.out]; simp, HB8.out, k4⟩
          · skip
            cases f1
            · go_wp2_with fail
              refine (KC.out _).mono ?_
              rintro e w8 ⟨rfl, hb8⟩
              have HB8 : Hid (Below w3.heap.size w3 w8) := Below.next HB5.out (Nat.le_refl _) hb8
              have k4 := (hb8.cell (p := ⟨wr.heap.size, 4, none⟩) hl5).trans c4
              clear hb8
              go_wp2
              go_meet
              case rel => exact ⟨by rw [show (false && Hm.sFits 1 c y) = false from rfl], by rw [XC.out]; simp, HB8.out, k4⟩
            · by_cases yc : y = c
              · have qyc : ((y : Int) == (c : Int)) = true := by simp; omega
                have HYC : Hid (decide (y = c) = true) := by show _ = _; simp [yc]
                clear yc
                go_wp2_with fail
                refine (KC.out _).mono ?_
                rintro e w8 ⟨rfl, hb8⟩
                have HB8 : Hid (Below w3.heap.size w3 w8) := Below.next HB5.out (Nat.le_refl _) hb8
                have k4 := (hb8.cell (p := ⟨wr.heap.size, 4, none⟩) hl5).trans c4
                clear hb8
                go_wp2
                go_meet
                case rel => exact ⟨by rw [show (true && Hm.sFits 1 c y) = true from by unfold Hm.sFits; rw [if_neg (by decide), if_pos rfl, HYC.out]; rfl], by rw [XC.out]; simp, HB8.out, k4⟩
              · have qyc : ((y : Int) == (c : Int)) = false := by simp; omega
                have HYC : Hid (decide (y = c) = false) := by show _ = _; simp [yc]
                clear yc
                go_wp2_with fail
                refine (KC.out _).mono ?_
                rintro e w8 ⟨rfl, hb8⟩
                have HB8 : Hid (Below w3.heap.size w3 w8) := Below.next HB5.out (Nat.le_refl _) hb8
                have k4 := (hb8.cell (p := ⟨wr.heap.size, 4, none⟩) hl5).trans c4
                clear hb8
                go_wp2
                go_meet
                case rel => exact ⟨by rw [show (true && Hm.sFits 1 c y) = false from by unfold Hm.sFits; rw [if_neg (by decide), if_pos rfl, HYC.out]; rfl], by rw [XC.out]; simp, HB8.out, k4⟩
          · skip
            cases f1
            · go_wp2
              go_meet
              case rel => exact ⟨by rw [show (false && Hm.sFits 2 c y) = false from rfl], by rw [XC.out]; simp, HB5.out, c4⟩
            · go_wp2
              go_meet
              case rel => exact ⟨by rw [show (true && Hm.sFits 2 c y) = true from rfl], by rw [XC.out]; simp, HB5.out, c4⟩
        case rest =>
          obtain ⟨rfl, rfl, hbc, c4⟩ := hcut
          have HB5 : Hid (Below w3.heap.size w3 wc) := hbc
          have hSl := (Hm.rSev_at (m := m2) hc).2.2.1
          clear hbc P4 KC XC hm2 c3
          generalize Hm.rSev m2 c = S at HX hSl
          generalize (f1 && Hm.sFits m2 c y) = f2 at HW
          by_cases kp : r4.tmod 2 = 0
          · have hkp : (r4.tmod 2 == 0) = true := by simp [kp]
            have HKP : Hid (r4.tmod 2 = 0) := kp
            clear kp
            cases f2
            · go_wp2
              go_roundw
              case rel =>
                have hw := HW.out false rfl
                refine ⟨k + 1, HK1.out, by omega, ?_, ?_, ?_, int_eq (by simp), HB5.out⟩
                · rw [HX.out]; simp [Hm.rVerd, HKP.out, Hm.kKeep]
                · rw [hw.1]; simp
                · rw [hw.2]; simp
              case measure => simp [intOf]; omega
            · cases D
              · go_wp2
                go_roundw
                case rel =>
                  have hw := HW.out true rfl
                  refine ⟨k + 1, HK1.out, by omega, ?_, ?_, ?_, int_eq (by simp), HB5.out⟩
                  · rw [HX.out]; simp [Hm.rVerd, HKP.out, Hm.kKeep]
                  · rw [hw.1]; simp [Hm.rKeep, HKP.out]
                  · rw [hw.2]; simp
                case measure => simp [intOf]; omega
              · go_wp2
                go_roundw
                case rel =>
                  have hw := HW.out true rfl
                  refine ⟨k + 1, HK1.out, by omega, ?_, ?_, ?_, int_eq (by simp), HB5.out⟩
                  · rw [HX.out]; simp [Hm.rVerd, HKP.out, Hm.kKeep]
                  · rw [hw.1]; simp
                  · rw [hw.2]; simp
                case measure => simp [intOf]; omega
          · have hkp : (r4.tmod 2 == 0) = false := by simp [kp]
            have HKP : Hid (¬ r4.tmod 2 = 0) := kp
            clear kp
            cases f2
            · go_wp2
              go_roundw
              case rel =>
                have hw := HW.out false rfl
                refine ⟨k + 1, HK1.out, by omega, ?_, ?_, ?_, int_eq (by simp), HB5.out⟩
                · rw [HX.out]; simp [Hm.rVerd, HKP.out, Hm.kDrop]
                · rw [hw.1]; simp
                · rw [hw.2]; simp
              case measure => simp [intOf]; omega
            · cases D
              · go_wp2
                go_roundw
                case rel =>
                  have hw := HW.out true rfl
                  refine ⟨k + 1, HK1.out, by omega, ?_, ?_, ?_, int_eq (by simp), HB5.out⟩
                  · rw [HX.out]; simp [Hm.rVerd, HKP.out, Hm.kDrop]
                  · rw [hw.1]; simp [Hm.rKeep, HKP.out]
                  · rw [hw.2]; simp
                case measure => simp [intOf]; omega
              · go_wp2
                go_roundw
                case rel =>
                  have hw := HW.out true rfl
                  refine ⟨k + 1, HK1.out, by omega, ?_, ?_, ?_, int_eq (by simp), HB5.out⟩
                  · rw [HX.out]; simp [Hm.rVerd, HKP.out, Hm.kDrop]
                  · rw [hw.1]; simp
                  · rw [hw.2]; simp
                case measure => simp [intOf]; omega
    · have hTX : Hid (Hm.rText ((rows.map rr).take k) = Hm.rText ((rows.map rr).take k)) := rfl
      have hmade := Hm.newRules_made ((rows.map rr).take k) htk
      have NR : Hid (∀ w, Tabs w → Calls Tryz.prog 32 #[.string ⟨(Hm.rText ((rows.map rr).take k)).toArray⟩] w fun e w' => Below w.heap.size w w' ∧ ∃ v, e = .returned (.tuple #[.pointer (some ⟨w.heap.size, 0, none⟩), .int .i64 0, .int .i64 0]) ∧ RulesAt w' w.heap.size (((rows.map rr).take k).map (·.rl)) v) := fun w hT => by
        have := NewRules_any ⟨(Hm.rText ((rows.map rr).take k)).toArray⟩ w hT (by show (Hm.rText ((rows.map rr).take k)).toArray.size ≤ _; rw [List.size_toArray]; omega)
        rw [show (⟨(Hm.rText ((rows.map rr).take k)).toArray⟩ : ByteArray).data.toList = Hm.rText ((rows.map rr).take k) by simp, hmade] at this
        refine this.mono fun e w' ⟨h1, h2, v, h3⟩ => ⟨h1, v, h2, h3⟩
      have KP0 : Hid (∀ p v w, RulesAt w p (((rows.map rr).take k).map (·.rl)) v → Calls Tryz.prog 33 #[.pointer (some ⟨p, 0, none⟩), .int .i64 x, .int .i64 y] w fun e w' => e = .returned (.tuple #[.bool (Hm.rWant ((rows.map rr).take k) x y), .int .i64 0]) ∧ Below w.heap.size w w') := fun p v w h => by
        have := Keeps_any p _ v x y w h (Hm.newRules_small hmade) hx hy (by rw [List.length_map]; omega)
        rwa [Hm.keeps_made _ hx hy] at this
      have KN1 : Hid (∀ p w, Calls Tryz.prog 33 #[.pointer (some ⟨p, 0, none⟩), .int .i64 ((x : Int) + 24), .int .i64 y] w fun e w' => e = .returned (.tuple #[.bool false, .int .i64 10]) ∧ Below w.heap.size w w') := fun p w => Keeps_no p _ _ w (by simp [Hm.isSource]; omega)
      have KN2 : Hid (∀ p w, Calls Tryz.prog 33 #[.pointer (some ⟨p, 0, none⟩), .int .i64 x, .int .i64 (-1 - (y : Int))] w fun e w' => e = .returned (.tuple #[.bool false, .int .i64 10]) ∧ Below w.heap.size w w') := fun p w => Keeps_no p _ _ w (by simp [Hm.isSource]; omega)
      have HTr : Hid (Tabs wr) := HT1.out.next HBr.out
      have hxi : (x : Int) < 24 := by omega
      have hyi : (y : Int) < 8 := by omega
      have htx : (Hm.rText ((rows.map rr).take k)).length ≤ 384 := by omega
      generalize ((rows.map rr).take k).map (·.rl) = RL at NR KP0
      generalize Hm.rText ((rows.map rr).take k) = TX at NR hTX htx hlen
      generalize Hm.rWant ((rows.map rr).take k) x y = bw at KP0
      generalize ((rows.map rr).take k).any (·.fits x y) = D
      clear hmade htk hlen hmost hTX
      have hcase : ((k : Int) < (rows.length : Int) ∧ ¬ (k : Int) < 12) ∨ ¬ (k : Int) < (rows.length : Int) := by omega
      clear hlt hk hk12
      rcases hcase with ⟨hki, hk12i⟩ | hki
      all_goals (
        go_wp2_with fail
        refine (NR.out _ HTr.out).mono ?_
        rintro e w6 ⟨hb6, v, rfl, hra⟩
        have HB6 : Hid (Below w.heap.size w w6) := Below.next HB.out (Nat.le_refl _) hb6
        have HRA := show Hid _ from hra
        clear hb6 hra
        go_wp2_with fail
        refine (KP0.out _ v _ HRA.out).mono ?_
        rintro e w7 ⟨rfl, hb7⟩
        have HB7 : Hid (Below w.heap.size w w7) := Below.next HB6.out (Nat.le_refl _) hb7
        clear hb7
        go_wp2_with fail
        refine (KN1.out _ _).mono ?_
        rintro e w8 ⟨rfl, hb8⟩
        have HB8 : Hid (Below w.heap.size w w8) := Below.next HB7.out (Nat.le_refl _) hb8
        clear hb8
        go_wp2_with fail
        refine (KN2.out _ _).mono ?_
        rintro e w9 ⟨rfl, hb9⟩
        have HB9 : Hid (Below w.heap.size w w9) := Below.next HB8.out (Nat.le_refl _) hb9
        clear hb9
        go_wp2
        go_ret
        exact ⟨rfl, HB9.out⟩)
end Go.Proofs.YtdlhbmncbmconaaGreatDoor

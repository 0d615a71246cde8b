/- Contract: same (heraldkeep), of slices that may begin within their block. -/
import Derived.Test.YtdlhbmncbmconaaGreatDoorBq
import Derived.Test.YtdlhbmncbmconaaGreatDoorWo
namespace Go.Proofs.YtdlhbmncbmconaaGreatDoor
open Go.RowKit Go.Sort
attribute [local go_sem] alloc_drewN setCell_drewN
theorem from_form {w : World} {base : Nat} {v : Value} {L : List (List UInt8)} (h : Hw.ownsFrom w base 9 v (L.map strV)) : ∃ ad cap, v = .slice ad L.length cap := by
  obtain ⟨ad, cap, e⟩ := Hw.ownsFrom_form h
  exact ⟨ad, cap, by rw [e, List.length_map]⟩
theorem from_some {w : World} {base n cap : Nat} {ad : Option Addr} {L : List (List UInt8)} (h : Hw.ownsFrom w base 9 (.slice ad n cap) (L.map strV)) (hn : 0 < L.length) : ∃ g o, ad = some ⟨g, o, none⟩ := by
  rcases h with ⟨_, hz⟩ | ⟨g, o, c, cur, hv, _⟩
  · have := congrArg List.length hz
    simp at this
    subst this
    simp at hn
  · cases hv
    exact ⟨g, o, rfl⟩
theorem ownsFrom_drop {w : World} {base g o n cap : Nat} {e : TypeId} {xs : List Value} (h : Hw.ownsFrom w base e (.slice (some ⟨g, o, none⟩) n cap) xs) {d : Nat} (hd : d ≤ xs.length) (hc : d < cap) : Hw.ownsFrom w base e (.slice (some ⟨g, o + d, none⟩) (xs.length - d) (cap - d)) (xs.drop d) := by
  rcases h with ⟨hv, _⟩ | ⟨g', o', cap', cur, hv, hb, hg, h1, h2, h3, h4⟩
  · cases hv
  · cases hv
    refine .inr ⟨g, o + d, cap - d, cur, by rw [List.length_drop], hb, hg, by rw [List.length_drop]; omega, by omega, by omega, ?_⟩
    rw [List.length_drop, ← List.drop_drop, ← List.drop_take, h4]
def cutV (a : Option Addr) (l h m : Nat) : Value := sliced a l h m 1
theorem ownsFrom_cut {w : World} {base n cap : Nat} {ad : Option Addr} {e : TypeId} {xs : List Value} (h : Hw.ownsFrom w base e (.slice ad n cap) xs) {lo hi : Nat} (h1 : lo ≤ hi) (h2 : hi ≤ xs.length) : Hw.ownsFrom w base e (cutV ad lo hi cap) ((xs.drop lo).take (hi - lo)) := by
  rcases h with ⟨hv, hx⟩ | ⟨g, o, cap', cur, hv, hb, hg, k1, k2, k3, k4⟩
  · cases hv
    subst hx
    have e1 : lo = 0 := by simp at h2; omega
    have e2 : hi = 0 := by simpa using h2
    subst e1 e2
    exact .inl ⟨rfl, rfl⟩
  · cases hv
    have hlen : ((xs.drop lo).take (hi - lo)).length = hi - lo := by rw [List.length_take, List.length_drop]; omega
    by_cases hm : cap = lo
    · subst hm
      have e1 : hi = cap := by omega
      subst e1
      refine .inr ⟨g, o, 0, cur, by simp [cutV, sliced], hb, hg, by simp, by omega, by omega, by simp⟩
    · refine .inr ⟨g, o + lo, cap - lo, cur, ?_, hb, hg, by rw [hlen]; omega, by omega, by omega, ?_⟩
      · rw [hlen]
        simp [cutV, sliced, hm, Addr.add]
      · rw [hlen, ← List.drop_drop, ← k4, List.drop_take, List.take_take, Nat.min_eq_left (by omega)]
theorem run_cut_l (w : World) (a : Option Addr) (n c : Nat) (l : Int) (h0 : 0 ≤ l) (h1 : l ≤ n) : (Instr.slice 42 (.slice a n c) (some (.int .i64 l)) none none).run Tryz.prog w = .ok (cutV a l.toNat n c) w := by
  rw [run_slice_l w 42 a n c (by kernel_rfl) .i64 l h0 h1]
  go_simp
  simp [cutV, sliced]
theorem run_cut_lh (w : World) (a : Option Addr) (n c : Nat) (l h : Int) (h0 : 0 ≤ l) (h1 : l ≤ h) (h2 : h ≤ c) : (Instr.slice 42 (.slice a n c) (some (.int .i64 l)) (some (.int .i64 h)) none).run Tryz.prog w = .ok (cutV a l.toNat h.toNat c) w := by
  rw [run_slice_lh w 42 a n c (by kernel_rfl) .i64 .i64 l h h0 h1 h2]
  go_simp
  simp [cutV, sliced]
theorem same_from (a b : List (List UInt8)) (va vb : Value) (ba bb : Nat) (w : World) (ha : Hw.ownsFrom w ba 9 va (a.map strV)) (hb : Hw.ownsFrom w bb 9 vb (b.map strV)) (hl : a.length ≤ 1000000000) (hl2 : b.length ≤ 1000000000) :
    Calls Tryz.prog 29 #[va, vb] w fun e w' => e = .returned (.bool (decide (a = b))) ∧ Below w.heap.size w w' := by
  obtain ⟨aa, ca, rfl⟩ := from_form ha
  obtain ⟨ab, cb, rfl⟩ := from_form hb
  by_cases hlen : a.length = b.length
  · have hli : (a.length : Int) = (b.length : Int) := by omega
    have HA : Hid (Hw.ownsFrom w ba 9 (.slice aa a.length ca) (a.map strV)) := ha
    have HB0 : Hid (Hw.ownsFrom w bb 9 (.slice ab b.length cb) (b.map strV)) := hb
    have HLen : Hid (a.length = b.length) := hlen
    clear ha hb hlen
    go_enter Tryz.func29, Tryz.ntmps29
    go_wp2
    go_loopw [5] (fun ix wr => ∃ k : Nat, k ≤ a.length ∧ ix = .int .i64 k ∧ a.take k = b.take k ∧ Below w.heap.size w wr) (fun ix _ => a.length - (intOf ix).toNat)
    case atStart => exact ⟨0, by omega, rfl, rfl, Below.refl _ _⟩
    case round =>
      obtain ⟨k, hk, rfl, hv, hbr⟩ := hrel
      have HV : Hid (a.take k = b.take k) := hv
      have HBr : Hid (Below w.heap.size w wr) := hbr
      clear hv hbr
      by_cases hlt : k < a.length
      · have hki : (k : Int) < (a.length : Int) := by omega
        have hki2 : (k : Int) < (b.length : Int) := by omega
        have hltb : k < b.length := by omega
        obtain ⟨ga, oa, rfl⟩ := from_some HA.out (by omega)
        obtain ⟨gb, ob, rfl⟩ := from_some HB0.out (by omega)
        have c1 : w.cell? ⟨ga, oa + k, none⟩ = some (strV a[k]) := Hw.ownsFrom_at HA.out (by simp [hlt])
        have c2 : w.cell? ⟨gb, ob + k, none⟩ = some (strV b[k]) := Hw.ownsFrom_at HB0.out (by simp [hltb])
        have d1 : wr.cell? ⟨ga, oa + k, none⟩ = some (strV a[k]) := (HBr.out.cell (p := ⟨ga, oa + k, none⟩) (block_lt_of_cell c1)).trans c1
        have d2 : wr.cell? ⟨gb, ob + k, none⟩ = some (strV b[k]) := (HBr.out.cell (p := ⟨gb, ob + k, none⟩) (block_lt_of_cell c2)).trans c2
        have HT1 : Hid (a.take (k + 1) = a.take k ++ [a[k]]) := (List.take_append_getElem hlt).symm
        have HT2 : Hid (b.take (k + 1) = b.take k ++ [b[k]]) := (List.take_append_getElem hltb).symm
        unfold strV at d1 d2
        have HX : Hid (a[k] = b[k] ∨ ¬ a = b) := by
          show _ ∨ _
          by_cases e : a[k] = b[k]
          · exact .inl e
          · exact .inr (fun e' => e (by subst e'; rfl))
        generalize a[k] = x at d1 HT1 HX
        generalize b[k] = y at d2 HT2 HX
        clear c1 c2
        by_cases hxy : x = y
        · subst hxy
          go_wp2_with fail
          go_quiet (fail)
          go_wp2
          go_roundw
          case rel => exact ⟨k + 1, by omega, int_eq (by simp), by rw [HT1.out, HT2.out, HV.out], Below.next HBr.out (Nat.le_refl _) (drew_below ⟨_, rfl⟩)⟩
          case measure => simp [intOf]; omega
        · have HN : Hid (decide (a = b) = false) := decide_eq_false (HX.out.resolve_left hxy)
          have hxb : (x == y) = false := beq_eq_false_iff_ne.2 hxy
          go_wp2_with fail
          go_quiet (fail)
          go_wp2
          go_ret
          exact ⟨by rw [HN.out]; rfl, Below.next HBr.out (Nat.le_refl _) (drew_below ⟨_, rfl⟩)⟩
      · have hki : ¬ (k : Int) < (b.length : Int) := by omega
        have HN : Hid (decide (a = b) = true) := decide_eq_true (by
          have h := HV.out
          have := HLen.out
          rwa [List.take_of_length_le (by omega), List.take_of_length_le (by omega)] at h)
        go_wp2
        go_ret
        exact ⟨by rw [HN.out]; rfl, HBr.out⟩
  · have hli : ¬ (a.length : Int) = (b.length : Int) := by omega
    have hlb : ((a.length : Int) == (b.length : Int)) = false := beq_eq_false_iff_ne.2 hli
    have HD : Hid (decide (a = b) = false) := decide_eq_false (fun e => hlen (by rw [e]))
    clear hlen
    go_enter Tryz.func29, Tryz.ntmps29
    go_wp2
    go_ret
    exact ⟨by rw [HD.out]; rfl, Below.refl _ _⟩
end Go.Proofs.YtdlhbmncbmconaaGreatDoor

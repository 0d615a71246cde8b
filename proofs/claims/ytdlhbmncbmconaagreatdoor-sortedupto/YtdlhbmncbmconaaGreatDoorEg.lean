/- Contracts: Keeps of the reference; the program's Keeps where the source is none. -/
import Derived.Test.YtdlhbmncbmconaaGreatDoorEf
namespace Go.Hm
theorem alike_no {r : Rl} {q : RR} {f s : Nat} (h : Alike r q) (hf : f < 24) (hs : s < 8) (hn : f ∉ q.facs ∨ ¬ (q.lo ≤ (s : Int) ∧ (s : Int) ≤ q.hi)) : r.fits f s = false := by
  cases hr : r.fits f s with
  | false => rfl
  | true =>
    have := (h.2.2 f s hf hs).1 hr
    rcases hn with hn | hn
    · exact absurd this.1 hn
    · exact absurd this.2 hn
theorem alike_yes {r : Rl} {q : RR} {f s : Nat} (h : Alike r q) (hf : f < 24) (hs : s < 8) (h1 : f ∈ q.facs) (h2 : q.lo ≤ (s : Int)) (h3 : (s : Int) ≤ q.hi) : r.fits f s = true := (h.2.2 f s hf hs).2 ⟨h1, h2, h3⟩
theorem keeps_no {rs : List Rl} {f s k : Nat} {r : Rl} (h : rs[k]? = some r) (hr : r.fits f s = false) : keeps (rs.drop k) f s = keeps (rs.drop (k + 1)) f s := by
  obtain ⟨hk, hx⟩ := List.getElem?_eq_some_iff.1 h
  rw [List.drop_eq_getElem_cons hk, keeps, hx, if_neg (by rw [hr]; decide)]
theorem keeps_yes {rs : List Rl} {f s k : Nat} {r : Rl} (h : rs[k]? = some r) (hr : r.fits f s = true) : keeps (rs.drop k) f s = r.keep := by
  obtain ⟨hk, hx⟩ := List.getElem?_eq_some_iff.1 h
  rw [List.drop_eq_getElem_cons hk, keeps, hx, if_pos hr]
end Go.Hm
namespace Go.Proofs.YtdlhbmncbmconaaGreatDoor
open Go.RowKit Go.Sort
attribute [local go_sem] app_mk rcut rbyte
theorem own_form4 {w : World} {base e n size : Nat} {v : Value} {xs : List Value} (h : w.ownsRow base e size v n xs) : ∃ a cap, v = .slice a n cap := by
  rcases h.2 with ⟨rfl, h0⟩ | ⟨g, cap, cur, rfl, _⟩
  · exact ⟨none, 0, by rw [h0]⟩
  · exact ⟨_, _, rfl⟩
structure RIt where
  v : Value
  q : Hm.RR
def ritCells (xs : List RIt) : List Value := xs.flatMap fun x => [x.v, .int .i64 x.q.lo, .int .i64 x.q.hi, .bool x.q.keep]
structure RRulesAt (w : World) (p : Nat) (rs : List Hm.Rl) (xs : List RIt) (v : Value) : Prop where
  row : w.heap[p]? = some (.cells #[v] 219 (0, 0))
  own : w.ownsRow (p + 1) 222 4 v xs.length (ritCells xs)
  each : ∀ x ∈ xs, w.ownsRow (p + 1) 3 1 x.v x.q.facs.length (x.q.facs.map natV)
  len : rs.length = xs.length
  alike : ∀ (k : Nat) r x, rs[k]? = some r → xs[k]? = some x → Hm.Alike r x.q
theorem rit_at : ∀ (xs : List RIt) (k : Nat) (x : RIt), xs[k]? = some x → (ritCells xs)[4 * k]? = some x.v ∧ (ritCells xs)[4 * k + 1]? = some (.int .i64 x.q.lo) ∧ (ritCells xs)[4 * k + 2]? = some (.int .i64 x.q.hi) ∧ (ritCells xs)[4 * k + 3]? = some (.bool x.q.keep)
  | [], k, x, h => by simp at h
  | y :: ys, 0, x, h => by
    simp at h
    subst h
    exact ⟨rfl, rfl, rfl, rfl⟩
  | y :: ys, k + 1, x, h => by
    have := rit_at ys k x (by simpa using h)
    have e : ∀ j, (ritCells (y :: ys))[j + 4]? = (ritCells ys)[j]? := fun j => by simp [ritCells]
    rw [show 4 * (k + 1) = 4 * k + 4 by omega, show 4 * k + 4 + 1 = (4 * k + 1) + 4 by omega, show 4 * k + 4 + 2 = (4 * k + 2) + 4 by omega, show 4 * k + 4 + 3 = (4 * k + 3) + 4 by omega, e, e, e, e]
    exact this
theorem rKeeps_no (p : Nat) (f s : Int) (w : World) (h : Hm.isSource f s = false) : Calls Tryz.prog 118 #[.pointer (some ⟨p, 0, none⟩), .int .i64 f, .int .i64 s] w fun e w' => e = .returned (.tuple #[.bool false, .int .i64 10]) ∧ w' = w := by
  rcases (by
    unfold Hm.isSource at h
    simp at h
    omega : f < 0 ∨ (0 ≤ f ∧ 23 < f) ∨ (0 ≤ f ∧ f ≤ 23 ∧ s < 0) ∨ (0 ≤ f ∧ f ≤ 23 ∧ 0 ≤ s ∧ 7 < s)) with k | ⟨k0, k⟩ | ⟨k0, k1, k⟩ | ⟨k0, k1, k2, k⟩
  · clear h
    go_enter Tryz.func118, Tryz.ntmps118
    go_wp2
    go_ret2
    exact ⟨rfl, rfl⟩
  · have k0' : ¬ f < 0 := by omega
    clear h k0
    go_enter Tryz.func118, Tryz.ntmps118
    go_wp2
    go_ret2
    exact ⟨rfl, rfl⟩
  · have k0' : ¬ f < 0 := by omega
    have k1' : ¬ 23 < f := by omega
    clear h k0 k1
    go_enter Tryz.func118, Tryz.ntmps118
    go_wp2
    go_ret2
    exact ⟨rfl, rfl⟩
  · have k0' : ¬ f < 0 := by omega
    have k1' : ¬ 23 < f := by omega
    have k2' : ¬ s < 0 := by omega
    clear h k0 k1 k2
    go_enter Tryz.func118, Tryz.ntmps118
    go_wp2
    go_ret2
    exact ⟨rfl, rfl⟩
set_option maxRecDepth 20000 in
set_option maxHeartbeats 4000000 in
theorem rKeeps_any (p : Nat) (rs : List Hm.Rl) (xs : List RIt) (v : Value) (f s : Nat) (hf : f < 24) (hs : s < 8) (hn : rs.length ≤ 1000) (w : World) (hr : RRulesAt w p rs xs v) :
    Calls Tryz.prog 118 #[.pointer (some ⟨p, 0, none⟩), .int .i64 f, .int .i64 s] w fun e w' => e = .returned (.tuple #[.bool (Hm.keeps rs f s), .int .i64 0]) ∧ Below w.heap.size w w' := by
  obtain ⟨N, hN⟩ : ∃ N, Hm.keeps rs f s = N := ⟨_, rfl⟩
  rw [hN]
  have HN := show Hid _ from hN
  clear hN
  have c0 : w.cell? ⟨p, 0, none⟩ = some v := cell_of_row _ _ _ _ _ _ hr.row
  have hlen := hr.len
  have HR := show Hid _ from hr
  obtain ⟨ad, cap, rfl⟩ := own_form4 hr.own
  clear hr
  have f0 : ¬ (f : Int) < 0 := by omega
  have f1 : ¬ 23 < (f : Int) := by omega
  have s0 : ¬ (s : Int) < 0 := by omega
  have s1 : ¬ 7 < (s : Int) := by omega
  have hps : p < w.heap.size := (Array.getElem?_eq_some_iff.1 HR.out.row).1
  go_enter Tryz.func118, Tryz.ntmps118
  go_wp2
  go_loopw [8, 9, 10] (fun s8 _ _ wr => ∃ i : Nat, i ≤ xs.length ∧ s8 = .int .i64 i ∧ N = Hm.keeps (rs.drop i) f s ∧ Below w.heap.size w wr) (fun s8 _ _ _ => xs.length - (intOf s8).toNat)
  case atStart => exact ⟨0, Nat.zero_le _, rfl, HN.out.symm, Below.refl _ _⟩
  case round =>
    obtain ⟨i, hi, rfl, hk, hb⟩ := hrel
    have HK : Hid (N = Hm.keeps (rs.drop i) f s) := hk
    have HB : Hid (Below w.heap.size w wr) := hb
    have d0 : wr.cell? ⟨p, 0, none⟩ = some (.slice ad xs.length cap) := (hb.cell (p := ⟨p, 0, none⟩) hps).trans c0
    clear hk hb
    by_cases hlt : i < xs.length
    case neg =>
      have hii : ¬ (i : Int) < (xs.length : Int) := by omega
      have HE : Hid (N = true) := by
        show _ = _
        rw [HK.out, List.drop_eq_nil_of_le (by omega)]
        rfl
      go_wp2
      go_ret2
      exact ⟨by rw [HE.out]; rfl, HB.out⟩
    have hii : (i : Int) < (xs.length : Int) := by omega
    obtain ⟨x, hx⟩ : ∃ x, xs[i]? = some x := ⟨_, List.getElem?_eq_getElem hlt⟩
    obtain ⟨r, hrr⟩ : ∃ r, rs[i]? = some r := ⟨_, List.getElem?_eq_getElem (by omega)⟩
    have hAl := HR.out.alike i r x hrr hx
    have hEach := HR.out.each x (List.mem_of_getElem? hx)
    obtain ⟨g, hg, hcell⟩ : ∃ g, ad = some ⟨g, 0, none⟩ ∧ ∀ j u, (ritCells xs)[j]? = some u → wr.cell? ⟨g, j, none⟩ = some u := by
      rcases HR.out.own.2 with ⟨h, h0⟩ | ⟨g, cap', cur, h, _⟩
      · omega
      · refine ⟨g, by cases h; rfl, fun j u hj => ?_⟩
        have h1 := HR.out.own.cells (g := g) (by rw [h]; rfl) j u hj
        rw [show (⟨g, 0, none⟩ : Addr).add j = ⟨g, j, none⟩ by simp [Addr.add]; exact fun e => e.symm] at h1
        exact (HB.out.cell (p := ⟨g, j, none⟩) (block_lt_of_cell h1)).trans h1
    subst hg
    obtain ⟨e0, e1, e2, e3⟩ := rit_at xs i x hx
    have a0 := hcell _ _ e0
    have a1 := hcell _ _ e1
    have a2 := hcell _ _ e2
    have a3 := hcell _ _ e3
    rw [Nat.mul_comm] at a0 a1 a2 a3
    have HNO : Hid (r.fits f s = false → N = Hm.keeps (rs.drop (i + 1)) f s) := fun h => HK.out.trans (Hm.keeps_no hrr h)
    have HYES : Hid (r.fits f s = true → N = r.keep) := fun h => HK.out.trans (Hm.keeps_yes hrr h)
    clear hcell e0 e1 e2 e3 hrr hx HK
    have HAL := show Hid _ from hAl
    have hkeep : r.keep = x.q.keep := hAl.1
    have HEA := show Hid _ from hEach
    clear hAl hEach
    obtain ⟨xv, ⟨F, lo, hi', kp⟩⟩ := x
    dsimp only at a0 a1 a2 a3 HAL hkeep HEA
    obtain ⟨fa, fc, rfl⟩ := own_form HEA.out
    have hFl : F.length ≤ maxLen := by
      rcases HEA.out.2 with ⟨_, h0⟩ | ⟨_, _, _, _, _, _, h1, h2, _⟩
      · omega
      · omega
    unfold maxLen at hFl
    have hz := HB.out.size
    go_upto_block 2 with (first
      | (refine Hw.wpList_store_rowP rfl _ _ _ rfl rfl wr.heap.size (rrCells (.slice fa F.length fc) lo hi' kp) rfl rfl _ _ (heap_alloc_new _ _) size_rrule rfl rfl ?_; intro w2 p2; have P2 : Hid (Hw.Put (wr.alloc _) _ _ _ w2) := p2; clear p2)
      | fail)
    have hrow2 := P2.out.row
    unfold rrCells at hrow2
    have m0 : w2.cell? ⟨wr.heap.size, 0, none⟩ = some (.slice fa F.length fc) := cell_of_row _ _ _ _ _ _ hrow2
    have m1 : w2.cell? ⟨wr.heap.size, 1, none⟩ = some (.int .i64 lo) := cell_of_row _ _ _ _ _ _ hrow2
    have m2 : w2.cell? ⟨wr.heap.size, 2, none⟩ = some (.int .i64 hi') := cell_of_row _ _ _ _ _ _ hrow2
    have m3 : w2.cell? ⟨wr.heap.size, 3, none⟩ = some (.bool kp) := cell_of_row _ _ _ _ _ _ hrow2
    have HB2 : Hid (Below w.heap.size w w2) := (HB.out.alloc HB.out.size _).trans (P2.out.below HB.out.size)
    clear hrow2 P2 a0 a1 a2 a3 d0 c0
    have HY2 : Hid (f ∈ F → lo ≤ (s : Int) → (s : Int) ≤ hi' → N = kp) := fun h1 h2 h3 => (HYES.out (Hm.alike_yes (q := ⟨F, lo, hi', kp⟩) HAL.out hf hs h1 h2 h3)).trans hkeep
    have HN2 : Hid ((f ∉ F ∨ ¬ (lo ≤ (s : Int) ∧ (s : Int) ≤ hi')) → N = Hm.keeps (rs.drop (i + 1)) f s) := fun h => HNO.out (Hm.alike_no (q := ⟨F, lo, hi', kp⟩) HAL.out hf hs h)
    clear HYES HNO hkeep HAL
    have HFC : Hid (∀ k y, F[k]? = some y → ∃ fg, fa = some ⟨fg, 0, none⟩ ∧ w2.cell? ⟨fg, k, none⟩ = some (.int .i64 (y : Nat))) := fun k y hy => by
      rcases HEA.out.2 with ⟨h, h0⟩ | ⟨fg, cap', cur, h, _⟩
      · have := (List.getElem?_eq_some_iff.1 hy).1
        omega
      · refine ⟨fg, by cases h; rfl, ?_⟩
        have hown : w.ownsRow (p + 1) 3 1 (.slice fa F.length fc) F.length (F.map natV) := HEA.out
        have h1 := hown.cells (g := fg) (by rw [h]; rfl) k (natV y) (by simp [hy])
        rw [show (⟨fg, 0, none⟩ : Addr).add k = ⟨fg, k, none⟩ by simp [Addr.add]; exact fun e => e.symm] at h1
        exact (HB2.out.cell (p := ⟨fg, k, none⟩) (block_lt_of_cell h1)).trans h1
    clear HEA
    go_wp2
    go_loopw [10] (fun s10 wq => ∃ k : Nat, k ≤ F.length ∧ s10 = .int .i64 k ∧ (f ∉ F.take k ∨ ¬ (lo ≤ (s : Int) ∧ (s : Int) ≤ hi')) ∧ wq = w2) (fun s10 _ => F.length - (intOf s10).toNat)
    case atStart => exact ⟨0, Nat.zero_le _, rfl, .inl (by simp), rfl⟩
    case round =>
      obtain ⟨k, hk, rfl, hno, hwq⟩ := hrel
      have hwq := hwq.symm
      subst hwq
      have HO := show Hid _ from hno
      clear hno
      by_cases hkl : k < F.length
      case neg =>
        have hki : ¬ (k : Int) < (F.length : Int) := by omega
        have HE : Hid (N = Hm.keeps (rs.drop (i + 1)) f s) := HN2.out (by
          have := HO.out
          rwa [List.take_of_length_le (by omega)] at this)
        go_wp2
        go_roundw
        case rel => exact ⟨i + 1, by omega, int_eq (by simp), HE.out, HB2.out⟩
        case measure => simp [intOf]; omega
      have hki : (k : Int) < (F.length : Int) := by omega
      obtain ⟨y, hy⟩ : ∃ y, F[k]? = some y := ⟨_, List.getElem?_eq_getElem hkl⟩
      obtain ⟨fg, rfl, hcy⟩ := HFC.out k y hy
      have HY := show Hid _ from hy
      clear hy
      by_cases hyf : y = f
      · have hyb : ((y : Int) == (f : Int)) = true := beq_iff_eq.2 (by omega)
        by_cases h1 : lo ≤ (s : Int)
        · by_cases h2 : (s : Int) ≤ hi'
          · have HE : Hid (N = kp) := HY2.out (by rw [← hyf]; exact List.mem_of_getElem? HY.out) h1 h2
            clear hyf
            go_wp2
            go_ret2
            exact ⟨by rw [HE.out]; rfl, HB2.out⟩
          · have HO2 : Hid (f ∉ F.take (k + 1) ∨ ¬ (lo ≤ (s : Int) ∧ (s : Int) ≤ hi')) := .inr (fun h => h2 h.2)
            clear hyf
            go_wp2
            go_roundw
            case rel => exact ⟨k + 1, by omega, int_eq (by simp), HO2.out, by first | rfl | trivial⟩
            case measure => simp [intOf]; omega
        · have HO2 : Hid (f ∉ F.take (k + 1) ∨ ¬ (lo ≤ (s : Int) ∧ (s : Int) ≤ hi')) := .inr (fun h => h1 h.1)
          clear hyf
          go_wp2
          go_roundw
          case rel => exact ⟨k + 1, by omega, int_eq (by simp), HO2.out, by first | rfl | trivial⟩
          case measure => simp [intOf]; omega
      · have hyb : ((y : Int) == (f : Int)) = false := beq_eq_false_iff_ne.2 (by omega)
        have HO2 : Hid (f ∉ F.take (k + 1) ∨ ¬ (lo ≤ (s : Int) ∧ (s : Int) ≤ hi')) := by
          show _ ∨ _
          rcases HO.out with h | h
          · left
            rw [List.take_add_one, HY.out]
            intro hm
            rcases List.mem_append.1 hm with hm | hm
            · exact h hm
            · simp at hm; exact hyf hm.symm
          · exact .inr h
        clear hyf
        go_wp2
        go_roundw
        case rel => exact ⟨k + 1, by omega, int_eq (by simp), HO2.out, by first | rfl | trivial⟩
        case measure => simp [intOf]; omega
end Go.Proofs.YtdlhbmncbmconaaGreatDoor

/- Contracts: records, logs. -/
import Derived.Test.YtdlhbmncbmconaaGreatDoorMy
import Derived.Test.YtdlhbmncbmconaaGreatDoorBg
import Derived.Test.YtdlhbmncbmconaaGreatDoorBj
import Derived.Test.YtdlhbmncbmconaaGreatDoorWc
namespace Go.Proofs.YtdlhbmncbmconaaGreatDoor
open Go.RowKit Go.Sort
attribute [local go_sem] alloc_drewN setCell_drewN
theorem wraps_i64 (n : Int) (h₀ : 0 ≤ n) (h₁ : n < 2 ^ 40) : IntKind.i64.wrap n = n := by rw [IntKind.wrap_i64]; omega
theorem numberOf_any (a b : UInt8) (w : World) :
    Calls Tryz.prog 101 #[.string ⟨#[a, b]⟩] w fun e w' => e = .returned (.int .i64 (Hm.numB [a, b])) ∧ ∃ n, w' = w.drewN n := by
  have ha : a.toNat < 256 := UInt8.toNat_lt _
  have hb : b.toNat < 256 := UInt8.toNat_lt _
  have ho := (bits_nat .i64 40 (by decide) wraps_i64 (a.toNat * 256) b.toNat (by omega) (by omega)).2
  have he : a.toNat * 256 ||| b.toNat = Hm.numB [a, b] := by
    rw [Nat.mul_comm]
    exact (Nat.two_pow_add_eq_or_of_lt (i := 8) hb a.toNat).symm
  rw [he] at ho
  go_enter Tryz.func101, Tryz.ntmps101
  go_wp2_with fail
  go_quiet (fail)
  go_wp2
  go_ret
  refine ⟨?_, ⟨_, rfl⟩⟩
  rw [← ho]
  have w1 : wrap64 (wrap64 (a.toNat : Int) * 256) = ((a.toNat * 256 : Nat) : Int) := by unfold wrap64; omega
  have w2 : wrap64 (b.toNat : Int) = b.toNat := by unfold wrap64; omega
  rw [← w1]
  conv => rhs; rw [← w2]
  rfl
theorem two_back (w : World) (x y : UInt8) (u v : Int) (hu : u = x.toNat) (hv : v = y.toNat) :
    (convert 72 9 (.slice (some ⟨w.heap.size, 0, none⟩) 2 2)).run Tryz.prog (w.alloc (.cells #[.int .u8 u, .int .u8 v] 5)) = .ok (.string ⟨#[x, y]⟩) (w.alloc (.cells #[.int .u8 u, .int .u8 v] 5)) := by
  subst hu hv
  exact run_convert_bytes_back _ 72 9 5 ⟨w.heap.size, 0, none⟩ 2 [x, y] Tryz.underlying72 Tryz.underlying5 Tryz.underlying9 (fun j hj => by
    rcases (by simp at hj; omega : j = 0 ∨ j = 1) with h | h <;> subst h <;> simp [Addr.add])
set_option maxRecDepth 20000 in
theorem twoBytes_any (n : Nat) (w : World) :
    Calls Tryz.prog 148 #[.int .i64 n] w fun e w' => e = .returned (.string ⟨(Hm.twoB n).toArray⟩) ∧ Below w.heap.size w w' := by
  have hback := two_back w (UInt8.ofNat (n / 256)) (UInt8.ofNat n) ((n : Int) / 256 % 256) ((n : Int) % 256) (by simp) (by simp)
  go_enter Tryz.func148, Tryz.ntmps148
  go_wp2
  go_ret
  exact ⟨rfl, (Below.refl _ _).alloc (Nat.le_refl _) _⟩
set_option maxRecDepth 20000 in
theorem checkOf_any (s : ByteArray) (hs : s.size ≤ 4000000000) (w : World) :
    Calls Tryz.prog 147 #[.string s] w fun e w' => e = .returned (.string ⟨(Hm.check s.data.toList).toArray⟩) ∧ Below w.heap.size w w' := by
  go_enter Tryz.func147, Tryz.ntmps147
  go_wp2
  go_loopw [3, 4, 8] (fun av bv ix wr => ∃ k a b : Nat, k ≤ s.size ∧ ix = .int .i64 k ∧ av = .int .i64 a ∧ bv = .int .i64 b ∧ a < 251 ∧ b < 251 ∧ Hm.sums 1 0 s.data.toList = Hm.sums a b (s.data.toList.drop k) ∧ wr = w) (fun _ _ ix _ => s.size - (intOf ix).toNat)
  case atStart => exact ⟨0, 1, 0, by omega, rfl, rfl, rfl, by omega, by omega, rfl, rfl⟩
  case round =>
    obtain ⟨k, a, b, hk, rfl, rfl, rfl, ha, hb, hv, rfl⟩ := hrel
    have HV : Hid (Hm.sums 1 0 s.data.toList = Hm.sums a b (s.data.toList.drop k)) := hv
    clear hv
    by_cases hlt : k < s.size
    · have hki : (k : Int) < (s.size : Int) := by omega
      have hd := List.drop_eq_getElem_cons (l := s.data.toList) (i := k) (by rw [Hm.len]; exact hlt)
      have hg : s.data.toList[k]'(by rw [Hm.len]; exact hlt) = s[k] := by simp; rfl
      rw [hg] at hd
      rw [hd, Hm.sums] at HV
      clear hd hg
      have hc : s[k].toNat < 256 := UInt8.toNat_lt _
      go_wp2
      go_roundw
      case rel => exact ⟨k + 1, (a + s[k].toNat) % 251, (b + (a + s[k].toNat) % 251) % 251, by omega, int_eq (by simp), int_eq (by simp), int_eq (by simp), Nat.mod_lt _ (by decide), Nat.mod_lt _ (by decide), HV.out, trivial⟩
      case measure => simp [intOf]; omega
    · have hki : ¬ (k : Int) < (s.size : Int) := by omega
      rw [List.drop_of_length_le (by rw [Hm.len]; omega), Hm.sums] at HV
      have hback := two_back wr (UInt8.ofNat a) (UInt8.ofNat b) ((a : Int) % 256) ((b : Int) % 256) (by simp) (by simp)
      have hback2 := two_back wr (UInt8.ofNat a) (UInt8.ofNat b) (a : Int) (b : Int) (by simp; omega) (by simp; omega)
      go_wp2
      go_ret
      refine ⟨?_, (Below.refl _ _).alloc (Nat.le_refl _) _⟩
      unfold Hm.check
      rw [HV.out]
      rfl
end Go.Proofs.YtdlhbmncbmconaaGreatDoor
namespace Go.Proofs.YtdlhbmncbmconaaGreatDoor
open Go.RowKit Go.Sort
attribute [local go_sem] alloc_drewN setCell_drewN
structure WI (k : UInt8) (l : List UInt8) (w : World) (L : Array Bool) (x3 x4 x5 x6 x7 x8 x9 x10 x11 x12 x13 x14 x15 : Value) (w' : World) : Prop where
  bel : Below w.heap.size w w'
  row : w'.heap[w.heap.size]? = some (.cells #[.int .u8 k.toNat, .string ⟨l.toArray⟩] 121 (0, 0))
  f0 : L.getD 0 false = true → x4 = .pointer (some ⟨w.heap.size, 0, none⟩)
  f1 : L.getD 1 false = true → x5 = .int .u8 k.toNat
  f2 : L.getD 2 false = true → ∃ g, x6 = .slice (some ⟨g, 0, none⟩) 1 1 ∧ w'.heap[g]? = some (.cells #[.int .u8 k.toNat] 5 (0, 0))
  f3 : L.getD 3 false = true → x7 = .string ⟨#[k]⟩
  f4 : L.getD 4 false = true → x8 = .pointer (some ⟨w.heap.size, 1, none⟩)
  f5 : L.getD 5 false = true → x9 = .string ⟨l.toArray⟩
  f6 : L.getD 6 false = true → x10 = .int .i64 l.length
  f7 : L.getD 7 false = true → x11 = .string ⟨(Hm.twoB l.length).toArray⟩
  f8 : L.getD 8 false = true → x12 = .string ⟨(k :: Hm.twoB l.length).toArray⟩
  f9 : L.getD 9 false = true → x13 = .pointer (some ⟨w.heap.size, 1, none⟩)
  f10 : L.getD 10 false = true → x14 = .string ⟨l.toArray⟩
  f11 : L.getD 11 false = true → x15 = .string ⟨(Hm.aheadRec k l).toArray⟩
  f12 : L.getD 12 false = true → x3 = .string ⟨(Hm.aheadRec k l).toArray⟩
theorem WI.grow {k : UInt8} {l : List UInt8} {w w' w'' : World} {L : Array Bool} {x3 x4 x5 x6 x7 x8 x9 x10 x11 x12 x13 x14 x15 : Value} (h : WI k l w L x3 x4 x5 x6 x7 x8 x9 x10 x11 x12 x13 x14 x15 w') (hb : Below w'.heap.size w' w'') : WI k l w L x3 x4 x5 x6 x7 x8 x9 x10 x11 x12 x13 x14 x15 w'' where
  bel := Below.next h.bel (Nat.le_refl _) hb
  row := (hb.block _ (Array.getElem?_eq_some_iff.1 h.row).1).trans h.row
  f0 := h.f0
  f1 := h.f1
  f2 e := by
    obtain ⟨g, h1, h2⟩ := h.f2 e
    exact ⟨g, h1, (hb.block _ (Array.getElem?_eq_some_iff.1 h2).1).trans h2⟩
  f3 := h.f3
  f4 := h.f4
  f5 := h.f5
  f6 := h.f6
  f7 := h.f7
  f8 := h.f8
  f9 := h.f9
  f10 := h.f10
  f11 := h.f11
  f12 := h.f12
theorem WI.s0 {k : UInt8} {l : List UInt8} {w w' : World} {L : Array Bool} {x3 x4 x5 x6 x7 x8 x9 x10 x11 x12 x13 x14 x15 : Value} (h : WI k l w L x3 x4 x5 x6 x7 x8 x9 x10 x11 x12 x13 x14 x15 w') {y : Value} (hy : y = .pointer (some ⟨w.heap.size, 0, none⟩)) : WI k l w (L.setIfInBounds 0 true) x3 y x5 x6 x7 x8 x9 x10 x11 x12 x13 x14 x15 w' where
  bel := h.bel
  row := h.row
  f0 _ := hy
  f1 e := h.f1 ((Hw.listed_set e).resolve_left (by decide))
  f2 e := h.f2 ((Hw.listed_set e).resolve_left (by decide))
  f3 e := h.f3 ((Hw.listed_set e).resolve_left (by decide))
  f4 e := h.f4 ((Hw.listed_set e).resolve_left (by decide))
  f5 e := h.f5 ((Hw.listed_set e).resolve_left (by decide))
  f6 e := h.f6 ((Hw.listed_set e).resolve_left (by decide))
  f7 e := h.f7 ((Hw.listed_set e).resolve_left (by decide))
  f8 e := h.f8 ((Hw.listed_set e).resolve_left (by decide))
  f9 e := h.f9 ((Hw.listed_set e).resolve_left (by decide))
  f10 e := h.f10 ((Hw.listed_set e).resolve_left (by decide))
  f11 e := h.f11 ((Hw.listed_set e).resolve_left (by decide))
  f12 e := h.f12 ((Hw.listed_set e).resolve_left (by decide))
theorem WI.s1 {k : UInt8} {l : List UInt8} {w w' : World} {L : Array Bool} {x3 x4 x5 x6 x7 x8 x9 x10 x11 x12 x13 x14 x15 : Value} (h : WI k l w L x3 x4 x5 x6 x7 x8 x9 x10 x11 x12 x13 x14 x15 w') {y : Value} (hy : y = .int .u8 k.toNat) : WI k l w (L.setIfInBounds 1 true) x3 x4 y x6 x7 x8 x9 x10 x11 x12 x13 x14 x15 w' where
  bel := h.bel
  row := h.row
  f0 e := h.f0 ((Hw.listed_set e).resolve_left (by decide))
  f1 _ := hy
  f2 e := h.f2 ((Hw.listed_set e).resolve_left (by decide))
  f3 e := h.f3 ((Hw.listed_set e).resolve_left (by decide))
  f4 e := h.f4 ((Hw.listed_set e).resolve_left (by decide))
  f5 e := h.f5 ((Hw.listed_set e).resolve_left (by decide))
  f6 e := h.f6 ((Hw.listed_set e).resolve_left (by decide))
  f7 e := h.f7 ((Hw.listed_set e).resolve_left (by decide))
  f8 e := h.f8 ((Hw.listed_set e).resolve_left (by decide))
  f9 e := h.f9 ((Hw.listed_set e).resolve_left (by decide))
  f10 e := h.f10 ((Hw.listed_set e).resolve_left (by decide))
  f11 e := h.f11 ((Hw.listed_set e).resolve_left (by decide))
  f12 e := h.f12 ((Hw.listed_set e).resolve_left (by decide))
theorem WI.s2 {k : UInt8} {l : List UInt8} {w w' : World} {L : Array Bool} {x3 x4 x5 x6 x7 x8 x9 x10 x11 x12 x13 x14 x15 : Value} (h : WI k l w L x3 x4 x5 x6 x7 x8 x9 x10 x11 x12 x13 x14 x15 w') {y : Value} (hy : ∃ g, y = .slice (some ⟨g, 0, none⟩) 1 1 ∧ w'.heap[g]? = some (.cells #[.int .u8 k.toNat] 5 (0, 0))) : WI k l w (L.setIfInBounds 2 true) x3 x4 x5 y x7 x8 x9 x10 x11 x12 x13 x14 x15 w' where
  bel := h.bel
  row := h.row
  f0 e := h.f0 ((Hw.listed_set e).resolve_left (by decide))
  f1 e := h.f1 ((Hw.listed_set e).resolve_left (by decide))
  f2 _ := hy
  f3 e := h.f3 ((Hw.listed_set e).resolve_left (by decide))
  f4 e := h.f4 ((Hw.listed_set e).resolve_left (by decide))
  f5 e := h.f5 ((Hw.listed_set e).resolve_left (by decide))
  f6 e := h.f6 ((Hw.listed_set e).resolve_left (by decide))
  f7 e := h.f7 ((Hw.listed_set e).resolve_left (by decide))
  f8 e := h.f8 ((Hw.listed_set e).resolve_left (by decide))
  f9 e := h.f9 ((Hw.listed_set e).resolve_left (by decide))
  f10 e := h.f10 ((Hw.listed_set e).resolve_left (by decide))
  f11 e := h.f11 ((Hw.listed_set e).resolve_left (by decide))
  f12 e := h.f12 ((Hw.listed_set e).resolve_left (by decide))
theorem WI.s3 {k : UInt8} {l : List UInt8} {w w' : World} {L : Array Bool} {x3 x4 x5 x6 x7 x8 x9 x10 x11 x12 x13 x14 x15 : Value} (h : WI k l w L x3 x4 x5 x6 x7 x8 x9 x10 x11 x12 x13 x14 x15 w') {y : Value} (hy : y = .string ⟨#[k]⟩) : WI k l w (L.setIfInBounds 3 true) x3 x4 x5 x6 y x8 x9 x10 x11 x12 x13 x14 x15 w' where
  bel := h.bel
  row := h.row
  f0 e := h.f0 ((Hw.listed_set e).resolve_left (by decide))
  f1 e := h.f1 ((Hw.listed_set e).resolve_left (by decide))
  f2 e := h.f2 ((Hw.listed_set e).resolve_left (by decide))
  f3 _ := hy
  f4 e := h.f4 ((Hw.listed_set e).resolve_left (by decide))
  f5 e := h.f5 ((Hw.listed_set e).resolve_left (by decide))
  f6 e := h.f6 ((Hw.listed_set e).resolve_left (by decide))
  f7 e := h.f7 ((Hw.listed_set e).resolve_left (by decide))
  f8 e := h.f8 ((Hw.listed_set e).resolve_left (by decide))
  f9 e := h.f9 ((Hw.listed_set e).resolve_left (by decide))
  f10 e := h.f10 ((Hw.listed_set e).resolve_left (by decide))
  f11 e := h.f11 ((Hw.listed_set e).resolve_left (by decide))
  f12 e := h.f12 ((Hw.listed_set e).resolve_left (by decide))
theorem WI.s4 {k : UInt8} {l : List UInt8} {w w' : World} {L : Array Bool} {x3 x4 x5 x6 x7 x8 x9 x10 x11 x12 x13 x14 x15 : Value} (h : WI k l w L x3 x4 x5 x6 x7 x8 x9 x10 x11 x12 x13 x14 x15 w') {y : Value} (hy : y = .pointer (some ⟨w.heap.size, 1, none⟩)) : WI k l w (L.setIfInBounds 4 true) x3 x4 x5 x6 x7 y x9 x10 x11 x12 x13 x14 x15 w' where
  bel := h.bel
  row := h.row
  f0 e := h.f0 ((Hw.listed_set e).resolve_left (by decide))
  f1 e := h.f1 ((Hw.listed_set e).resolve_left (by decide))
  f2 e := h.f2 ((Hw.listed_set e).resolve_left (by decide))
  f3 e := h.f3 ((Hw.listed_set e).resolve_left (by decide))
  f4 _ := hy
  f5 e := h.f5 ((Hw.listed_set e).resolve_left (by decide))
  f6 e := h.f6 ((Hw.listed_set e).resolve_left (by decide))
  f7 e := h.f7 ((Hw.listed_set e).resolve_left (by decide))
  f8 e := h.f8 ((Hw.listed_set e).resolve_left (by decide))
  f9 e := h.f9 ((Hw.listed_set e).resolve_left (by decide))
  f10 e := h.f10 ((Hw.listed_set e).resolve_left (by decide))
  f11 e := h.f11 ((Hw.listed_set e).resolve_left (by decide))
  f12 e := h.f12 ((Hw.listed_set e).resolve_left (by decide))
theorem WI.s5 {k : UInt8} {l : List UInt8} {w w' : World} {L : Array Bool} {x3 x4 x5 x6 x7 x8 x9 x10 x11 x12 x13 x14 x15 : Value} (h : WI k l w L x3 x4 x5 x6 x7 x8 x9 x10 x11 x12 x13 x14 x15 w') {y : Value} (hy : y = .string ⟨l.toArray⟩) : WI k l w (L.setIfInBounds 5 true) x3 x4 x5 x6 x7 x8 y x10 x11 x12 x13 x14 x15 w' where
  bel := h.bel
  row := h.row
  f0 e := h.f0 ((Hw.listed_set e).resolve_left (by decide))
  f1 e := h.f1 ((Hw.listed_set e).resolve_left (by decide))
  f2 e := h.f2 ((Hw.listed_set e).resolve_left (by decide))
  f3 e := h.f3 ((Hw.listed_set e).resolve_left (by decide))
  f4 e := h.f4 ((Hw.listed_set e).resolve_left (by decide))
  f5 _ := hy
  f6 e := h.f6 ((Hw.listed_set e).resolve_left (by decide))
  f7 e := h.f7 ((Hw.listed_set e).resolve_left (by decide))
  f8 e := h.f8 ((Hw.listed_set e).resolve_left (by decide))
  f9 e := h.f9 ((Hw.listed_set e).resolve_left (by decide))
  f10 e := h.f10 ((Hw.listed_set e).resolve_left (by decide))
  f11 e := h.f11 ((Hw.listed_set e).resolve_left (by decide))
  f12 e := h.f12 ((Hw.listed_set e).resolve_left (by decide))
theorem WI.s6 {k : UInt8} {l : List UInt8} {w w' : World} {L : Array Bool} {x3 x4 x5 x6 x7 x8 x9 x10 x11 x12 x13 x14 x15 : Value} (h : WI k l w L x3 x4 x5 x6 x7 x8 x9 x10 x11 x12 x13 x14 x15 w') {y : Value} (hy : y = .int .i64 l.length) : WI k l w (L.setIfInBounds 6 true) x3 x4 x5 x6 x7 x8 x9 y x11 x12 x13 x14 x15 w' where
  bel := h.bel
  row := h.row
  f0 e := h.f0 ((Hw.listed_set e).resolve_left (by decide))
  f1 e := h.f1 ((Hw.listed_set e).resolve_left (by decide))
  f2 e := h.f2 ((Hw.listed_set e).resolve_left (by decide))
  f3 e := h.f3 ((Hw.listed_set e).resolve_left (by decide))
  f4 e := h.f4 ((Hw.listed_set e).resolve_left (by decide))
  f5 e := h.f5 ((Hw.listed_set e).resolve_left (by decide))
  f6 _ := hy
  f7 e := h.f7 ((Hw.listed_set e).resolve_left (by decide))
  f8 e := h.f8 ((Hw.listed_set e).resolve_left (by decide))
  f9 e := h.f9 ((Hw.listed_set e).resolve_left (by decide))
  f10 e := h.f10 ((Hw.listed_set e).resolve_left (by decide))
  f11 e := h.f11 ((Hw.listed_set e).resolve_left (by decide))
  f12 e := h.f12 ((Hw.listed_set e).resolve_left (by decide))
theorem WI.s7 {k : UInt8} {l : List UInt8} {w w' : World} {L : Array Bool} {x3 x4 x5 x6 x7 x8 x9 x10 x11 x12 x13 x14 x15 : Value} (h : WI k l w L x3 x4 x5 x6 x7 x8 x9 x10 x11 x12 x13 x14 x15 w') {y : Value} (hy : y = .string ⟨(Hm.twoB l.length).toArray⟩) : WI k l w (L.setIfInBounds 7 true) x3 x4 x5 x6 x7 x8 x9 x10 y x12 x13 x14 x15 w' where
  bel := h.bel
  row := h.row
  f0 e := h.f0 ((Hw.listed_set e).resolve_left (by decide))
  f1 e := h.f1 ((Hw.listed_set e).resolve_left (by decide))
  f2 e := h.f2 ((Hw.listed_set e).resolve_left (by decide))
  f3 e := h.f3 ((Hw.listed_set e).resolve_left (by decide))
  f4 e := h.f4 ((Hw.listed_set e).resolve_left (by decide))
  f5 e := h.f5 ((Hw.listed_set e).resolve_left (by decide))
  f6 e := h.f6 ((Hw.listed_set e).resolve_left (by decide))
  f7 _ := hy
  f8 e := h.f8 ((Hw.listed_set e).resolve_left (by decide))
  f9 e := h.f9 ((Hw.listed_set e).resolve_left (by decide))
  f10 e := h.f10 ((Hw.listed_set e).resolve_left (by decide))
  f11 e := h.f11 ((Hw.listed_set e).resolve_left (by decide))
  f12 e := h.f12 ((Hw.listed_set e).resolve_left (by decide))
theorem WI.s8 {k : UInt8} {l : List UInt8} {w w' : World} {L : Array Bool} {x3 x4 x5 x6 x7 x8 x9 x10 x11 x12 x13 x14 x15 : Value} (h : WI k l w L x3 x4 x5 x6 x7 x8 x9 x10 x11 x12 x13 x14 x15 w') {y : Value} (hy : y = .string ⟨(k :: Hm.twoB l.length).toArray⟩) : WI k l w (L.setIfInBounds 8 true) x3 x4 x5 x6 x7 x8 x9 x10 x11 y x13 x14 x15 w' where
  bel := h.bel
  row := h.row
  f0 e := h.f0 ((Hw.listed_set e).resolve_left (by decide))
  f1 e := h.f1 ((Hw.listed_set e).resolve_left (by decide))
  f2 e := h.f2 ((Hw.listed_set e).resolve_left (by decide))
  f3 e := h.f3 ((Hw.listed_set e).resolve_left (by decide))
  f4 e := h.f4 ((Hw.listed_set e).resolve_left (by decide))
  f5 e := h.f5 ((Hw.listed_set e).resolve_left (by decide))
  f6 e := h.f6 ((Hw.listed_set e).resolve_left (by decide))
  f7 e := h.f7 ((Hw.listed_set e).resolve_left (by decide))
  f8 _ := hy
  f9 e := h.f9 ((Hw.listed_set e).resolve_left (by decide))
  f10 e := h.f10 ((Hw.listed_set e).resolve_left (by decide))
  f11 e := h.f11 ((Hw.listed_set e).resolve_left (by decide))
  f12 e := h.f12 ((Hw.listed_set e).resolve_left (by decide))
theorem WI.s9 {k : UInt8} {l : List UInt8} {w w' : World} {L : Array Bool} {x3 x4 x5 x6 x7 x8 x9 x10 x11 x12 x13 x14 x15 : Value} (h : WI k l w L x3 x4 x5 x6 x7 x8 x9 x10 x11 x12 x13 x14 x15 w') {y : Value} (hy : y = .pointer (some ⟨w.heap.size, 1, none⟩)) : WI k l w (L.setIfInBounds 9 true) x3 x4 x5 x6 x7 x8 x9 x10 x11 x12 y x14 x15 w' where
  bel := h.bel
  row := h.row
  f0 e := h.f0 ((Hw.listed_set e).resolve_left (by decide))
  f1 e := h.f1 ((Hw.listed_set e).resolve_left (by decide))
  f2 e := h.f2 ((Hw.listed_set e).resolve_left (by decide))
  f3 e := h.f3 ((Hw.listed_set e).resolve_left (by decide))
  f4 e := h.f4 ((Hw.listed_set e).resolve_left (by decide))
  f5 e := h.f5 ((Hw.listed_set e).resolve_left (by decide))
  f6 e := h.f6 ((Hw.listed_set e).resolve_left (by decide))
  f7 e := h.f7 ((Hw.listed_set e).resolve_left (by decide))
  f8 e := h.f8 ((Hw.listed_set e).resolve_left (by decide))
  f9 _ := hy
  f10 e := h.f10 ((Hw.listed_set e).resolve_left (by decide))
  f11 e := h.f11 ((Hw.listed_set e).resolve_left (by decide))
  f12 e := h.f12 ((Hw.listed_set e).resolve_left (by decide))
theorem WI.s10 {k : UInt8} {l : List UInt8} {w w' : World} {L : Array Bool} {x3 x4 x5 x6 x7 x8 x9 x10 x11 x12 x13 x14 x15 : Value} (h : WI k l w L x3 x4 x5 x6 x7 x8 x9 x10 x11 x12 x13 x14 x15 w') {y : Value} (hy : y = .string ⟨l.toArray⟩) : WI k l w (L.setIfInBounds 10 true) x3 x4 x5 x6 x7 x8 x9 x10 x11 x12 x13 y x15 w' where
  bel := h.bel
  row := h.row
  f0 e := h.f0 ((Hw.listed_set e).resolve_left (by decide))
  f1 e := h.f1 ((Hw.listed_set e).resolve_left (by decide))
  f2 e := h.f2 ((Hw.listed_set e).resolve_left (by decide))
  f3 e := h.f3 ((Hw.listed_set e).resolve_left (by decide))
  f4 e := h.f4 ((Hw.listed_set e).resolve_left (by decide))
  f5 e := h.f5 ((Hw.listed_set e).resolve_left (by decide))
  f6 e := h.f6 ((Hw.listed_set e).resolve_left (by decide))
  f7 e := h.f7 ((Hw.listed_set e).resolve_left (by decide))
  f8 e := h.f8 ((Hw.listed_set e).resolve_left (by decide))
  f9 e := h.f9 ((Hw.listed_set e).resolve_left (by decide))
  f10 _ := hy
  f11 e := h.f11 ((Hw.listed_set e).resolve_left (by decide))
  f12 e := h.f12 ((Hw.listed_set e).resolve_left (by decide))
theorem WI.s11 {k : UInt8} {l : List UInt8} {w w' : World} {L : Array Bool} {x3 x4 x5 x6 x7 x8 x9 x10 x11 x12 x13 x14 x15 : Value} (h : WI k l w L x3 x4 x5 x6 x7 x8 x9 x10 x11 x12 x13 x14 x15 w') {y : Value} (hy : y = .string ⟨(Hm.aheadRec k l).toArray⟩) : WI k l w (L.setIfInBounds 11 true) x3 x4 x5 x6 x7 x8 x9 x10 x11 x12 x13 x14 y w' where
  bel := h.bel
  row := h.row
  f0 e := h.f0 ((Hw.listed_set e).resolve_left (by decide))
  f1 e := h.f1 ((Hw.listed_set e).resolve_left (by decide))
  f2 e := h.f2 ((Hw.listed_set e).resolve_left (by decide))
  f3 e := h.f3 ((Hw.listed_set e).resolve_left (by decide))
  f4 e := h.f4 ((Hw.listed_set e).resolve_left (by decide))
  f5 e := h.f5 ((Hw.listed_set e).resolve_left (by decide))
  f6 e := h.f6 ((Hw.listed_set e).resolve_left (by decide))
  f7 e := h.f7 ((Hw.listed_set e).resolve_left (by decide))
  f8 e := h.f8 ((Hw.listed_set e).resolve_left (by decide))
  f9 e := h.f9 ((Hw.listed_set e).resolve_left (by decide))
  f10 e := h.f10 ((Hw.listed_set e).resolve_left (by decide))
  f11 _ := hy
  f12 e := h.f12 ((Hw.listed_set e).resolve_left (by decide))
theorem WI.s12 {k : UInt8} {l : List UInt8} {w w' : World} {L : Array Bool} {x3 x4 x5 x6 x7 x8 x9 x10 x11 x12 x13 x14 x15 : Value} (h : WI k l w L x3 x4 x5 x6 x7 x8 x9 x10 x11 x12 x13 x14 x15 w') {y : Value} (hy : y = .string ⟨(Hm.aheadRec k l).toArray⟩) : WI k l w (L.setIfInBounds 12 true) y x4 x5 x6 x7 x8 x9 x10 x11 x12 x13 x14 x15 w' where
  bel := h.bel
  row := h.row
  f0 e := h.f0 ((Hw.listed_set e).resolve_left (by decide))
  f1 e := h.f1 ((Hw.listed_set e).resolve_left (by decide))
  f2 e := h.f2 ((Hw.listed_set e).resolve_left (by decide))
  f3 e := h.f3 ((Hw.listed_set e).resolve_left (by decide))
  f4 e := h.f4 ((Hw.listed_set e).resolve_left (by decide))
  f5 e := h.f5 ((Hw.listed_set e).resolve_left (by decide))
  f6 e := h.f6 ((Hw.listed_set e).resolve_left (by decide))
  f7 e := h.f7 ((Hw.listed_set e).resolve_left (by decide))
  f8 e := h.f8 ((Hw.listed_set e).resolve_left (by decide))
  f9 e := h.f9 ((Hw.listed_set e).resolve_left (by decide))
  f10 e := h.f10 ((Hw.listed_set e).resolve_left (by decide))
  f11 e := h.f11 ((Hw.listed_set e).resolve_left (by decide))
  f12 _ := hy
set_option maxRecDepth 20000 in
set_option maxHeartbeats 2000000 in
theorem writeRecord_any (k : UInt8) (l : List UInt8) (hl : l.length ≤ 3000000000) (w : World) :
    Calls Tryz.prog 123 #[.agg #[.int .u8 k.toNat, .string ⟨l.toArray⟩]] w fun e w' => e = .returned (.string ⟨(Hm.writeRec k l).toArray⟩) ∧ Below w.heap.size w w' := by
  go_enter Tryz.func123, Tryz.ntmps123
  go_wp2_with fail
  refine Hw.region_inv (fun L a w' => ∃ x3 x4 x5 x6 x7 x8 x9 x10 x11 x12 x13 x14 x15, a = { tmps := #[.agg #[.int .u8 k.toNat, .string ⟨l.toArray⟩], .pointer (some ⟨w.heap.size, 0, none⟩), .string ⟨#[]⟩, x3, x4, x5, x6, x7, x8, x9, x10, x11, x12, x13, x14, x15, undef, undef, undef, undef], defers := [] } ∧ WI k l w L x3 x4 x5 x6 x7 x8 x9 x10 x11 x12 x13 x14 x15 w') mixed (by kernel_rfl) ?_ ?_ ?_
  · refine ⟨_, _, _, _, _, _, _, _, _, _, _, _, _, rfl, (Below.refl _ _).alloc (Nat.le_refl _) _ |>.drew, heap_alloc_new _ _, ?_, ?_, ?_, ?_, ?_, ?_, ?_, ?_, ?_, ?_, ?_, ?_, ?_⟩
    all_goals exact fun e => by simp at e
  · rintro L a w' i ⟨x3, x4, x5, x6, x7, x8, x9, x10, x11, x12, x13, x14, x15, rfl, hI⟩ hi hdep
    have hi13 : i < 13 := hi
    have c0 : w'.cell? ⟨w.heap.size, 0, none⟩ = some (.int .u8 k.toNat) := by simp [World.cell?, hI.row]
    have c1 : w'.cell? ⟨w.heap.size, 1, none⟩ = some (.string ⟨l.toArray⟩) := by simp [World.cell?, hI.row]
    have HI : Hid (WI k l w L x3 x4 x5 x6 x7 x8 x9 x10 x11 x12 x13 x14 x15 w') := hI
    clear hI hi
    rcases (by omega : i = 0 ∨ i = 1 ∨ i = 2 ∨ i = 3 ∨ i = 4 ∨ i = 5 ∨ i = 6 ∨ i = 7 ∨ i = 8 ∨ i = 9 ∨ i = 10 ∨ i = 11 ∨ i = 12) with h | h | h | h | h | h | h | h | h | h | h | h | h <;> subst h
    · clear hdep
      refine wpOp_step rfl (fun K hK => ?_)
      go_simp
      exact hK _ _ ⟨_, _, _, _, _, _, _, _, _, _, _, _, _, rfl, HI.out.s0 rfl⟩
    · have hd := hdep _ rfl
      have e0 := HI.out.f0 (hd ⟨0, .data⟩ (by simp) rfl)
      subst e0
      clear hdep hd
      refine wpOp_step rfl (fun K hK => ?_)
      go_simp
      exact hK _ _ ⟨_, _, _, _, _, _, _, _, _, _, _, _, _, rfl, HI.out.s1 rfl⟩
    · have hd := hdep _ rfl
      have e1 := HI.out.f1 (hd ⟨1, .data⟩ (by simp) rfl)
      subst e1
      clear hdep hd
      refine wpOp_step rfl (fun K hK => ?_)
      go_simp
      exact hK _ _ ⟨_, _, _, _, _, _, _, _, _, _, _, _, _, rfl, (HI.out.grow ((Below.refl _ _).alloc (Nat.le_refl _) _)).s2 ⟨_, rfl, heap_alloc_new _ _⟩⟩
    · have hd := hdep _ rfl
      obtain ⟨g, e2, hg⟩ := HI.out.f2 (hd ⟨2, .data⟩ (by simp) rfl)
      subst e2
      clear hdep hd
      have hback := run_convert_bytes_back (P := Tryz.prog) w' 72 9 5 ⟨g, 0, none⟩ 1 [k] Tryz.underlying72 Tryz.underlying5 Tryz.underlying9 (fun j hj => by obtain rfl : j = 0 := (by simpa using hj); simp [Addr.add, World.cell?, hg])
      simp only [List.length_cons, List.length_nil, Nat.zero_add] at hback
      clear hg
      refine wpOp_step rfl (fun K hK => ?_)
      go_simp
      exact hK _ _ ⟨_, _, _, _, _, _, _, _, _, _, _, _, _, rfl, HI.out.s3 rfl⟩
    · clear hdep
      refine wpOp_step rfl (fun K hK => ?_)
      go_simp
      exact hK _ _ ⟨_, _, _, _, _, _, _, _, _, _, _, _, _, rfl, HI.out.s4 rfl⟩
    · have hd := hdep _ rfl
      have e4 := HI.out.f4 (hd ⟨4, .data⟩ (by simp) rfl)
      subst e4
      clear hdep hd
      refine wpOp_step rfl (fun K hK => ?_)
      go_simp
      exact hK _ _ ⟨_, _, _, _, _, _, _, _, _, _, _, _, _, rfl, HI.out.s5 rfl⟩
    · have hd := hdep _ rfl
      have e5 := HI.out.f5 (hd ⟨5, .data⟩ (by simp) rfl)
      subst e5
      clear hdep hd
      refine wpOp_step rfl (fun K hK => ?_)
      go_simp
      exact hK _ _ ⟨_, _, _, _, _, _, _, _, _, _, _, _, _, rfl, HI.out.s6 rfl⟩
    · have hd := hdep _ rfl
      have e6 := HI.out.f6 (hd ⟨6, .data⟩ (by simp) rfl)
      subst e6
      clear hdep hd
      refine wpOp_step rfl (fun K hK => ?_)
      go_wp2_with fail
      refine (twoBytes_any _ _).mono ?_
      rintro e w2 ⟨rfl, hb⟩
      go_wp2_with fail
      exact ⟨_, _, _, _, _, _, _, _, _, _, _, _, _, rfl, (HI.out.grow hb).s7 rfl⟩
    · have hd := hdep _ rfl
      have e3 := HI.out.f3 (hd ⟨3, .data⟩ (by simp) rfl)
      subst e3
      have e7 := HI.out.f7 (hd ⟨7, .data⟩ (by simp) rfl)
      subst e7
      clear hdep hd
      refine wpOp_step rfl (fun K hK => ?_)
      have hsz : ¬ 9223372036854775807 < 1 + (Hm.twoB l.length).length := by rw [Hm.twoB_length]; omega
      go_simp
      exact hK _ _ ⟨_, _, _, _, _, _, _, _, _, _, _, _, _, rfl, HI.out.s8 (by congr 1)⟩
    · clear hdep
      refine wpOp_step rfl (fun K hK => ?_)
      go_simp
      exact hK _ _ ⟨_, _, _, _, _, _, _, _, _, _, _, _, _, rfl, HI.out.s9 rfl⟩
    · have hd := hdep _ rfl
      have e9 := HI.out.f9 (hd ⟨9, .data⟩ (by simp) rfl)
      subst e9
      clear hdep hd
      refine wpOp_step rfl (fun K hK => ?_)
      go_simp
      exact hK _ _ ⟨_, _, _, _, _, _, _, _, _, _, _, _, _, rfl, HI.out.s10 rfl⟩
    · have hd := hdep _ rfl
      have e8 := HI.out.f8 (hd ⟨8, .data⟩ (by simp) rfl)
      subst e8
      have e10 := HI.out.f10 (hd ⟨10, .data⟩ (by simp) rfl)
      subst e10
      clear hdep hd
      refine wpOp_step rfl (fun K hK => ?_)
      have hsz : ¬ 9223372036854775807 < (Hm.twoB l.length).length + 1 + l.length := by rw [Hm.twoB_length]; omega
      go_simp
      exact hK _ _ ⟨_, _, _, _, _, _, _, _, _, _, _, _, _, rfl, HI.out.s11 (by congr 1)⟩
    · have hd := hdep _ rfl
      have e11 := HI.out.f11 (hd ⟨11, .data⟩ (by simp) rfl)
      subst e11
      clear hdep hd
      refine wpOp_step rfl (fun K hK => ?_)
      go_simp
      exact hK _ _ ⟨_, _, _, _, _, _, _, _, _, _, _, _, _, rfl, HI.out.s12 rfl⟩
  · rintro L a w' ⟨x3, x4, x5, x6, x7, x8, x9, x10, x11, x12, x13, x14, x15, rfl, hI⟩ hall
    have e3 := hI.f12 (hall 12 (by decide))
    subst e3
    have HB : Hid (Below w.heap.size w w') := hI.bel
    have hal : (Hm.aheadRec k l).length = l.length + 3 := Hm.aheadRec_length k l
    have HC : Hid (∀ w, Calls Tryz.prog 147 #[.string ⟨(Hm.aheadRec k l).toArray⟩] w fun e w' => e = .returned (.string ⟨(Hm.check (Hm.aheadRec k l)).toArray⟩) ∧ Below w.heap.size w w') := fun w => checkOf_any ⟨(Hm.aheadRec k l).toArray⟩ (by show (Hm.aheadRec k l).toArray.size ≤ _; simp; omega) w
    have hsz : ¬ 9223372036854775807 < (Hm.aheadRec k l).length + (Hm.check (Hm.aheadRec k l)).length := by rw [Hm.check_length, hal]; omega
    clear hI hall hal
    go_wp2_with fail
    refine (HC.out _).mono ?_
    rintro e w2 ⟨rfl, hb⟩
    go_wp2
    go_ret
    exact ⟨by unfold Hm.writeRec; congr 2, Below.next HB.out (Nat.le_refl _) hb⟩
end Go.Proofs.YtdlhbmncbmconaaGreatDoor
namespace Go.Hm
theorem numB_take (l : List UInt8) : numB (l.take 2) = numB l := by
  match l with
  | [] => rfl
  | [a] => rfl
  | a :: b :: t => rfl
theorem numB_lt (l : List UInt8) : numB l < 65536 := by
  unfold numB
  have h1 : (l.getD 0 0).toNat < 256 := UInt8.toNat_lt _
  have h2 : (l.getD 1 0).toNat < 256 := UInt8.toNat_lt _
  omega
end Go.Hm
namespace Go.Proofs.YtdlhbmncbmconaaGreatDoor
open Go.RowKit Go.Sort
attribute [local go_sem] alloc_drewN setCell_drewN
theorem two_of_size {s : ByteArray} (h : s.size = 2) : ∃ a b, s = ⟨#[a, b]⟩ := by
  obtain ⟨⟨l⟩⟩ := s
  match l, h with
  | [a, b], _ => exact ⟨a, b, rfl⟩
theorem numberOf_two (s : ByteArray) (h : s.size = 2) (w : World) :
    Calls Tryz.prog 101 #[.string s] w fun e w' => e = .returned (.int .i64 (Hm.numB s.data.toList)) ∧ ∃ n, w' = w.drewN n := by
  obtain ⟨a, b, rfl⟩ := two_of_size h
  exact numberOf_any a b w
def recV : Option (UInt8 × List UInt8 × Nat) → Array Value
  | none => #[.int .u8 0, .string ⟨#[]⟩]
  | some (k, bs, _) => #[.int .u8 k.toNat, .string ⟨bs.toArray⟩]
def recN : Option (UInt8 × List UInt8 × Nat) → Nat
  | none => 0
  | some (_, _, n) => n
theorem size_record : (Tryz.prog.info? 121).map (·.size) = some 2 := by kernel_rfl
set_option maxRecDepth 20000 in
set_option maxHeartbeats 800000 in
theorem readRecord_any (s : ByteArray) (hs : s.size ≤ 3000000000) (w : World) :
    Calls Tryz.prog 99 #[.string s] w fun e w' => e = .returned (.tuple #[.agg (recV (Hm.readRec s.data.toList)), .int .i64 (recN (Hm.readRec s.data.toList))]) ∧ Below w.heap.size w w' := by
  obtain ⟨wA, hwA⟩ : ∃ wA, w.alloc (.cells #[.int .u8 0, .string ⟨#[]⟩] 121) = wA := ⟨_, rfl⟩
  have HBA : Hid (Below w.heap.size w wA) := by rw [← hwA]; exact (Below.refl _ _).alloc (Nat.le_refl _) _
  have HRA : Hid (wA.heap[w.heap.size]? = some (.cells #[.int .u8 0, .string ⟨#[]⟩] 121 (0, 0))) := by rw [← hwA]; exact heap_alloc_new _ _
  unfold Hm.readRec
  rw [Hm.len]
  by_cases h3 : s.size < 3
  · rw [if_pos h3]
    have i3 : (s.size : Int) < 3 := by omega
    go_enter Tryz.func99, Tryz.ntmps99
    go_wp2_with (refine Hw.wpList_store_rowP rfl _ _ _ rfl rfl w.heap.size #[.int .u8 0, .string ⟨#[]⟩] rfl rfl _ _ HRA.out size_record rfl rfl ?_; intro w5 p5; have P5 : Hid (Hw.Put _ _ _ _ w5) := p5; clear p5)
    refine bodyPost_ret (Hw.results_row2 Tryz.results99 _ _ _ _ _ _ _ rfl P5.out.row Tryz.underlying121 rfl size_record) rfl ⟨rfl, HBA.out.trans (P5.out.below (Nat.le_refl _))⟩
  · rw [if_neg h3]
    have i3 : ¬ (s.size : Int) < 3 := by omega
    have i3' : (3 : Int) ≤ (s.size : Int) := by omega
    have hx : (s.extract 1 3).size = 2 := by simp; omega
    have hn : Hm.numB (s.extract 1 3).data.toList = Hm.numB (s.data.toList.drop 1) := by rw [ex_take]; exact Hm.numB_take _
    have HN : Hid (∀ w, Calls Tryz.prog 101 #[.string (s.extract 1 3)] w fun e w' => e = .returned (.int .i64 (Hm.numB (s.data.toList.drop 1))) ∧ ∃ n, w' = w.drewN n) := fun w => by rw [← hn]; exact numberOf_two _ hx w
    have hlt := Hm.numB_lt (s.data.toList.drop 1)
    generalize Hm.numB (s.data.toList.drop 1) = n at HN hlt ⊢
    clear hx hn
    by_cases h5 : s.size < 3 + n + 2
    · rw [if_pos h5]
      have i5 : (s.size : Int) < 3 + (n : Int) + 2 := by omega
      go_enter Tryz.func99, Tryz.ntmps99
      go_wp2_with fail
      clear hwA
      refine (HN.out _).mono ?_
      rintro e w1 ⟨rfl, hw1⟩
      have HB1 : Hid (Below w.heap.size w w1) := Below.next HBA.out (Nat.le_refl _) (drew_below hw1)
      have HR1 : Hid (w1.heap[w.heap.size]? = some (.cells #[.int .u8 0, .string ⟨#[]⟩] 121 (0, 0))) := by obtain ⟨q, rfl⟩ := hw1; exact HRA.out
      clear hw1 HBA HRA
      go_wp2_with fail
      go_quiet (fail)
      have HB2 : Hid (Below w.heap.size w (w1.drewN nq)) := Below.next HB1.out (Nat.le_refl _) (drew_below ⟨_, rfl⟩)
      have HR2 : Hid ((w1.drewN nq).heap[w.heap.size]? = some (.cells #[.int .u8 0, .string ⟨#[]⟩] 121 (0, 0))) := HR1.out
      generalize w1.drewN nq = w2 at HB2 HR2 ⊢
      go_wp2_with (refine Hw.wpList_store_rowP rfl _ _ _ rfl rfl w.heap.size #[.int .u8 0, .string ⟨#[]⟩] rfl rfl _ _ HR2.out size_record rfl rfl ?_; intro w5 p5; have P5 : Hid (Hw.Put _ _ _ _ w5) := p5; clear p5)
      refine bodyPost_ret (Hw.results_row2 Tryz.results99 _ _ _ _ _ _ _ rfl P5.out.row Tryz.underlying121 rfl size_record) rfl ⟨rfl, ?_⟩
      exact HB2.out.trans (P5.out.below (Nat.le_refl _))
    · rw [if_neg h5]
      have i5 : ¬ (s.size : Int) < 3 + (n : Int) + 2 := by omega
      have i5' : 3 + (n : Int) + 2 ≤ (s.size : Int) := by omega
      have i6 : 3 + (n : Int) ≤ (s.size : Int) := by omega
      have i7 : ¬ 3 + (n : Int) < 0 := by omega
      have hwr : IntKind.i64.wrap (3 + (n : Int) + 2) = 3 + (n : Int) + 2 := by rw [IntKind.wrap_i64]; omega
      have i8 : 0 ≤ 3 + (n : Int) + 2 := by omega
      have i9 : 3 + (n : Int) ≤ 3 + (n : Int) + 2 := by omega
      have i10 : 3 ≤ 3 + (n : Int) := by omega
      have hto : (3 + (n : Int)).toNat = 3 + n := by omega
      have hto2 : (3 + (n : Int) + 2).toNat = 3 + n + 2 := by omega
      have HC : Hid (∀ {w1 : World} w', Below w1.heap.size w1 w' → Calls Tryz.prog 147 #[.string (s.extract 0 (3 + n))] w' fun e w'' => e = .returned (.string ⟨(Hm.check (s.data.toList.take (3 + n))).toArray⟩) ∧ Below w1.heap.size w1 w'') := fun w' hw' => by
        have := checkOf_any (s.extract 0 (3 + n)) (by simp; omega) w'
        rw [ex_take, List.drop_zero, Nat.sub_zero] at this
        exact this.mono fun _ _ ⟨he, hb⟩ => ⟨he, Below.next hw' (Nat.le_refl _) hb⟩
      have hex : (s.extract (3 + n) (3 + n + 2)).toList = (s.data.toList.drop (3 + n)).take 2 := by rw [Lib.toList_data, ex_take, show 3 + n + 2 - (3 + n) = 2 by omega]
      by_cases hq : (s.data.toList.drop (3 + n)).take 2 = Hm.check (s.data.toList.take (3 + n))
      · rw [if_neg (by simp [hq])]
        have HQ : Hid ((s.extract (3 + n) (3 + n + 2)).toList = Hm.check (s.data.toList.take (3 + n))) := hex.trans hq
        have hpos : 0 < s.size := by omega
        have hposi : (0 : Int) < (s.size : Int) := by omega
        have HK : Hid (s.data.toList.getD 0 0 = s[0]) := by
          show _ = _
          rw [List.getD_eq_getElem?_getD, List.getElem?_eq_getElem (by rw [Hm.len]; exact hpos)]
          simp; rfl
        have HX : Hid ((s.extract 3 (3 + n)) = ⟨((s.data.toList.drop 3).take n).toArray⟩) := by
          show _ = _
          have := ex_take s 3 (3 + n)
          rw [show 3 + n - 3 = n by omega] at this
          rw [← this]
        clear hex hq
        go_enter Tryz.func99, Tryz.ntmps99
        go_wp2_with fail
        clear hwA
        refine (HN.out _).mono ?_
        rintro e w1 ⟨rfl, hw1⟩
        have HB1 : Hid (Below w.heap.size w w1) := Below.next HBA.out (Nat.le_refl _) (drew_below hw1)
        have HR1 : Hid (w1.heap[w.heap.size]? = some (.cells #[.int .u8 0, .string ⟨#[]⟩] 121 (0, 0))) := by obtain ⟨q, rfl⟩ := hw1; exact HRA.out
        clear hw1 HBA HRA
        go_wp2_with fail
        refine region_class (fun w' => Below w1.heap.size w1 w') mixed (by kernel_rfl) (Below.refl _ _).drew ?_
        refine q_step (.string s) rfl (fun w' hw' => by unfold Oper.quietAt; go_simp) ?_
        intro K hK; go_simp; refine hK _ ?_; clear hK K
        refine q_step (.int .i64 s.size) rfl (fun w' hw' => by unfold Oper.quietAt; go_simp) ?_
        intro K hK; go_simp; refine hK _ ?_; clear hK K
        refine q_step (.int .i64 (3 + (n : Int))) rfl (fun w' hw' => by unfold Oper.quietAt; go_simp) ?_
        intro K hK; go_simp; refine hK _ ?_; clear hK K
        refine q_step (.int .i64 (3 + (n : Int) + 2)) rfl (fun w' hw' => by unfold Oper.quietAt; go_simp) ?_
        intro K hK; go_simp; refine hK _ ?_; clear hK K
        refine q_step (.bool false) rfl (fun w' hw' => by unfold Oper.quietAt; go_simp) ?_
        intro K hK; go_simp; refine hK _ ?_; clear hK K
        refine q_step (.bool false) rfl (fun w' hw' => by unfold Oper.quietAt; go_simp) ?_
        intro K hK; go_simp; refine hK _ ?_; clear hK K
        refine q_step (.string s) rfl (fun w' hw' => by unfold Oper.quietAt; go_simp) ?_
        intro K hK; go_simp; refine hK _ ?_; clear hK K
        refine q_step (.int .i64 (3 + (n : Int))) rfl (fun w' hw' => by unfold Oper.quietAt; go_simp) ?_
        intro K hK; go_simp; refine hK _ ?_; clear hK K
        refine q_step (.int .i64 (3 + (n : Int))) rfl (fun w' hw' => by unfold Oper.quietAt; go_simp) ?_
        intro K hK; go_simp; refine hK _ ?_; clear hK K
        refine q_step (.int .i64 (3 + (n : Int) + 2)) rfl (fun w' hw' => by unfold Oper.quietAt; go_simp) ?_
        intro K hK; go_simp; refine hK _ ?_; clear hK K
        refine q_step (.string (s.extract (3 + n) (3 + n + 2))) rfl (fun w' hw' => by unfold Oper.quietAt; go_simp) ?_
        intro K hK; go_simp; refine hK _ ?_; clear hK K
        refine q_step (.string s) rfl (fun w' hw' => by unfold Oper.quietAt; go_simp) ?_
        intro K hK; go_simp; refine hK _ ?_; clear hK K
        refine q_step (.int .i64 (3 + (n : Int))) rfl (fun w' hw' => by unfold Oper.quietAt; go_simp) ?_
        intro K hK; go_simp; refine hK _ ?_; clear hK K
        refine q_step (.string (s.extract 0 (3 + n))) rfl (fun w' hw' => by unfold Oper.quietAt; go_simp) ?_
        intro K hK; go_simp; refine hK _ ?_; clear hK K
        refine q_step (.string ⟨(Hm.check (s.data.toList.take (3 + n))).toArray⟩) rfl (fun w' hw' => by unfold Oper.quietAt; go_simp; exact HC.out w' hw') ?_
        intro K hK; go_simp; refine hK _ ?_; clear hK K
        refine q_step (.bool false) rfl (fun w' hw' => by unfold Oper.quietAt; go_simp; exact HQ.out) ?_
        intro K hK; go_simp; refine hK _ ?_; clear hK K
        refine q_step (.bool false) rfl (fun w' hw' => by unfold Oper.quietAt; go_simp) ?_
        intro K hK; go_simp; refine hK _ ?_; clear hK K
        refine wpQuiet_nil ?_
        intro w2 hb2
        have HB2 : Hid (Below w.heap.size w w2) := Below.next HB1.out (Nat.le_refl _) hb2
        have HR2 : Hid (w2.heap[w.heap.size]? = some (.cells #[.int .u8 0, .string ⟨#[]⟩] 121 (0, 0))) := (hb2.block _ (Array.getElem?_eq_some_iff.1 HR1.out).1).trans HR1.out
        clear hb2 HB1 HR1
        go_wp2_with fail
        refine wp_region_any mixed ?_
        change wpAny _ _ _ _ _ _ _ (World.drew _)
        have HB3 : Hid (Below w.heap.size w w2.drew) := HB2.out.drew
        have HR3 : Hid (w2.drew.heap[w.heap.size]? = some (.cells #[.int .u8 0, .string ⟨#[]⟩] 121 (0, 0))) := HR2.out
        generalize w2.drew = w3 at HB3 HR3 ⊢
        refine wpAny_take (i := 0) (v := .string s) rfl (by kernel_rfl) (by kernel_rfl) (by kernel_rfl) (fun _ _ _ h => h) (Or.inl ⟨by rfl, ?_⟩) ?_
        · intro w; go_simp
        refine wpAny_take (i := 1) (v := .int .u8 s[0].toNat) rfl (by kernel_rfl) (by kernel_rfl) (by kernel_rfl) (fun _ _ _ h => h) (Or.inl ⟨by rfl, ?_⟩) ?_
        · intro w; go_simp
        refine wpAny_take (i := 2) (v := .string s) rfl (by kernel_rfl) (by kernel_rfl) (by kernel_rfl) (fun _ _ _ h => h) (Or.inl ⟨by rfl, ?_⟩) ?_
        · intro w; go_simp
        refine wpAny_take (i := 3) (v := .int .i64 (3 + (n : Int))) rfl (by kernel_rfl) (by kernel_rfl) (by kernel_rfl) (fun _ _ _ h => h) (Or.inl ⟨by rfl, ?_⟩) ?_
        · intro w; go_simp
        refine wpAny_take (i := 4) (v := .string (s.extract 3 (3 + n))) rfl (by kernel_rfl) (by kernel_rfl) (by kernel_rfl) (fun _ _ _ h => h) (Or.inl ⟨by rfl, ?_⟩) ?_
        · intro w; go_simp
        refine wpAny_take (i := 5) (v := .agg #[.int .u8 s[0].toNat, .string (s.extract 3 (3 + n))]) rfl (by kernel_rfl) (by kernel_rfl) (by kernel_rfl) (fun _ _ _ h => h) (Or.inl ⟨by rfl, ?_⟩) ?_
        · intro w; go_simp
        refine wpAny_take (i := 6) (v := .int .i64 (3 + (n : Int))) rfl (by kernel_rfl) (by kernel_rfl) (by kernel_rfl) (fun _ _ _ h => h) (Or.inl ⟨by rfl, ?_⟩) ?_
        · intro w; go_simp
        refine wpAny_take (i := 7) (v := .int .i64 (3 + (n : Int) + 2)) rfl (by kernel_rfl) (by kernel_rfl) (by kernel_rfl) (fun _ _ _ h => h) (Or.inl ⟨by rfl, ?_⟩) ?_
        · intro w; go_simp
        refine wpAny_ready (rs := [8]) (by kernel_rfl) (by simp) ?_
        refine AllReady.cons rfl (fun K hK => ?_) AllReady.nil
        have k0 : w3.cell? ⟨w.heap.size, 0, none⟩ = some (.int .u8 0) := by simp [World.cell?, HR3.out]
        have k1 : w3.cell? ⟨w.heap.size, 1, none⟩ = some (.string ⟨#[]⟩) := by simp [World.cell?, HR3.out]
        have q0 : w3.frozen? ⟨w.heap.size, 0, none⟩ = false := by simp [World.frozen?, HR3.out]
        have q1 : w3.frozen? ⟨w.heap.size, 1, none⟩ = false := by simp [World.frozen?, HR3.out]
        go_simp
        refine hK _ _ ?_
        clear hK K
        refine wpAny_ready (rs := [9]) (by kernel_rfl) (by simp) ?_
        refine AllReady.cons rfl (fun K hK => ?_) AllReady.nil
        go_simp
        refine hK _ _ ?_
        clear hK K
        refine wpAny_done (by kernel_rfl) ?_ _
        have P4 := put_setCell (i := 0) (.int .u8 s[0].toNat) HR3.out
        have P5a := put_setCell (i := 1) (.string (s.extract 3 (3 + n))) P4.row
        have P5 : Hid (Hw.Put w3 w.heap.size 121 #[.int .u8 s[0].toNat, .string (s.extract 3 (3 + n))] ((w3.setCell ⟨w.heap.size, 0, none⟩ (.int .u8 s[0].toNat)).setCell ⟨w.heap.size, 1, none⟩ (.string (s.extract 3 (3 + n))))) :=
          ⟨P5a.row, fun k hk => (P5a.other k hk).trans (P4.other k hk), P5a.size.trans P4.size, P5a.os.trans P4.os, P5a.tape.trans P4.tape, P5a.output.trans P4.output⟩
        clear P4 P5a k0 k1 q0 q1
        generalize (w3.setCell ⟨w.heap.size, 0, none⟩ (.int .u8 s[0].toNat)).setCell ⟨w.heap.size, 1, none⟩ (.string (s.extract 3 (3 + n))) = w5 at P5 ⊢
        go_wp2
        refine bodyPost_ret (Hw.results_row2 Tryz.results99 _ _ _ _ _ _ _ rfl P5.out.row Tryz.underlying121 rfl size_record) rfl ⟨?_, ?_⟩
        · unfold recV recN
          rw [HK.out, HX.out]
          show Ending.returned (.tuple #[.agg #[.int .u8 s[0].toNat, .string ⟨((s.data.toList.drop 3).take n).toArray⟩], .int .i64 (3 + (n : Int) + 2)]) = Ending.returned (.tuple #[.agg #[.int .u8 s[0].toNat, .string ⟨((s.data.toList.drop 3).take n).toArray⟩], .int .i64 ((3 + n + 2 : Nat) : Int)])
          rw [show ((3 + n + 2 : Nat) : Int) = 3 + (n : Int) + 2 by omega]
        · exact HB3.out.trans (P5.out.below (Nat.le_refl _))
      · rw [if_pos hq]
        have HQ : Hid (¬ (s.extract (3 + n) (3 + n + 2)).toList = Hm.check (s.data.toList.take (3 + n))) := fun e => hq (hex.symm.trans e)
        clear hex hq
        go_enter Tryz.func99, Tryz.ntmps99
        go_wp2_with fail
        clear hwA
        refine (HN.out _).mono ?_
        rintro e w1 ⟨rfl, hw1⟩
        have HB1 : Hid (Below w.heap.size w w1) := Below.next HBA.out (Nat.le_refl _) (drew_below hw1)
        have HR1 : Hid (w1.heap[w.heap.size]? = some (.cells #[.int .u8 0, .string ⟨#[]⟩] 121 (0, 0))) := by obtain ⟨q, rfl⟩ := hw1; exact HRA.out
        clear hw1 HBA HRA
        go_wp2_with fail
        refine region_class (fun w' => Below w1.heap.size w1 w') mixed (by kernel_rfl) (Below.refl _ _).drew ?_
        refine q_step (.string s) rfl (fun w' hw' => by unfold Oper.quietAt; go_simp) ?_
        intro K hK; go_simp; refine hK _ ?_; clear hK K
        refine q_step (.int .i64 s.size) rfl (fun w' hw' => by unfold Oper.quietAt; go_simp) ?_
        intro K hK; go_simp; refine hK _ ?_; clear hK K
        refine q_step (.int .i64 (3 + (n : Int))) rfl (fun w' hw' => by unfold Oper.quietAt; go_simp) ?_
        intro K hK; go_simp; refine hK _ ?_; clear hK K
        refine q_step (.int .i64 (3 + (n : Int) + 2)) rfl (fun w' hw' => by unfold Oper.quietAt; go_simp) ?_
        intro K hK; go_simp; refine hK _ ?_; clear hK K
        refine q_step (.bool false) rfl (fun w' hw' => by unfold Oper.quietAt; go_simp) ?_
        intro K hK; go_simp; refine hK _ ?_; clear hK K
        refine q_step (.bool false) rfl (fun w' hw' => by unfold Oper.quietAt; go_simp) ?_
        intro K hK; go_simp; refine hK _ ?_; clear hK K
        refine q_step (.string s) rfl (fun w' hw' => by unfold Oper.quietAt; go_simp) ?_
        intro K hK; go_simp; refine hK _ ?_; clear hK K
        refine q_step (.int .i64 (3 + (n : Int))) rfl (fun w' hw' => by unfold Oper.quietAt; go_simp) ?_
        intro K hK; go_simp; refine hK _ ?_; clear hK K
        refine q_step (.int .i64 (3 + (n : Int))) rfl (fun w' hw' => by unfold Oper.quietAt; go_simp) ?_
        intro K hK; go_simp; refine hK _ ?_; clear hK K
        refine q_step (.int .i64 (3 + (n : Int) + 2)) rfl (fun w' hw' => by unfold Oper.quietAt; go_simp) ?_
        intro K hK; go_simp; refine hK _ ?_; clear hK K
        refine q_step (.string (s.extract (3 + n) (3 + n + 2))) rfl (fun w' hw' => by unfold Oper.quietAt; go_simp) ?_
        intro K hK; go_simp; refine hK _ ?_; clear hK K
        refine q_step (.string s) rfl (fun w' hw' => by unfold Oper.quietAt; go_simp) ?_
        intro K hK; go_simp; refine hK _ ?_; clear hK K
        refine q_step (.int .i64 (3 + (n : Int))) rfl (fun w' hw' => by unfold Oper.quietAt; go_simp) ?_
        intro K hK; go_simp; refine hK _ ?_; clear hK K
        refine q_step (.string (s.extract 0 (3 + n))) rfl (fun w' hw' => by unfold Oper.quietAt; go_simp) ?_
        intro K hK; go_simp; refine hK _ ?_; clear hK K
        refine q_step (.string ⟨(Hm.check (s.data.toList.take (3 + n))).toArray⟩) rfl (fun w' hw' => by unfold Oper.quietAt; go_simp; exact HC.out w' hw') ?_
        intro K hK; go_simp; refine hK _ ?_; clear hK K
        refine q_step (.bool true) rfl (fun w' hw' => by unfold Oper.quietAt; go_simp; exact HQ.out) ?_
        intro K hK; go_simp; refine hK _ ?_; clear hK K
        refine q_step (.bool true) rfl (fun w' hw' => by unfold Oper.quietAt; go_simp) ?_
        intro K hK; go_simp; refine hK _ ?_; clear hK K
        refine wpQuiet_nil ?_
        intro w2 hb2
        have HB2 : Hid (Below w.heap.size w w2) := Below.next HB1.out (Nat.le_refl _) hb2
        have HR2 : Hid (w2.heap[w.heap.size]? = some (.cells #[.int .u8 0, .string ⟨#[]⟩] 121 (0, 0))) := (hb2.block _ (Array.getElem?_eq_some_iff.1 HR1.out).1).trans HR1.out
        clear hb2 HB1 HR1
        go_wp2_with (refine Hw.wpList_store_rowP rfl _ _ _ rfl rfl w.heap.size #[.int .u8 0, .string ⟨#[]⟩] rfl rfl _ _ HR2.out size_record rfl rfl ?_; intro w5 p5; have P5 : Hid (Hw.Put _ _ _ _ w5) := p5; clear p5)
        refine bodyPost_ret (Hw.results_row2 Tryz.results99 _ _ _ _ _ _ _ rfl P5.out.row Tryz.underlying121 rfl size_record) rfl ⟨rfl, ?_⟩
        exact HB2.out.trans (P5.out.below (Nat.le_refl _))
end Go.Proofs.YtdlhbmncbmconaaGreatDoor
namespace Go.Proofs.YtdlhbmncbmconaaGreatDoor
open Go.RowKit Go.Sort
attribute [local go_sem] alloc_drewN setCell_drewN
def LgV (g : Hm.Lg) (rv wv : Value) : Array Value := #[.int .i64 g.room, rv, .int .i64 g.had, wv]
structure LogAt (w : World) (p : Nat) (g : Hm.Lg) (rv wv : Value) : Prop where
  row : w.heap[p]? = some (.cells (LgV g rv wv) 116 (0, 0))
  recs : w.ownsRow 11 5 1 rv g.records.length (g.records.map fun b => Value.int .u8 b.toNat)
  wai : w.ownsRow 11 9 1 wv g.waiting.length (g.waiting.map strV)
  lo : 11 ≤ p
theorem LogAt.cells {w : World} {p : Nat} {g : Hm.Lg} {rv wv : Value} (h : LogAt w p g rv wv) :
    w.cell? ⟨p, 0, none⟩ = some (.int .i64 g.room) ∧ w.cell? ⟨p, 1, none⟩ = some rv ∧ w.cell? ⟨p, 2, none⟩ = some (.int .i64 g.had) ∧ w.cell? ⟨p, 3, none⟩ = some wv := by
  have hr := h.row
  unfold LgV at hr
  refine ⟨?_, ?_, ?_, ?_⟩ <;> simp [World.cell?, hr]
theorem messages_any (p : Nat) (g : Hm.Lg) (rv wv : Value) (w : World) (h : LogAt w p g rv wv) (h1 : g.had ≤ 1000000) (h2 : g.waiting.length ≤ 1000000) :
    Calls Tryz.prog 75 #[.pointer (some ⟨p, 0, none⟩)] w fun e w' => e = .returned (.int .i64 g.messages) ∧ ∃ n, w' = w.drewN n := by
  obtain ⟨c0, c1, c2, c3⟩ := h.cells
  obtain ⟨ad, cap, rfl⟩ := own_form h.wai
  clear h
  go_enter Tryz.func75, Tryz.ntmps75
  go_wp2_with fail
  go_quiet (fail)
  go_wp2
  go_ret
  refine ⟨?_, ⟨_, rfl⟩⟩
  show Ending.returned (.int .i64 ((g.had : Int) + (g.waiting.length : Int))) = Ending.returned (.int .i64 ((g.had + g.waiting.length : Nat) : Int))
  rw [Int.natCast_add]
theorem LogAt.keep {p : Nat} {g : Hm.Lg} {rv wv : Value} {A B : World} {S : Nat → Prop} (h : LogAt A p g rv wv) (hk : Hw.Kept S A B) (h1 : ¬ S p) (h2 : ∀ k, rv.ownBlock = some k → ¬ S k) (h3 : ∀ k, wv.ownBlock = some k → ¬ S k) : LogAt B p g rv wv :=
  ⟨(hk.block _ (Array.getElem?_eq_some_iff.1 h.row).1 h1).trans h.row, Hw.ownsRow_keptS h.recs hk h2, Hw.ownsRow_keptS h.wai hk h3, h.lo⟩
theorem LogAt.below {p : Nat} {g : Hm.Lg} {rv wv : Value} {A B : World} (h : LogAt A p g rv wv) (hb : Below A.heap.size A B) : LogAt B p g rv wv :=
  h.keep (S := fun _ => False) (Hw.Kept.of_below hb) (fun e => e) (fun _ _ e => e) (fun _ _ e => e)
structure StepL (p : Nat) (rv wv : Value) (w : World) (rv' wv' : Value) (w' : World) : Prop where
  kept : Hw.Kept (fun k => k = p ∨ rv.ownBlock = some k ∨ wv.ownBlock = some k) w w'
  lr : ∀ k, rv'.ownBlock = some k → rv.ownBlock = some k ∨ w.heap.size ≤ k
  lw : ∀ k, wv'.ownBlock = some k → wv.ownBlock = some k ∨ w.heap.size ≤ k
theorem StepL.refl {p : Nat} {rv wv : Value} {w : World} : StepL p rv wv w rv wv w := ⟨Hw.Kept.refl _ _, fun _ e => .inl e, fun _ e => .inl e⟩
theorem StepL.next {p : Nat} {rv wv rv' wv' : Value} {a b c : World} (h : StepL p rv wv a rv' wv' b) (k : Below b.heap.size b c) : StepL p rv wv a rv' wv' c := ⟨h.kept.next k, h.lr, h.lw⟩
theorem StepL.trans {p : Nat} {rv wv rv' wv' rv'' wv'' : Value} {a b c : World} (h : StepL p rv wv a rv' wv' b) (k : StepL p rv' wv' b rv'' wv'' c) : StepL p rv wv a rv'' wv'' c where
  kept := h.kept.trans k.kept (fun i hi e => by
    rcases e with e | e | e
    · exact .inl e
    · rcases h.lr i e with e | e
      · exact .inr (.inl e)
      · omega
    · rcases h.lw i e with e | e
      · exact .inr (.inr e)
      · omega)
  lr i e := by
    rcases k.lr i e with e | e
    · exact h.lr i e
    · exact .inr (Nat.le_trans h.kept.size e)
  lw i e := by
    rcases k.lw i e with e | e
    · exact h.lw i e
    · exact .inr (Nat.le_trans h.kept.size e)
theorem strCells_list (l : List UInt8) : Lib.strCells ⟨l.toArray⟩ = l.map fun b => Value.int .u8 b.toNat := by simp [Lib.strCells]
theorem LogAt.apart {w : World} {p : Nat} {g : Hm.Lg} {rv wv : Value} (h : LogAt w p g rv wv) : rv.ownBlock ≠ some p ∧ wv.ownBlock ≠ some p ∧ ∀ k, rv.ownBlock = some k → wv.ownBlock ≠ some k := by
  refine ⟨fun e => ?_, fun e => ?_, fun k e e' => ?_⟩
  · obtain ⟨c, hc⟩ := Hw.ownsRow_cells h.recs e
    exact ne_types hc h.row (by decide) rfl
  · obtain ⟨c, hc⟩ := Hw.ownsRow_cells h.wai e
    exact ne_types hc h.row (by decide) rfl
  · obtain ⟨c, hc⟩ := Hw.ownsRow_cells h.recs e
    obtain ⟨c', hc'⟩ := Hw.ownsRow_cells h.wai e'
    exact ne_types hc hc' (by decide) rfl
theorem LogAt.grownR {w w5 : World} {p : Nat} {g : Hm.Lg} {rv wv : Value} (h : LogAt w p g rv wv) (hgrow : w.grownBy w5 rv.ownBlock) : w5.heap[p]? = some (.cells (LgV g rv wv) 116 (0, 0)) :=
  (hgrow.block p (Array.getElem?_eq_some_iff.1 h.row).1 (fun e => h.apart.1 e.symm)).trans h.row
theorem LogAt.putR {w w5 w6 : World} {p : Nat} {g : Hm.Lg} {rv rv' wv : Value} {l : List UInt8} (h : LogAt w p g rv wv) (hown' : w5.ownsRow 11 5 1 rv' (g.records.length + l.length) ((g.records.map fun b => Value.int .u8 b.toNat) ++ Lib.strCells ⟨l.toArray⟩))
    (hgrow : w.grownBy w5 rv.ownBlock) (hat : ∀ k, rv'.ownBlock = some k → rv.ownBlock = some k ∨ w.heap.size ≤ k) (P : Hw.Put w5 p 116 (LgV g rv' wv) w6) :
    LogAt w6 p ⟨g.room, g.records ++ l, g.had, g.waiting⟩ rv' wv ∧ StepL p rv wv w rv' wv w6 := by
  have k1 : Hw.Kept (fun k => some k = rv.ownBlock) w w5 := Hw.Kept.of_grown hgrow
  have hp : p < w.heap.size := (Array.getElem?_eq_some_iff.1 h.row).1
  have hne : rv'.ownBlock ≠ some p := fun e => by
    rcases hat p e with e | e
    · exact h.apart.1 e
    · omega
  refine ⟨⟨P.row, ?_, ?_, h.lo⟩, (k1.mono (fun _ _ e => .inr (.inl e.symm))).trans P.kept (fun _ _ e => .inl e), hat, fun _ e => .inl e⟩
  · have := Hw.ownsRow_keptS hown' P.kept (fun k e h => hne (by rw [e, h]))
    rw [strCells_list] at this
    simpa using this
  · have := Hw.ownsRow_keptS h.wai k1 (fun k e e' => h.apart.2.2 k e'.symm e)
    exact Hw.ownsRow_keptS this P.kept (fun k e h' => h.apart.2.1 (by rw [e, h']))
theorem LogAt.grownW {w w5 : World} {p : Nat} {g : Hm.Lg} {rv wv : Value} {o : Obj} (h : LogAt w p g rv wv) (hgrow : (w.alloc o).grownBy w5 wv.ownBlock) : w5.heap[p]? = some (.cells (LgV g rv wv) 116 (0, 0)) := by
  have hp : p < w.heap.size := (Array.getElem?_eq_some_iff.1 h.row).1
  exact (hgrow.block p (by simp; omega) (fun e => h.apart.2.1 e.symm)).trans ((heap_alloc_old w o hp).trans h.row)
theorem LogAt.putW {w w5 w6 : World} {p : Nat} {g : Hm.Lg} {rv wv wv' : Value} {x : List UInt8} {o : Obj} (h : LogAt w p g rv wv) (hown' : w5.ownsRow 11 9 1 wv' (g.waiting.length + 1) (g.waiting.map strV ++ [.string ⟨x.toArray⟩]))
    (hgrow : (w.alloc o).grownBy w5 wv.ownBlock) (hat : wv'.ownBlock = wv.ownBlock ∨ wv'.ownBlock = some (w.alloc o).heap.size) (P : Hw.Put w5 p 116 (LgV g rv wv') w6) :
    LogAt w6 p ⟨g.room, g.records, g.had, g.waiting ++ [x]⟩ rv wv' ∧ StepL p rv wv w rv wv' w6 := by
  have k0 : Hw.Kept (fun k => some k = wv.ownBlock) w (w.alloc o) := (Hw.Kept.refl _ _).alloc o
  have k1 : Hw.Kept (fun k => some k = wv.ownBlock) w w5 := k0.trans (Hw.Kept.of_grown hgrow) (fun _ _ e => e)
  have hp : p < w.heap.size := (Array.getElem?_eq_some_iff.1 h.row).1
  have hat' : ∀ k, wv'.ownBlock = some k → wv.ownBlock = some k ∨ w.heap.size ≤ k := fun k e => by
    rcases hat with h | h
    · exact .inl (by rw [← h]; exact e)
    · rw [h] at e; cases e; right; simp
  have hne : wv'.ownBlock ≠ some p := fun e => by
    rcases hat' p e with e | e
    · exact h.apart.2.1 e
    · omega
  refine ⟨⟨P.row, ?_, ?_, h.lo⟩, (k1.mono (fun _ _ e => .inr (.inr e.symm))).trans P.kept (fun _ _ e => .inl e), fun _ e => .inl e, hat'⟩
  · have := Hw.ownsRow_keptS h.recs k1 (fun k e e' => h.apart.2.2 k e e'.symm)
    exact Hw.ownsRow_keptS this P.kept (fun k e h' => h.apart.1 (by rw [e, h']))
  · have := Hw.ownsRow_keptS hown' P.kept (fun k e h => hne (by rw [e, h]))
    simpa [strV] using this
theorem size_sl42 : (Tryz.prog.info? 42).map (·.size) = some 1 := by kernel_rfl
set_option maxRecDepth 20000 in
set_option maxHeartbeats 800000 in
theorem addMessage_any (p : Nat) (g : Hm.Lg) (rv wv : Value) (w : World) (h : LogAt w p g rv wv) (l : List UInt8) (hl : l.length ≤ 4000) (h1 : g.records.length ≤ 1000000000) (h2 : g.waiting.length ≤ 1000000) :
    Calls Tryz.prog 76 #[.pointer (some ⟨p, 0, none⟩), .string ⟨l.toArray⟩] w fun e w' => (∃ u, e = .returned u) ∧ ∃ rv' wv', LogAt w' p (g.add l) rv' wv' ∧ StepL p rv wv w rv' wv' w' := by
  obtain ⟨c0, c1, c2, c3⟩ := h.cells
  have HH : Hid (LogAt w p g rv wv) := h
  clear h
  have HW : Hid (∀ w, Calls Tryz.prog 123 #[.agg #[.int .u8 80, .string ⟨l.toArray⟩]] w fun e w' => e = .returned (.string ⟨(Hm.writeRec 80 l).toArray⟩) ∧ Below w.heap.size w w') := fun w => writeRecord_any 80 l (by omega) w
  have hwl : (Hm.writeRec 80 l).length ≤ 5000 := by rw [Hm.writeRec_length]; omega
  have hwp : 0 < (Hm.writeRec 80 l).length := by rw [Hm.writeRec_length]; omega
  have hsz : (⟨(Hm.writeRec 80 l).toArray⟩ : ByteArray).size = (Hm.writeRec 80 l).length := by show Array.size _ = _; simp
  obtain ⟨i0, hi, hz0, hz1, hz2⟩ := info_parts info_u8
  obtain ⟨j0, hj, hy0, hy1, hy2⟩ := info_parts info_str
  go_enter Tryz.func76, Tryz.ntmps76
  go_wp2_with fail
  refine wp_region_any mixed ?_
  change wpAny _ _ _ _ _ _ _ (World.drew _)
  refine wpAny_take (i := 0) (v := .pointer (some ⟨p, 0, none⟩)) rfl (by kernel_rfl) (by kernel_rfl) (by kernel_rfl) (fun _ _ _ h => h) (Or.inl ⟨by rfl, ?_⟩) ?_
  · intro w; go_simp
  refine wpAny_take (i := 1) (v := .pointer (some ⟨p, 0, none⟩)) rfl (by kernel_rfl) (by kernel_rfl) (by kernel_rfl) (fun _ _ _ h => h) (Or.inl ⟨by rfl, ?_⟩) ?_
  · intro w; go_simp
  refine wpAny_take (i := 2) (v := .pointer (some ⟨p, 0, none⟩)) rfl (by kernel_rfl) (by kernel_rfl) (by kernel_rfl) (fun _ _ _ h => h) (Or.inl ⟨by rfl, ?_⟩) ?_
  · intro w; go_simp
  refine wpAny_take (i := 3) (v := .pointer (some ⟨p, 1, none⟩)) rfl (by kernel_rfl) (by kernel_rfl) (by kernel_rfl) (fun _ _ _ h => h) (Or.inl ⟨by rfl, ?_⟩) ?_
  · intro w; go_simp
  refine wpAny_take (i := 5) (v := .string ⟨l.toArray⟩) rfl (by kernel_rfl) (by kernel_rfl) (by kernel_rfl) (fun _ _ _ h => h) (Or.inl ⟨by rfl, ?_⟩) ?_
  · intro w; go_simp
  refine wpAny_take (i := 6) (v := .agg #[.int .u8 80, .string ⟨l.toArray⟩]) rfl (by kernel_rfl) (by kernel_rfl) (by kernel_rfl) (fun _ _ _ h => h) (Or.inl ⟨by rfl, ?_⟩) ?_
  · intro w; go_simp
  refine wpAny_ready (rs := [4, 7]) (by kernel_rfl) (by simp) ?_
  refine AllReady.cons rfl (fun K hK => ?_) (AllReady.cons rfl (fun K hK => ?_) AllReady.nil)
  · go_simp
    refine hK _ _ ?_
    clear hK K
    refine wpAny_ready (rs := [7]) (by kernel_rfl) (by simp) ?_
    refine AllReady.cons rfl (fun K hK => ?_) AllReady.nil
    go_wp2_with fail
    refine (HW.out _).mono ?_
    rintro e w2 ⟨rfl, hb2⟩
    have HH2 : Hid (LogAt w2 p g rv wv) := (HH.out.below (drew_below ⟨1, rfl⟩)).below hb2
    have HS2 : Hid (StepL p rv wv w rv wv w2) := (StepL.refl.next (drew_below ⟨1, rfl⟩)).next hb2
    clear hb2
    go_wp2_with fail
    refine Hw.wpAny_tail 8 rfl (by kernel_rfl) ?_
    simp only [List.drop_succ_cons, List.drop_zero]
    have hlo2 : 11 ≤ w2.heap.size := by have := HH2.out.lo; have := (Array.getElem?_eq_some_iff.1 HH2.out.row).1; omega
    go_wp2_with (first
      | (at_builtin; refine Hw.wpList_append_string_at _ rfl _ _ 72 9 rfl 11 5 i0 Tryz.underlying72 Tryz.underlying9 hi hz0 hz1 hz2 _ _ _ rfl HH2.out.recs ⟨(Hm.writeRec 80 l).toArray⟩ rfl (by unfold maxLen; rw [hsz]; omega) (by rw [hsz]; omega) hlo2 ?_; intro rv5 w5 hown' hgrow hat; have HO5 : Hid (w5.ownsRow 11 5 1 rv5 (g.records.length + (Hm.writeRec 80 l).length) ((g.records.map fun b => Value.int .u8 b.toNat) ++ Lib.strCells ⟨(Hm.writeRec 80 l).toArray⟩)) := (by rw [← hsz]; exact hown'); have HG5 : Hid (w2.grownBy w5 rv.ownBlock) := hgrow; have HA5 : Hid (∀ k, rv5.ownBlock = some k → rv.ownBlock = some k ∨ w2.heap.size ≤ k) := hat; obtain ⟨g5, cap5, cur5, hv5, _⟩ := own_slice HO5.out (by omega); subst hv5; clear hown' hgrow hat)
      | (refine Hw.wpList_store_fieldP rfl _ _ _ rfl rfl p 1 (.slice (some ⟨g5, 0, none⟩) (g.records.length + (Hm.writeRec 80 l).length) cap5) rfl rfl _ _ (LgV g (.slice (some ⟨g5, 0, none⟩) (g.records.length + (Hm.writeRec 80 l).length) cap5) wv) (HH2.out.grownR HG5.out) size_bytes (by simp [LgV]) rfl rfl ?_; intro w6 p6; have HL6 : Hid (_ ∧ _) := HH2.out.putR (l := Hm.writeRec 80 l) HO5.out HG5.out HA5.out p6; clear p6; obtain ⟨d0, d1, d2, d3⟩ := HL6.out.1.cells; dsimp only at d0 d1 d2 d3)
      | (at_builtin; refine wpList_append_own_at _ rfl _ _ 42 rfl 11 9 j0 (.string ByteArray.empty) 1 16 Tryz.underlying42 hj hy0 hy1 hy2 rfl (by decide) _ _ _ rfl (HL6.out.1.wai.alloc _) ⟨w6.heap.size, 0, none⟩ 1 1 [.string ⟨l.toArray⟩] rfl rfl (cell_one_new _ _ _) (fun x hx => by simp at hx; subst hx; rfl) (by unfold maxLen; dsimp only; omega) (by dsimp only; omega) (by have := HL6.out.1.lo; have := (Array.getElem?_eq_some_iff.1 HL6.out.1.row).1; simp; omega) ?_; intro wv7 w7 hown' hgrow hnil hat; have HO7 : Hid (w7.ownsRow 11 9 1 wv7 (g.waiting.length + 1) (g.waiting.map strV ++ [.string ⟨l.toArray⟩])) := hown'; have HG7 : Hid (World.grownBy _ w7 wv.ownBlock) := hgrow; have HA7 : Hid (_ ∨ _) := hat; obtain ⟨g7, cap7, cur7, hv7, _⟩ := own_slice HO7.out (by omega); subst hv7; clear hown' hgrow hat hnil)
      | (refine Hw.wpList_store_fieldP rfl _ _ _ rfl rfl p 3 (.slice (some ⟨g7, 0, none⟩) (g.waiting.length + 1) cap7) rfl rfl _ _ _ (HL6.out.1.grownW HG7.out) size_sl42 (by simp [LgV]) rfl rfl ?_; intro w8 p8; have HL8 : Hid (_ ∧ _) := HL6.out.1.putW HO7.out HG7.out HA7.out p8; clear p8))
    refine bodyPost_end (results_none rfl _ _ _) rfl ?_
    exact ⟨⟨_, rfl⟩, _, _, HL8.out.1, (HS2.out.trans HL6.out.2).trans HL8.out.2⟩
  · go_wp2_with fail
    refine (HW.out _).mono ?_
    rintro e w2 ⟨rfl, hb2⟩
    have HH2 : Hid (LogAt w2 p g rv wv) := (HH.out.below (drew_below ⟨1, rfl⟩)).below hb2
    have HS2 : Hid (StepL p rv wv w rv wv w2) := (StepL.refl.next (drew_below ⟨1, rfl⟩)).next hb2
    clear hb2
    obtain ⟨b0, b1, b2, b3⟩ := HH2.out.cells
    go_wp2_with fail
    refine wpAny_ready (rs := [4]) (by kernel_rfl) (by simp) ?_
    refine AllReady.cons rfl (fun K hK => ?_) AllReady.nil
    go_simp
    refine hK _ _ ?_
    clear hK K
    refine Hw.wpAny_tail 8 rfl (by kernel_rfl) ?_
    simp only [List.drop_succ_cons, List.drop_zero]
    have hlo2 : 11 ≤ w2.heap.size := by have := HH2.out.lo; have := (Array.getElem?_eq_some_iff.1 HH2.out.row).1; omega
    go_wp2_with (first
      | (at_builtin; refine Hw.wpList_append_string_at _ rfl _ _ 72 9 rfl 11 5 i0 Tryz.underlying72 Tryz.underlying9 hi hz0 hz1 hz2 _ _ _ rfl HH2.out.recs ⟨(Hm.writeRec 80 l).toArray⟩ rfl (by unfold maxLen; rw [hsz]; omega) (by rw [hsz]; omega) hlo2 ?_; intro rv5 w5 hown' hgrow hat; have HO5 : Hid (w5.ownsRow 11 5 1 rv5 (g.records.length + (Hm.writeRec 80 l).length) ((g.records.map fun b => Value.int .u8 b.toNat) ++ Lib.strCells ⟨(Hm.writeRec 80 l).toArray⟩)) := (by rw [← hsz]; exact hown'); have HG5 : Hid (w2.grownBy w5 rv.ownBlock) := hgrow; have HA5 : Hid (∀ k, rv5.ownBlock = some k → rv.ownBlock = some k ∨ w2.heap.size ≤ k) := hat; obtain ⟨g5, cap5, cur5, hv5, _⟩ := own_slice HO5.out (by omega); subst hv5; clear hown' hgrow hat)
      | (refine Hw.wpList_store_fieldP rfl _ _ _ rfl rfl p 1 (.slice (some ⟨g5, 0, none⟩) (g.records.length + (Hm.writeRec 80 l).length) cap5) rfl rfl _ _ (LgV g (.slice (some ⟨g5, 0, none⟩) (g.records.length + (Hm.writeRec 80 l).length) cap5) wv) (HH2.out.grownR HG5.out) size_bytes (by simp [LgV]) rfl rfl ?_; intro w6 p6; have HL6 : Hid (_ ∧ _) := HH2.out.putR (l := Hm.writeRec 80 l) HO5.out HG5.out HA5.out p6; clear p6; obtain ⟨d0, d1, d2, d3⟩ := HL6.out.1.cells; dsimp only at d0 d1 d2 d3)
      | (at_builtin; refine wpList_append_own_at _ rfl _ _ 42 rfl 11 9 j0 (.string ByteArray.empty) 1 16 Tryz.underlying42 hj hy0 hy1 hy2 rfl (by decide) _ _ _ rfl (HL6.out.1.wai.alloc _) ⟨w6.heap.size, 0, none⟩ 1 1 [.string ⟨l.toArray⟩] rfl rfl (cell_one_new _ _ _) (fun x hx => by simp at hx; subst hx; rfl) (by unfold maxLen; dsimp only; omega) (by dsimp only; omega) (by have := HL6.out.1.lo; have := (Array.getElem?_eq_some_iff.1 HL6.out.1.row).1; simp; omega) ?_; intro wv7 w7 hown' hgrow hnil hat; have HO7 : Hid (w7.ownsRow 11 9 1 wv7 (g.waiting.length + 1) (g.waiting.map strV ++ [.string ⟨l.toArray⟩])) := hown'; have HG7 : Hid (World.grownBy _ w7 wv.ownBlock) := hgrow; have HA7 : Hid (_ ∨ _) := hat; obtain ⟨g7, cap7, cur7, hv7, _⟩ := own_slice HO7.out (by omega); subst hv7; clear hown' hgrow hat hnil)
      | (refine Hw.wpList_store_fieldP rfl _ _ _ rfl rfl p 3 (.slice (some ⟨g7, 0, none⟩) (g.waiting.length + 1) cap7) rfl rfl _ _ _ (HL6.out.1.grownW HG7.out) size_sl42 (by simp [LgV]) rfl rfl ?_; intro w8 p8; have HL8 : Hid (_ ∧ _) := HL6.out.1.putW HO7.out HG7.out HA7.out p8; clear p8))
    refine bodyPost_end (results_none rfl _ _ _) rfl ?_
    exact ⟨⟨_, rfl⟩, _, _, HL8.out.1, (HS2.out.trans HL6.out.2).trans HL8.out.2⟩
end Go.Proofs.YtdlhbmncbmconaaGreatDoor
namespace Go.Hm
theorem line_len {m : Msg} (h : (line m).2 = 0) : (line m).1.length ≤ 200 := by
  unfold line at h ⊢
  by_cases h0 : fault m = 0
  · rw [if_neg (by simp [h0])] at h ⊢
    by_cases h1 : 200 < joinedLen (partsOf m)
    · rw [if_pos h1] at h; cases h
    · rw [if_neg h1]
      unfold partsOf at h1 ⊢
      rw [← join_length] at h1
      dsimp only
      omega
  · rw [if_pos (by simpa using h0)]; simp
end Go.Hm
namespace Go.Proofs.YtdlhbmncbmconaaGreatDoor
open Go.RowKit Go.Sort
attribute [local go_sem] alloc_drewN setCell_drewN
theorem StepL.tabs {w w' : World} {p : Nat} {g : Hm.Lg} {rv wv rv' wv' : Value} (hT : Tabs w) (h : LogAt w p g rv wv) (hs : StepL p rv wv w rv' wv' w') : Tabs w' :=
  hT.below (hs.kept.below (B := 11) (fun k _ e => by
    rcases e with rfl | e | e
    · exact h.lo
    · exact (h.recs.lt k e).1
    · exact (h.wai.lt k e).1) hT.size) (Nat.le_refl _)
def LgSmall (g : Hm.Lg) : Prop := g.records.length ≤ 900000000 ∧ g.waiting.length ≤ 900000 ∧ g.had ≤ 900000 ∧ g.room ≤ 1000
set_option maxRecDepth 20000 in
set_option maxHeartbeats 800000 in
theorem Put_any (p : Nat) (g : Hm.Lg) (rv wv : Value) (w : World) (hT : Tabs w) (h : LogAt w p g rv wv) (hg : LgSmall g) (m : Hm.Msg) (lt : m.time.length ≤ 4000000000) (lh : m.host.length ≤ 4000000000) (la : m.app.length ≤ 4000000000) (lp : m.proc.length ≤ 4000000000) (li : m.id.length ≤ 4000000000) (ld : m.data.length ≤ 4000000000) (lx : m.text.length ≤ 4000000000) :
    Calls Tryz.prog 43 #[.pointer (some ⟨p, 0, none⟩), .agg (msgCells m)] w fun e w' => e = .returned (.tuple #[.int .i64 (g.put m).2.1, .int .i64 (g.put m).2.2]) ∧ ∃ rv' wv', LogAt w' p (g.put m).1 rv' wv' ∧ StepL p rv wv w rv' wv' w' := by
  obtain ⟨hg1, hg2, hg3, hg4⟩ := hg
  have HL : Hid (∀ w, Tabs w → Calls Tryz.prog 20 #[.agg (msgCells m)] w fun r w' => r = .returned (.tuple #[.string ⟨(Hm.line m).1.toArray⟩, .int .i64 (Hm.line m).2]) ∧ Below w.heap.size w w') := fun w hT => Line_any m w hT lt lh la lp li ld lx
  have hln := @Hm.line_len m
  clear lt lh la lp li ld lx
  unfold msgCells at HL ⊢
  unfold Hm.Lg.put
  generalize Hm.line m = r at HL hln ⊢
  obtain ⟨l, er⟩ := r
  dsimp only at HL hln ⊢
  have HH : Hid (LogAt w p g rv wv) := h
  clear h
  by_cases he : er = 0
  · have hl : l.length ≤ 200 := hln he
    subst he
    rw [if_neg (by simp)]
    clear hln
    by_cases hr : g.room ≤ g.waiting.length
    · rw [if_pos (.inl hr)]
      have ir : (g.room : Int) ≤ (g.waiting.length : Int) := by omega
      go_enter Tryz.func43, Tryz.ntmps43
      go_wp2_with fail
      refine (HL.out _ (hT.next ((Below.refl _ _).alloc (Nat.le_refl _) _))).mono ?_
      rintro e w1 ⟨rfl, hb0⟩
      have hb1 : Below w.heap.size w w1 := Below.next ((Below.refl _ _).alloc (Nat.le_refl _) _) (Nat.le_refl _) hb0
      clear hb0
      have HH1 : Hid (LogAt w1 p g rv wv) := HH.out.below hb1
      have HS1 : Hid (StepL p rv wv w rv wv w1) := StepL.refl.next hb1
      clear hb1
      obtain ⟨c0, c1, c2, c3⟩ := HH1.out.cells
      obtain ⟨ad, cap, hwv⟩ := own_form HH1.out.wai
      subst hwv
      go_wp2_with fail
      go_quiet ((go_at_call 75; exact Calls.quiet_of (messages_any p g rv _ _ (HH1.out.below (drew_below ⟨_, rfl⟩)) (by omega) (by omega))))
      have HH2 : Hid (LogAt (w1.drewN nq) p g rv (.slice ad g.waiting.length cap)) := HH1.out.below (drew_below ⟨_, rfl⟩)
      have HS2 : Hid (StepL p rv (.slice ad g.waiting.length cap) w rv (.slice ad g.waiting.length cap) (w1.drewN nq)) := HS1.out.next (drew_below ⟨_, rfl⟩)
      generalize w1.drewN nq = w2 at HH2 HS2 ⊢
      go_wp2
      refine bodyPost_ret (results_tmp2 rfl _ _ _) rfl ?_
      exact ⟨rfl, _, _, HH2.out, HS2.out⟩
    · have ir : ¬ (g.room : Int) ≤ (g.waiting.length : Int) := by omega
      by_cases hm : 65535 ≤ g.messages
      · rw [if_pos (.inr hm)]
        have im : (65535 : Int) ≤ (g.messages : Int) := by omega
        go_enter Tryz.func43, Tryz.ntmps43
        go_wp2_with fail
        refine (HL.out _ (hT.next ((Below.refl _ _).alloc (Nat.le_refl _) _))).mono ?_
        rintro e w1 ⟨rfl, hb0⟩
        have hb1 : Below w.heap.size w w1 := Below.next ((Below.refl _ _).alloc (Nat.le_refl _) _) (Nat.le_refl _) hb0
        clear hb0
        have HH1 : Hid (LogAt w1 p g rv wv) := HH.out.below hb1
        have HS1 : Hid (StepL p rv wv w rv wv w1) := StepL.refl.next hb1
        clear hb1
        obtain ⟨c0, c1, c2, c3⟩ := HH1.out.cells
        obtain ⟨ad, cap, hwv⟩ := own_form HH1.out.wai
        subst hwv
        go_wp2_with fail
        go_quiet ((go_at_call 75; exact Calls.quiet_of (messages_any p g rv _ _ (HH1.out.below (drew_below ⟨_, rfl⟩)) (by omega) (by omega))))
        have HH2 : Hid (LogAt (w1.drewN nq) p g rv (.slice ad g.waiting.length cap)) := HH1.out.below (drew_below ⟨_, rfl⟩)
        have HS2 : Hid (StepL p rv (.slice ad g.waiting.length cap) w rv (.slice ad g.waiting.length cap) (w1.drewN nq)) := HS1.out.next (drew_below ⟨_, rfl⟩)
        generalize w1.drewN nq = w2 at HH2 HS2 ⊢
        go_wp2
        refine bodyPost_ret (results_tmp2 rfl _ _ _) rfl ?_
        exact ⟨rfl, _, _, HH2.out, HS2.out⟩
      · rw [if_neg (by simp; omega)]
        have im : ¬ (65535 : Int) ≤ (g.messages : Int) := by omega
        have im' : (g.messages : Int) < 65535 := by omega
        have HMB : Hid (decide ((65535 : Int) ≤ (g.messages : Int)) = false) := decide_eq_false (by omega)
        clear hm im im'
        go_enter Tryz.func43, Tryz.ntmps43
        go_wp2_with fail
        refine (HL.out _ (hT.next ((Below.refl _ _).alloc (Nat.le_refl _) _))).mono ?_
        rintro e w1 ⟨rfl, hb0⟩
        have hb1 : Below w.heap.size w w1 := Below.next ((Below.refl _ _).alloc (Nat.le_refl _) _) (Nat.le_refl _) hb0
        clear hb0
        have HH1 : Hid (LogAt w1 p g rv wv) := HH.out.below hb1
        have HS1 : Hid (StepL p rv wv w rv wv w1) := StepL.refl.next hb1
        clear hb1
        obtain ⟨c0, c1, c2, c3⟩ := HH1.out.cells
        obtain ⟨ad, cap, hwv⟩ := own_form HH1.out.wai
        subst hwv
        go_wp2_with fail
        go_quiet ((go_at_call 75; exact Calls.quiet_of (messages_any p g rv _ _ (HH1.out.below (drew_below ⟨_, rfl⟩)) (by omega) (by omega))))
        have HH2 : Hid (LogAt (w1.drewN nq) p g rv (.slice ad g.waiting.length cap)) := HH1.out.below (drew_below ⟨_, rfl⟩)
        have HS2 : Hid (StepL p rv (.slice ad g.waiting.length cap) w rv (.slice ad g.waiting.length cap) (w1.drewN nq)) := HS1.out.next (drew_below ⟨_, rfl⟩)
        generalize w1.drewN nq = w2 at HH2 HS2 ⊢
        rw [HMB.out]
        go_wp2_with fail
        refine (addMessage_any p g rv _ w2 HH2.out l (by omega) (by omega) (by omega)).mono ?_
        rintro e w3 ⟨⟨u, rfl⟩, rv3, wv3, hl3, hs3⟩
        have HL3 : Hid (LogAt w3 p (g.add l) rv3 wv3) := hl3
        have HS4 : Hid (StepL p rv (.slice ad g.waiting.length cap) w rv3 wv3 w3) := HS2.out.trans hs3
        clear hl3 hs3
        go_wp2_with fail
        refine (messages_any p (g.add l) rv3 wv3 w3 HL3.out (by show g.had ≤ _; omega) (by show (g.waiting ++ [l]).length ≤ _; simp; omega)).mono ?_
        rintro e w4 ⟨rfl, hw4⟩
        have hb4 := drew_below hw4
        go_wp2
        refine bodyPost_ret (results_tmp2 rfl _ _ _) rfl ?_
        refine ⟨?_, rv3, wv3, HL3.out.below hb4, HS4.out.next hb4⟩
        have hmm : (g.add l).messages = g.messages + 1 := by simp [Hm.Lg.add, Hm.Lg.messages]; omega
        rw [hmm]
        rfl
  · rw [if_pos (by simpa using he)]
    have f1 : ((er : Int) == 0) = false := beq_eq_false_iff_ne.2 (by omega)
    have f2 : ¬ (er : Int) = 0 := by omega
    go_enter Tryz.func43, Tryz.ntmps43
    go_wp2_with fail
    refine (HL.out _ (hT.next ((Below.refl _ _).alloc (Nat.le_refl _) _))).mono ?_
    rintro e w1 ⟨rfl, hb0⟩
    have hb1 : Below w.heap.size w w1 := Below.next ((Below.refl _ _).alloc (Nat.le_refl _) _) (Nat.le_refl _) hb0
    clear hb0
    go_wp2
    refine bodyPost_ret (results_tmp2 rfl _ _ _) rfl ?_
    exact ⟨rfl, rv, wv, HH.out.below hb1, StepL.refl.next hb1⟩
theorem nil_string (w : World) : (convert 72 9 (.slice none 0 0)).run Tryz.prog w = .ok (.string ⟨#[]⟩) w := by
  rw [run_convert_bytes_string w 72 9 5 none 0 0 Tryz.underlying72 Tryz.underlying5 Tryz.underlying9]
  simp [Conv.bytesToString]
  rfl
set_option maxRecDepth 20000 in
theorem Bytes_any (p : Nat) (g : Hm.Lg) (rv wv : Value) (w : World) (h : LogAt w p g rv wv) :
    Calls Tryz.prog 37 #[.pointer (some ⟨p, 0, none⟩)] w fun e w' => e = .returned (.string ⟨g.records.toArray⟩) ∧ w' = w := by
  obtain ⟨c0, c1, c2, c3⟩ := h.cells
  rcases h.recs.2 with ⟨rfl, h0⟩ | ⟨b, cap, cur, rfl, _⟩
  · have he : g.records = [] := List.eq_nil_of_length_eq_zero h0
    rw [he]
    clear h he h0
    have hback := nil_string w
    go_enter Tryz.func37, Tryz.ntmps37
    go_wp2
    go_ret
    exact ⟨rfl, rfl⟩
  · have hback := own_string h.recs
    clear h
    go_enter Tryz.func37, Tryz.ntmps37
    go_wp2
    go_ret
    exact ⟨rfl, rfl⟩
end Go.Proofs.YtdlhbmncbmconaaGreatDoor
namespace Go.Proofs.YtdlhbmncbmconaaGreatDoor
open Go.RowKit Go.Shelf Go.Sort
attribute [local go_sem] Oper.semAt_some
theorem recordsIn_any (s : ByteArray) (w : World) :
    Calls Tryz.prog 62 #[.string s] w fun e w' => e = .returned (.func (.func 98) #[] #[.pointer (some ⟨w.heap.size, 0, none⟩)]) ∧ w' = w.alloc (.cells #[.string s] 9) := by
  go_enter Tryz.func62, Tryz.ntmps62
  go_wp2
  go_ret
  exact ⟨rfl, rfl⟩
set_option maxRecDepth 100000 in
set_option maxHeartbeats 1000000 in
theorem records1_none (n : Nat) (hn : 2 ≤ n) (l Bt : Nat) (W : World) (hc : W.cell? ⟨Bt, 0, none⟩ = some (.string ⟨#[]⟩)) :
    CallsIn Fence.wide n Tryz.prog 98 #[.func (.yield l) #[] #[], .pointer (some ⟨Bt, 0, none⟩)] W fun e W' => (∃ v, e = .returned v) ∧ Below W.heap.size W W' := by
  have HR : Hid (∀ w, Calls Tryz.prog 99 #[.string ⟨#[]⟩] w fun e w' => e = .returned (.tuple #[.agg #[.int .u8 0, .string ⟨#[]⟩], .int .i64 0]) ∧ Below w.heap.size w w') := fun w => readRecord_any ⟨#[]⟩ (by decide) w
  refine callsIn_of_wp Tryz.func98 rfl trivial ?_ rfl
  simp only [Tryz.ntmps98, List.size_toArray, List.length_cons, List.length_nil, Nat.reduceAdd, Nat.reduceSub, Array.replicate_succ, Array.replicate_zero, List.push_toArray, List.append_toArray, List.nil_append, List.cons_append]
  gi_wp2
  gi_loopw [3] (fun rest wr => rest = .string ⟨#[]⟩ ∧ wr = W) (fun _ _ => 0)
  case atStart => exact ⟨rfl, rfl⟩
  case round =>
    obtain ⟨rfl, rfl⟩ := hrel
    gi_wp2_with fail
    refine ⟨trivial, fun _ => by omega, ?_⟩
    refine (callsIn_wide.2 (HR.out _)).mono ?_
    rintro x w' ⟨rfl, hb⟩
    have HB : Hid (Below wr.heap.size wr w') := hb
    clear hb
    gi_wp2
    refine ⟨fun _ h => (by cases h), ?_⟩
    gi_wp2
    refine bodyPost_ret (results_none rfl _ _ _) rfl ?_
    exact ⟨⟨_, rfl⟩, HB.out.alloc HB.out.size _⟩
set_option maxRecDepth 100000 in
set_option maxHeartbeats 1000000 in
theorem open_in (room : Nat) (h1 : 1 ≤ room) (h2 : room ≤ 8) (w : World) (hw : 11 ≤ w.heap.size) :
    CallsIn Fence.wide 4 Tryz.prog 34 #[.string ⟨#[]⟩, .int .i64 room] w fun e w' => ∃ p, e = .returned (.tuple #[.pointer (some ⟨p, 0, none⟩), .int .i64 0]) ∧ w.heap.size ≤ p ∧ LogAt w' p (Hm.Lg.fresh room) (.slice none 0 0) (.slice none 0 0) ∧ Below w.heap.size w w' := by
  have i1 : ¬ (room : Int) < 1 := by omega
  have i2 : ¬ 8 < (room : Int) := by omega
  refine callsIn_of_wp_marks Tryz.func34 rfl trivial ?_ rfl
  simp only [Tryz.ntmps34, List.size_toArray, List.length_cons, List.length_nil, Nat.reduceAdd, Nat.reduceSub, Array.replicate_succ, Array.replicate_zero, List.push_toArray, List.append_toArray, List.nil_append, List.cons_append]
  gi_wp2_with fail
  refine ⟨trivial, ?_⟩
  refine (callsIn_wide.2 (recordsIn_any _ _)).mono ?_
  rintro e w' ⟨rfl, rfl⟩
  gi_wp2_with fail
  obtain ⟨W0, hW0⟩ : ∃ W0, (((w.alloc (.cells #[.int .i64 room, .slice none 0 0, .int .i64 0, .slice none 0 0] 116)).alloc (.cells #[.pointer (some ⟨w.heap.size, 0, none⟩)] 63)).alloc (.cells #[.string ⟨#[]⟩] 9)) = W0 := ⟨_, rfl⟩
  have hz : W0.heap.size = w.heap.size + 3 := by subst hW0; simp
  have hB0 : Below w.heap.size w W0 := by
    rw [← hW0]
    exact (((Below.refl _ w).alloc (Nat.le_refl _) _).alloc (by simp) _).alloc (by simp; omega) _
  have r0 : W0.heap[w.heap.size]? = some (.cells #[.int .i64 room, .slice none 0 0, .int .i64 0, .slice none 0 0] 116 (0, 0)) := by
    rw [← hW0]
    exact (heap_alloc_old _ _ (by simp; omega)).trans ((heap_alloc_old _ _ (by simp)).trans (heap_alloc_new _ _))
  have r1 : W0.heap[w.heap.size + 1]? = some (.cells #[.pointer (some ⟨w.heap.size, 0, none⟩)] 63 (0, 0)) := by
    rw [← hW0]
    refine (heap_alloc_old _ _ (by simp)).trans ?_
    have := heap_alloc_new (w.alloc (.cells #[.int .i64 room, .slice none 0 0, .int .i64 0, .slice none 0 0] 116)) (.cells #[.pointer (some ⟨w.heap.size, 0, none⟩)] 63)
    rwa [World.size_alloc] at this
  have r2 : W0.heap[w.heap.size + 1 + 1]? = some (.cells #[.string ⟨#[]⟩] 9 (0, 0)) := by
    rw [← hW0]
    have := heap_alloc_new ((w.alloc (.cells #[.int .i64 room, .slice none 0 0, .int .i64 0, .slice none 0 0] 116)).alloc (.cells #[.pointer (some ⟨w.heap.size, 0, none⟩)] 63)) (.cells #[.string ⟨#[]⟩] 9)
    rwa [World.size_alloc, World.size_alloc] at this
  rw [hW0]
  clear hW0
  refine Hw.wpIn_rangeFunc_all (α := Empty) (β := Unit) (N := 0) (encs := fun x => x.elim) (I := fun pre _ W => pre = [] ∧ Below W0.heap.size W0 W) (b0 := ()) (S := fun xs _ => xs = []) rfl (by omega) (gf := 98) (lb := #[.pointer (some ⟨w.heap.size + 1 + 1, 0, none⟩)]) rfl trivial (enters_of Tryz.func98 (by kernel_rfl) rfl)
    ?seq (fun x => x.elim) ?put ?start (fun x => x.elim) ?assign ?body ?done
  case seq =>
    intro l Bk W hBk _ hI hb
    have hc : W.cell? ⟨w.heap.size + 1 + 1, 0, none⟩ = some (.string ⟨#[]⟩) := by
      refine (hI.2.cell (p := ⟨w.heap.size + 1 + 1, 0, none⟩) (by show w.heap.size + 1 + 1 < _; omega)).trans ?_
      simp [World.cell?, r2]
    refine (records1_none (4 - 1) (by omega) l (w.heap.size + 1 + 1) W hc).mono ?_
    rintro e W' ⟨hv, hb'⟩
    exact ⟨hv, [], (), rfl, ⟨rfl, Below.next hI.2 (Nat.le_refl _) hb'⟩, hBk _ _ ((Hw.Kept.of_below (S := fun _ => False) hb').others (fun _ _ e => e.elim)) hb⟩
  case put =>
    rintro pre b W l o o' hl ⟨rfl, hb⟩ ho _
    exact ⟨rfl, hb.trans ((kept_putObj o').below (fun k _ e => by omega) hb.size)⟩
  case start =>
    intro o o'
    exact ⟨rfl, ((Below.refl _ _).alloc (Nat.le_refl _) _).alloc (by simp) _⟩
  case assign =>
    intro l x
    exact x.elim
  case body =>
    intro l pre b x W _ hN
    exact absurd hN (Nat.not_lt_zero _)
  case done =>
    rintro D xs b W hD rfl ⟨_, hb⟩ hK
    have k1 : W.cell? ⟨w.heap.size + 1, 0, none⟩ = some (.pointer (some ⟨w.heap.size, 0, none⟩)) := by
      refine (hb.cell (p := ⟨w.heap.size + 1, 0, none⟩) (by show w.heap.size + 1 < _; omega)).trans ?_
      simp [World.cell?, r1]
    gi_wp2
    have hk1 : Hw.Kept (fun k => k = D) W (W.putObj D (.deferred none)) := kept_putObj _
    have hb2 : Below W0.heap.size W0 (W.putObj D (.deferred none)) := hb.trans (hk1.below (fun k _ e => by omega) hb.size)
    refine ⟨by simp, .inl ⟨_, _, rfl, run_takeDeferred hK, ?_⟩⟩
    refine ⟨.tuple #[.pointer (some ⟨w.heap.size, 0, none⟩), .int .i64 0], by simp [results, Tryz.results34, go_sem], ?_⟩
    exact ⟨w.heap.size, rfl, Nat.le_refl _, ⟨(hb2.block _ (by omega)).trans r0, World.ownsRow_nil _ _ _ _, World.ownsRow_nil _ _ _ _, hw⟩, Below.next hB0 (Nat.le_refl _) hb2⟩
theorem Open_none (room : Nat) (h1 : 1 ≤ room) (h2 : room ≤ 8) (w : World) (hw : 11 ≤ w.heap.size) :
    Calls Tryz.prog 34 #[.string ⟨#[]⟩, .int .i64 room] w fun e w' => ∃ p, e = .returned (.tuple #[.pointer (some ⟨p, 0, none⟩), .int .i64 0]) ∧ w.heap.size ≤ p ∧ LogAt w' p (Hm.Lg.fresh room) (.slice none 0 0) (.slice none 0 0) ∧ Below w.heap.size w w' := callsIn_wide.1 (open_in room h1 h2 w hw)
end Go.Proofs.YtdlhbmncbmconaaGreatDoor

/- Contract of the reference: source. -/
import Derived.Test.YtdlhbmncbmconaaGreatDoorCg
namespace Go.Proofs.YtdlhbmncbmconaaGreatDoor
open Go.RowKit Go.Sort
attribute [local go_sem] app_mk rcut rbyte
def rsrcV (l : List UInt8) : Value := if (Hm.source l).2 = 0 then .tuple #[.int .i64 0, .int .i64 (-1)] else .tuple #[.int .i64 (Hm.source l).1, .int .i64 (Hm.source l).2]
theorem rsrc_acc {l : List UInt8} {n : Nat} (h0 : ∃ h : 0 < l.length, l[0].toNat = 60) (hn1 : 1 ≤ n) (hn3 : n ≤ 3) (h : Hm.Acc l n) : rsrcV l = .tuple #[.int .i64 (Hm.rdigits l 1 n).1, .int .i64 ((n : Int) + 2)] := by
  unfold rsrcV
  rw [Hm.acc_source h0 hn1 hn3 h, if_neg (by simp)]
  simp
theorem rsrc_none {l : List UInt8} (h : ¬ ((∃ h : 0 < l.length, l[0].toNat = 60) ∧ 3 ≤ l.length ∧ ∃ n, 1 ≤ n ∧ n ≤ 3 ∧ Hm.Acc l n)) : rsrcV l = .tuple #[.int .i64 0, .int .i64 (-1)] := by
  unfold rsrcV
  rw [if_pos (Classical.byContradiction fun h2 => h (Hm.source_acc h2))]
set_option maxRecDepth 20000 in
set_option maxHeartbeats 2000000 in
theorem rsource_any (l : List UInt8) (hl : l.length ≤ 1000000000000000) (w : World) : Calls Tryz.prog 155 #[.string ⟨l.toArray⟩] w fun e w' => e = .returned (rsrcV l) ∧ w' = w := by
  have hA0 := @rsrc_acc l
  have hN0 := @rsrc_none l
  obtain ⟨V, hV⟩ : ∃ V, rsrcV l = V := ⟨_, rfl⟩
  rw [hV] at hA0 hN0 ⊢
  clear hV
  have HA := show Hid _ from @hA0
  have HN := show Hid _ from hN0
  clear hA0 hN0
  by_cases h3 : (l.length : Int) < 3
  · have HE : Hid (V = .tuple #[.int .i64 0, .int .i64 (-1)]) := HN.out (fun h => by have := h.2.1; omega)
    go_enter Tryz.func155, Tryz.ntmps155
    go_wp2
    go_ret2
    exact ⟨by rw [HE.out]; rfl, rfl⟩
  have h00 : 0 < l.length := by omega
  have h01 : 1 < l.length := by omega
  by_cases h60 : (l[0].toNat : Int) = 60
  case neg =>
    have HE : Hid (V = .tuple #[.int .i64 0, .int .i64 (-1)]) := HN.out (fun h => by obtain ⟨⟨_, h⟩, _⟩ := h; omega)
    have h60b : ((l[0].toNat : Int) != 60) = true := by simp; omega
    go_enter Tryz.func155, Tryz.ntmps155
    go_wp2
    go_ret2
    exact ⟨by rw [HE.out]; rfl, rfl⟩
  have H0 : Hid (∃ h : 0 < l.length, l[0].toNat = 60) := ⟨h00, by omega⟩
  have h60b : ((l[0].toNat : Int) != 60) = false := by simp; omega
  clear h60
  have D : Hid (∀ n : Nat, n ≤ 3 → ∀ w, Calls Tryz.prog 190 #[.string ⟨l.toArray⟩, .int .i64 1, .int .i64 n] w fun e w' => e = .returned (.tuple #[.int .i64 (Hm.rdigits l 1 n).1, .bool (Hm.rdigits l 1 n).2]) ∧ w' = w) := fun n hn w => rdigits_any l hl 1 n (by omega) (by omega) w
  go_enter Tryz.func155, Tryz.ntmps155
  go_wp2
  go_loopw [4] (fun s4 wr => ∃ n : Nat, 1 ≤ n ∧ n ≤ 4 ∧ s4 = .int .i64 n ∧ (∀ m, 1 ≤ m → m < n → ¬ Hm.Acc l m) ∧ wr = w) (fun s4 _ => 4 - (intOf s4).toNat)
  case atStart => exact ⟨1, by omega, by omega, rfl, fun m h1 h2 => by omega, rfl⟩
  case round =>
    obtain ⟨n, hn1, hn4, rfl, hno, hwr⟩ := hrel
    have hwr := hwr.symm
    subst hwr
    have HNO := show Hid _ from hno
    clear hno
    by_cases hn : n ≤ 3
    case neg =>
      have hni : ¬ (n : Int) ≤ 3 := by omega
      have HE : Hid (V = .tuple #[.int .i64 0, .int .i64 (-1)]) := HN.out (fun h => by obtain ⟨_, _, m, h1, h2, h3⟩ := h; exact HNO.out m h1 (by omega) h3)
      go_wp2
      go_ret2
      exact ⟨by rw [HE.out]; rfl, rfl⟩
    have hni : (n : Int) ≤ 3 := by omega
    have HNX : Hid (¬ Hm.Acc l n → ∀ m, 1 ≤ m → m < n + 1 → ¬ Hm.Acc l m) := fun h m h1 h2 => by
      by_cases hm : m = n
      · subst hm; exact h
      · exact HNO.out m h1 (by omega)
    have HYES : Hid (Hm.Acc l n → V = .tuple #[.int .i64 (Hm.rdigits l 1 n).1, .int .i64 ((n : Int) + 2)]) := fun h => HA.out H0.out hn1 hn h
    have DN := show Hid _ from D.out n hn
    clear HNO HA HN D
    have hdg : ∃ x b, Hm.rdigits l 1 n = (x, b) := ⟨_, _, rfl⟩
    obtain ⟨x, b, hxb⟩ := hdg
    have hx : b = true → x < 1000 := by
      intro hb
      have h2 : (Hm.rdigits l 1 n).2 = true := by rw [hxb]; exact hb
      obtain ⟨_, d2, d3⟩ := Hm.rdigits_ok h2
      rw [hxb] at d3
      have := Hm.dec_lt _ d2
      have h4 : ((l.drop 1).take n).length ≤ 3 := by rw [List.length_take]; omega
      have h5 : 10 ^ ((l.drop 1).take n).length ≤ 10 ^ 3 := Nat.pow_le_pow_right (by omega) h4
      simp only at d3
      omega
    rw [hxb] at DN HYES
    have HXB := show Hid _ from hxb
    clear hxb
    have hsay : (b = true ∧ Hm.Acc l n) ∨ ¬ Hm.Acc l n := by
      by_cases h : Hm.Acc l n
      · left
        exact ⟨by have := h.dg; rw [HXB.out] at this; exact this, h⟩
      · exact .inr h
    go_wp2_with fail
    refine (DN.out _).mono ?_
    rintro e w1 ⟨rfl, rfl⟩
    cases b with
    | false =>
      have HNA : Hid (¬ Hm.Acc l n) := fun h => by have := h.dg; rw [HXB.out] at this; cases this
      clear HXB hsay hx
      go_wp2
      go_roundw
      case rel => exact ⟨n + 1, by omega, by omega, int_eq (by simp), HNX.out HNA.out, by first | rfl | trivial⟩
      case measure => simp [intOf]; omega
    | true =>
      have hx := hx rfl
      by_cases c1 : n + 1 < l.length
      case neg =>
        have HNA : Hid (¬ Hm.Acc l n) := fun h => c1 h.len
        have c1i : ¬ (n : Int) + 1 < (l.length : Int) := by omega
        clear HXB hsay
        go_wp2
        go_roundw
        case rel => exact ⟨n + 1, by omega, by omega, int_eq (by simp), HNX.out HNA.out, by first | rfl | trivial⟩
        case measure => simp [intOf]; omega
      have c1i : (n : Int) + 1 < (l.length : Int) := by omega
      by_cases c2 : (l[n + 1].toNat : Int) = 62
      case neg =>
        have HNA : Hid (¬ Hm.Acc l n) := fun h => by have := h.gt; omega
        clear HXB hsay
        go_wp2
        go_roundw
        case rel => exact ⟨n + 1, by omega, by omega, int_eq (by simp), HNX.out HNA.out, by first | rfl | trivial⟩
        case measure => simp [intOf]; omega
      have C2 : Hid (l[n + 1].toNat = 62) := by show _ = _; omega
      have c2b : ((l[n + 1].toNat : Int) == 62) = true := by simp; omega
      clear c2
      by_cases c3 : (x : Int) ≤ 191
      case neg =>
        have HNA : Hid (¬ Hm.Acc l n) := fun h => by have := h.le; rw [HXB.out] at this; simp only at this; omega
        clear HXB hsay
        go_wp2
        go_roundw
        case rel => exact ⟨n + 1, by omega, by omega, int_eq (by simp), HNX.out HNA.out, by first | rfl | trivial⟩
        case measure => simp [intOf]; omega
      by_cases c4 : (l[1].toNat : Int) = 48
      · have c4b : ((l[1].toNat : Int) != 48) = false := by simp; omega
        by_cases c5 : n = 1
        · subst c5
          have HYA : Hid (V = .tuple #[.int .i64 x, .int .i64 3]) := HYES.out ⟨by rw [HXB.out], c1, C2.out, by rw [HXB.out]; show x ≤ 191; omega, .inr rfl⟩
          clear HXB hsay c4
          go_wp2
          go_ret2
          exact ⟨by rw [HYA.out]; rfl, rfl⟩
        · have HNA : Hid (¬ Hm.Acc l n) := fun h => by have := h.zero; omega
          have c5b : ((n : Int) == 1) = false := by simp; omega
          clear HXB hsay c4
          go_wp2
          go_roundw
          case rel => exact ⟨n + 1, by omega, by omega, int_eq (by simp), HNX.out HNA.out, by first | rfl | trivial⟩
          case measure => simp [intOf]; omega
      · have c4b : ((l[1].toNat : Int) != 48) = true := by simp; omega
        have HYA : Hid (V = .tuple #[.int .i64 x, .int .i64 ((n : Int) + 2)]) := HYES.out ⟨by rw [HXB.out], c1, C2.out, by rw [HXB.out]; show x ≤ 191; omega, .inl (by omega)⟩
        clear HXB hsay c4
        go_wp2
        go_ret2
        exact ⟨by rw [HYA.out]; rfl, rfl⟩
end Go.Proofs.YtdlhbmncbmconaaGreatDoor

/- Slices that begin within their block: cuts of them. -/
import Derived.Test.YtdlhbmncbmconaaGreatDoorBg
import Derived.Test.YtdlhbmncbmconaaGreatDoorWo
namespace Go.Proofs.YtdlhbmncbmconaaGreatDoor
open Go.RowKit Go.Sort
attribute [local go_sem] alloc_drewN setCell_drewN
theorem from_form {w : World} {base : Nat} {v : Value} {L : List (List UInt8)} (h : Hw.ownsFrom w base 9 v (L.map strV)) : ∃ ad cap, v = .slice ad L.length cap := by
  obtain ⟨ad, cap, e⟩ := Hw.ownsFrom_form h
  exact ⟨ad, cap, by rw [e, List.length_map]⟩
theorem from_some {w : World} {base n cap : Nat} {ad : Option Addr} {L : List (List UInt8)} (h : Hw.ownsFrom w base 9 (.slice ad n cap) (L.map strV)) (hn : 0 < L.length) : ∃ g o, ad = some ⟨g, o, none⟩ := by
  rcases h with ⟨_, hz⟩ | ⟨g, o, c, cur, hv, _⟩
  · have := congrArg List.length hz
    simp at this
    subst this
    simp at hn
  · cases hv
    exact ⟨g, o, rfl⟩
theorem ownsFrom_drop {w : World} {base g o n cap : Nat} {e : TypeId} {xs : List Value} (h : Hw.ownsFrom w base e (.slice (some ⟨g, o, none⟩) n cap) xs) {d : Nat} (hd : d ≤ xs.length) (hc : d < cap) : Hw.ownsFrom w base e (.slice (some ⟨g, o + d, none⟩) (xs.length - d) (cap - d)) (xs.drop d) := by
  rcases h with ⟨hv, _⟩ | ⟨g', o', cap', cur, hv, hb, hg, h1, h2, h3, h4⟩
  · cases hv
  · cases hv
    refine .inr ⟨g, o + d, cap - d, cur, by rw [List.length_drop], hb, hg, by rw [List.length_drop]; omega, by omega, by omega, ?_⟩
    rw [List.length_drop, ← List.drop_drop, ← List.drop_take, h4]
def cutV (a : Option Addr) (l h m : Nat) : Value := sliced a l h m 1
theorem ownsFrom_cut {w : World} {base n cap : Nat} {ad : Option Addr} {e : TypeId} {xs : List Value} (h : Hw.ownsFrom w base e (.slice ad n cap) xs) {lo hi : Nat} (h1 : lo ≤ hi) (h2 : hi ≤ xs.length) : Hw.ownsFrom w base e (cutV ad lo hi cap) ((xs.drop lo).take (hi - lo)) := by
  rcases h with ⟨hv, hx⟩ | ⟨g, o, cap', cur, hv, hb, hg, k1, k2, k3, k4⟩
  · cases hv
    subst hx
    have e1 : lo = 0 := by simp at h2; omega
    have e2 : hi = 0 := by simpa using h2
    subst e1 e2
    exact .inl ⟨rfl, rfl⟩
  · cases hv
    have hlen : ((xs.drop lo).take (hi - lo)).length = hi - lo := by rw [List.length_take, List.length_drop]; omega
    by_cases hm : cap = lo
    · subst hm
      have e1 : hi = cap := by omega
      subst e1
      refine .inr ⟨g, o, 0, cur, by simp [cutV, sliced], hb, hg, by simp, by omega, by omega, by simp⟩
    · refine .inr ⟨g, o + lo, cap - lo, cur, ?_, hb, hg, by rw [hlen]; omega, by omega, by omega, ?_⟩
      · rw [hlen]
        simp [cutV, sliced, hm, Addr.add]
      · rw [hlen, ← List.drop_drop, ← k4, List.drop_take, List.take_take, Nat.min_eq_left (by omega)]
theorem run_cut_l (w : World) (a : Option Addr) (n c : Nat) (l : Int) (h0 : 0 ≤ l) (h1 : l ≤ n) : (Instr.slice 42 (.slice a n c) (some (.int .i64 l)) none none).run Tryz.prog w = .ok (cutV a l.toNat n c) w := by
  rw [run_slice_l w 42 a n c (by kernel_rfl) .i64 l h0 h1]
  go_simp
  simp [cutV, sliced]
theorem run_cut_lh (w : World) (a : Option Addr) (n c : Nat) (l h : Int) (h0 : 0 ≤ l) (h1 : l ≤ h) (h2 : h ≤ c) : (Instr.slice 42 (.slice a n c) (some (.int .i64 l)) (some (.int .i64 h)) none).run Tryz.prog w = .ok (cutV a l.toNat h.toNat c) w := by
  rw [run_slice_lh w 42 a n c (by kernel_rfl) .i64 .i64 l h h0 h1 h2]
  go_simp
  simp [cutV, sliced]
end Go.Proofs.YtdlhbmncbmconaaGreatDoor

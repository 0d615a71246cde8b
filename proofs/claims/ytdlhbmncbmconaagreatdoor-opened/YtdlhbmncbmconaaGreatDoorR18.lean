/- Contract: record (heraldkeep). -/
import Derived.Test.YtdlhbmncbmconaaGreatDoorBk
import Derived.Test.YtdlhbmncbmconaaGreatDoorR7
namespace Go.Proofs.YtdlhbmncbmconaaGreatDoor
open Go.RowKit Go.Sort
theorem byte_in (l : List UInt8) (j : Nat) (h : j < (⟨l.toArray⟩ : ByteArray).size) : (⟨l.toArray⟩ : ByteArray)[j] = l[j]'(by simpa [ByteArray.size] using h) := rfl
attribute [local go_sem] alloc_drewN setCell_drewN app_list byte_in
set_option maxRecDepth 20000 in
theorem krecord_any (k : UInt8) (l : List UInt8) (hl : l.length ≤ 65535) (w : World) :
    Calls Tryz.prog 38 #[.string ⟨[k].toArray⟩, .string ⟨l.toArray⟩] w fun e w' => e = .returned (.string ⟨(Hm.writeRec k l).toArray⟩) ∧ Below w.heap.size w w' := by
  have hback := two_back w (UInt8.ofNat (l.length / 256)) (UInt8.ofNat l.length) ((l.length : Int) / 256) ((l.length : Int) % 256) (by simp; omega) (by simp)
  go_enter Tryz.func38, Tryz.ntmps38
  go_wp2
  have HS : Hid (Hm.aheadRec k l = k :: UInt8.ofNat (l.length / 256) :: UInt8.ofNat l.length :: l) := rfl
  have hSl : (k :: UInt8.ofNat (l.length / 256) :: UInt8.ofNat l.length :: l).length ≤ 70000 := by simp; omega
  generalize k :: UInt8.ofNat (l.length / 256) :: UInt8.ofNat l.length :: l = S at HS hSl
  have hbel : Below w.heap.size w (w.alloc (.cells #[.int .u8 ((l.length : Int) / 256), .int .u8 ((l.length : Int) % 256)] 5)) := (Below.refl _ _).alloc (Nat.le_refl _) _
  generalize w.alloc (.cells #[.int .u8 ((l.length : Int) / 256), .int .u8 ((l.length : Int) % 256)] 5) = w1 at hbel
  have HB1 : Hid (Below w.heap.size w w1) := hbel
  clear hback hbel
  go_loopw [6, 7, 8] (fun av bv ix wr => ∃ j a b : Nat, j ≤ S.length ∧ ix = .int .i64 j ∧ av = .int .i64 a ∧ bv = .int .i64 b ∧ a < 251 ∧ b < 251 ∧ Hm.sums 1 0 S = Hm.sums a b (S.drop j) ∧ wr = w1) (fun _ _ ix _ => S.length - (intOf ix).toNat)
  case atStart => exact ⟨0, 1, 0, by omega, rfl, rfl, rfl, by omega, by omega, rfl, rfl⟩
  case round =>
    obtain ⟨j, a, b, hj, rfl, rfl, rfl, ha, hb, hv, rfl⟩ := hrel
    have HV : Hid (Hm.sums 1 0 S = Hm.sums a b (S.drop j)) := hv
    clear hv
    by_cases hlt : j < S.length
    · have hji : (j : Int) < (S.length : Int) := by omega
      have hd := List.drop_eq_getElem_cons (l := S) (i := j) hlt
      rw [hd, Hm.sums] at HV
      clear hd
      have hc : S[j].toNat < 256 := UInt8.toNat_lt _
      go_wp2
      go_roundw
      case rel => exact ⟨j + 1, (a + S[j].toNat) % 251, (b + (a + S[j].toNat) % 251) % 251, by omega, int_eq (by simp), int_eq (by simp), int_eq (by simp), Nat.mod_lt _ (by decide), Nat.mod_lt _ (by decide), HV.out, trivial⟩
      case measure => simp [intOf]; omega
    · have hji : ¬ (j : Int) < (S.length : Int) := by omega
      rw [List.drop_of_length_le (by omega), Hm.sums] at HV
      have hback2 := two_back wr (UInt8.ofNat a) (UInt8.ofNat b) (a : Int) (b : Int) (by simp; omega) (by simp; omega)
      go_wp2
      go_ret
      refine ⟨?_, HB1.out.alloc HB1.out.size _⟩
      unfold Hm.writeRec
      rw [HS.out]
      unfold Hm.check
      rw [HV.out]
      rfl
end Go.Proofs.YtdlhbmncbmconaaGreatDoor

/- Which of n things a raw number speaks of. -/
import GoSem.Op.String
namespace Go.Hm
def pick (c : Int) (n : Nat) : Nat := ((if c < 0 then -(c + 1) else c) % (n : Int)).toNat
theorem pick_lt (c : Int) {n : Nat} (h : 0 < n) : pick c n < n := by
  unfold pick
  have h1 : 0 ≤ (if c < 0 then -(c + 1) else c) % (n : Int) := Int.emod_nonneg _ (by omega)
  have h2 : (if c < 0 then -(c + 1) else c) % (n : Int) < n := Int.emod_lt_of_pos _ (by omega)
  omega
end Go.Hm

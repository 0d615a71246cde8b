/- Raw messages as rows of seven numbers, for Opened, Logged and Relayed. -/
import Derived.Test.YtdlhbmncbmconaaGreatDoorBr
import Derived.Test.YtdlhbmncbmconaaGreatDoorR10
import Derived.Test.YtdlhbmncbmconaaGreatDoorR20
import Derived.Test.YtdlhbmncbmconaaGreatDoorVr
namespace Go.Proofs.YtdlhbmncbmconaaGreatDoor
open Go.RowKit Go.Sort
def rawOf (r : List Int) : Hm.Raw := ⟨r.getD 0 0, r.getD 1 0, r.getD 2 0, r.getD 3 0, r.getD 4 0, r.getD 5 0, r.getD 6 0⟩
def msOf (rows : List (List Int)) : List Hm.Msg := rows.map fun r => Hm.kmessage (rawOf r)
theorem seven {r : List Int} (h : r.length = 7) : ∃ a b c d e f g, r = [a, b, c, d, e, f, g] := by
  match r, h with
  | [a, b, c, d, e, f, g], _ => exact ⟨a, b, c, d, e, f, g, rfl⟩
theorem RowsAt.row7 {W wr : World} {b off k : Nat} {r0 r1 r2 r3 r4 r5 r6 : Int} (hc : W.rangeAt b (off + k * 7) ([r0, r1, r2, r3, r4, r5, r6].map (Value.int .i64))) (hb : Below W.heap.size W wr) :
    wr.cell? ⟨b, off + k * 7, none⟩ = some (.int .i64 r0) ∧ wr.cell? ⟨b, off + k * 7 + 1, none⟩ = some (.int .i64 r1) ∧ wr.cell? ⟨b, off + k * 7 + 2, none⟩ = some (.int .i64 r2) ∧ wr.cell? ⟨b, off + k * 7 + 3, none⟩ = some (.int .i64 r3) ∧ wr.cell? ⟨b, off + k * 7 + 4, none⟩ = some (.int .i64 r4) ∧ wr.cell? ⟨b, off + k * 7 + 5, none⟩ = some (.int .i64 r5) ∧ wr.cell? ⟨b, off + k * 7 + 6, none⟩ = some (.int .i64 r6) := by
  have h0 := hc 0 _ rfl
  have hl : b < W.heap.size := block_lt_of_cell h0
  have key : ∀ j v, ([r0, r1, r2, r3, r4, r5, r6].map (Value.int .i64))[j]? = some v → wr.cell? ⟨b, off + k * 7 + j, none⟩ = some v := fun j v h => (hb.cell (p := ⟨b, off + k * 7 + j, none⟩) hl).trans (hc j v h)
  exact ⟨key 0 _ rfl, key 1 _ rfl, key 2 _ rfl, key 3 _ rfl, key 4 _ rfl, key 5 _ rfl, key 6 _ rfl⟩
theorem own_bel {w1 wr w8 : World} {e : TypeId} {v : Value} {n : Nat} {xs : List Value} {o : Obj} (h : wr.ownsRow w1.heap.size e 1 v n xs) (hb : Below w1.heap.size w1 wr) (hg : World.grownBy (wr.alloc o) w8 v.ownBlock) : Below w1.heap.size w1 w8 := by
  have h1 : Below w1.heap.size w1 (wr.alloc o) := hb.alloc hb.size _
  refine h1.trans ((Hw.Kept.of_grown hg).below (fun k _ e => ?_) h1.size)
  rcases h.2 with ⟨rfl, _⟩ | ⟨g, cap, cur, rfl, hb, _⟩
  · cases e
  · cases e; exact hb
end Go.Proofs.YtdlhbmncbmconaaGreatDoor

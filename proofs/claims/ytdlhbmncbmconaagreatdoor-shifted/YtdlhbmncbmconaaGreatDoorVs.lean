/- Arguments opened: five numbers. -/
import Derived.Test.YtdlhbmncbmconaaGreatDoorVi
namespace Go.Proofs.YtdlhbmncbmconaaGreatDoor.shifted
open Go.ChangeShapes Go.WideShapes Go.ChangeAt Go.RowKit Go.Lib

theorem fivL {α : Type} {xs : List α} (h : xs.length = 5) : ∃ a b c d e, xs = [a, b, c, d, e] := by
  match xs, h with
  | [a, b, c, d, e], _ => exact ⟨a, b, c, d, e, rfl⟩
set_option maxRecDepth 100000 in
theorem ints5 {H : Type} {enc : TypeId × Value → H} {W : World} {args : Array Value} {ds : List (DataW H)} {p : List MemPlace} {base : Nat}
    (hval : ∀ (j : Nat) t v, (#[3, 3, 3, 3, 3] : Array TypeId)[j]? = some t → args[j]? = some v → Value.okWide Tryz.prog W .any base t v)
    (h : DataW.TrodAll enc Tryz.prog W 0 (fun _ => true) true [3, 3, 3, 3, 3] args.toList ds p) :
    ∃ a b c d e : Int, args = #[.int .i64 a, .int .i64 b, .int .i64 c, .int .i64 d, .int .i64 e] ∧ ∀ z ∈ [a, b, c, d, e], -9223372036854775808 ≤ z ∧ z ≤ 9223372036854775807 := by
  have hl : args.toList.length = 5 := by
    have : ∀ {ts : List TypeId} {vs : List Value} {ds : List (DataW H)} {ps : List MemPlace}, DataW.TrodAll enc Tryz.prog W 0 (fun _ => true) true ts vs ds ps → vs.length = ts.length := by
      intro ts
      induction ts with
      | nil => intro vs ds ps h; obtain ⟨rfl, rfl, rfl⟩ := trodAll_nil h; rfl
      | cons t ts ih => intro vs ds ps h; obtain ⟨v, vs', d, ds', p, q, rfl, rfl, rfl, h1, h2⟩ := trodAll_cons h; simp [ih h2]
    exact this h
  obtain ⟨v0, v1, v2, v3, v4, hv⟩ := fivL hl
  obtain rfl : args = #[v0, v1, v2, v3, v4] := by cases args; simp_all
  have ok : ∀ {v : Value}, Value.okWide Tryz.prog W .any base 3 v → ∃ n : Int, v = .int .i64 n ∧ -9223372036854775808 ≤ n ∧ n ≤ 9223372036854775807 := by
    intro v hv
    unfold Value.okWide at hv
    rw [Tryz.underlying3] at hv
    exact int_of_ok hv
  obtain ⟨a, rfl, ha⟩ := ok (hval 0 3 v0 rfl rfl)
  obtain ⟨b, rfl, hb⟩ := ok (hval 1 3 v1 rfl rfl)
  obtain ⟨c, rfl, hc⟩ := ok (hval 2 3 v2 rfl rfl)
  obtain ⟨d, rfl, hd⟩ := ok (hval 3 3 v3 rfl rfl)
  obtain ⟨e, rfl, he⟩ := ok (hval 4 3 v4 rfl rfl)
  refine ⟨a, b, c, d, e, rfl, fun z hz => ?_⟩
  simp only [List.mem_cons, List.not_mem_nil, or_false] at hz
  rcases hz with rfl | rfl | rfl | rfl | rfl <;> assumption
end Go.Proofs.YtdlhbmncbmconaaGreatDoor.shifted

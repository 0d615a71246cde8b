/- Contracts: awake, pick, same. -/
import Derived.Test.YtdlhbmncbmconaaGreatDoorBk
import Derived.Test.YtdlhbmncbmconaaGreatDoorMb
namespace Go.Hm
def ex1 : List UInt8 := [60, 51, 52, 62, 49, 32, 50, 48, 48, 51, 45, 49, 48, 45, 49, 49, 84, 50, 50, 58, 49, 52, 58, 49, 53, 46, 48, 48, 51, 90, 32, 109, 121, 109, 97, 99, 104, 105, 110, 101, 32, 115, 117, 32, 45, 32, 73, 68, 52, 55, 32, 45, 32, 105, 116, 32, 102, 97, 105, 108, 101, 100]
def ex2 : List UInt8 := [60, 49, 51, 62, 70, 101, 98, 32, 32, 53, 32, 49, 55, 58, 51, 50, 58, 49, 56, 32, 104, 111, 115, 116, 32, 115, 117, 91, 50, 51, 48, 93, 58, 32, 104, 101, 108, 108, 111]
def ex3 : List UInt8 := [60, 48, 62, 49, 32, 50, 48, 48, 48, 45, 48, 51, 45, 48, 49, 84, 48, 48, 58, 51, 48, 58, 48, 48, 46, 53, 48, 48, 43, 48, 49, 58, 48, 48, 32, 45, 32, 45, 32, 45, 32, 45, 32, 91, 97, 32, 98, 61, 34, 99, 92, 93, 34, 93, 91, 100, 93]
def ex4 : List UInt8 := [60, 51, 52, 62, 49, 32, 45]
def exF1 : List UInt8 := [51, 32, 97, 98, 99, 120, 32, 121, 10, 49]
def exF2 : List UInt8 := [48, 32]
def exF3 : List UInt8 := [97, 98, 99, 10, 122, 10]
def exR : List UInt8 := [109, 97, 105, 108, 44, 110, 101, 119, 115, 46, 61, 105, 110, 102, 111, 32, 100, 114, 111, 112, 10, 42, 46, 101, 114, 114, 32, 107, 101, 101, 112, 10, 42, 46, 42, 32, 100, 114, 111, 112, 10]
theorem ex1_read : read ex1 2000 = (⟨4, 2, [50, 48, 48, 51, 45, 49, 48, 45, 49, 49, 84, 50, 50, 58, 49, 52, 58, 49, 53, 46, 48, 48, 51, 90], [109, 121, 109, 97, 99, 104, 105, 110, 101], [115, 117], [], [73, 68, 52, 55], [], [105, 116, 32, 102, 97, 105, 108, 101, 100]⟩, 0, 0) := by kernel_rfl
theorem ex2_read : read ex2 2024 = (⟨1, 5, [50, 48, 50, 52, 45, 48, 50, 45, 48, 53, 84, 49, 55, 58, 51, 50, 58, 49, 56, 90], [104, 111, 115, 116], [115, 117], [50, 51, 48], [], [], [104, 101, 108, 108, 111]⟩, 0, 0) := by kernel_rfl
theorem ex3_read : read ex3 1 = (⟨0, 0, [50, 48, 48, 48, 45, 48, 50, 45, 50, 57, 84, 50, 51, 58, 51, 48, 58, 48, 48, 46, 53, 90], [], [], [], [], [91, 97, 32, 98, 61, 34, 99, 92, 93, 34, 93, 91, 100, 93], []⟩, 0, 0) := by kernel_rfl
theorem ex4_read : (read ex4 1).2 = (4, 7) := by kernel_rfl
theorem exF1_feed : (Frs.fresh 9).feed exF1 = (⟨9, 1, 1, 1, []⟩, [[61, 97, 98, 99], [61, 120, 32, 121]]) := by kernel_rfl
theorem exF2_feed : (Frs.mk 9 1 1 1 []).feed exF2 = (⟨9, 4, 0, 0, []⟩, [[33]]) := by kernel_rfl
theorem exF3_feed : (Frs.mk 9 4 0 0 []).feed exF3 = (Frs.fresh 9, [[61, 122]]) := by kernel_rfl
def exRules : List Rl := [⟨132, 64, false⟩, ⟨16777215, 15, true⟩, ⟨16777215, 255, false⟩]
theorem exR_rules : newRules exR = .ok exRules := by kernel_rfl
theorem exR_keeps : keeps exRules 2 6 = false ∧ keeps exRules 2 3 = true ∧ keeps exRules 0 4 = false := by decide +kernel
theorem exL_line : line Msg.none = ([60, 48, 62, 49, 32, 45, 32, 45, 32, 45, 32, 45, 32, 45, 32, 45], 0) := by kernel_rfl
theorem exL_rec : writeRec 80 [60, 48, 62, 49, 32, 45, 32, 45, 32, 45, 32, 45, 32, 45, 32, 45] = [80, 0, 16, 60, 48, 62, 49, 32, 45, 32, 45, 32, 45, 32, 45, 32, 45, 32, 45, 25, 179] := by kernel_rfl
end Go.Hm
namespace Go.Proofs.YtdlhbmncbmconaaGreatDoor
open Go.RowKit Go.Sort
attribute [local go_sem] alloc_drewN setCell_drewN
theorem awake_read1 (w : World) (hT : Tabs w) : Calls Tryz.prog 21 #[.string ⟨#[60, 51, 52, 62, 49, 32, 50, 48, 48, 51, 45, 49, 48, 45, 49, 49, 84, 50, 50, 58, 49, 52, 58, 49, 53, 46, 48, 48, 51, 90, 32, 109, 121, 109, 97, 99, 104, 105, 110, 101, 32, 115, 117, 32, 45, 32, 73, 68, 52, 55, 32, 45, 32, 105, 116, 32, 102, 97, 105, 108, 101, 100]⟩, .int .i64 2000] w fun e w' => e = .returned (.tuple #[.agg #[.int .i64 4, .int .i64 2, .string ⟨#[50, 48, 48, 51, 45, 49, 48, 45, 49, 49, 84, 50, 50, 58, 49, 52, 58, 49, 53, 46, 48, 48, 51, 90]⟩, .string ⟨#[109, 121, 109, 97, 99, 104, 105, 110, 101]⟩, .string ⟨#[115, 117]⟩, .string ⟨#[]⟩, .string ⟨#[73, 68, 52, 55]⟩, .string ⟨#[]⟩, .string ⟨#[105, 116, 32, 102, 97, 105, 108, 101, 100]⟩], .int .i64 0, .int .i64 0]) ∧ Below w.heap.size w w' := by
  have h := Read_any ⟨#[60, 51, 52, 62, 49, 32, 50, 48, 48, 51, 45, 49, 48, 45, 49, 49, 84, 50, 50, 58, 49, 52, 58, 49, 53, 46, 48, 48, 51, 90, 32, 109, 121, 109, 97, 99, 104, 105, 110, 101, 32, 115, 117, 32, 45, 32, 73, 68, 52, 55, 32, 45, 32, 105, 116, 32, 102, 97, 105, 108, 101, 100]⟩ 2000 w hT (by decide)
  rw [show (⟨#[60, 51, 52, 62, 49, 32, 50, 48, 48, 51, 45, 49, 48, 45, 49, 49, 84, 50, 50, 58, 49, 52, 58, 49, 53, 46, 48, 48, 51, 90, 32, 109, 121, 109, 97, 99, 104, 105, 110, 101, 32, 115, 117, 32, 45, 32, 73, 68, 52, 55, 32, 45, 32, 105, 116, 32, 102, 97, 105, 108, 101, 100]⟩ : ByteArray).data.toList = Hm.ex1 from rfl, Hm.ex1_read] at h
  exact h
theorem awake_read2 (w : World) (hT : Tabs w) : Calls Tryz.prog 21 #[.string ⟨#[60, 49, 51, 62, 70, 101, 98, 32, 32, 53, 32, 49, 55, 58, 51, 50, 58, 49, 56, 32, 104, 111, 115, 116, 32, 115, 117, 91, 50, 51, 48, 93, 58, 32, 104, 101, 108, 108, 111]⟩, .int .i64 2024] w fun e w' => e = .returned (.tuple #[.agg #[.int .i64 1, .int .i64 5, .string ⟨#[50, 48, 50, 52, 45, 48, 50, 45, 48, 53, 84, 49, 55, 58, 51, 50, 58, 49, 56, 90]⟩, .string ⟨#[104, 111, 115, 116]⟩, .string ⟨#[115, 117]⟩, .string ⟨#[50, 51, 48]⟩, .string ⟨#[]⟩, .string ⟨#[]⟩, .string ⟨#[104, 101, 108, 108, 111]⟩], .int .i64 0, .int .i64 0]) ∧ Below w.heap.size w w' := by
  have h := Read_any ⟨#[60, 49, 51, 62, 70, 101, 98, 32, 32, 53, 32, 49, 55, 58, 51, 50, 58, 49, 56, 32, 104, 111, 115, 116, 32, 115, 117, 91, 50, 51, 48, 93, 58, 32, 104, 101, 108, 108, 111]⟩ 2024 w hT (by decide)
  rw [show (⟨#[60, 49, 51, 62, 70, 101, 98, 32, 32, 53, 32, 49, 55, 58, 51, 50, 58, 49, 56, 32, 104, 111, 115, 116, 32, 115, 117, 91, 50, 51, 48, 93, 58, 32, 104, 101, 108, 108, 111]⟩ : ByteArray).data.toList = Hm.ex2 from rfl, Hm.ex2_read] at h
  exact h
theorem awake_read3 (w : World) (hT : Tabs w) : Calls Tryz.prog 21 #[.string ⟨#[60, 48, 62, 49, 32, 50, 48, 48, 48, 45, 48, 51, 45, 48, 49, 84, 48, 48, 58, 51, 48, 58, 48, 48, 46, 53, 48, 48, 43, 48, 49, 58, 48, 48, 32, 45, 32, 45, 32, 45, 32, 45, 32, 91, 97, 32, 98, 61, 34, 99, 92, 93, 34, 93, 91, 100, 93]⟩, .int .i64 1] w fun e w' => e = .returned (.tuple #[.agg #[.int .i64 0, .int .i64 0, .string ⟨#[50, 48, 48, 48, 45, 48, 50, 45, 50, 57, 84, 50, 51, 58, 51, 48, 58, 48, 48, 46, 53, 90]⟩, .string ⟨#[]⟩, .string ⟨#[]⟩, .string ⟨#[]⟩, .string ⟨#[]⟩, .string ⟨#[91, 97, 32, 98, 61, 34, 99, 92, 93, 34, 93, 91, 100, 93]⟩, .string ⟨#[]⟩], .int .i64 0, .int .i64 0]) ∧ Below w.heap.size w w' := by
  have h := Read_any ⟨#[60, 48, 62, 49, 32, 50, 48, 48, 48, 45, 48, 51, 45, 48, 49, 84, 48, 48, 58, 51, 48, 58, 48, 48, 46, 53, 48, 48, 43, 48, 49, 58, 48, 48, 32, 45, 32, 45, 32, 45, 32, 45, 32, 91, 97, 32, 98, 61, 34, 99, 92, 93, 34, 93, 91, 100, 93]⟩ 1 w hT (by decide)
  rw [show (⟨#[60, 48, 62, 49, 32, 50, 48, 48, 48, 45, 48, 51, 45, 48, 49, 84, 48, 48, 58, 51, 48, 58, 48, 48, 46, 53, 48, 48, 43, 48, 49, 58, 48, 48, 32, 45, 32, 45, 32, 45, 32, 45, 32, 91, 97, 32, 98, 61, 34, 99, 92, 93, 34, 93, 91, 100, 93]⟩ : ByteArray).data.toList = Hm.ex3 from rfl, Hm.ex3_read] at h
  exact h
theorem awake_read4 (w : World) (hT : Tabs w) : Calls Tryz.prog 21 #[.string ⟨#[60, 51, 52, 62, 49, 32, 45]⟩, .int .i64 1] w fun e w' => (∃ m, e = .returned (.tuple #[.agg (msgCells m), .int .i64 4, .int .i64 7])) ∧ Below w.heap.size w w' := by
  have h := Read_any ⟨#[60, 51, 52, 62, 49, 32, 45]⟩ 1 w hT (by decide)
  rw [show (⟨#[60, 51, 52, 62, 49, 32, 45]⟩ : ByteArray).data.toList = Hm.ex4 from rfl] at h
  refine h.mono ?_
  rintro e w' ⟨rfl, hb⟩
  refine ⟨⟨(Hm.read Hm.ex4 1).1, ?_⟩, hb⟩
  have := Hm.ex4_read
  rw [Prod.ext_iff] at this
  rw [this.1, this.2]
  rfl
theorem awake_feed1 (p : Nat) (v : Value) (w : World) (hf : FramesAt w p (Hm.Frs.fresh 9) v) :
    Calls Tryz.prog 28 #[.pointer (some ⟨p, 0, none⟩), .string ⟨#[51, 32, 97, 98, 99, 120, 32, 121, 10, 49]⟩] w fun e w' => ∃ tv v', e = .returned (.tuple #[tv, .int .i64 1]) ∧
      FramesAt w' p (⟨9, 1, 1, 1, []⟩) v' ∧ StepF p v w v' w' ∧ w'.ownsRow w.heap.size 9 1 tv 2 [strV [61, 97, 98, 99], strV [61, 120, 32, 121]] := by
  have h := Feed_any p _ v ⟨#[51, 32, 97, 98, 99, 120, 32, 121, 10, 49]⟩ (by decide) w hf (Hm.Frs.fresh_ok (by decide) (by decide))
  rw [show (⟨#[51, 32, 97, 98, 99, 120, 32, 121, 10, 49]⟩ : ByteArray).data.toList = Hm.exF1 from rfl, Hm.exF1_feed] at h
  exact h
theorem awake_feed2 (p : Nat) (v : Value) (w : World) (hf : FramesAt w p (⟨9, 1, 1, 1, []⟩) v) :
    Calls Tryz.prog 28 #[.pointer (some ⟨p, 0, none⟩), .string ⟨#[48, 32]⟩] w fun e w' => ∃ tv v', e = .returned (.tuple #[tv, .int .i64 0]) ∧
      FramesAt w' p (⟨9, 4, 0, 0, []⟩) v' ∧ StepF p v w v' w' ∧ w'.ownsRow w.heap.size 9 1 tv 1 [strV [33]] := by
  have h := Feed_any p _ v ⟨#[48, 32]⟩ (by decide) w hf (⟨by decide, by decide, by simp⟩)
  rw [show (⟨#[48, 32]⟩ : ByteArray).data.toList = Hm.exF2 from rfl, Hm.exF2_feed] at h
  exact h
theorem awake_feed3 (p : Nat) (v : Value) (w : World) (hf : FramesAt w p (⟨9, 4, 0, 0, []⟩) v) :
    Calls Tryz.prog 28 #[.pointer (some ⟨p, 0, none⟩), .string ⟨#[97, 98, 99, 10, 122, 10]⟩] w fun e w' => ∃ tv v', e = .returned (.tuple #[tv, .int .i64 0]) ∧
      FramesAt w' p (Hm.Frs.fresh 9) v' ∧ StepF p v w v' w' ∧ w'.ownsRow w.heap.size 9 1 tv 1 [strV [61, 122]] := by
  have h := Feed_any p _ v ⟨#[97, 98, 99, 10, 122, 10]⟩ (by decide) w hf (⟨by decide, by decide, by simp⟩)
  rw [show (⟨#[97, 98, 99, 10, 122, 10]⟩ : ByteArray).data.toList = Hm.exF3 from rfl, Hm.exF3_feed] at h
  exact h
theorem told_keep {w w' : World} {b p n : Nat} {f : Hm.Frs} {v v' tv : Value} {xs : List Value} (h : w.ownsRow b 9 1 tv n xs) (hf : FramesAt w p f v) (hs : StepF p v w v' w') : w'.ownsRow b 9 1 tv n xs :=
  Hw.ownsRow_keptS h hs.kept (fun k e hk => by
    obtain ⟨c, hc⟩ := Hw.ownsRow_cells h e
    rcases hk with rfl | hk
    · exact ne_types hc hf.row (by decide) rfl
    · obtain ⟨c', hc'⟩ := Hw.ownsRow_cells hf.own hk
      exact ne_types hc hc' (by decide) rfl)
theorem told_cell {w : World} {b g n cap : Nat} {xs : List Value} (h : w.ownsRow b 9 1 (.slice (some ⟨g, 0, none⟩) n cap) n xs) (j : Nat) (u : Value) (hj : xs[j]? = some u) : w.cell? ⟨g, j, none⟩ = some u := by
  have := h.cells (g := g) rfl j u hj
  rw [show (⟨g, 0, none⟩ : Addr).add j = ⟨g, j, none⟩ by simp [Addr.add]; exact fun e => e.symm] at this
  exact this
theorem RulesAt.below {w w' : World} {p : Nat} {rs : List Hm.Rl} {v : Value} (h : RulesAt w p rs v) (hb : Below w.heap.size w w') : RulesAt w' p rs v :=
  ⟨(hb.block _ (Array.getElem?_eq_some_iff.1 h.row).1).trans h.row, Hw.ownsRow_keptS (S := fun _ => False) h.own (Hw.Kept.of_below hb) (fun _ _ e => e)⟩
theorem awake_rules (w : World) (hT : Tabs w) : Calls Tryz.prog 32 #[.string ⟨#[109, 97, 105, 108, 44, 110, 101, 119, 115, 46, 61, 105, 110, 102, 111, 32, 100, 114, 111, 112, 10, 42, 46, 101, 114, 114, 32, 107, 101, 101, 112, 10, 42, 46, 42, 32, 100, 114, 111, 112, 10]⟩] w fun e w' => e = .returned (.tuple #[.pointer (some ⟨w.heap.size, 0, none⟩), .int .i64 0, .int .i64 0]) ∧ (∃ v, RulesAt w' w.heap.size Hm.exRules v) ∧ Below w.heap.size w w' := by
  have h := NewRules_any ⟨#[109, 97, 105, 108, 44, 110, 101, 119, 115, 46, 61, 105, 110, 102, 111, 32, 100, 114, 111, 112, 10, 42, 46, 101, 114, 114, 32, 107, 101, 101, 112, 10, 42, 46, 42, 32, 100, 114, 111, 112, 10]⟩ w hT (by decide)
  rw [show (⟨#[109, 97, 105, 108, 44, 110, 101, 119, 115, 46, 61, 105, 110, 102, 111, 32, 100, 114, 111, 112, 10, 42, 46, 101, 114, 114, 32, 107, 101, 101, 112, 10, 42, 46, 42, 32, 100, 114, 111, 112, 10]⟩ : ByteArray).data.toList = Hm.exR from rfl, Hm.exR_rules] at h
  refine h.mono ?_
  rintro e w' ⟨hb, he, hv⟩
  exact ⟨he, hv, hb⟩
theorem ex_small : ∀ r ∈ Hm.exRules, r.small := by
  intro r hr
  simp [Hm.exRules] at hr
  rcases hr with rfl | rfl | rfl <;> exact ⟨by decide, by decide⟩
theorem awake_keeps (p : Nat) (v : Value) (w : World) (h : RulesAt w p Hm.exRules v) :
    (Calls Tryz.prog 33 #[.pointer (some ⟨p, 0, none⟩), .int .i64 2, .int .i64 6] w fun e w' => e = .returned (.tuple #[.bool false, .int .i64 0]) ∧ Below w.heap.size w w') ∧
    (Calls Tryz.prog 33 #[.pointer (some ⟨p, 0, none⟩), .int .i64 2, .int .i64 3] w fun e w' => e = .returned (.tuple #[.bool true, .int .i64 0]) ∧ Below w.heap.size w w') ∧
    (Calls Tryz.prog 33 #[.pointer (some ⟨p, 0, none⟩), .int .i64 0, .int .i64 4] w fun e w' => e = .returned (.tuple #[.bool false, .int .i64 0]) ∧ Below w.heap.size w w') := by
  have a := Keeps_any p _ v 2 6 w h ex_small (by decide) (by decide) (by decide)
  have b := Keeps_any p _ v 2 3 w h ex_small (by decide) (by decide) (by decide)
  have c := Keeps_any p _ v 0 4 w h ex_small (by decide) (by decide) (by decide)
  rw [Hm.exR_keeps.1] at a
  rw [Hm.exR_keeps.2.1] at b
  rw [Hm.exR_keeps.2.2] at c
  exact ⟨a, b, c⟩
theorem ex_put : (Hm.Lg.fresh 2).put Hm.Msg.none = (⟨2, [80, 0, 16, 60, 48, 62, 49, 32, 45, 32, 45, 32, 45, 32, 45, 32, 45, 32, 45, 25, 179], 0, [[60, 48, 62, 49, 32, 45, 32, 45, 32, 45, 32, 45, 32, 45, 32, 45]]⟩, 1, 0) := by kernel_rfl
theorem awake_put (p : Nat) (rv wv : Value) (w : World) (hT : Tabs w) (h : LogAt w p (Hm.Lg.fresh 2) rv wv) :
    Calls Tryz.prog 43 #[.pointer (some ⟨p, 0, none⟩), .agg #[.int .i64 0, .int .i64 0, .string ⟨#[]⟩, .string ⟨#[]⟩, .string ⟨#[]⟩, .string ⟨#[]⟩, .string ⟨#[]⟩, .string ⟨#[]⟩, .string ⟨#[]⟩]] w fun e w' => e = .returned (.tuple #[.int .i64 1, .int .i64 0]) ∧ ∃ rv' wv', LogAt w' p ⟨2, [80, 0, 16, 60, 48, 62, 49, 32, 45, 32, 45, 32, 45, 32, 45, 32, 45, 32, 45, 25, 179], 0, [[60, 48, 62, 49, 32, 45, 32, 45, 32, 45, 32, 45, 32, 45, 32, 45]]⟩ rv' wv' ∧ StepL p rv wv w rv' wv' w' := by
  have h := Put_any p (Hm.Lg.fresh 2) rv wv w hT h ⟨by decide, by decide, by decide, by decide⟩ Hm.Msg.none (by decide) (by decide) (by decide) (by decide) (by decide) (by decide) (by decide)
  rw [ex_put] at h
  exact h
set_option maxRecDepth 50000 in
set_option maxHeartbeats 4000000 in
theorem awake_any (w : World) (hT : Tabs w) : Calls Tryz.prog 18 #[] w fun e w' => e = .returned (.bool true) ∧ Below w.heap.size w w' := by
  have R1 : Hid (∀ w, Tabs w → Calls Tryz.prog 21 #[.string ⟨#[60, 51, 52, 62, 49, 32, 50, 48, 48, 51, 45, 49, 48, 45, 49, 49, 84, 50, 50, 58, 49, 52, 58, 49, 53, 46, 48, 48, 51, 90, 32, 109, 121, 109, 97, 99, 104, 105, 110, 101, 32, 115, 117, 32, 45, 32, 73, 68, 52, 55, 32, 45, 32, 105, 116, 32, 102, 97, 105, 108, 101, 100]⟩, .int .i64 2000] w fun e w' => e = .returned (.tuple #[.agg #[.int .i64 4, .int .i64 2, .string ⟨#[50, 48, 48, 51, 45, 49, 48, 45, 49, 49, 84, 50, 50, 58, 49, 52, 58, 49, 53, 46, 48, 48, 51, 90]⟩, .string ⟨#[109, 121, 109, 97, 99, 104, 105, 110, 101]⟩, .string ⟨#[115, 117]⟩, .string ⟨#[]⟩, .string ⟨#[73, 68, 52, 55]⟩, .string ⟨#[]⟩, .string ⟨#[105, 116, 32, 102, 97, 105, 108, 101, 100]⟩], .int .i64 0, .int .i64 0]) ∧ Below w.heap.size w w') := awake_read1
  have R2 : Hid (∀ w, Tabs w → Calls Tryz.prog 21 #[.string ⟨#[60, 49, 51, 62, 70, 101, 98, 32, 32, 53, 32, 49, 55, 58, 51, 50, 58, 49, 56, 32, 104, 111, 115, 116, 32, 115, 117, 91, 50, 51, 48, 93, 58, 32, 104, 101, 108, 108, 111]⟩, .int .i64 2024] w fun e w' => e = .returned (.tuple #[.agg #[.int .i64 1, .int .i64 5, .string ⟨#[50, 48, 50, 52, 45, 48, 50, 45, 48, 53, 84, 49, 55, 58, 51, 50, 58, 49, 56, 90]⟩, .string ⟨#[104, 111, 115, 116]⟩, .string ⟨#[115, 117]⟩, .string ⟨#[50, 51, 48]⟩, .string ⟨#[]⟩, .string ⟨#[]⟩, .string ⟨#[104, 101, 108, 108, 111]⟩], .int .i64 0, .int .i64 0]) ∧ Below w.heap.size w w') := awake_read2
  have R3 : Hid (∀ w, Tabs w → Calls Tryz.prog 21 #[.string ⟨#[60, 48, 62, 49, 32, 50, 48, 48, 48, 45, 48, 51, 45, 48, 49, 84, 48, 48, 58, 51, 48, 58, 48, 48, 46, 53, 48, 48, 43, 48, 49, 58, 48, 48, 32, 45, 32, 45, 32, 45, 32, 45, 32, 91, 97, 32, 98, 61, 34, 99, 92, 93, 34, 93, 91, 100, 93]⟩, .int .i64 1] w fun e w' => e = .returned (.tuple #[.agg #[.int .i64 0, .int .i64 0, .string ⟨#[50, 48, 48, 48, 45, 48, 50, 45, 50, 57, 84, 50, 51, 58, 51, 48, 58, 48, 48, 46, 53, 90]⟩, .string ⟨#[]⟩, .string ⟨#[]⟩, .string ⟨#[]⟩, .string ⟨#[]⟩, .string ⟨#[91, 97, 32, 98, 61, 34, 99, 92, 93, 34, 93, 91, 100, 93]⟩, .string ⟨#[]⟩], .int .i64 0, .int .i64 0]) ∧ Below w.heap.size w w') := awake_read3
  go_enter Tryz.func18, Tryz.ntmps18
  go_wp2_with fail
  refine (R1.out _ hT).mono ?_
  rintro e w1 ⟨rfl, hb1⟩
  have HB1 : Hid (Below w.heap.size w w1) := hb1
  clear hb1
  go_wp2_with fail
  refine (R2.out _ (hT.next (HB1.out.alloc HB1.out.size _))).mono ?_
  rintro e w2 ⟨rfl, hb2⟩
  have HB2 : Hid (Below w.heap.size w w2) := Below.next (HB1.out.alloc HB1.out.size _) (Nat.le_refl _) hb2
  clear hb2 HB1
  go_wp2_with fail
  refine (R3.out _ (hT.next (HB2.out.alloc HB2.out.size _))).mono ?_
  rintro e w3 ⟨rfl, hb3⟩
  have HB3 : Hid (Below w.heap.size w w3) := Below.next (HB2.out.alloc HB2.out.size _) (Nat.le_refl _) hb3
  clear hb3 HB2
  go_wp2_with fail
  refine (awake_read4 _ (hT.next (HB3.out.alloc HB3.out.size _))).mono ?_
  rintro e w4 ⟨⟨m4, rfl⟩, hb4⟩
  have d2 : w4.cell? ⟨w3.heap.size, 2, none⟩ = some (.string ⟨#[50, 48, 48, 48, 45, 48, 50, 45, 50, 57, 84, 50, 51, 58, 51, 48, 58, 48, 48, 46, 53, 90]⟩) := by
    refine (hb4.cell (p := ⟨w3.heap.size, 2, none⟩) (by simp)).trans ?_
    unfold World.cell?
    rw [show (⟨w3.heap.size, 2, none⟩ : Addr).block = w3.heap.size from rfl, heap_alloc_new]
    rfl
  have d7 : w4.cell? ⟨w3.heap.size, 7, none⟩ = some (.string ⟨#[91, 97, 32, 98, 61, 34, 99, 92, 93, 34, 93, 91, 100, 93]⟩) := by
    refine (hb4.cell (p := ⟨w3.heap.size, 7, none⟩) (by simp)).trans ?_
    unfold World.cell?
    rw [show (⟨w3.heap.size, 7, none⟩ : Addr).block = w3.heap.size from rfl, heap_alloc_new]
    rfl
  have HB4 : Hid (Below w.heap.size w w4) := Below.next (HB3.out.alloc HB3.out.size _) (Nat.le_refl _) hb4
  have HT4 : Hid (Tabs w4) := hT.next HB4.out
  have hlt4 : w3.heap.size < w4.heap.size := by have := hb4.size; simp at this; omega
  have hne4 : ¬ w3.heap.size = w4.heap.size := by omega
  have hne4' : ¬ w4.heap.size = w3.heap.size := by omega
  clear hb4 HB3
  unfold msgCells
  go_wp2_with fail
  have HB5 : Hid (Below w.heap.size w (w4.alloc (.cells #[.int .i64 m4.fac, .int .i64 m4.sev, .string ⟨m4.time.toArray⟩, .string ⟨m4.host.toArray⟩, .string ⟨m4.app.toArray⟩, .string ⟨m4.proc.toArray⟩, .string ⟨m4.id.toArray⟩, .string ⟨m4.data.toArray⟩, .string ⟨m4.text.toArray⟩] 29))) := HB4.out.alloc HB4.out.size _
  generalize w4.alloc (.cells #[.int .i64 m4.fac, .int .i64 m4.sev, .string ⟨m4.time.toArray⟩, .string ⟨m4.host.toArray⟩, .string ⟨m4.app.toArray⟩, .string ⟨m4.proc.toArray⟩, .string ⟨m4.id.toArray⟩, .string ⟨m4.data.toArray⟩, .string ⟨m4.text.toArray⟩] 29) = w5 at HB5 ⊢
  have HT5 : Hid (Tabs w5) := hT.next HB5.out
  clear d2 d7 HB4 HT4 hlt4 hne4 hne4'
  have NF : Hid (∀ w, 11 ≤ w.heap.size → Calls Tryz.prog 27 #[.int .i64 9] w fun e w' => e = .returned (.tuple #[.pointer (some ⟨w.heap.size, 0, none⟩), .int .i64 0]) ∧ FramesAt w' w.heap.size (Hm.Frs.fresh 9) (.slice none 0 0) ∧ Below w.heap.size w w') := fun w h => NewFrames_any 9 w h (by decide) (by decide)
  refine (NF.out _ HT5.out.size).mono ?_
  rintro e w6 ⟨rfl, F6, hb6⟩
  have HB6 : Hid (Below w.heap.size w w6) := Below.next HB5.out (Nat.le_refl _) hb6
  have HF6 : Hid (FramesAt w6 w5.heap.size (Hm.Frs.fresh 9) (.slice none 0 0)) := F6
  have HP : Hid (w.heap.size ≤ w5.heap.size) := HB5.out.size
  clear F6 hb6
  go_wp2_with fail
  refine (awake_feed1 _ _ _ HF6.out).mono ?_
  rintro e w7 ⟨t1, v7, rfl, f7, s7, o1⟩
  have HF7 : Hid (FramesAt w7 w5.heap.size ⟨9, 1, 1, 1, []⟩ v7) := f7
  have HS7 : Hid (StepF w5.heap.size (.slice none 0 0) w6 v7 w7) := s7
  obtain ⟨g1, cap1, cur1, ht1, _⟩ := own_slice o1 (by decide)
  subst ht1
  have HO1 : Hid (w7.ownsRow w6.heap.size 9 1 (.slice (some ⟨g1, 0, none⟩) 2 cap1) 2 [strV [61, 97, 98, 99], strV [61, 120, 32, 121]]) := o1
  clear f7 s7 o1
  go_wp2_with fail
  refine (awake_feed2 _ _ _ HF7.out).mono ?_
  rintro e w8 ⟨t2, v8, rfl, f8, s8, o2⟩
  have HF8 : Hid (FramesAt w8 w5.heap.size ⟨9, 4, 0, 0, []⟩ v8) := f8
  have HS8 : Hid (StepF w5.heap.size (.slice none 0 0) w6 v8 w8) := HS7.out.trans s8
  have HO1b : Hid (w8.ownsRow w6.heap.size 9 1 (.slice (some ⟨g1, 0, none⟩) 2 cap1) 2 [strV [61, 97, 98, 99], strV [61, 120, 32, 121]]) := told_keep HO1.out HF7.out s8
  obtain ⟨g2, cap2, cur2, ht2, _⟩ := own_slice o2 (by decide)
  subst ht2
  have HO2 : Hid (w8.ownsRow w7.heap.size 9 1 (.slice (some ⟨g2, 0, none⟩) 1 cap2) 1 [strV [33]]) := o2
  clear f8 s8 o2 HO1 HS7 HF7
  go_wp2_with fail
  refine (awake_feed3 _ _ _ HF8.out).mono ?_
  rintro e w9 ⟨t3, v9, rfl, f9, s9, o3⟩
  have HS9 : Hid (StepF w5.heap.size (.slice none 0 0) w6 v9 w9) := HS8.out.trans s9
  have O1 := told_keep HO1b.out HF8.out s9
  have O2 := told_keep HO2.out HF8.out s9
  obtain ⟨g3, cap3, cur3, ht3, _⟩ := own_slice o3 (by decide)
  subst ht3
  have a10 : w9.cell? ⟨g1, 0, none⟩ = some (.string ⟨#[61, 97, 98, 99]⟩) := told_cell O1 0 _ rfl
  have a11 : w9.cell? ⟨g1, 1, none⟩ = some (.string ⟨#[61, 120, 32, 121]⟩) := told_cell O1 1 _ rfl
  have a20 : w9.cell? ⟨g2, 0, none⟩ = some (.string ⟨#[33]⟩) := told_cell O2 0 _ rfl
  have a30 : w9.cell? ⟨g3, 0, none⟩ = some (.string ⟨#[61, 122]⟩) := told_cell o3 0 _ rfl
  have HB9 : Hid (Below w.heap.size w w9) := HB6.out.trans (HS9.out.kept.below (fun k _ e => by
    rcases e with rfl | e
    · exact HP.out
    · cases e) HB6.out.size)
  have HT9 : Hid (Tabs w9) := hT.next HB9.out
  clear f9 s9 o3 O1 O2 HO1b HO2 HS8 HS9 HF8 HF6 HB6 HB5
  go_wp2_with fail
  refine (awake_rules _ HT9.out).mono ?_
  rintro e w10 ⟨rfl, ⟨rv, hru⟩, hb10⟩
  have HRu : Hid (RulesAt w10 w9.heap.size Hm.exRules rv) := hru
  have HB10 : Hid (Below w.heap.size w w10) := Below.next HB9.out (Nat.le_refl _) hb10
  clear hru hb10 HB9 HT9 a10 a11 a20 a30
  go_wp2_with fail
  refine (awake_keeps _ _ _ HRu.out).1.mono ?_
  rintro e w11 ⟨rfl, hb11⟩
  have HRu11 : Hid (RulesAt w11 w9.heap.size Hm.exRules rv) := HRu.out.below hb11
  have HB11 : Hid (Below w.heap.size w w11) := Below.next HB10.out (Nat.le_refl _) hb11
  clear hb11 HRu HB10
  go_wp2_with fail
  refine (awake_keeps _ _ _ HRu11.out).2.1.mono ?_
  rintro e w12 ⟨rfl, hb12⟩
  have HRu12 : Hid (RulesAt w12 w9.heap.size Hm.exRules rv) := HRu11.out.below hb12
  have HB12 : Hid (Below w.heap.size w w12) := Below.next HB11.out (Nat.le_refl _) hb12
  clear hb12 HRu11 HB11
  go_wp2_with fail
  refine (awake_keeps _ _ _ HRu12.out).2.2.mono ?_
  rintro e w13 ⟨rfl, hb13⟩
  have HB13 : Hid (Below w.heap.size w w13) := Below.next HB12.out (Nat.le_refl _) hb13
  have HT13 : Hid (Tabs w13) := hT.next HB13.out
  clear hb13 HRu12 HB12
  have OP : Hid (∀ w, 11 ≤ w.heap.size → Calls Tryz.prog 34 #[.string ⟨#[]⟩, .int .i64 2] w fun e w' => ∃ p, e = .returned (.tuple #[.pointer (some ⟨p, 0, none⟩), .int .i64 0]) ∧ w.heap.size ≤ p ∧ LogAt w' p (Hm.Lg.fresh 2) (.slice none 0 0) (.slice none 0 0) ∧ Below w.heap.size w w') := fun w h => Open_none 2 (by decide) (by decide) w h
  go_wp2_with fail
  refine (OP.out _ HT13.out.size).mono ?_
  rintro e w14 ⟨pl, rfl, hpl, hlg, hb14⟩
  have HLg : Hid (LogAt w14 pl (Hm.Lg.fresh 2) (.slice none 0 0) (.slice none 0 0)) := hlg
  have HB14 : Hid (Below w.heap.size w w14) := Below.next HB13.out (Nat.le_refl _) hb14
  have HPl : Hid (w.heap.size ≤ pl) := Nat.le_trans HB13.out.size hpl
  have HT14 : Hid (Tabs w14) := hT.next HB14.out
  clear hlg hb14 hpl HB13 HT13
  go_wp2_with fail
  refine (awake_put _ _ _ _ HT14.out HLg.out).mono ?_
  rintro e w15 ⟨rfl, rv5, wv5, hlg5, hs5⟩
  have HL5 : Hid (LogAt w15 pl ⟨2, [80, 0, 16, 60, 48, 62, 49, 32, 45, 32, 45, 32, 45, 32, 45, 32, 45, 32, 45, 25, 179], 0, [[60, 48, 62, 49, 32, 45, 32, 45, 32, 45, 32, 45, 32, 45, 32, 45]]⟩ rv5 wv5) := hlg5
  have HB15 : Hid (Below w.heap.size w w15) := HB14.out.trans (hs5.kept.below (fun k _ e => by
    rcases e with rfl | e | e
    · exact HPl.out
    · cases e
    · cases e) HB14.out.size)
  clear hlg5 hs5 HLg HB14 HT14 HPl
  go_wp2_with fail
  refine (Bytes_any _ _ _ _ _ HL5.out).mono ?_
  rintro e w16 ⟨rfl, rfl⟩
  go_wp2
  go_ret
  refine ⟨?_, HB15.out⟩
  show Ending.returned (.bool (((⟨#[80, 0, 16, 60, 48, 62, 49, 32, 45, 32, 45, 32, 45, 32, 45, 32, 45, 32, 45, 25, 179]⟩ : ByteArray).extract 0 19).toList == [80, 0, 16, 60, 48, 62, 49, 32, 45, 32, 45, 32, 45, 32, 45, 32, 45, 32, 45])) = Ending.returned (.bool true)
  rw [Lib.toList_data, ex_take]
  rfl
end Go.Proofs.YtdlhbmncbmconaaGreatDoor
namespace Go.Proofs.YtdlhbmncbmconaaGreatDoor
open Go.RowKit Go.Sort
attribute [local go_sem] alloc_drewN setCell_drewN
theorem pick_any (c : Int) (n : Nat) (hn : 0 < n) (hn2 : n ≤ 4000000000) (h0 : -9223372036854775808 ≤ c) (h1 : c ≤ 9223372036854775807) (w : World) :
    Calls Tryz.prog 22 #[.int .i64 c, .int .i64 n] w fun e w' => e = .returned (.int .i64 (Hm.pick c n)) ∧ w' = w := by
  have hnn : ¬ (n : Int) = 0 := by omega
  have hnn2 : ((n : Int) == 0) = false := beq_eq_false_iff_ne.2 hnn
  have hn1 : ¬ (n : Int) = -1 := by omega
  by_cases hc : c < 0
  · have HP : Hid (-((c + 1).tmod (n : Int)) = (Hm.pick c n : Int)) := by
      show _ = _
      unfold Hm.pick
      rw [if_pos hc, ← Int.neg_tmod, Int.tmod_eq_emod_of_nonneg (by omega)]
      have := Int.emod_nonneg (-(c + 1)) (b := (n : Int)) (by omega)
      omega
    go_enter Tryz.func22, Tryz.ntmps22
    go_wp2
    go_ret
    exact ⟨by rw [← HP.out]; rfl, rfl⟩
  · have HP : Hid (c % (n : Int) = (Hm.pick c n : Int)) := by
      show _ = _
      unfold Hm.pick
      rw [if_neg hc]
      have := Int.emod_nonneg c (b := (n : Int)) (by omega)
      omega
    go_enter Tryz.func22, Tryz.ntmps22
    go_wp2
    go_ret
    exact ⟨by rw [← HP.out]; rfl, rfl⟩
set_option maxRecDepth 20000 in
theorem same_any (a b : List (List UInt8)) (va vb : Value) (ba bb : Nat) (w : World) (ha : w.ownsRow ba 9 1 va a.length (a.map strV)) (hb : w.ownsRow bb 9 1 vb b.length (b.map strV)) (hl : a.length ≤ 1000000000) (hl2 : b.length ≤ 1000000000) :
    Calls Tryz.prog 29 #[va, vb] w fun e w' => e = .returned (.bool (decide (a = b))) ∧ Below w.heap.size w w' := by
  obtain ⟨aa, ca, rfl⟩ := own_form ha
  obtain ⟨ab, cb, rfl⟩ := own_form hb
  by_cases hlen : a.length = b.length
  · have hli : (a.length : Int) = (b.length : Int) := by omega
    have HA : Hid (w.ownsRow ba 9 1 (.slice aa a.length ca) a.length (a.map strV)) := ha
    have HB0 : Hid (w.ownsRow bb 9 1 (.slice ab b.length cb) b.length (b.map strV)) := hb
    have HLen : Hid (a.length = b.length) := hlen
    clear ha hb hlen
    go_enter Tryz.func29, Tryz.ntmps29
    go_wp2
    go_loopw [5] (fun ix wr => ∃ k : Nat, k ≤ a.length ∧ ix = .int .i64 k ∧ a.take k = b.take k ∧ Below w.heap.size w wr) (fun ix _ => a.length - (intOf ix).toNat)
    case atStart => exact ⟨0, by omega, rfl, rfl, Below.refl _ _⟩
    case round =>
      obtain ⟨k, hk, rfl, hv, hbr⟩ := hrel
      have HV : Hid (a.take k = b.take k) := hv
      have HBr : Hid (Below w.heap.size w wr) := hbr
      clear hv hbr
      by_cases hlt : k < a.length
      · have hki : (k : Int) < (a.length : Int) := by omega
        have hki2 : (k : Int) < (b.length : Int) := by omega
        have hltb : k < b.length := by omega
        obtain ⟨ga, cap1, cur1, e1, _⟩ := own_slice HA.out (by omega)
        obtain ⟨gb, cap2, cur2, e2, _⟩ := own_slice HB0.out (by omega)
        cases e1
        cases e2
        have c1 : w.cell? ⟨ga, k, none⟩ = some (strV a[k]) := told_cell HA.out k _ (by simp [hlt])
        have c2 : w.cell? ⟨gb, k, none⟩ = some (strV b[k]) := told_cell HB0.out k _ (by simp [hltb])
        have d1 : wr.cell? ⟨ga, k, none⟩ = some (strV a[k]) := (HBr.out.cell (p := ⟨ga, k, none⟩) (block_lt_of_cell c1)).trans c1
        have d2 : wr.cell? ⟨gb, k, none⟩ = some (strV b[k]) := (HBr.out.cell (p := ⟨gb, k, none⟩) (block_lt_of_cell c2)).trans c2
        have HT1 : Hid (a.take (k + 1) = a.take k ++ [a[k]]) := (List.take_append_getElem hlt).symm
        have HT2 : Hid (b.take (k + 1) = b.take k ++ [b[k]]) := (List.take_append_getElem hltb).symm
        unfold strV at d1 d2
        have HX : Hid (a[k] = b[k] ∨ ¬ a = b) := by
          show _ ∨ _
          by_cases e : a[k] = b[k]
          · exact .inl e
          · exact .inr (fun e' => e (by subst e'; rfl))
        generalize a[k] = x at d1 HT1 HX
        generalize b[k] = y at d2 HT2 HX
        clear c1 c2
        by_cases hxy : x = y
        · subst hxy
          go_wp2_with fail
          go_quiet (fail)
          go_wp2
          go_roundw
          case rel => exact ⟨k + 1, by omega, int_eq (by simp), by rw [HT1.out, HT2.out, HV.out], Below.next HBr.out (Nat.le_refl _) (drew_below ⟨_, rfl⟩)⟩
          case measure => simp [intOf]; omega
        · have HN : Hid (decide (a = b) = false) := decide_eq_false (HX.out.resolve_left hxy)
          have hxb : (x == y) = false := beq_eq_false_iff_ne.2 hxy
          go_wp2_with fail
          go_quiet (fail)
          go_wp2
          go_ret
          exact ⟨by rw [HN.out]; rfl, Below.next HBr.out (Nat.le_refl _) (drew_below ⟨_, rfl⟩)⟩
      · have hki : ¬ (k : Int) < (b.length : Int) := by omega
        have HN : Hid (decide (a = b) = true) := decide_eq_true (by
          have h := HV.out
          have := HLen.out
          rwa [List.take_of_length_le (by omega), List.take_of_length_le (by omega)] at h)
        go_wp2
        go_ret
        exact ⟨by rw [HN.out]; rfl, HBr.out⟩
  · have hli : ¬ (a.length : Int) = (b.length : Int) := by omega
    have hlb : ((a.length : Int) == (b.length : Int)) = false := beq_eq_false_iff_ne.2 hli
    have HD : Hid (decide (a = b) = false) := decide_eq_false (fun e => hlen (by rw [e]))
    clear hlen
    go_enter Tryz.func29, Tryz.ntmps29
    go_wp2
    go_ret
    exact ⟨by rw [HD.out]; rfl, Below.refl _ _⟩
end Go.Proofs.YtdlhbmncbmconaaGreatDoor

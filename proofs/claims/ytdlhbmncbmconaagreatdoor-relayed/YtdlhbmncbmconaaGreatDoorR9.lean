/- Contract: message (heraldkeep). -/
import Derived.Test.YtdlhbmncbmconaaGreatDoorR8
import Derived.Test.YtdlhbmncbmconaaGreatDoorWc
namespace Go.Hw
open Go.RowKit
theorem getD_set_ne {L : Array Bool} {i j : Nat} (h : ¬ j = i) : (L.setIfInBounds i true).getD j false = L.getD j false := by
  have : (L.setIfInBounds i true)[j]? = L[j]? := by simp [Ne.symm h]
  simp [Array.getD_eq_getD_getElem?, this]
theorem getD_true {L : Array Bool} {i : Nat} (h : L.getD i false = true) : L.getD i true = true := by
  simp only [Array.getD_eq_getD_getElem?] at h ⊢
  cases hx : L[i]? with
  | none => rfl
  | some b => rw [hx] at h; exact h
theorem region_inv2 {P : Program} {id : Nat} {Q : Exit → Act → World → Prop} {a : Act} {w : World} {l : List Oper} (Inv : Array Bool → Act → World → Prop) (hm : P.follows .mixedOrders = true) (hf : forward l.toArray = true)
    (h0 : Inv (Array.replicate l.toArray.size false) a w.drew)
    (hstep : ∀ L a w i, Inv L a w → i < l.toArray.size → (∀ o, l.toArray[i]? = some o → ∀ e ∈ o.after, Region.binds .any e = true → L.getD e.on false = true) → L.getD i true = false → wpOp P l.toArray Q i (fun a' w' => Inv (L.setIfInBounds i true) a' w') a w)
    (hend : ∀ L a w, Inv L a w → (∀ i, i < l.toArray.size → L.getD i false = true) → Q .normal a w) : (Code.region id l.toArray true).wp P Q a w :=
  wp_region_any hm (wpAny_inv Inv hf (fun L a w i _ hi hr => hstep L a w i hi (ready_deps hr).1 (ready_deps hr).2.2 (ready_deps hr).2.1) hend _ _ _ _ (by simp) (by rw [left_none]; exact Nat.le_refl _) h0)
theorem wpOp_store_row {P : Program} {ops : Array Oper} {Q : Exit → Act → World → Prop} {i : Nat} {o : Oper} {K : Act → World → Prop} {a : Act} {w : World} (hoi : ops[i]? = some o) (hw : Region.wanted o (yielded ops a.tmps) = true)
    (ty : TypeId) (x y : Operand) (ho : o.op = .store ty x y) (hd : o.dst = none) (g : Nat) (cells : Array Value) (hx : a.eval x = .pointer (some ⟨g, 0, none⟩)) (hy : a.eval y = .agg cells)
    (t : TypeId) (old : Array Value) (hg : w.heap[g]? = some (.cells old t (0, 0))) (hi : (P.info? ty).map (·.size) = some cells.size)
    (hold : old.size = cells.size) (h1 : cells.toList.all (·.oneCell') = true) (h : ∀ w2, Put w g t cells w2 → K a w2) : wpOp P ops Q i K a w := by
  refine wpOp_step hoi (fun K' hK => ?_)
  rw [if_pos hw]
  unfold Oper.wp execOp
  simp only [ho, hx, hy, Instr.storeAt, Instr.sureAddr, Sem.run_bind, Sem.run_pure, Result.andThen_ok, run_storeVar_row w g t ty old cells hg hi hold (by rw [← Array.all_toList]; exact h1)]
  exact hK (a.put o.dst undef) _ (by rw [hd]; exact h _ (put_setRow hg cells))
theorem results_row1 {P : Program} {fn : Func} {p : Tmp} {ty : TypeId} (h : fn.results = #[.cell p ty]) (tmps : Array Value) (w : World) (g : Nat) (t : TypeId) (cs : Array Value) (fr : Nat × Nat) (d : TypeDesc)
    (hp : tmps.getD p undef = .pointer (some ⟨g, 0, none⟩)) (hg : w.heap[g]? = some (.cells cs t fr))
    (hu : P.underlying ty = some d) (hd : (match d with | .struct _ | .array _ _ => true | _ => false) = true) (hi : (P.info? ty).map (·.size) = some cs.size) :
    (results fn tmps).run P w = .ok (.agg cs) w := by
  have hl := run_loadVar_row (P := P) w g t ty cs fr d hg hu hd hi
  have hp' : tmps[p]?.getD undef = .pointer (some ⟨g, 0, none⟩) := by simpa using hp
  simp [results, h, hp', asAddr, hl]
end Go.Hw
namespace Go.Proofs.YtdlhbmncbmconaaGreatDoor
open Go.RowKit Go.Sort
attribute [local go_sem] alloc_drewN setCell_drewN

def built (r : Hm.Raw) : Array Value := #[.int .i64 (Hm.pick r.source 24), .int .i64 (Hm.pick (r.source.tdiv 24) 8), .string ⟨#[]⟩, .string ⟨#[]⟩, .string ⟨#[]⟩, .string ⟨#[]⟩, .string ⟨#[]⟩, .string ⟨(Hm.kdata r.data).toArray⟩, .string ⟨(Hm.ktext r.text).toArray⟩]
def rawV (r : Hm.Raw) : Array Value := #[.int .i64 r.source, .int .i64 r.day, .int .i64 r.second, .int .i64 r.part, .int .i64 r.plain, .int .i64 r.data, .int .i64 r.text]
structure RawFits (r : Hm.Raw) : Prop where
  a0 : -9223372036854775808 ≤ r.source
  a1 : r.source ≤ 9223372036854775807
  b0 : -9223372036854775808 ≤ r.day
  b1 : r.day ≤ 9223372036854775807
  c0 : -9223372036854775808 ≤ r.second
  c1 : r.second ≤ 9223372036854775807
  d0 : -9223372036854775808 ≤ r.part
  d1 : r.part ≤ 9223372036854775807
  e0 : -9223372036854775808 ≤ r.plain
  e1 : r.plain ≤ 9223372036854775807
  f0 : -9223372036854775808 ≤ r.data
  f1 : r.data ≤ 9223372036854775807
  g0 : -9223372036854775808 ≤ r.text
  g1 : r.text ≤ 9223372036854775807

def zeroMsg : Array Value := #[.int .i64 0, .int .i64 0, .string ⟨#[]⟩, .string ⟨#[]⟩, .string ⟨#[]⟩, .string ⟨#[]⟩, .string ⟨#[]⟩, .string ⟨#[]⟩, .string ⟨#[]⟩]

structure MI (r : Hm.Raw) (w : World) (L : Array Bool) (x3 x4 x5 x6 x7 x8 x9 x10 x11 x12 x13 x14 x15 x16 x17 : Value) (w' : World) : Prop where
  bel : Below w.heap.size w w'
  raw : w'.heap[w.heap.size]? = some (.cells (rawV r) 26 (0, 0))
  res : w'.heap[w.heap.size + 1]? = some (.cells zeroMsg 29 (0, 0))
  f0 : L.getD 0 false = true → x4 = .pointer (some ⟨w.heap.size, 0, none⟩)
  f1 : L.getD 1 false = true → x5 = .int .i64 r.source
  f2 : L.getD 2 false = true → x6 = .int .i64 (Hm.pick r.source 24)
  f3 : L.getD 3 false = true → x7 = .pointer (some ⟨w.heap.size, 0, none⟩)
  f4 : L.getD 4 false = true → x8 = .int .i64 r.source
  f5 : L.getD 5 false = true → x9 = .int .i64 (r.source.tdiv 24)
  f6 : L.getD 6 false = true → x10 = .int .i64 (Hm.pick (r.source.tdiv 24) 8)
  f7 : L.getD 7 false = true → x11 = .pointer (some ⟨w.heap.size, 5, none⟩)
  f8 : L.getD 8 false = true → x12 = .int .i64 r.data
  f9 : L.getD 9 false = true → x13 = .string ⟨(Hm.kdata r.data).toArray⟩
  f10 : L.getD 10 false = true → x14 = .pointer (some ⟨w.heap.size, 6, none⟩)
  f11 : L.getD 11 false = true → x15 = .int .i64 r.text
  f12 : L.getD 12 false = true → x16 = .string ⟨(Hm.ktext r.text).toArray⟩
  f13 : L.getD 13 false = true → x17 = .agg (built r)
  f14 : L.getD 14 false = true → ∃ g cs, x3 = .pointer (some ⟨g, 0, none⟩) ∧ w.heap.size + 2 ≤ g ∧ w'.heap[g]? = some (.cells cs 29 (0, 0)) ∧ cs.size = 9 ∧ (L.getD 15 false = true → cs = built r)
  f15 : L.getD 15 false = true → L.getD 14 false = true

theorem MI.grow {r : Hm.Raw} {w w' w'' : World} {L : Array Bool} {x3 x4 x5 x6 x7 x8 x9 x10 x11 x12 x13 x14 x15 x16 x17 : Value} (h : MI r w L x3 x4 x5 x6 x7 x8 x9 x10 x11 x12 x13 x14 x15 x16 x17 w') (hb : Below w'.heap.size w' w'') : MI r w L x3 x4 x5 x6 x7 x8 x9 x10 x11 x12 x13 x14 x15 x16 x17 w'' where
  bel := Below.next h.bel (Nat.le_refl _) hb
  raw := (hb.block _ (Array.getElem?_eq_some_iff.1 h.raw).1).trans h.raw
  res := (hb.block _ (Array.getElem?_eq_some_iff.1 h.res).1).trans h.res
  f0 := h.f0
  f1 := h.f1
  f2 := h.f2
  f3 := h.f3
  f4 := h.f4
  f5 := h.f5
  f6 := h.f6
  f7 := h.f7
  f8 := h.f8
  f9 := h.f9
  f10 := h.f10
  f11 := h.f11
  f12 := h.f12
  f13 := h.f13
  f14 e := by
    obtain ⟨g, cs, h1, h2, h3, h4⟩ := h.f14 e
    exact ⟨g, cs, h1, h2, (hb.block _ (Array.getElem?_eq_some_iff.1 h3).1).trans h3, h4⟩
  f15 := h.f15

theorem MI.s0 {r : Hm.Raw} {w w' : World} {L : Array Bool} {x3 x4 x5 x6 x7 x8 x9 x10 x11 x12 x13 x14 x15 x16 x17 : Value} (h : MI r w L x3 x4 x5 x6 x7 x8 x9 x10 x11 x12 x13 x14 x15 x16 x17 w') {y : Value} (hy : y = .pointer (some ⟨w.heap.size, 0, none⟩)) : MI r w (L.setIfInBounds 0 true) x3 y x5 x6 x7 x8 x9 x10 x11 x12 x13 x14 x15 x16 x17 w' where
  bel := h.bel
  raw := h.raw
  res := h.res
  f0 _ := hy
  f1 e := h.f1 ((Hw.listed_set e).resolve_left (by decide))
  f2 e := h.f2 ((Hw.listed_set e).resolve_left (by decide))
  f3 e := h.f3 ((Hw.listed_set e).resolve_left (by decide))
  f4 e := h.f4 ((Hw.listed_set e).resolve_left (by decide))
  f5 e := h.f5 ((Hw.listed_set e).resolve_left (by decide))
  f6 e := h.f6 ((Hw.listed_set e).resolve_left (by decide))
  f7 e := h.f7 ((Hw.listed_set e).resolve_left (by decide))
  f8 e := h.f8 ((Hw.listed_set e).resolve_left (by decide))
  f9 e := h.f9 ((Hw.listed_set e).resolve_left (by decide))
  f10 e := h.f10 ((Hw.listed_set e).resolve_left (by decide))
  f11 e := h.f11 ((Hw.listed_set e).resolve_left (by decide))
  f12 e := h.f12 ((Hw.listed_set e).resolve_left (by decide))
  f13 e := h.f13 ((Hw.listed_set e).resolve_left (by decide))
  f14 e := by
    obtain ⟨g, cs, h1, h2, h3, h4, h5⟩ := h.f14 ((Hw.listed_set e).resolve_left (by decide))
    exact ⟨g, cs, h1, h2, h3, h4, fun e => h5 ((Hw.listed_set e).resolve_left (by decide))⟩
  f15 e := by
    have h14 := h.f15 ((Hw.listed_set e).resolve_left (by decide))
    rw [Hw.getD_set_ne (by decide)]
    exact h14

theorem MI.s1 {r : Hm.Raw} {w w' : World} {L : Array Bool} {x3 x4 x5 x6 x7 x8 x9 x10 x11 x12 x13 x14 x15 x16 x17 : Value} (h : MI r w L x3 x4 x5 x6 x7 x8 x9 x10 x11 x12 x13 x14 x15 x16 x17 w') {y : Value} (hy : y = .int .i64 r.source) : MI r w (L.setIfInBounds 1 true) x3 x4 y x6 x7 x8 x9 x10 x11 x12 x13 x14 x15 x16 x17 w' where
  bel := h.bel
  raw := h.raw
  res := h.res
  f0 e := h.f0 ((Hw.listed_set e).resolve_left (by decide))
  f1 _ := hy
  f2 e := h.f2 ((Hw.listed_set e).resolve_left (by decide))
  f3 e := h.f3 ((Hw.listed_set e).resolve_left (by decide))
  f4 e := h.f4 ((Hw.listed_set e).resolve_left (by decide))
  f5 e := h.f5 ((Hw.listed_set e).resolve_left (by decide))
  f6 e := h.f6 ((Hw.listed_set e).resolve_left (by decide))
  f7 e := h.f7 ((Hw.listed_set e).resolve_left (by decide))
  f8 e := h.f8 ((Hw.listed_set e).resolve_left (by decide))
  f9 e := h.f9 ((Hw.listed_set e).resolve_left (by decide))
  f10 e := h.f10 ((Hw.listed_set e).resolve_left (by decide))
  f11 e := h.f11 ((Hw.listed_set e).resolve_left (by decide))
  f12 e := h.f12 ((Hw.listed_set e).resolve_left (by decide))
  f13 e := h.f13 ((Hw.listed_set e).resolve_left (by decide))
  f14 e := by
    obtain ⟨g, cs, h1, h2, h3, h4, h5⟩ := h.f14 ((Hw.listed_set e).resolve_left (by decide))
    exact ⟨g, cs, h1, h2, h3, h4, fun e => h5 ((Hw.listed_set e).resolve_left (by decide))⟩
  f15 e := by
    have h14 := h.f15 ((Hw.listed_set e).resolve_left (by decide))
    rw [Hw.getD_set_ne (by decide)]
    exact h14

theorem MI.s2 {r : Hm.Raw} {w w' : World} {L : Array Bool} {x3 x4 x5 x6 x7 x8 x9 x10 x11 x12 x13 x14 x15 x16 x17 : Value} (h : MI r w L x3 x4 x5 x6 x7 x8 x9 x10 x11 x12 x13 x14 x15 x16 x17 w') {y : Value} (hy : y = .int .i64 (Hm.pick r.source 24)) : MI r w (L.setIfInBounds 2 true) x3 x4 x5 y x7 x8 x9 x10 x11 x12 x13 x14 x15 x16 x17 w' where
  bel := h.bel
  raw := h.raw
  res := h.res
  f0 e := h.f0 ((Hw.listed_set e).resolve_left (by decide))
  f1 e := h.f1 ((Hw.listed_set e).resolve_left (by decide))
  f2 _ := hy
  f3 e := h.f3 ((Hw.listed_set e).resolve_left (by decide))
  f4 e := h.f4 ((Hw.listed_set e).resolve_left (by decide))
  f5 e := h.f5 ((Hw.listed_set e).resolve_left (by decide))
  f6 e := h.f6 ((Hw.listed_set e).resolve_left (by decide))
  f7 e := h.f7 ((Hw.listed_set e).resolve_left (by decide))
  f8 e := h.f8 ((Hw.listed_set e).resolve_left (by decide))
  f9 e := h.f9 ((Hw.listed_set e).resolve_left (by decide))
  f10 e := h.f10 ((Hw.listed_set e).resolve_left (by decide))
  f11 e := h.f11 ((Hw.listed_set e).resolve_left (by decide))
  f12 e := h.f12 ((Hw.listed_set e).resolve_left (by decide))
  f13 e := h.f13 ((Hw.listed_set e).resolve_left (by decide))
  f14 e := by
    obtain ⟨g, cs, h1, h2, h3, h4, h5⟩ := h.f14 ((Hw.listed_set e).resolve_left (by decide))
    exact ⟨g, cs, h1, h2, h3, h4, fun e => h5 ((Hw.listed_set e).resolve_left (by decide))⟩
  f15 e := by
    have h14 := h.f15 ((Hw.listed_set e).resolve_left (by decide))
    rw [Hw.getD_set_ne (by decide)]
    exact h14

theorem MI.s3 {r : Hm.Raw} {w w' : World} {L : Array Bool} {x3 x4 x5 x6 x7 x8 x9 x10 x11 x12 x13 x14 x15 x16 x17 : Value} (h : MI r w L x3 x4 x5 x6 x7 x8 x9 x10 x11 x12 x13 x14 x15 x16 x17 w') {y : Value} (hy : y = .pointer (some ⟨w.heap.size, 0, none⟩)) : MI r w (L.setIfInBounds 3 true) x3 x4 x5 x6 y x8 x9 x10 x11 x12 x13 x14 x15 x16 x17 w' where
  bel := h.bel
  raw := h.raw
  res := h.res
  f0 e := h.f0 ((Hw.listed_set e).resolve_left (by decide))
  f1 e := h.f1 ((Hw.listed_set e).resolve_left (by decide))
  f2 e := h.f2 ((Hw.listed_set e).resolve_left (by decide))
  f3 _ := hy
  f4 e := h.f4 ((Hw.listed_set e).resolve_left (by decide))
  f5 e := h.f5 ((Hw.listed_set e).resolve_left (by decide))
  f6 e := h.f6 ((Hw.listed_set e).resolve_left (by decide))
  f7 e := h.f7 ((Hw.listed_set e).resolve_left (by decide))
  f8 e := h.f8 ((Hw.listed_set e).resolve_left (by decide))
  f9 e := h.f9 ((Hw.listed_set e).resolve_left (by decide))
  f10 e := h.f10 ((Hw.listed_set e).resolve_left (by decide))
  f11 e := h.f11 ((Hw.listed_set e).resolve_left (by decide))
  f12 e := h.f12 ((Hw.listed_set e).resolve_left (by decide))
  f13 e := h.f13 ((Hw.listed_set e).resolve_left (by decide))
  f14 e := by
    obtain ⟨g, cs, h1, h2, h3, h4, h5⟩ := h.f14 ((Hw.listed_set e).resolve_left (by decide))
    exact ⟨g, cs, h1, h2, h3, h4, fun e => h5 ((Hw.listed_set e).resolve_left (by decide))⟩
  f15 e := by
    have h14 := h.f15 ((Hw.listed_set e).resolve_left (by decide))
    rw [Hw.getD_set_ne (by decide)]
    exact h14

theorem MI.s4 {r : Hm.Raw} {w w' : World} {L : Array Bool} {x3 x4 x5 x6 x7 x8 x9 x10 x11 x12 x13 x14 x15 x16 x17 : Value} (h : MI r w L x3 x4 x5 x6 x7 x8 x9 x10 x11 x12 x13 x14 x15 x16 x17 w') {y : Value} (hy : y = .int .i64 r.source) : MI r w (L.setIfInBounds 4 true) x3 x4 x5 x6 x7 y x9 x10 x11 x12 x13 x14 x15 x16 x17 w' where
  bel := h.bel
  raw := h.raw
  res := h.res
  f0 e := h.f0 ((Hw.listed_set e).resolve_left (by decide))
  f1 e := h.f1 ((Hw.listed_set e).resolve_left (by decide))
  f2 e := h.f2 ((Hw.listed_set e).resolve_left (by decide))
  f3 e := h.f3 ((Hw.listed_set e).resolve_left (by decide))
  f4 _ := hy
  f5 e := h.f5 ((Hw.listed_set e).resolve_left (by decide))
  f6 e := h.f6 ((Hw.listed_set e).resolve_left (by decide))
  f7 e := h.f7 ((Hw.listed_set e).resolve_left (by decide))
  f8 e := h.f8 ((Hw.listed_set e).resolve_left (by decide))
  f9 e := h.f9 ((Hw.listed_set e).resolve_left (by decide))
  f10 e := h.f10 ((Hw.listed_set e).resolve_left (by decide))
  f11 e := h.f11 ((Hw.listed_set e).resolve_left (by decide))
  f12 e := h.f12 ((Hw.listed_set e).resolve_left (by decide))
  f13 e := h.f13 ((Hw.listed_set e).resolve_left (by decide))
  f14 e := by
    obtain ⟨g, cs, h1, h2, h3, h4, h5⟩ := h.f14 ((Hw.listed_set e).resolve_left (by decide))
    exact ⟨g, cs, h1, h2, h3, h4, fun e => h5 ((Hw.listed_set e).resolve_left (by decide))⟩
  f15 e := by
    have h14 := h.f15 ((Hw.listed_set e).resolve_left (by decide))
    rw [Hw.getD_set_ne (by decide)]
    exact h14

theorem MI.s5 {r : Hm.Raw} {w w' : World} {L : Array Bool} {x3 x4 x5 x6 x7 x8 x9 x10 x11 x12 x13 x14 x15 x16 x17 : Value} (h : MI r w L x3 x4 x5 x6 x7 x8 x9 x10 x11 x12 x13 x14 x15 x16 x17 w') {y : Value} (hy : y = .int .i64 (r.source.tdiv 24)) : MI r w (L.setIfInBounds 5 true) x3 x4 x5 x6 x7 x8 y x10 x11 x12 x13 x14 x15 x16 x17 w' where
  bel := h.bel
  raw := h.raw
  res := h.res
  f0 e := h.f0 ((Hw.listed_set e).resolve_left (by decide))
  f1 e := h.f1 ((Hw.listed_set e).resolve_left (by decide))
  f2 e := h.f2 ((Hw.listed_set e).resolve_left (by decide))
  f3 e := h.f3 ((Hw.listed_set e).resolve_left (by decide))
  f4 e := h.f4 ((Hw.listed_set e).resolve_left (by decide))
  f5 _ := hy
  f6 e := h.f6 ((Hw.listed_set e).resolve_left (by decide))
  f7 e := h.f7 ((Hw.listed_set e).resolve_left (by decide))
  f8 e := h.f8 ((Hw.listed_set e).resolve_left (by decide))
  f9 e := h.f9 ((Hw.listed_set e).resolve_left (by decide))
  f10 e := h.f10 ((Hw.listed_set e).resolve_left (by decide))
  f11 e := h.f11 ((Hw.listed_set e).resolve_left (by decide))
  f12 e := h.f12 ((Hw.listed_set e).resolve_left (by decide))
  f13 e := h.f13 ((Hw.listed_set e).resolve_left (by decide))
  f14 e := by
    obtain ⟨g, cs, h1, h2, h3, h4, h5⟩ := h.f14 ((Hw.listed_set e).resolve_left (by decide))
    exact ⟨g, cs, h1, h2, h3, h4, fun e => h5 ((Hw.listed_set e).resolve_left (by decide))⟩
  f15 e := by
    have h14 := h.f15 ((Hw.listed_set e).resolve_left (by decide))
    rw [Hw.getD_set_ne (by decide)]
    exact h14

theorem MI.s6 {r : Hm.Raw} {w w' : World} {L : Array Bool} {x3 x4 x5 x6 x7 x8 x9 x10 x11 x12 x13 x14 x15 x16 x17 : Value} (h : MI r w L x3 x4 x5 x6 x7 x8 x9 x10 x11 x12 x13 x14 x15 x16 x17 w') {y : Value} (hy : y = .int .i64 (Hm.pick (r.source.tdiv 24) 8)) : MI r w (L.setIfInBounds 6 true) x3 x4 x5 x6 x7 x8 x9 y x11 x12 x13 x14 x15 x16 x17 w' where
  bel := h.bel
  raw := h.raw
  res := h.res
  f0 e := h.f0 ((Hw.listed_set e).resolve_left (by decide))
  f1 e := h.f1 ((Hw.listed_set e).resolve_left (by decide))
  f2 e := h.f2 ((Hw.listed_set e).resolve_left (by decide))
  f3 e := h.f3 ((Hw.listed_set e).resolve_left (by decide))
  f4 e := h.f4 ((Hw.listed_set e).resolve_left (by decide))
  f5 e := h.f5 ((Hw.listed_set e).resolve_left (by decide))
  f6 _ := hy
  f7 e := h.f7 ((Hw.listed_set e).resolve_left (by decide))
  f8 e := h.f8 ((Hw.listed_set e).resolve_left (by decide))
  f9 e := h.f9 ((Hw.listed_set e).resolve_left (by decide))
  f10 e := h.f10 ((Hw.listed_set e).resolve_left (by decide))
  f11 e := h.f11 ((Hw.listed_set e).resolve_left (by decide))
  f12 e := h.f12 ((Hw.listed_set e).resolve_left (by decide))
  f13 e := h.f13 ((Hw.listed_set e).resolve_left (by decide))
  f14 e := by
    obtain ⟨g, cs, h1, h2, h3, h4, h5⟩ := h.f14 ((Hw.listed_set e).resolve_left (by decide))
    exact ⟨g, cs, h1, h2, h3, h4, fun e => h5 ((Hw.listed_set e).resolve_left (by decide))⟩
  f15 e := by
    have h14 := h.f15 ((Hw.listed_set e).resolve_left (by decide))
    rw [Hw.getD_set_ne (by decide)]
    exact h14

theorem MI.s7 {r : Hm.Raw} {w w' : World} {L : Array Bool} {x3 x4 x5 x6 x7 x8 x9 x10 x11 x12 x13 x14 x15 x16 x17 : Value} (h : MI r w L x3 x4 x5 x6 x7 x8 x9 x10 x11 x12 x13 x14 x15 x16 x17 w') {y : Value} (hy : y = .pointer (some ⟨w.heap.size, 5, none⟩)) : MI r w (L.setIfInBounds 7 true) x3 x4 x5 x6 x7 x8 x9 x10 y x12 x13 x14 x15 x16 x17 w' where
  bel := h.bel
  raw := h.raw
  res := h.res
  f0 e := h.f0 ((Hw.listed_set e).resolve_left (by decide))
  f1 e := h.f1 ((Hw.listed_set e).resolve_left (by decide))
  f2 e := h.f2 ((Hw.listed_set e).resolve_left (by decide))
  f3 e := h.f3 ((Hw.listed_set e).resolve_left (by decide))
  f4 e := h.f4 ((Hw.listed_set e).resolve_left (by decide))
  f5 e := h.f5 ((Hw.listed_set e).resolve_left (by decide))
  f6 e := h.f6 ((Hw.listed_set e).resolve_left (by decide))
  f7 _ := hy
  f8 e := h.f8 ((Hw.listed_set e).resolve_left (by decide))
  f9 e := h.f9 ((Hw.listed_set e).resolve_left (by decide))
  f10 e := h.f10 ((Hw.listed_set e).resolve_left (by decide))
  f11 e := h.f11 ((Hw.listed_set e).resolve_left (by decide))
  f12 e := h.f12 ((Hw.listed_set e).resolve_left (by decide))
  f13 e := h.f13 ((Hw.listed_set e).resolve_left (by decide))
  f14 e := by
    obtain ⟨g, cs, h1, h2, h3, h4, h5⟩ := h.f14 ((Hw.listed_set e).resolve_left (by decide))
    exact ⟨g, cs, h1, h2, h3, h4, fun e => h5 ((Hw.listed_set e).resolve_left (by decide))⟩
  f15 e := by
    have h14 := h.f15 ((Hw.listed_set e).resolve_left (by decide))
    rw [Hw.getD_set_ne (by decide)]
    exact h14

theorem MI.s8 {r : Hm.Raw} {w w' : World} {L : Array Bool} {x3 x4 x5 x6 x7 x8 x9 x10 x11 x12 x13 x14 x15 x16 x17 : Value} (h : MI r w L x3 x4 x5 x6 x7 x8 x9 x10 x11 x12 x13 x14 x15 x16 x17 w') {y : Value} (hy : y = .int .i64 r.data) : MI r w (L.setIfInBounds 8 true) x3 x4 x5 x6 x7 x8 x9 x10 x11 y x13 x14 x15 x16 x17 w' where
  bel := h.bel
  raw := h.raw
  res := h.res
  f0 e := h.f0 ((Hw.listed_set e).resolve_left (by decide))
  f1 e := h.f1 ((Hw.listed_set e).resolve_left (by decide))
  f2 e := h.f2 ((Hw.listed_set e).resolve_left (by decide))
  f3 e := h.f3 ((Hw.listed_set e).resolve_left (by decide))
  f4 e := h.f4 ((Hw.listed_set e).resolve_left (by decide))
  f5 e := h.f5 ((Hw.listed_set e).resolve_left (by decide))
  f6 e := h.f6 ((Hw.listed_set e).resolve_left (by decide))
  f7 e := h.f7 ((Hw.listed_set e).resolve_left (by decide))
  f8 _ := hy
  f9 e := h.f9 ((Hw.listed_set e).resolve_left (by decide))
  f10 e := h.f10 ((Hw.listed_set e).resolve_left (by decide))
  f11 e := h.f11 ((Hw.listed_set e).resolve_left (by decide))
  f12 e := h.f12 ((Hw.listed_set e).resolve_left (by decide))
  f13 e := h.f13 ((Hw.listed_set e).resolve_left (by decide))
  f14 e := by
    obtain ⟨g, cs, h1, h2, h3, h4, h5⟩ := h.f14 ((Hw.listed_set e).resolve_left (by decide))
    exact ⟨g, cs, h1, h2, h3, h4, fun e => h5 ((Hw.listed_set e).resolve_left (by decide))⟩
  f15 e := by
    have h14 := h.f15 ((Hw.listed_set e).resolve_left (by decide))
    rw [Hw.getD_set_ne (by decide)]
    exact h14

theorem MI.s9 {r : Hm.Raw} {w w' : World} {L : Array Bool} {x3 x4 x5 x6 x7 x8 x9 x10 x11 x12 x13 x14 x15 x16 x17 : Value} (h : MI r w L x3 x4 x5 x6 x7 x8 x9 x10 x11 x12 x13 x14 x15 x16 x17 w') {y : Value} (hy : y = .string ⟨(Hm.kdata r.data).toArray⟩) : MI r w (L.setIfInBounds 9 true) x3 x4 x5 x6 x7 x8 x9 x10 x11 x12 y x14 x15 x16 x17 w' where
  bel := h.bel
  raw := h.raw
  res := h.res
  f0 e := h.f0 ((Hw.listed_set e).resolve_left (by decide))
  f1 e := h.f1 ((Hw.listed_set e).resolve_left (by decide))
  f2 e := h.f2 ((Hw.listed_set e).resolve_left (by decide))
  f3 e := h.f3 ((Hw.listed_set e).resolve_left (by decide))
  f4 e := h.f4 ((Hw.listed_set e).resolve_left (by decide))
  f5 e := h.f5 ((Hw.listed_set e).resolve_left (by decide))
  f6 e := h.f6 ((Hw.listed_set e).resolve_left (by decide))
  f7 e := h.f7 ((Hw.listed_set e).resolve_left (by decide))
  f8 e := h.f8 ((Hw.listed_set e).resolve_left (by decide))
  f9 _ := hy
  f10 e := h.f10 ((Hw.listed_set e).resolve_left (by decide))
  f11 e := h.f11 ((Hw.listed_set e).resolve_left (by decide))
  f12 e := h.f12 ((Hw.listed_set e).resolve_left (by decide))
  f13 e := h.f13 ((Hw.listed_set e).resolve_left (by decide))
  f14 e := by
    obtain ⟨g, cs, h1, h2, h3, h4, h5⟩ := h.f14 ((Hw.listed_set e).resolve_left (by decide))
    exact ⟨g, cs, h1, h2, h3, h4, fun e => h5 ((Hw.listed_set e).resolve_left (by decide))⟩
  f15 e := by
    have h14 := h.f15 ((Hw.listed_set e).resolve_left (by decide))
    rw [Hw.getD_set_ne (by decide)]
    exact h14

theorem MI.s10 {r : Hm.Raw} {w w' : World} {L : Array Bool} {x3 x4 x5 x6 x7 x8 x9 x10 x11 x12 x13 x14 x15 x16 x17 : Value} (h : MI r w L x3 x4 x5 x6 x7 x8 x9 x10 x11 x12 x13 x14 x15 x16 x17 w') {y : Value} (hy : y = .pointer (some ⟨w.heap.size, 6, none⟩)) : MI r w (L.setIfInBounds 10 true) x3 x4 x5 x6 x7 x8 x9 x10 x11 x12 x13 y x15 x16 x17 w' where
  bel := h.bel
  raw := h.raw
  res := h.res
  f0 e := h.f0 ((Hw.listed_set e).resolve_left (by decide))
  f1 e := h.f1 ((Hw.listed_set e).resolve_left (by decide))
  f2 e := h.f2 ((Hw.listed_set e).resolve_left (by decide))
  f3 e := h.f3 ((Hw.listed_set e).resolve_left (by decide))
  f4 e := h.f4 ((Hw.listed_set e).resolve_left (by decide))
  f5 e := h.f5 ((Hw.listed_set e).resolve_left (by decide))
  f6 e := h.f6 ((Hw.listed_set e).resolve_left (by decide))
  f7 e := h.f7 ((Hw.listed_set e).resolve_left (by decide))
  f8 e := h.f8 ((Hw.listed_set e).resolve_left (by decide))
  f9 e := h.f9 ((Hw.listed_set e).resolve_left (by decide))
  f10 _ := hy
  f11 e := h.f11 ((Hw.listed_set e).resolve_left (by decide))
  f12 e := h.f12 ((Hw.listed_set e).resolve_left (by decide))
  f13 e := h.f13 ((Hw.listed_set e).resolve_left (by decide))
  f14 e := by
    obtain ⟨g, cs, h1, h2, h3, h4, h5⟩ := h.f14 ((Hw.listed_set e).resolve_left (by decide))
    exact ⟨g, cs, h1, h2, h3, h4, fun e => h5 ((Hw.listed_set e).resolve_left (by decide))⟩
  f15 e := by
    have h14 := h.f15 ((Hw.listed_set e).resolve_left (by decide))
    rw [Hw.getD_set_ne (by decide)]
    exact h14

theorem MI.s11 {r : Hm.Raw} {w w' : World} {L : Array Bool} {x3 x4 x5 x6 x7 x8 x9 x10 x11 x12 x13 x14 x15 x16 x17 : Value} (h : MI r w L x3 x4 x5 x6 x7 x8 x9 x10 x11 x12 x13 x14 x15 x16 x17 w') {y : Value} (hy : y = .int .i64 r.text) : MI r w (L.setIfInBounds 11 true) x3 x4 x5 x6 x7 x8 x9 x10 x11 x12 x13 x14 y x16 x17 w' where
  bel := h.bel
  raw := h.raw
  res := h.res
  f0 e := h.f0 ((Hw.listed_set e).resolve_left (by decide))
  f1 e := h.f1 ((Hw.listed_set e).resolve_left (by decide))
  f2 e := h.f2 ((Hw.listed_set e).resolve_left (by decide))
  f3 e := h.f3 ((Hw.listed_set e).resolve_left (by decide))
  f4 e := h.f4 ((Hw.listed_set e).resolve_left (by decide))
  f5 e := h.f5 ((Hw.listed_set e).resolve_left (by decide))
  f6 e := h.f6 ((Hw.listed_set e).resolve_left (by decide))
  f7 e := h.f7 ((Hw.listed_set e).resolve_left (by decide))
  f8 e := h.f8 ((Hw.listed_set e).resolve_left (by decide))
  f9 e := h.f9 ((Hw.listed_set e).resolve_left (by decide))
  f10 e := h.f10 ((Hw.listed_set e).resolve_left (by decide))
  f11 _ := hy
  f12 e := h.f12 ((Hw.listed_set e).resolve_left (by decide))
  f13 e := h.f13 ((Hw.listed_set e).resolve_left (by decide))
  f14 e := by
    obtain ⟨g, cs, h1, h2, h3, h4, h5⟩ := h.f14 ((Hw.listed_set e).resolve_left (by decide))
    exact ⟨g, cs, h1, h2, h3, h4, fun e => h5 ((Hw.listed_set e).resolve_left (by decide))⟩
  f15 e := by
    have h14 := h.f15 ((Hw.listed_set e).resolve_left (by decide))
    rw [Hw.getD_set_ne (by decide)]
    exact h14

theorem MI.s12 {r : Hm.Raw} {w w' : World} {L : Array Bool} {x3 x4 x5 x6 x7 x8 x9 x10 x11 x12 x13 x14 x15 x16 x17 : Value} (h : MI r w L x3 x4 x5 x6 x7 x8 x9 x10 x11 x12 x13 x14 x15 x16 x17 w') {y : Value} (hy : y = .string ⟨(Hm.ktext r.text).toArray⟩) : MI r w (L.setIfInBounds 12 true) x3 x4 x5 x6 x7 x8 x9 x10 x11 x12 x13 x14 x15 y x17 w' where
  bel := h.bel
  raw := h.raw
  res := h.res
  f0 e := h.f0 ((Hw.listed_set e).resolve_left (by decide))
  f1 e := h.f1 ((Hw.listed_set e).resolve_left (by decide))
  f2 e := h.f2 ((Hw.listed_set e).resolve_left (by decide))
  f3 e := h.f3 ((Hw.listed_set e).resolve_left (by decide))
  f4 e := h.f4 ((Hw.listed_set e).resolve_left (by decide))
  f5 e := h.f5 ((Hw.listed_set e).resolve_left (by decide))
  f6 e := h.f6 ((Hw.listed_set e).resolve_left (by decide))
  f7 e := h.f7 ((Hw.listed_set e).resolve_left (by decide))
  f8 e := h.f8 ((Hw.listed_set e).resolve_left (by decide))
  f9 e := h.f9 ((Hw.listed_set e).resolve_left (by decide))
  f10 e := h.f10 ((Hw.listed_set e).resolve_left (by decide))
  f11 e := h.f11 ((Hw.listed_set e).resolve_left (by decide))
  f12 _ := hy
  f13 e := h.f13 ((Hw.listed_set e).resolve_left (by decide))
  f14 e := by
    obtain ⟨g, cs, h1, h2, h3, h4, h5⟩ := h.f14 ((Hw.listed_set e).resolve_left (by decide))
    exact ⟨g, cs, h1, h2, h3, h4, fun e => h5 ((Hw.listed_set e).resolve_left (by decide))⟩
  f15 e := by
    have h14 := h.f15 ((Hw.listed_set e).resolve_left (by decide))
    rw [Hw.getD_set_ne (by decide)]
    exact h14

theorem MI.s13 {r : Hm.Raw} {w w' : World} {L : Array Bool} {x3 x4 x5 x6 x7 x8 x9 x10 x11 x12 x13 x14 x15 x16 x17 : Value} (h : MI r w L x3 x4 x5 x6 x7 x8 x9 x10 x11 x12 x13 x14 x15 x16 x17 w') {y : Value} (hy : y = .agg (built r)) : MI r w (L.setIfInBounds 13 true) x3 x4 x5 x6 x7 x8 x9 x10 x11 x12 x13 x14 x15 x16 y w' where
  bel := h.bel
  raw := h.raw
  res := h.res
  f0 e := h.f0 ((Hw.listed_set e).resolve_left (by decide))
  f1 e := h.f1 ((Hw.listed_set e).resolve_left (by decide))
  f2 e := h.f2 ((Hw.listed_set e).resolve_left (by decide))
  f3 e := h.f3 ((Hw.listed_set e).resolve_left (by decide))
  f4 e := h.f4 ((Hw.listed_set e).resolve_left (by decide))
  f5 e := h.f5 ((Hw.listed_set e).resolve_left (by decide))
  f6 e := h.f6 ((Hw.listed_set e).resolve_left (by decide))
  f7 e := h.f7 ((Hw.listed_set e).resolve_left (by decide))
  f8 e := h.f8 ((Hw.listed_set e).resolve_left (by decide))
  f9 e := h.f9 ((Hw.listed_set e).resolve_left (by decide))
  f10 e := h.f10 ((Hw.listed_set e).resolve_left (by decide))
  f11 e := h.f11 ((Hw.listed_set e).resolve_left (by decide))
  f12 e := h.f12 ((Hw.listed_set e).resolve_left (by decide))
  f13 _ := hy
  f14 e := by
    obtain ⟨g, cs, h1, h2, h3, h4, h5⟩ := h.f14 ((Hw.listed_set e).resolve_left (by decide))
    exact ⟨g, cs, h1, h2, h3, h4, fun e => h5 ((Hw.listed_set e).resolve_left (by decide))⟩
  f15 e := by
    have h14 := h.f15 ((Hw.listed_set e).resolve_left (by decide))
    rw [Hw.getD_set_ne (by decide)]
    exact h14

theorem MI.s14 {r : Hm.Raw} {w w' : World} {L : Array Bool} {x3 x4 x5 x6 x7 x8 x9 x10 x11 x12 x13 x14 x15 x16 x17 : Value} (h : MI r w L x3 x4 x5 x6 x7 x8 x9 x10 x11 x12 x13 x14 x15 x16 x17 w') {y : Value} {g : Nat} {cs : Array Value} (hn : L.getD 15 false = true → False) (hy : y = .pointer (some ⟨g, 0, none⟩)) (h2 : w.heap.size + 2 ≤ g) (h3 : w'.heap[g]? = some (.cells cs 29 (0, 0))) (h4 : cs.size = 9) : MI r w (L.setIfInBounds 14 true) y x4 x5 x6 x7 x8 x9 x10 x11 x12 x13 x14 x15 x16 x17 w' where
  bel := h.bel
  raw := h.raw
  res := h.res
  f0 e := h.f0 ((Hw.listed_set e).resolve_left (by decide))
  f1 e := h.f1 ((Hw.listed_set e).resolve_left (by decide))
  f2 e := h.f2 ((Hw.listed_set e).resolve_left (by decide))
  f3 e := h.f3 ((Hw.listed_set e).resolve_left (by decide))
  f4 e := h.f4 ((Hw.listed_set e).resolve_left (by decide))
  f5 e := h.f5 ((Hw.listed_set e).resolve_left (by decide))
  f6 e := h.f6 ((Hw.listed_set e).resolve_left (by decide))
  f7 e := h.f7 ((Hw.listed_set e).resolve_left (by decide))
  f8 e := h.f8 ((Hw.listed_set e).resolve_left (by decide))
  f9 e := h.f9 ((Hw.listed_set e).resolve_left (by decide))
  f10 e := h.f10 ((Hw.listed_set e).resolve_left (by decide))
  f11 e := h.f11 ((Hw.listed_set e).resolve_left (by decide))
  f12 e := h.f12 ((Hw.listed_set e).resolve_left (by decide))
  f13 e := h.f13 ((Hw.listed_set e).resolve_left (by decide))
  f14 _ := ⟨g, cs, hy, h2, h3, h4, fun e => (hn ((Hw.listed_set e).resolve_left (by decide))).elim⟩
  f15 e := (hn ((Hw.listed_set e).resolve_left (by decide))).elim

theorem MI.s15 {r : Hm.Raw} {w w' : World} {L : Array Bool} {x3 x4 x5 x6 x7 x8 x9 x10 x11 x12 x13 x14 x15 x16 x17 : Value} (h : MI r w L x3 x4 x5 x6 x7 x8 x9 x10 x11 x12 x13 x14 x15 x16 x17 w') {w2 : World} {g : Nat} (h14 : L.getD 14 false = true) (hy : x3 = .pointer (some ⟨g, 0, none⟩)) (h2 : w.heap.size + 2 ≤ g) (hp : Hw.Put w' g 29 (built r) w2) : MI r w (L.setIfInBounds 15 true) x3 x4 x5 x6 x7 x8 x9 x10 x11 x12 x13 x14 x15 x16 x17 w2 where
  bel := h.bel.trans (hp.below (by omega))
  raw := (hp.other _ (by omega)).trans h.raw
  res := (hp.other _ (by omega)).trans h.res
  f0 e := h.f0 ((Hw.listed_set e).resolve_left (by decide))
  f1 e := h.f1 ((Hw.listed_set e).resolve_left (by decide))
  f2 e := h.f2 ((Hw.listed_set e).resolve_left (by decide))
  f3 e := h.f3 ((Hw.listed_set e).resolve_left (by decide))
  f4 e := h.f4 ((Hw.listed_set e).resolve_left (by decide))
  f5 e := h.f5 ((Hw.listed_set e).resolve_left (by decide))
  f6 e := h.f6 ((Hw.listed_set e).resolve_left (by decide))
  f7 e := h.f7 ((Hw.listed_set e).resolve_left (by decide))
  f8 e := h.f8 ((Hw.listed_set e).resolve_left (by decide))
  f9 e := h.f9 ((Hw.listed_set e).resolve_left (by decide))
  f10 e := h.f10 ((Hw.listed_set e).resolve_left (by decide))
  f11 e := h.f11 ((Hw.listed_set e).resolve_left (by decide))
  f12 e := h.f12 ((Hw.listed_set e).resolve_left (by decide))
  f13 e := h.f13 ((Hw.listed_set e).resolve_left (by decide))
  f14 _ := ⟨g, _, hy, h2, hp.row, rfl, fun _ => rfl⟩
  f15 _ := by
    rw [Hw.getD_set_ne (by decide)]
    exact h14


set_option maxRecDepth 20000 in
set_option maxHeartbeats 4000000 in
theorem kmessage_any (r : Hm.Raw) (hr : RawFits r) (w : World) :
    Calls Tryz.prog 19 #[.agg #[.int .i64 r.source, .int .i64 r.day, .int .i64 r.second, .int .i64 r.part, .int .i64 r.plain, .int .i64 r.data, .int .i64 r.text]] w fun e w' => e = .returned (.agg (msgCells (Hm.kmessage r))) ∧ Below w.heap.size w w' := by
  go_enter Tryz.func19, Tryz.ntmps19
  go_wp2_with fail
  refine Hw.region_inv2 (fun L a w' => ∃ x3 x4 x5 x6 x7 x8 x9 x10 x11 x12 x13 x14 x15 x16 x17, a = { tmps := #[.agg #[.int .i64 r.source, .int .i64 r.day, .int .i64 r.second, .int .i64 r.part, .int .i64 r.plain, .int .i64 r.data, .int .i64 r.text], .pointer (some ⟨w.heap.size, 0, none⟩), .pointer (some ⟨w.heap.size + 1, 0, none⟩), x3, x4, x5, x6, x7, x8, x9, x10, x11, x12, x13, x14, x15, x16, x17, undef, undef, undef, undef, undef, undef, undef, undef, undef, undef, undef, undef, undef, undef, undef, undef, undef, undef, undef, undef, undef, undef, undef, undef, undef, undef, undef, undef, undef, undef, undef, undef], defers := [] } ∧ MI r w L x3 x4 x5 x6 x7 x8 x9 x10 x11 x12 x13 x14 x15 x16 x17 w') mixed (by kernel_rfl) ?_ ?_ ?_
  · refine ⟨_, _, _, _, _, _, _, _, _, _, _, _, _, _, _, rfl, ((Below.refl _ _).alloc (Nat.le_refl _) _).alloc (by simp) _ |>.drew, ?_, ?_, ?_, ?_, ?_, ?_, ?_, ?_, ?_, ?_, ?_, ?_, ?_, ?_, ?_, ?_, ?_, ?_⟩
    · exact (heap_alloc_old _ _ (by simp)).trans (heap_alloc_new _ _)
    · have e := heap_alloc_new (w.alloc (.cells (rawV r) 26)) (.cells zeroMsg 29)
      rw [World.size_alloc] at e
      exact e
    all_goals exact fun e => by simp at e
  · rintro L a w' i ⟨x3, x4, x5, x6, x7, x8, x9, x10, x11, x12, x13, x14, x15, x16, x17, rfl, hI⟩ hi hdep hno
    have hi16 : i < 16 := hi
    have c0 : w'.cell? ⟨w.heap.size, 0, none⟩ = some (.int .i64 r.source) := by simp [World.cell?, hI.raw, rawV]
    have c5 : w'.cell? ⟨w.heap.size, 5, none⟩ = some (.int .i64 r.data) := by simp [World.cell?, hI.raw, rawV]
    have c6 : w'.cell? ⟨w.heap.size, 6, none⟩ = some (.int .i64 r.text) := by simp [World.cell?, hI.raw, rawV]
    have HS : Hid (w.heap.size + 2 ≤ w'.heap.size) := (Array.getElem?_eq_some_iff.1 hI.res).1
    have HI : Hid (MI r w L x3 x4 x5 x6 x7 x8 x9 x10 x11 x12 x13 x14 x15 x16 x17 w') := hI
    clear hI hi
    rcases (by omega : i = 0 ∨ i = 1 ∨ i = 2 ∨ i = 3 ∨ i = 4 ∨ i = 5 ∨ i = 6 ∨ i = 7 ∨ i = 8 ∨ i = 9 ∨ i = 10 ∨ i = 11 ∨ i = 12 ∨ i = 13 ∨ i = 14 ∨ i = 15) with h | h | h | h | h | h | h | h | h | h | h | h | h | h | h | h <;> subst h
    · clear hdep
      refine wpOp_step rfl (fun K hK => ?_)
      go_simp
      exact hK _ _ ⟨_, _, _, _, _, _, _, _, _, _, _, _, _, _, _, rfl, HI.out.s0 rfl⟩
    · have hd := hdep _ rfl
      have e0 := HI.out.f0 (hd ⟨0, .data⟩ (by simp) rfl)
      subst e0
      clear hdep hd
      refine wpOp_step rfl (fun K hK => ?_)
      go_simp
      exact hK _ _ ⟨_, _, _, _, _, _, _, _, _, _, _, _, _, _, _, rfl, HI.out.s1 rfl⟩
    · have hd := hdep _ rfl
      have e1 := HI.out.f1 (hd ⟨1, .data⟩ (by simp) rfl)
      subst e1
      clear hdep hd
      refine wpOp_step rfl (fun K hK => ?_)
      go_wp2_with fail
      refine (pick_any r.source 24 (by decide) (by decide) hr.a0 hr.a1 _).mono ?_
      rintro e w2 ⟨rfl, rfl⟩
      go_wp2_with fail
      exact ⟨_, _, _, _, _, _, _, _, _, _, _, _, _, _, _, rfl, HI.out.s2 rfl⟩
    · clear hdep
      refine wpOp_step rfl (fun K hK => ?_)
      go_simp
      exact hK _ _ ⟨_, _, _, _, _, _, _, _, _, _, _, _, _, _, _, rfl, HI.out.s3 rfl⟩
    · have hd := hdep _ rfl
      have e3 := HI.out.f3 (hd ⟨3, .data⟩ (by simp) rfl)
      subst e3
      clear hdep hd
      refine wpOp_step rfl (fun K hK => ?_)
      go_simp
      exact hK _ _ ⟨_, _, _, _, _, _, _, _, _, _, _, _, _, _, _, rfl, HI.out.s4 rfl⟩
    · have hd := hdep _ rfl
      have e4 := HI.out.f4 (hd ⟨4, .data⟩ (by simp) rfl)
      subst e4
      clear hdep hd
      have t24 := Hm.tdiv_bd (d := 24) hr.a0 hr.a1 (by omega)
      have hw24 : IntKind.i64.wrap (r.source.tdiv 24) = r.source.tdiv 24 := by rw [IntKind.wrap_i64]; omega
      refine wpOp_step rfl (fun K hK => ?_)
      go_simp
      exact hK _ _ ⟨_, _, _, _, _, _, _, _, _, _, _, _, _, _, _, rfl, HI.out.s5 rfl⟩
    · have hd := hdep _ rfl
      have e5 := HI.out.f5 (hd ⟨5, .data⟩ (by simp) rfl)
      subst e5
      clear hdep hd
      have t24 := Hm.tdiv_bd (d := 24) hr.a0 hr.a1 (by omega)
      refine wpOp_step rfl (fun K hK => ?_)
      go_wp2_with fail
      refine (pick_any (r.source.tdiv 24) 8 (by decide) (by decide) (by omega) (by omega) _).mono ?_
      rintro e w2 ⟨rfl, rfl⟩
      go_wp2_with fail
      exact ⟨_, _, _, _, _, _, _, _, _, _, _, _, _, _, _, rfl, HI.out.s6 rfl⟩
    · clear hdep
      refine wpOp_step rfl (fun K hK => ?_)
      go_simp
      exact hK _ _ ⟨_, _, _, _, _, _, _, _, _, _, _, _, _, _, _, rfl, HI.out.s7 rfl⟩
    · have hd := hdep _ rfl
      have e7 := HI.out.f7 (hd ⟨7, .data⟩ (by simp) rfl)
      subst e7
      clear hdep hd
      refine wpOp_step rfl (fun K hK => ?_)
      go_simp
      exact hK _ _ ⟨_, _, _, _, _, _, _, _, _, _, _, _, _, _, _, rfl, HI.out.s8 rfl⟩
    · have hd := hdep _ rfl
      have e8 := HI.out.f8 (hd ⟨8, .data⟩ (by simp) rfl)
      subst e8
      clear hdep hd
      refine wpOp_step rfl (fun K hK => ?_)
      go_wp2_with fail
      refine (kdata_any r.data hr.f0 hr.f1 _).mono ?_
      rintro e w2 ⟨rfl, hb⟩
      go_wp2_with fail
      exact ⟨_, _, _, _, _, _, _, _, _, _, _, _, _, _, _, rfl, (HI.out.grow hb).s9 rfl⟩
    · clear hdep
      refine wpOp_step rfl (fun K hK => ?_)
      go_simp
      exact hK _ _ ⟨_, _, _, _, _, _, _, _, _, _, _, _, _, _, _, rfl, HI.out.s10 rfl⟩
    · have hd := hdep _ rfl
      have e10 := HI.out.f10 (hd ⟨10, .data⟩ (by simp) rfl)
      subst e10
      clear hdep hd
      refine wpOp_step rfl (fun K hK => ?_)
      go_simp
      exact hK _ _ ⟨_, _, _, _, _, _, _, _, _, _, _, _, _, _, _, rfl, HI.out.s11 rfl⟩
    · have hd := hdep _ rfl
      have e11 := HI.out.f11 (hd ⟨11, .data⟩ (by simp) rfl)
      subst e11
      clear hdep hd
      refine wpOp_step rfl (fun K hK => ?_)
      go_wp2_with fail
      refine (ktext_any r.text hr.g0 hr.g1 _).mono ?_
      rintro e w2 ⟨rfl, hb⟩
      go_wp2_with fail
      exact ⟨_, _, _, _, _, _, _, _, _, _, _, _, _, _, _, rfl, (HI.out.grow hb).s12 rfl⟩
    · have hd := hdep _ rfl
      have e2 := HI.out.f2 (hd ⟨2, .data⟩ (by simp) rfl)
      subst e2
      have e6 := HI.out.f6 (hd ⟨6, .data⟩ (by simp) rfl)
      subst e6
      have e9 := HI.out.f9 (hd ⟨9, .data⟩ (by simp) rfl)
      subst e9
      have e12 := HI.out.f12 (hd ⟨12, .data⟩ (by simp) rfl)
      subst e12
      clear hdep hd
      refine wpOp_step rfl (fun K hK => ?_)
      go_simp
      exact hK _ _ ⟨_, _, _, _, _, _, _, _, _, _, _, _, _, _, _, rfl, HI.out.s13 rfl⟩
    · have hn : L.getD 15 false = true → False := fun e => by
        have h14 := HI.out.f15 e
        rw [Hw.getD_true h14] at hno
        cases hno
      clear hdep
      refine wpOp_step rfl (fun K hK => ?_)
      go_simp
      exact hK _ _ ⟨_, _, _, _, _, _, _, _, _, _, _, _, _, _, _, rfl, (HI.out.grow ((Below.refl _ _).alloc (Nat.le_refl _) _)).s14 hn rfl HS.out (heap_alloc_new _ _) rfl⟩
    · have hd := hdep _ rfl
      have h14 := hd ⟨14, .data⟩ (by simp) rfl
      have e13 := HI.out.f13 (hd ⟨13, .data⟩ (by simp) rfl)
      subst e13
      obtain ⟨g, cs, e3, h2, h3, h4, _⟩ := HI.out.f14 h14
      subst e3
      clear hdep hd
      refine Hw.wpOp_store_row rfl rfl 29 _ _ rfl rfl g (built r) rfl rfl 29 cs h3 size_msg (by rw [h4]; rfl) rfl ?_
      intro w2 p2
      exact ⟨_, _, _, _, _, _, _, _, _, _, _, _, _, _, _, rfl, HI.out.s15 h14 rfl h2 p2⟩
  · rintro L a w' ⟨x3, x4, x5, x6, x7, x8, x9, x10, x11, x12, x13, x14, x15, x16, x17, rfl, hI⟩ hall
    obtain ⟨g, cs, e3, hg2, hg3, _, hcs⟩ := hI.f14 (hall 14 (by decide))
    have hcs := hcs (hall 15 (by decide))
    subst hcs e3
    have HG0 : Hid (w'.heap[g]? = some (.cells (built r) 29 (0, 0))) := hg3
    have HA0 : Hid (w'.heap[w.heap.size]? = some (.cells (rawV r) 26 (0, 0))) := hI.raw
    have HC0 : Hid (w'.heap[w.heap.size + 1]? = some (.cells zeroMsg 29 (0, 0))) := hI.res
    have HB0 : Hid (Below w.heap.size w w') := hI.bel
    have c1 : w'.cell? ⟨w.heap.size, 1, none⟩ = some (.int .i64 r.day) := by simp [World.cell?, hI.raw, rawV]
    have c2 : w'.cell? ⟨w.heap.size, 2, none⟩ = some (.int .i64 r.second) := by simp [World.cell?, hI.raw, rawV]
    have c3 : w'.cell? ⟨w.heap.size, 3, none⟩ = some (.int .i64 r.part) := by simp [World.cell?, hI.raw, rawV]
    have cc0 : w'.cell? ⟨w.heap.size, 4, none⟩ = some (.int .i64 r.plain) := by simp [World.cell?, hI.raw, rawV]
    have t3 := Hm.tdiv_bd (d := 3) hr.e0 hr.e1 (by omega)
    have t5 := Hm.tdiv_bd (d := 5) hr.e0 hr.e1 (by omega)
    have t11 := Hm.tdiv_bd (d := 11) hr.e0 hr.e1 (by omega)
    clear hI hall hg3
    by_cases h5 : r.day.tmod 5 = 0
    · have HK : Hid (msgCells (Hm.kmessage r) = #[.int .i64 (Hm.pick r.source 24), .int .i64 (Hm.pick (r.source.tdiv 24) 8), .string ⟨(#[] : Array UInt8)⟩, .string ⟨(Hm.kplain r.plain 32).toArray⟩, .string ⟨(Hm.kplain (r.plain.tdiv 3) 16).toArray⟩, .string ⟨(Hm.kplain (r.plain.tdiv 5) 16).toArray⟩, .string ⟨(Hm.kplain (r.plain.tdiv 11) 12).toArray⟩, .string ⟨(Hm.kdata r.data).toArray⟩, .string ⟨(Hm.ktext r.text).toArray⟩]) := by
        show _ = _
        unfold msgCells Hm.kmessage
        rw [if_pos h5]
      go_wp2_with fail
      refine (kplain_any r.plain hr.e0 hr.e1 32 (by decide) _).mono ?_
      rintro e a1 ⟨rfl, hb1⟩
      have HR1 : Hid (a1.heap[g]? = some (.cells #[.int .i64 (Hm.pick r.source 24), .int .i64 (Hm.pick (r.source.tdiv 24) 8), .string ⟨#[]⟩, .string ⟨#[]⟩, .string ⟨#[]⟩, .string ⟨#[]⟩, .string ⟨#[]⟩, .string ⟨(Hm.kdata r.data).toArray⟩, .string ⟨(Hm.ktext r.text).toArray⟩] 29 (0, 0))) := (hb1.block _ (Array.getElem?_eq_some_iff.1 HG0.out).1).trans HG0.out
      have HW1 : Hid (a1.heap[w.heap.size]? = some (.cells (rawV r) 26 (0, 0))) := (hb1.block _ (Array.getElem?_eq_some_iff.1 HA0.out).1).trans HA0.out
      have HZ1 : Hid (a1.heap[w.heap.size + 1]? = some (.cells zeroMsg 29 (0, 0))) := (hb1.block _ (Array.getElem?_eq_some_iff.1 HC0.out).1).trans HC0.out
      have HB1' : Hid (Below w.heap.size w a1) := Below.next HB0.out (Nat.le_refl _) hb1
      clear hb1
      go_wp2_with (refine Hw.wpList_store_fieldP rfl _ _ _ rfl rfl g 3 _ rfl rfl _ _ #[.int .i64 (Hm.pick r.source 24), .int .i64 (Hm.pick (r.source.tdiv 24) 8), .string ⟨#[]⟩, .string ⟨(Hm.kplain r.plain 32).toArray⟩, .string ⟨#[]⟩, .string ⟨#[]⟩, .string ⟨#[]⟩, .string ⟨(Hm.kdata r.data).toArray⟩, .string ⟨(Hm.ktext r.text).toArray⟩] HR1.out size_str (by simp) rfl rfl ?_; intro v1 p1; have HG1 : Hid (v1.heap[g]? = some (.cells #[.int .i64 (Hm.pick r.source 24), .int .i64 (Hm.pick (r.source.tdiv 24) 8), .string ⟨#[]⟩, .string ⟨(Hm.kplain r.plain 32).toArray⟩, .string ⟨#[]⟩, .string ⟨#[]⟩, .string ⟨#[]⟩, .string ⟨(Hm.kdata r.data).toArray⟩, .string ⟨(Hm.ktext r.text).toArray⟩] 29 (0, 0))) := p1.row; have HA1 : Hid (v1.heap[w.heap.size]? = some (.cells (rawV r) 26 (0, 0))) := (p1.other _ (by omega)).trans HW1.out; have HC1 : Hid (v1.heap[w.heap.size + 1]? = some (.cells zeroMsg 29 (0, 0))) := (p1.other _ (by omega)).trans HZ1.out; have HB1 : Hid (Below w.heap.size w v1) := HB1'.out.trans (p1.below (by omega)); have cc1 : v1.cell? ⟨w.heap.size, 4, none⟩ = some (.int .i64 r.plain) := (by simp [World.cell?, HA1.out, rawV]); clear p1 HR1 HW1 HZ1 HB1' HG0 HA0 HC0 HB0 cc0)
      refine (kplain_any (r.plain.tdiv 3) (by omega) (by omega) 16 (by decide) _).mono ?_
      rintro e a2 ⟨rfl, hb2⟩
      have HR2 : Hid (a2.heap[g]? = some (.cells #[.int .i64 (Hm.pick r.source 24), .int .i64 (Hm.pick (r.source.tdiv 24) 8), .string ⟨#[]⟩, .string ⟨(Hm.kplain r.plain 32).toArray⟩, .string ⟨#[]⟩, .string ⟨#[]⟩, .string ⟨#[]⟩, .string ⟨(Hm.kdata r.data).toArray⟩, .string ⟨(Hm.ktext r.text).toArray⟩] 29 (0, 0))) := (hb2.block _ (Array.getElem?_eq_some_iff.1 HG1.out).1).trans HG1.out
      have HW2 : Hid (a2.heap[w.heap.size]? = some (.cells (rawV r) 26 (0, 0))) := (hb2.block _ (Array.getElem?_eq_some_iff.1 HA1.out).1).trans HA1.out
      have HZ2 : Hid (a2.heap[w.heap.size + 1]? = some (.cells zeroMsg 29 (0, 0))) := (hb2.block _ (Array.getElem?_eq_some_iff.1 HC1.out).1).trans HC1.out
      have HB2' : Hid (Below w.heap.size w a2) := Below.next HB1.out (Nat.le_refl _) hb2
      clear hb2
      go_wp2_with (refine Hw.wpList_store_fieldP rfl _ _ _ rfl rfl g 4 _ rfl rfl _ _ #[.int .i64 (Hm.pick r.source 24), .int .i64 (Hm.pick (r.source.tdiv 24) 8), .string ⟨#[]⟩, .string ⟨(Hm.kplain r.plain 32).toArray⟩, .string ⟨(Hm.kplain (r.plain.tdiv 3) 16).toArray⟩, .string ⟨#[]⟩, .string ⟨#[]⟩, .string ⟨(Hm.kdata r.data).toArray⟩, .string ⟨(Hm.ktext r.text).toArray⟩] HR2.out size_str (by simp) rfl rfl ?_; intro v2 p2; have HG2 : Hid (v2.heap[g]? = some (.cells #[.int .i64 (Hm.pick r.source 24), .int .i64 (Hm.pick (r.source.tdiv 24) 8), .string ⟨#[]⟩, .string ⟨(Hm.kplain r.plain 32).toArray⟩, .string ⟨(Hm.kplain (r.plain.tdiv 3) 16).toArray⟩, .string ⟨#[]⟩, .string ⟨#[]⟩, .string ⟨(Hm.kdata r.data).toArray⟩, .string ⟨(Hm.ktext r.text).toArray⟩] 29 (0, 0))) := p2.row; have HA2 : Hid (v2.heap[w.heap.size]? = some (.cells (rawV r) 26 (0, 0))) := (p2.other _ (by omega)).trans HW2.out; have HC2 : Hid (v2.heap[w.heap.size + 1]? = some (.cells zeroMsg 29 (0, 0))) := (p2.other _ (by omega)).trans HZ2.out; have HB2 : Hid (Below w.heap.size w v2) := HB2'.out.trans (p2.below (by omega)); have cc2 : v2.cell? ⟨w.heap.size, 4, none⟩ = some (.int .i64 r.plain) := (by simp [World.cell?, HA2.out, rawV]); clear p2 HR2 HW2 HZ2 HB2' HG1 HA1 HC1 HB1 cc1)
      refine (kplain_any (r.plain.tdiv 5) (by omega) (by omega) 16 (by decide) _).mono ?_
      rintro e a3 ⟨rfl, hb3⟩
      have HR3 : Hid (a3.heap[g]? = some (.cells #[.int .i64 (Hm.pick r.source 24), .int .i64 (Hm.pick (r.source.tdiv 24) 8), .string ⟨#[]⟩, .string ⟨(Hm.kplain r.plain 32).toArray⟩, .string ⟨(Hm.kplain (r.plain.tdiv 3) 16).toArray⟩, .string ⟨#[]⟩, .string ⟨#[]⟩, .string ⟨(Hm.kdata r.data).toArray⟩, .string ⟨(Hm.ktext r.text).toArray⟩] 29 (0, 0))) := (hb3.block _ (Array.getElem?_eq_some_iff.1 HG2.out).1).trans HG2.out
      have HW3 : Hid (a3.heap[w.heap.size]? = some (.cells (rawV r) 26 (0, 0))) := (hb3.block _ (Array.getElem?_eq_some_iff.1 HA2.out).1).trans HA2.out
      have HZ3 : Hid (a3.heap[w.heap.size + 1]? = some (.cells zeroMsg 29 (0, 0))) := (hb3.block _ (Array.getElem?_eq_some_iff.1 HC2.out).1).trans HC2.out
      have HB3' : Hid (Below w.heap.size w a3) := Below.next HB2.out (Nat.le_refl _) hb3
      clear hb3
      go_wp2_with (refine Hw.wpList_store_fieldP rfl _ _ _ rfl rfl g 5 _ rfl rfl _ _ #[.int .i64 (Hm.pick r.source 24), .int .i64 (Hm.pick (r.source.tdiv 24) 8), .string ⟨#[]⟩, .string ⟨(Hm.kplain r.plain 32).toArray⟩, .string ⟨(Hm.kplain (r.plain.tdiv 3) 16).toArray⟩, .string ⟨(Hm.kplain (r.plain.tdiv 5) 16).toArray⟩, .string ⟨#[]⟩, .string ⟨(Hm.kdata r.data).toArray⟩, .string ⟨(Hm.ktext r.text).toArray⟩] HR3.out size_str (by simp) rfl rfl ?_; intro v3 p3; have HG3 : Hid (v3.heap[g]? = some (.cells #[.int .i64 (Hm.pick r.source 24), .int .i64 (Hm.pick (r.source.tdiv 24) 8), .string ⟨#[]⟩, .string ⟨(Hm.kplain r.plain 32).toArray⟩, .string ⟨(Hm.kplain (r.plain.tdiv 3) 16).toArray⟩, .string ⟨(Hm.kplain (r.plain.tdiv 5) 16).toArray⟩, .string ⟨#[]⟩, .string ⟨(Hm.kdata r.data).toArray⟩, .string ⟨(Hm.ktext r.text).toArray⟩] 29 (0, 0))) := p3.row; have HA3 : Hid (v3.heap[w.heap.size]? = some (.cells (rawV r) 26 (0, 0))) := (p3.other _ (by omega)).trans HW3.out; have HC3 : Hid (v3.heap[w.heap.size + 1]? = some (.cells zeroMsg 29 (0, 0))) := (p3.other _ (by omega)).trans HZ3.out; have HB3 : Hid (Below w.heap.size w v3) := HB3'.out.trans (p3.below (by omega)); have cc3 : v3.cell? ⟨w.heap.size, 4, none⟩ = some (.int .i64 r.plain) := (by simp [World.cell?, HA3.out, rawV]); clear p3 HR3 HW3 HZ3 HB3' HG2 HA2 HC2 HB2 cc2)
      refine (kplain_any (r.plain.tdiv 11) (by omega) (by omega) 12 (by decide) _).mono ?_
      rintro e a4 ⟨rfl, hb4⟩
      have HR4 : Hid (a4.heap[g]? = some (.cells #[.int .i64 (Hm.pick r.source 24), .int .i64 (Hm.pick (r.source.tdiv 24) 8), .string ⟨#[]⟩, .string ⟨(Hm.kplain r.plain 32).toArray⟩, .string ⟨(Hm.kplain (r.plain.tdiv 3) 16).toArray⟩, .string ⟨(Hm.kplain (r.plain.tdiv 5) 16).toArray⟩, .string ⟨#[]⟩, .string ⟨(Hm.kdata r.data).toArray⟩, .string ⟨(Hm.ktext r.text).toArray⟩] 29 (0, 0))) := (hb4.block _ (Array.getElem?_eq_some_iff.1 HG3.out).1).trans HG3.out
      have HW4 : Hid (a4.heap[w.heap.size]? = some (.cells (rawV r) 26 (0, 0))) := (hb4.block _ (Array.getElem?_eq_some_iff.1 HA3.out).1).trans HA3.out
      have HZ4 : Hid (a4.heap[w.heap.size + 1]? = some (.cells zeroMsg 29 (0, 0))) := (hb4.block _ (Array.getElem?_eq_some_iff.1 HC3.out).1).trans HC3.out
      have HB4' : Hid (Below w.heap.size w a4) := Below.next HB3.out (Nat.le_refl _) hb4
      clear hb4
      go_wp2_with first
        | (refine Hw.wpList_store_fieldP rfl _ _ _ rfl rfl g 6 _ rfl rfl _ _ #[.int .i64 (Hm.pick r.source 24), .int .i64 (Hm.pick (r.source.tdiv 24) 8), .string ⟨#[]⟩, .string ⟨(Hm.kplain r.plain 32).toArray⟩, .string ⟨(Hm.kplain (r.plain.tdiv 3) 16).toArray⟩, .string ⟨(Hm.kplain (r.plain.tdiv 5) 16).toArray⟩, .string ⟨(Hm.kplain (r.plain.tdiv 11) 12).toArray⟩, .string ⟨(Hm.kdata r.data).toArray⟩, .string ⟨(Hm.ktext r.text).toArray⟩] HR4.out size_str (by simp) rfl rfl ?_; intro v4 p4; have HG4 : Hid (v4.heap[g]? = some (.cells #[.int .i64 (Hm.pick r.source 24), .int .i64 (Hm.pick (r.source.tdiv 24) 8), .string ⟨#[]⟩, .string ⟨(Hm.kplain r.plain 32).toArray⟩, .string ⟨(Hm.kplain (r.plain.tdiv 3) 16).toArray⟩, .string ⟨(Hm.kplain (r.plain.tdiv 5) 16).toArray⟩, .string ⟨(Hm.kplain (r.plain.tdiv 11) 12).toArray⟩, .string ⟨(Hm.kdata r.data).toArray⟩, .string ⟨(Hm.ktext r.text).toArray⟩] 29 (0, 0))) := p4.row; have HA4 : Hid (v4.heap[w.heap.size]? = some (.cells (rawV r) 26 (0, 0))) := (p4.other _ (by omega)).trans HW4.out; have HC4 : Hid (v4.heap[w.heap.size + 1]? = some (.cells zeroMsg 29 (0, 0))) := (p4.other _ (by omega)).trans HZ4.out; have HB4 : Hid (Below w.heap.size w v4) := HB4'.out.trans (p4.below (by omega)); have cc4 : v4.cell? ⟨w.heap.size, 4, none⟩ = some (.int .i64 r.plain) := (by simp [World.cell?, HA4.out, rawV]); clear p4 HR4 HW4 HZ4 HB4' HG3 HA3 HC3 HB3 cc3)
        | (refine wpList_load_row rfl _ _ rfl g rfl _ _ _ _ HG4.out Tryz.underlying29 rfl size_msg ?_)
        | (refine Hw.wpList_store_rowP rfl _ _ _ rfl rfl (w.heap.size + 1) #[.int .i64 (Hm.pick r.source 24), .int .i64 (Hm.pick (r.source.tdiv 24) 8), .string ⟨#[]⟩, .string ⟨(Hm.kplain r.plain 32).toArray⟩, .string ⟨(Hm.kplain (r.plain.tdiv 3) 16).toArray⟩, .string ⟨(Hm.kplain (r.plain.tdiv 5) 16).toArray⟩, .string ⟨(Hm.kplain (r.plain.tdiv 11) 12).toArray⟩, .string ⟨(Hm.kdata r.data).toArray⟩, .string ⟨(Hm.ktext r.text).toArray⟩] rfl rfl _ _ HC4.out size_msg rfl rfl ?_; intro z p9; have P9 : Hid (Hw.Put v4 _ _ _ z) := p9; clear p9)
      refine bodyPost_ret (Hw.results_row1 Tryz.results19 _ _ _ _ _ _ _ rfl P9.out.row Tryz.underlying29 rfl size_msg) rfl ⟨?_, HB4.out.trans (P9.out.below (by omega))⟩
      rw [HK.out]
    · have HK : Hid (msgCells (Hm.kmessage r) = #[.int .i64 (Hm.pick r.source 24), .int .i64 (Hm.pick (r.source.tdiv 24) 8), .string ⟨(Hm.kmoment r.day r.second r.part).toArray⟩, .string ⟨(Hm.kplain r.plain 32).toArray⟩, .string ⟨(Hm.kplain (r.plain.tdiv 3) 16).toArray⟩, .string ⟨(Hm.kplain (r.plain.tdiv 5) 16).toArray⟩, .string ⟨(Hm.kplain (r.plain.tdiv 11) 12).toArray⟩, .string ⟨(Hm.kdata r.data).toArray⟩, .string ⟨(Hm.ktext r.text).toArray⟩]) := by
        show _ = _
        unfold msgCells Hm.kmessage
        rw [if_neg h5]
      have h5' : (r.day.tmod 5 == 0) = false := beq_eq_false_iff_ne.2 h5
      go_wp2_with fail
      refine (kmoment_any r.day r.second r.part hr.b0 hr.b1 hr.c0 hr.c1 hr.d0 hr.d1 _).mono ?_
      rintro e a1 ⟨rfl, hb1⟩
      have HR1 : Hid (a1.heap[g]? = some (.cells #[.int .i64 (Hm.pick r.source 24), .int .i64 (Hm.pick (r.source.tdiv 24) 8), .string ⟨#[]⟩, .string ⟨#[]⟩, .string ⟨#[]⟩, .string ⟨#[]⟩, .string ⟨#[]⟩, .string ⟨(Hm.kdata r.data).toArray⟩, .string ⟨(Hm.ktext r.text).toArray⟩] 29 (0, 0))) := (hb1.block _ (Array.getElem?_eq_some_iff.1 HG0.out).1).trans HG0.out
      have HW1 : Hid (a1.heap[w.heap.size]? = some (.cells (rawV r) 26 (0, 0))) := (hb1.block _ (Array.getElem?_eq_some_iff.1 HA0.out).1).trans HA0.out
      have HZ1 : Hid (a1.heap[w.heap.size + 1]? = some (.cells zeroMsg 29 (0, 0))) := (hb1.block _ (Array.getElem?_eq_some_iff.1 HC0.out).1).trans HC0.out
      have HB1' : Hid (Below w.heap.size w a1) := Below.next HB0.out (Nat.le_refl _) hb1
      clear hb1
      go_wp2_with (refine Hw.wpList_store_fieldP rfl _ _ _ rfl rfl g 2 _ rfl rfl _ _ #[.int .i64 (Hm.pick r.source 24), .int .i64 (Hm.pick (r.source.tdiv 24) 8), .string ⟨(Hm.kmoment r.day r.second r.part).toArray⟩, .string ⟨#[]⟩, .string ⟨#[]⟩, .string ⟨#[]⟩, .string ⟨#[]⟩, .string ⟨(Hm.kdata r.data).toArray⟩, .string ⟨(Hm.ktext r.text).toArray⟩] HR1.out size_str (by simp) rfl rfl ?_; intro v1 p1; have HG1 : Hid (v1.heap[g]? = some (.cells #[.int .i64 (Hm.pick r.source 24), .int .i64 (Hm.pick (r.source.tdiv 24) 8), .string ⟨(Hm.kmoment r.day r.second r.part).toArray⟩, .string ⟨#[]⟩, .string ⟨#[]⟩, .string ⟨#[]⟩, .string ⟨#[]⟩, .string ⟨(Hm.kdata r.data).toArray⟩, .string ⟨(Hm.ktext r.text).toArray⟩] 29 (0, 0))) := p1.row; have HA1 : Hid (v1.heap[w.heap.size]? = some (.cells (rawV r) 26 (0, 0))) := (p1.other _ (by omega)).trans HW1.out; have HC1 : Hid (v1.heap[w.heap.size + 1]? = some (.cells zeroMsg 29 (0, 0))) := (p1.other _ (by omega)).trans HZ1.out; have HB1 : Hid (Below w.heap.size w v1) := HB1'.out.trans (p1.below (by omega)); have cc1 : v1.cell? ⟨w.heap.size, 4, none⟩ = some (.int .i64 r.plain) := (by simp [World.cell?, HA1.out, rawV]); clear p1 HR1 HW1 HZ1 HB1' HG0 HA0 HC0 HB0 cc0)
      refine (kplain_any r.plain hr.e0 hr.e1 32 (by decide) _).mono ?_
      rintro e a2 ⟨rfl, hb2⟩
      have HR2 : Hid (a2.heap[g]? = some (.cells #[.int .i64 (Hm.pick r.source 24), .int .i64 (Hm.pick (r.source.tdiv 24) 8), .string ⟨(Hm.kmoment r.day r.second r.part).toArray⟩, .string ⟨#[]⟩, .string ⟨#[]⟩, .string ⟨#[]⟩, .string ⟨#[]⟩, .string ⟨(Hm.kdata r.data).toArray⟩, .string ⟨(Hm.ktext r.text).toArray⟩] 29 (0, 0))) := (hb2.block _ (Array.getElem?_eq_some_iff.1 HG1.out).1).trans HG1.out
      have HW2 : Hid (a2.heap[w.heap.size]? = some (.cells (rawV r) 26 (0, 0))) := (hb2.block _ (Array.getElem?_eq_some_iff.1 HA1.out).1).trans HA1.out
      have HZ2 : Hid (a2.heap[w.heap.size + 1]? = some (.cells zeroMsg 29 (0, 0))) := (hb2.block _ (Array.getElem?_eq_some_iff.1 HC1.out).1).trans HC1.out
      have HB2' : Hid (Below w.heap.size w a2) := Below.next HB1.out (Nat.le_refl _) hb2
      clear hb2
      go_wp2_with (refine Hw.wpList_store_fieldP rfl _ _ _ rfl rfl g 3 _ rfl rfl _ _ #[.int .i64 (Hm.pick r.source 24), .int .i64 (Hm.pick (r.source.tdiv 24) 8), .string ⟨(Hm.kmoment r.day r.second r.part).toArray⟩, .string ⟨(Hm.kplain r.plain 32).toArray⟩, .string ⟨#[]⟩, .string ⟨#[]⟩, .string ⟨#[]⟩, .string ⟨(Hm.kdata r.data).toArray⟩, .string ⟨(Hm.ktext r.text).toArray⟩] HR2.out size_str (by simp) rfl rfl ?_; intro v2 p2; have HG2 : Hid (v2.heap[g]? = some (.cells #[.int .i64 (Hm.pick r.source 24), .int .i64 (Hm.pick (r.source.tdiv 24) 8), .string ⟨(Hm.kmoment r.day r.second r.part).toArray⟩, .string ⟨(Hm.kplain r.plain 32).toArray⟩, .string ⟨#[]⟩, .string ⟨#[]⟩, .string ⟨#[]⟩, .string ⟨(Hm.kdata r.data).toArray⟩, .string ⟨(Hm.ktext r.text).toArray⟩] 29 (0, 0))) := p2.row; have HA2 : Hid (v2.heap[w.heap.size]? = some (.cells (rawV r) 26 (0, 0))) := (p2.other _ (by omega)).trans HW2.out; have HC2 : Hid (v2.heap[w.heap.size + 1]? = some (.cells zeroMsg 29 (0, 0))) := (p2.other _ (by omega)).trans HZ2.out; have HB2 : Hid (Below w.heap.size w v2) := HB2'.out.trans (p2.below (by omega)); have cc2 : v2.cell? ⟨w.heap.size, 4, none⟩ = some (.int .i64 r.plain) := (by simp [World.cell?, HA2.out, rawV]); clear p2 HR2 HW2 HZ2 HB2' HG1 HA1 HC1 HB1 cc1)
      refine (kplain_any (r.plain.tdiv 3) (by omega) (by omega) 16 (by decide) _).mono ?_
      rintro e a3 ⟨rfl, hb3⟩
      have HR3 : Hid (a3.heap[g]? = some (.cells #[.int .i64 (Hm.pick r.source 24), .int .i64 (Hm.pick (r.source.tdiv 24) 8), .string ⟨(Hm.kmoment r.day r.second r.part).toArray⟩, .string ⟨(Hm.kplain r.plain 32).toArray⟩, .string ⟨#[]⟩, .string ⟨#[]⟩, .string ⟨#[]⟩, .string ⟨(Hm.kdata r.data).toArray⟩, .string ⟨(Hm.ktext r.text).toArray⟩] 29 (0, 0))) := (hb3.block _ (Array.getElem?_eq_some_iff.1 HG2.out).1).trans HG2.out
      have HW3 : Hid (a3.heap[w.heap.size]? = some (.cells (rawV r) 26 (0, 0))) := (hb3.block _ (Array.getElem?_eq_some_iff.1 HA2.out).1).trans HA2.out
      have HZ3 : Hid (a3.heap[w.heap.size + 1]? = some (.cells zeroMsg 29 (0, 0))) := (hb3.block _ (Array.getElem?_eq_some_iff.1 HC2.out).1).trans HC2.out
      have HB3' : Hid (Below w.heap.size w a3) := Below.next HB2.out (Nat.le_refl _) hb3
      clear hb3
      go_wp2_with (refine Hw.wpList_store_fieldP rfl _ _ _ rfl rfl g 4 _ rfl rfl _ _ #[.int .i64 (Hm.pick r.source 24), .int .i64 (Hm.pick (r.source.tdiv 24) 8), .string ⟨(Hm.kmoment r.day r.second r.part).toArray⟩, .string ⟨(Hm.kplain r.plain 32).toArray⟩, .string ⟨(Hm.kplain (r.plain.tdiv 3) 16).toArray⟩, .string ⟨#[]⟩, .string ⟨#[]⟩, .string ⟨(Hm.kdata r.data).toArray⟩, .string ⟨(Hm.ktext r.text).toArray⟩] HR3.out size_str (by simp) rfl rfl ?_; intro v3 p3; have HG3 : Hid (v3.heap[g]? = some (.cells #[.int .i64 (Hm.pick r.source 24), .int .i64 (Hm.pick (r.source.tdiv 24) 8), .string ⟨(Hm.kmoment r.day r.second r.part).toArray⟩, .string ⟨(Hm.kplain r.plain 32).toArray⟩, .string ⟨(Hm.kplain (r.plain.tdiv 3) 16).toArray⟩, .string ⟨#[]⟩, .string ⟨#[]⟩, .string ⟨(Hm.kdata r.data).toArray⟩, .string ⟨(Hm.ktext r.text).toArray⟩] 29 (0, 0))) := p3.row; have HA3 : Hid (v3.heap[w.heap.size]? = some (.cells (rawV r) 26 (0, 0))) := (p3.other _ (by omega)).trans HW3.out; have HC3 : Hid (v3.heap[w.heap.size + 1]? = some (.cells zeroMsg 29 (0, 0))) := (p3.other _ (by omega)).trans HZ3.out; have HB3 : Hid (Below w.heap.size w v3) := HB3'.out.trans (p3.below (by omega)); have cc3 : v3.cell? ⟨w.heap.size, 4, none⟩ = some (.int .i64 r.plain) := (by simp [World.cell?, HA3.out, rawV]); clear p3 HR3 HW3 HZ3 HB3' HG2 HA2 HC2 HB2 cc2)
      refine (kplain_any (r.plain.tdiv 5) (by omega) (by omega) 16 (by decide) _).mono ?_
      rintro e a4 ⟨rfl, hb4⟩
      have HR4 : Hid (a4.heap[g]? = some (.cells #[.int .i64 (Hm.pick r.source 24), .int .i64 (Hm.pick (r.source.tdiv 24) 8), .string ⟨(Hm.kmoment r.day r.second r.part).toArray⟩, .string ⟨(Hm.kplain r.plain 32).toArray⟩, .string ⟨(Hm.kplain (r.plain.tdiv 3) 16).toArray⟩, .string ⟨#[]⟩, .string ⟨#[]⟩, .string ⟨(Hm.kdata r.data).toArray⟩, .string ⟨(Hm.ktext r.text).toArray⟩] 29 (0, 0))) := (hb4.block _ (Array.getElem?_eq_some_iff.1 HG3.out).1).trans HG3.out
      have HW4 : Hid (a4.heap[w.heap.size]? = some (.cells (rawV r) 26 (0, 0))) := (hb4.block _ (Array.getElem?_eq_some_iff.1 HA3.out).1).trans HA3.out
      have HZ4 : Hid (a4.heap[w.heap.size + 1]? = some (.cells zeroMsg 29 (0, 0))) := (hb4.block _ (Array.getElem?_eq_some_iff.1 HC3.out).1).trans HC3.out
      have HB4' : Hid (Below w.heap.size w a4) := Below.next HB3.out (Nat.le_refl _) hb4
      clear hb4
      go_wp2_with (refine Hw.wpList_store_fieldP rfl _ _ _ rfl rfl g 5 _ rfl rfl _ _ #[.int .i64 (Hm.pick r.source 24), .int .i64 (Hm.pick (r.source.tdiv 24) 8), .string ⟨(Hm.kmoment r.day r.second r.part).toArray⟩, .string ⟨(Hm.kplain r.plain 32).toArray⟩, .string ⟨(Hm.kplain (r.plain.tdiv 3) 16).toArray⟩, .string ⟨(Hm.kplain (r.plain.tdiv 5) 16).toArray⟩, .string ⟨#[]⟩, .string ⟨(Hm.kdata r.data).toArray⟩, .string ⟨(Hm.ktext r.text).toArray⟩] HR4.out size_str (by simp) rfl rfl ?_; intro v4 p4; have HG4 : Hid (v4.heap[g]? = some (.cells #[.int .i64 (Hm.pick r.source 24), .int .i64 (Hm.pick (r.source.tdiv 24) 8), .string ⟨(Hm.kmoment r.day r.second r.part).toArray⟩, .string ⟨(Hm.kplain r.plain 32).toArray⟩, .string ⟨(Hm.kplain (r.plain.tdiv 3) 16).toArray⟩, .string ⟨(Hm.kplain (r.plain.tdiv 5) 16).toArray⟩, .string ⟨#[]⟩, .string ⟨(Hm.kdata r.data).toArray⟩, .string ⟨(Hm.ktext r.text).toArray⟩] 29 (0, 0))) := p4.row; have HA4 : Hid (v4.heap[w.heap.size]? = some (.cells (rawV r) 26 (0, 0))) := (p4.other _ (by omega)).trans HW4.out; have HC4 : Hid (v4.heap[w.heap.size + 1]? = some (.cells zeroMsg 29 (0, 0))) := (p4.other _ (by omega)).trans HZ4.out; have HB4 : Hid (Below w.heap.size w v4) := HB4'.out.trans (p4.below (by omega)); have cc4 : v4.cell? ⟨w.heap.size, 4, none⟩ = some (.int .i64 r.plain) := (by simp [World.cell?, HA4.out, rawV]); clear p4 HR4 HW4 HZ4 HB4' HG3 HA3 HC3 HB3 cc3)
      refine (kplain_any (r.plain.tdiv 11) (by omega) (by omega) 12 (by decide) _).mono ?_
      rintro e a5 ⟨rfl, hb5⟩
      have HR5 : Hid (a5.heap[g]? = some (.cells #[.int .i64 (Hm.pick r.source 24), .int .i64 (Hm.pick (r.source.tdiv 24) 8), .string ⟨(Hm.kmoment r.day r.second r.part).toArray⟩, .string ⟨(Hm.kplain r.plain 32).toArray⟩, .string ⟨(Hm.kplain (r.plain.tdiv 3) 16).toArray⟩, .string ⟨(Hm.kplain (r.plain.tdiv 5) 16).toArray⟩, .string ⟨#[]⟩, .string ⟨(Hm.kdata r.data).toArray⟩, .string ⟨(Hm.ktext r.text).toArray⟩] 29 (0, 0))) := (hb5.block _ (Array.getElem?_eq_some_iff.1 HG4.out).1).trans HG4.out
      have HW5 : Hid (a5.heap[w.heap.size]? = some (.cells (rawV r) 26 (0, 0))) := (hb5.block _ (Array.getElem?_eq_some_iff.1 HA4.out).1).trans HA4.out
      have HZ5 : Hid (a5.heap[w.heap.size + 1]? = some (.cells zeroMsg 29 (0, 0))) := (hb5.block _ (Array.getElem?_eq_some_iff.1 HC4.out).1).trans HC4.out
      have HB5' : Hid (Below w.heap.size w a5) := Below.next HB4.out (Nat.le_refl _) hb5
      clear hb5
      go_wp2_with first
        | (refine Hw.wpList_store_fieldP rfl _ _ _ rfl rfl g 6 _ rfl rfl _ _ #[.int .i64 (Hm.pick r.source 24), .int .i64 (Hm.pick (r.source.tdiv 24) 8), .string ⟨(Hm.kmoment r.day r.second r.part).toArray⟩, .string ⟨(Hm.kplain r.plain 32).toArray⟩, .string ⟨(Hm.kplain (r.plain.tdiv 3) 16).toArray⟩, .string ⟨(Hm.kplain (r.plain.tdiv 5) 16).toArray⟩, .string ⟨(Hm.kplain (r.plain.tdiv 11) 12).toArray⟩, .string ⟨(Hm.kdata r.data).toArray⟩, .string ⟨(Hm.ktext r.text).toArray⟩] HR5.out size_str (by simp) rfl rfl ?_; intro v5 p5; have HG5 : Hid (v5.heap[g]? = some (.cells #[.int .i64 (Hm.pick r.source 24), .int .i64 (Hm.pick (r.source.tdiv 24) 8), .string ⟨(Hm.kmoment r.day r.second r.part).toArray⟩, .string ⟨(Hm.kplain r.plain 32).toArray⟩, .string ⟨(Hm.kplain (r.plain.tdiv 3) 16).toArray⟩, .string ⟨(Hm.kplain (r.plain.tdiv 5) 16).toArray⟩, .string ⟨(Hm.kplain (r.plain.tdiv 11) 12).toArray⟩, .string ⟨(Hm.kdata r.data).toArray⟩, .string ⟨(Hm.ktext r.text).toArray⟩] 29 (0, 0))) := p5.row; have HA5 : Hid (v5.heap[w.heap.size]? = some (.cells (rawV r) 26 (0, 0))) := (p5.other _ (by omega)).trans HW5.out; have HC5 : Hid (v5.heap[w.heap.size + 1]? = some (.cells zeroMsg 29 (0, 0))) := (p5.other _ (by omega)).trans HZ5.out; have HB5 : Hid (Below w.heap.size w v5) := HB5'.out.trans (p5.below (by omega)); have cc5 : v5.cell? ⟨w.heap.size, 4, none⟩ = some (.int .i64 r.plain) := (by simp [World.cell?, HA5.out, rawV]); clear p5 HR5 HW5 HZ5 HB5' HG4 HA4 HC4 HB4 cc4)
        | (refine wpList_load_row rfl _ _ rfl g rfl _ _ _ _ HG5.out Tryz.underlying29 rfl size_msg ?_)
        | (refine Hw.wpList_store_rowP rfl _ _ _ rfl rfl (w.heap.size + 1) #[.int .i64 (Hm.pick r.source 24), .int .i64 (Hm.pick (r.source.tdiv 24) 8), .string ⟨(Hm.kmoment r.day r.second r.part).toArray⟩, .string ⟨(Hm.kplain r.plain 32).toArray⟩, .string ⟨(Hm.kplain (r.plain.tdiv 3) 16).toArray⟩, .string ⟨(Hm.kplain (r.plain.tdiv 5) 16).toArray⟩, .string ⟨(Hm.kplain (r.plain.tdiv 11) 12).toArray⟩, .string ⟨(Hm.kdata r.data).toArray⟩, .string ⟨(Hm.ktext r.text).toArray⟩] rfl rfl _ _ HC5.out size_msg rfl rfl ?_; intro z p9; have P9 : Hid (Hw.Put v5 _ _ _ z) := p9; clear p9)
      refine bodyPost_ret (Hw.results_row1 Tryz.results19 _ _ _ _ _ _ _ rfl P9.out.row Tryz.underlying29 rfl size_msg) rfl ⟨?_, HB5.out.trans (P9.out.below (by omega))⟩
      rw [HK.out]
end Go.Proofs.YtdlhbmncbmconaaGreatDoor

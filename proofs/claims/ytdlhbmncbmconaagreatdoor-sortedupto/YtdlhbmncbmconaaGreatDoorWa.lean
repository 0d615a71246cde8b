/- Laws of worlds. -/
import Derived.WalkKit
import Derived.WalkSpells
import Derived.WalkLawsBesides
namespace Go.Hw
open Go.RowKit
structure Put (w : World) (g : Nat) (t : TypeId) (cs : Array Value) (w2 : World) : Prop where
  row : w2.heap[g]? = some (.cells cs t (0, 0))
  other : ∀ k, k ≠ g → w2.heap[k]? = w.heap[k]?
  size : w2.heap.size = w.heap.size
  os : w2.os = w.os
  tape : w2.tape = w.tape
  output : w2.output = w.output
theorem Put.below {w w2 : World} {g : Nat} {t : TypeId} {cs : Array Value} (h : Put w g t cs w2) {B : Nat} (hB : B ≤ g) : Below B w w2 :=
  ⟨h.os, h.tape, h.output, by rw [h.size]; exact Nat.le_refl _, fun k hk => h.other k (by omega)⟩
theorem put_setRow {w : World} {g : Nat} {t : TypeId} {old : Array Value} (hg : w.heap[g]? = some (.cells old t (0, 0))) (cs : Array Value) : Put w g t cs (w.setRow g cs) where
  row := setRow_heap w g old cs t (0, 0) hg
  other k hk := setRow_other w g k cs hk
  size := by simp
  os := rfl
  tape := rfl
  output := rfl
section
variable {P : Program}
theorem wpList_store_rowP {ops : Array Oper} {rest : List Oper} {o : Oper} {a : Act} {w : World} {Q : Exit → Act → World → Prop} (hgd : o.guard = none) (ty : TypeId) (x y : Operand) (ho : o.op = .store ty x y)
    (hd : o.dst = none) (g : Nat) (cells : Array Value) (hx : a.eval x = .pointer (some ⟨g, 0, none⟩)) (hy : a.eval y = .agg cells)
    (t : TypeId) (old : Array Value) (hg : w.heap[g]? = some (.cells old t (0, 0))) (hi : (P.info? ty).map (·.size) = some cells.size)
    (hold : old.size = cells.size) (h1 : cells.toList.all (·.oneCell') = true)
    (h : ∀ w2, Put w g t cells w2 → wpList P ops Q rest a w2) : wpList P ops Q (o :: rest) a w :=
  wpList_store_row hgd ty x y ho g cells hx hy t old hg hi hold (by rw [← Array.all_toList]; exact h1) (by rw [hd]; exact h _ (put_setRow hg cells))
theorem run_storeVar_field (w : World) (g i : Nat) (t ty : TypeId) (old : Array Value) (v : Value) (hg : w.heap[g]? = some (.cells old t (0, 0))) (hi : (P.info? ty).map (·.size) = some 1)
    (hlt : i < old.size) (h1 : v.oneCell' = true) : (storeVar ty ⟨g, i, none⟩ v).run P w = .ok () (w.setRow g (old.setIfInBounds i v)) := by
  have hc : v.cells = #[v] := by cases v <;> first | rfl | cases h1
  have hadd : (⟨g, i, none⟩ : Addr).add 0 = ⟨g, i, none⟩ := by unfold Addr.add; split <;> simp_all
  have hcell : w.cell? ⟨g, i, none⟩ = some old[i] := by simp [World.cell?, hg, hlt]
  have hfro : w.frozen? ⟨g, i, none⟩ = false := by simp [World.frozen?, hg]
  have hst : (store ((⟨g, i, none⟩ : Addr).add 0) v).run P w = .ok () (w.setRow g (old.setIfInBounds i v)) := by
    rw [hadd, run_store P w _ v _ h1, hcell]
    simp [hfro, setCell_eq_setRow w g i old t (0, 0) v hg]
  cases hq : P.info? ty with
  | none => simp [hq] at hi
  | some j =>
    have hs : j.size = 1 := by simpa [hq] using hi
    simp [storeVar, sizeOf, typeInfo, hq, hc, hs, storeCells, Sem.run_bind, hst]
theorem wpList_store_fieldP {ops : Array Oper} {rest : List Oper} {o : Oper} {a : Act} {w : World} {Q : Exit → Act → World → Prop} (hgd : o.guard = none) (ty : TypeId) (x y : Operand) (ho : o.op = .store ty x y)
    (hd : o.dst = none) (g i : Nat) (v : Value) (hx : a.eval x = .pointer (some ⟨g, i, none⟩)) (hy : a.eval y = v)
    (t : TypeId) (old new : Array Value) (hg : w.heap[g]? = some (.cells old t (0, 0))) (hi : (P.info? ty).map (·.size) = some 1)
    (hlt : i < old.size) (h1 : v.oneCell' = true) (hn : old.setIfInBounds i v = new)
    (h : ∀ w2, Put w g t new w2 → wpList P ops Q rest a w2) : wpList P ops Q (o :: rest) a w := by
  subst hn
  refine wpList_plain hgd fun _ hK => ?_
  unfold Oper.wp execOp
  simp only [ho, hx, hy, Instr.storeAt, Instr.sureAddr, Sem.run_bind, Sem.run_pure, Result.andThen_ok, run_storeVar_field w g i t ty old v hg hi hlt h1]
  exact hK (a.put o.dst undef) _ (by rw [hd]; exact h _ (put_setRow hg _))
end
end Go.Hw

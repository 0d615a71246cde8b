/- Regions whose order is drawn, by the slots that they write: a relation over what has been done so far. -/
import Derived.Test.YtdlhbmncbmconaaGreatDoorWc
import Derived.Test.YtdlhbmncbmconaaGreatDoorWd
import Derived.Below
namespace Go.Hw
open Go.RowKit
def putAll (T : Array Value) : List (Nat × Nat) → (Nat → Value) → Array Value
  | [], _ => T
  | s :: r, X => (putAll T r X).setIfInBounds s.1 (X s.2)
def upd (X : Nat → Value) (i : Nat) (y : Value) (j : Nat) : Value := if j = i then y else X j
theorem getD_rep {n i : Nat} (h : (Array.replicate n false).getD i false = true) : False := by
  simp only [Array.getD_eq_getD_getElem?, Array.getElem?_replicate] at h
  split at h <;> cases h
def forwardB (md : Region.Mode) (ops : Array Oper) : Bool := (List.range ops.size).all fun i => ((ops[i]?).map (·.after.all fun e => !Region.binds md e || decide (e.on < i))).getD true
theorem all_listedB {md : Region.Mode} {ops : Array Oper} {L : Array Bool} (hs : L.size = ops.size) (hf : forwardB md ops = true) (hr : Region.ready md ops L = []) : ∀ n i, i < n → i < ops.size → L.getD i false = true := by
  intro n
  induction n with
  | zero => intro i h; omega
  | succ n ih =>
    intro i hi hlt
    by_cases hin : i < n
    · exact ih i hin hlt
    · cases hg : L.getD i false with
      | true => rfl
      | false =>
        have hmem : i ∈ Region.ready md ops L := by
          unfold Region.ready
          rw [List.mem_filter]
          refine ⟨by simpa using hlt, ?_⟩
          have hgt : L.getD i true = false := by
            have hl : i < L.size := by omega
            simp [Array.getD, hl] at hg ⊢
            exact hg
          simp only [hgt, Bool.not_false, Bool.true_and]
          have ho : ops[i]? = some ops[i] := Array.getElem?_eq_getElem hlt
          rw [ho]
          simp only [Option.map_some, Option.getD_some, Array.all_eq_true']
          intro e he
          have hfi := List.all_eq_true.1 hf i (by simpa using hlt)
          rw [ho] at hfi
          simp only [Option.map_some, Option.getD_some, Array.all_eq_true'] at hfi
          have hei := hfi e he
          cases hb : Region.binds md e with
          | false => simp
          | true =>
            have hon : e.on < i := by simpa [hb] using hei
            have := ih e.on (by omega) (by omega)
            simp [this]
        rw [hr] at hmem
        cases hmem
theorem wpAny_invB {P : Program} {md : Region.Mode} {ops : Array Oper} {Q : Exit → Act → World → Prop} (Inv : Array Bool → Act → World → Prop) (hf : forwardB md ops = true)
    (hstep : ∀ L a w i, L.size = ops.size → Inv L a w → i ∈ Region.ready md ops L → wpOp P ops Q i (fun a' w' => Inv (L.setIfInBounds i true) a' w') a w)
    (hend : ∀ L a w, Inv L a w → (∀ i, i < ops.size → L.getD i false = true) → Q .normal a w) :
    ∀ fuel L a w, L.size = ops.size → left L ≤ fuel → Inv L a w → wpAny P md ops Q fuel L a w := by
  intro fuel
  induction fuel with
  | zero =>
    intro L a w hs hl hi
    have hr : Region.ready md ops L = [] := by
      cases hr : Region.ready md ops L with
      | nil => rfl
      | cons j t =>
        have := left_set (ready_deps (md := md) (ops := ops) (L := L) (i := j) (by rw [hr]; simp)).2.1
        omega
    exact ⟨hr, hend L a w hi (fun i hlt => all_listedB hs hf hr (i + 1) i (by omega) hlt)⟩
  | succ fuel ih =>
    intro L a w hs hl hi
    refine ⟨fun hr => hend L a w hi (fun i hlt => all_listedB hs hf hr (i + 1) i (by omega) hlt), fun i hm => ?_⟩
    refine wpOp_mono (fun a' w' h => ih _ a' w' (by simpa using hs) ?_ h) (hstep L a w i hs hi hm)
    have := left_set (ready_deps hm).2.1
    omega
theorem region_inv3 {P : Program} {id : Nat} {Q : Exit → Act → World → Prop} {a : Act} {w : World} {l : List Oper} (Inv : Array Bool → Act → World → Prop) (hm : P.follows .mixedOrders = true) (hf : forwardB .any l.toArray = true)
    (h0 : Inv (Array.replicate l.toArray.size false) a w.drew)
    (hstep : ∀ L a w i, Inv L a w → i < l.toArray.size → (∀ o, l.toArray[i]? = some o → ∀ e ∈ o.after, Region.binds .any e = true → L.getD e.on false = true) → L.getD i true = false → wpOp P l.toArray Q i (fun a' w' => Inv (L.setIfInBounds i true) a' w') a w)
    (hend : ∀ L a w, Inv L a w → (∀ i, i < l.toArray.size → L.getD i false = true) → Q .normal a w) : (Code.region id l.toArray true).wp P Q a w :=
  wp_region_any hm (wpAny_invB Inv hf (fun L a w i _ hi hr => hstep L a w i hi (ready_deps hr).1 (ready_deps hr).2.2 (ready_deps hr).2.1) hend _ _ _ _ (by simp) (by rw [left_none]; exact Nat.le_refl _) h0)
theorem region_slots {P : Program} {id : Nat} {Q : Exit → Act → World → Prop} {T : Array Value} {w : World} {l : List Oper} (slots : List (Nat × Nat)) (R : Array Bool → (Nat → Value) → World → Prop) (hm : P.follows .mixedOrders = true) (hf : forwardB .any l.toArray = true)
    (h0 : T = putAll T slots (fun _ => undef)) (hr : R (Array.replicate l.toArray.size false) (fun _ => undef) w.drew)
    (hstep : ∀ L X w i, R L X w → i < l.toArray.size → (∀ o, l.toArray[i]? = some o → ∀ e ∈ o.after, Region.binds .any e = true → L.getD e.on false = true) → L.getD i true = false → wpOp P l.toArray Q i (fun a' w' => ∃ X, a' = ⟨putAll T slots X, []⟩ ∧ R (L.setIfInBounds i true) X w') ⟨putAll T slots X, []⟩ w)
    (hend : ∀ L X w, R L X w → (∀ i, i < l.toArray.size → L.getD i false = true) → Q .normal ⟨putAll T slots X, []⟩ w) : (Code.region id l.toArray true).wp P Q ⟨T, []⟩ w :=
  region_inv3 (fun L a w => ∃ X, a = ⟨putAll T slots X, []⟩ ∧ R L X w) hm hf ⟨_, by rw [← h0], hr⟩ (fun L a w i ⟨X, e, h⟩ hi hd hn => by subst e; exact hstep L X w i h hi hd hn) (fun L a w ⟨X, e, h⟩ ha => by subst e; exact hend L X w h ha)
theorem region_slots0 {P : Program} {id : Nat} {Q : Exit → Act → World → Prop} {T : Array Value} {w : World} {l : List Oper} (slots : List (Nat × Nat)) (X0 : Nat → Value) (R : Array Bool → (Nat → Value) → World → Prop) (hm : P.follows .mixedOrders = true) (hf : forwardB .any l.toArray = true)
    (h0 : T = putAll T slots X0) (hr : R (Array.replicate l.toArray.size false) X0 w.drew)
    (hstep : ∀ L X w i, R L X w → i < l.toArray.size → (∀ o, l.toArray[i]? = some o → ∀ e ∈ o.after, Region.binds .any e = true → L.getD e.on false = true) → L.getD i true = false → wpOp P l.toArray Q i (fun a' w' => ∃ X, a' = ⟨putAll T slots X, []⟩ ∧ R (L.setIfInBounds i true) X w') ⟨putAll T slots X, []⟩ w)
    (hend : ∀ L X w, R L X w → (∀ i, i < l.toArray.size → L.getD i false = true) → Q .normal ⟨putAll T slots X, []⟩ w) : (Code.region id l.toArray true).wp P Q ⟨T, []⟩ w :=
  region_inv3 (fun L a w => ∃ X, a = ⟨putAll T slots X, []⟩ ∧ R L X w) hm hf ⟨_, by rw [← h0], hr⟩ (fun L a w i ⟨X, e, h⟩ hi hd hn => by subst e; exact hstep L X w i h hi hd hn) (fun L a w ⟨X, e, h⟩ ha => by subst e; exact hend L X w h ha)
structure DrS (V : Nat → Value) (s : Nat) (O : Obj) (A : Addr → Value) (B : World) (L : Array Bool) (X : Nat → Value) (w' : World) : Prop where
  bel : Below B.heap.size B w'
  f : ∀ i, i ≠ s → L.getD i false = true → X i = V i
  fs : L.getD s false = true → ∃ g, X s = A ⟨g, 0, none⟩ ∧ B.heap.size ≤ g ∧ w'.heap[g]? = some O
theorem DrS.start {V : Nat → Value} {s : Nat} {O : Obj} {A : Addr → Value} {B : World} {n : Nat} {X : Nat → Value} : DrS V s O A B (Array.replicate n false) X B.drew := ⟨(Below.refl _ _).drew, fun _ _ e => (getD_rep e).elim, fun e => (getD_rep e).elim⟩
theorem DrS.step {V : Nat → Value} {s : Nat} {O : Obj} {A : Addr → Value} {B w' : World} {L : Array Bool} {X : Nat → Value} (h : DrS V s O A B L X w') (i : Nat) (hi : i ≠ s) {y : Value} (hy : y = V i) : DrS V s O A B (L.setIfInBounds i true) (upd X i y) w' where
  bel := h.bel
  f j a e := by
    unfold upd
    split
    · next hj => rw [hj]; exact hy
    · next hj => exact h.f j a ((listed_set e).resolve_left hj)
  fs e := by
    obtain ⟨g, h1, h2⟩ := h.fs ((listed_set e).resolve_left (fun e => hi e.symm))
    exact ⟨g, by unfold upd; rw [if_neg (fun e => hi e.symm)]; exact h1, h2⟩
theorem DrS.alloc {V : Nat → Value} {s : Nat} {O : Obj} {A : Addr → Value} {B w' : World} {L : Array Bool} {X : Nat → Value} (h : DrS V s O A B L X w') : DrS V s O A B (L.setIfInBounds s true) (upd X s (A ⟨w'.heap.size, 0, none⟩)) (w'.alloc O) where
  bel := h.bel.alloc h.bel.size _
  f j a e := by
    unfold upd
    rw [if_neg a]
    exact h.f j a ((listed_set e).resolve_left a)
  fs _ := ⟨w'.heap.size, by simp [upd], h.bel.size, heap_alloc_new _ _⟩
end Go.Hw

/- The statements' World: its row, its slices, the roles of blocks, the lists that came out. -/
import Derived.Test.YtdlhbmncbmconaaGreatDoorBg
import Derived.Test.YtdlhbmncbmconaaGreatDoorWl
namespace Go.Proofs.YtdlhbmncbmconaaGreatDoor
open Go.RowKit Go.Sort
def ext (ρ : Nat → Nat × Nat) (n : Nat) (r : Nat × Nat) : Nat → Nat × Nat := fun k => if k < n then ρ k else r
theorem ext_lt {ρ : Nat → Nat × Nat} {n k : Nat} {r : Nat × Nat} (h : k < n) : ext ρ n r k = ρ k := if_pos h
theorem ext_ge {ρ : Nat → Nat × Nat} {n k : Nat} {r : Nat × Nat} (h : n ≤ k) : ext ρ n r k = r := if_neg (by omega)
def up {α : Type} (X : Nat → α) (i : Nat) (y : α) : Nat → α := fun k => if k = i then y else X k
theorem up_at {α : Type} (X : Nat → α) (i : Nat) (y : α) : up X i y i = y := if_pos rfl
theorem up_ne {α : Type} (X : Nat → α) {i k : Nat} (y : α) (h : k ≠ i) : up X i y k = X k := if_neg h
structure LiI where
  v : Value
  n : Nat
  m : List UInt8
structure LiItem (w : World) (ρ : Nat → Nat × Nat) (x : LiI) : Prop where
  own : w.ownsRow 0 9 1 x.v x.n (List.replicate x.n (strV x.m))
  role : ∀ k, x.v.ownBlock = some k → (ρ k).1 = 5
structure Sl (w : World) (ρ : Nat → Nat × Nat) (r : Nat × Nat) (t : TypeId) (v : Value) (xs : List Value) : Prop where
  own : w.ownsRow 0 t 1 v xs.length xs
  role : ∀ k, v.ownBlock = some k → ρ k = r
theorem own_lt {w : World} {base e size n : Nat} {v : Value} {xs : List Value} (h : w.ownsRow base e size v n xs) {k : Nat} (hk : v.ownBlock = some k) : k < w.heap.size := by
  obtain ⟨cur, hc⟩ := Hw.ownsRow_cells h hk
  exact (Array.getElem?_eq_some_iff.1 hc).1
theorem Sl.keep {S : Nat → Prop} {w w' : World} {ρ ρ' : Nat → Nat × Nat} {r : Nat × Nat} {t : TypeId} {v : Value} {xs : List Value} (h : Sl w ρ r t v xs) (hk : Hw.Kept S w w') (ag : ∀ k, k < w.heap.size → ρ' k = ρ k) (hS : ∀ k, k < w.heap.size → S k → ρ k ≠ r) : Sl w' ρ' r t v xs :=
  ⟨Hw.ownsRow_keptS h.own hk (fun k e s => hS k (own_lt h.own e) s (h.role k e)), fun k e => (ag k (own_lt h.own e)).trans (h.role k e)⟩
theorem LiItem.keep {S : Nat → Prop} {w w' : World} {ρ ρ' : Nat → Nat × Nat} {x : LiI} (h : LiItem w ρ x) (hk : Hw.Kept S w w') (ag : ∀ k, k < w.heap.size → ρ' k = ρ k) (hS : ∀ k, k < w.heap.size → S k → x.v.ownBlock ≠ some k) : LiItem w' ρ' x :=
  ⟨Hw.ownsRow_keptS h.own hk (fun k e s => hS k (own_lt h.own e) s e), fun k e => (congrArg Prod.fst (ag k (own_lt h.own e))).trans (h.role k e)⟩
def wty : Nat → TypeId
  | 0 => 45
  | 1 => 169
  | 2 => 56
  | 3 => 173
  | 4 => 63
  | 5 => 176
  | 6 => 42
  | _ => 9
def Stable (c : Nat) (I : World → (Nat → Nat × Nat) → Prop) : Prop := ∀ (S : Nat → Prop) (w w' : World) (ρ ρ' : Nat → Nat × Nat), I w ρ → Hw.Kept S w w' → (∀ k, k < w.heap.size → ρ' k = ρ k) → (∀ k, k < w.heap.size → S k → (ρ k).1 ≠ c) → I w' ρ'
def wCells (vs : Nat → Value) (n : Nat) : Array Value := #[vs 0, vs 1, vs 2, vs 3, vs 4, vs 5, vs 6, vs 7, .int .i64 n]
theorem wCells_up (vs : Nat → Value) (n : Nat) (v : Value) {j : Nat} (hj : j < 8) : (wCells vs n).setIfInBounds j v = wCells (up vs j v) n := by
  have h : j = 0 ∨ j = 1 ∨ j = 2 ∨ j = 3 ∨ j = 4 ∨ j = 5 ∨ j = 6 ∨ j = 7 := by omega
  rcases h with h | h | h | h | h | h | h | h <;> subst h <;> rfl
theorem wCells_last (vs : Nat → Value) (n m : Nat) : (wCells vs n).setIfInBounds 8 (.int .i64 m) = wCells vs m := rfl
theorem wCells_get (vs : Nat → Value) (n : Nat) {j : Nat} (hj : j < 8) : (wCells vs n)[j]? = some (vs j) := by
  have h : j = 0 ∨ j = 1 ∨ j = 2 ∨ j = 3 ∨ j = 4 ∨ j = 5 ∨ j = 6 ∨ j = 7 := by omega
  rcases h with h | h | h | h | h | h | h | h <;> subst h <;> rfl
structure WIn (B p : Nat) (vs : Nat → Value) (xs : Nat → List Value) (n : Nat) (I1 I2 I3 : World → (Nat → Nat × Nat) → Prop) (li : List LiI) (ρ : Nat → Nat × Nat) (w : World) : Prop where
  row : w.heap[p]? = some (.cells (wCells vs n) 142 (0, 0))
  rp : ρ p = (9, 0)
  sl : ∀ j, j < 8 → Sl w ρ (j + 10, 0) (wty j) (vs j) (xs j)
  i1 : I1 w ρ
  i2 : I2 w ρ
  i3 : I3 w ρ
  s1 : Stable 1 I1
  s2 : Stable 2 I2
  s3 : Stable 3 I3
  each : ∀ x ∈ li, LiItem w ρ x
  lo : ∀ k, k < B → (ρ k).1 = 0
section
variable {B p : Nat} {vs : Nat → Value} {xs : Nat → List Value} {n : Nat} {I1 I2 I3 : World → (Nat → Nat × Nat) → Prop} {li : List LiI} {ρ ρ' : Nat → Nat × Nat} {w w' : World} {S : Nat → Prop}
theorem WIn.lt (h : WIn B p vs xs n I1 I2 I3 li ρ w) : p < w.heap.size := (Array.getElem?_eq_some_iff.1 h.row).1
theorem WIn.le (h : WIn B p vs xs n I1 I2 I3 li ρ w) : B ≤ p := Nat.le_of_not_lt fun hlt => by
  have h1 := h.lo p hlt
  rw [h.rp] at h1
  cases h1
theorem WIn.below (h : WIn B p vs xs n I1 I2 I3 li ρ w) (hk : Hw.Kept S w w') (hS : ∀ k, k < w.heap.size → S k → (ρ k).1 ≠ 0) : Below B w w' :=
  hk.below (fun k hk s => Nat.le_of_not_lt fun hlt => hS k hk s (h.lo k hlt)) (Nat.le_of_lt (Nat.lt_of_le_of_lt h.le h.lt))
theorem WIn.lo' (h : WIn B p vs xs n I1 I2 I3 li ρ w) (ag : ∀ k, k < w.heap.size → ρ' k = ρ k) : ∀ k, k < B → (ρ' k).1 = 0 := fun k hk => by
  rw [ag k (by have := h.le; have := h.lt; omega)]
  exact h.lo k hk
def Free (ρ : Nat → Nat × Nat) (li : List LiI) (k : Nat) : Prop := (ρ k).1 = 0 ∨ ((ρ k).1 = 5 ∧ ∀ x ∈ li, x.v.ownBlock ≠ some k)
theorem Free.ne {k : Nat} (h : Free ρ li k) : (ρ k).1 ≠ 1 ∧ (ρ k).1 ≠ 2 ∧ (ρ k).1 ≠ 3 ∧ (ρ k).1 < 9 := by
  rcases h with h | ⟨h, _⟩ <;> omega
theorem role_ne {a : Nat × Nat} {c d : Nat} (h : a.1 < c) : a ≠ (c, d) := fun e => by rw [e] at h; exact Nat.lt_irrefl _ h
theorem WIn.next (h : WIn B p vs xs n I1 I2 I3 li ρ w) (hk : Hw.Kept S w w') (ag : ∀ k, k < w.heap.size → ρ' k = ρ k) (hS : ∀ k, k < w.heap.size → S k → Free ρ li k) : WIn B p vs xs n I1 I2 I3 li ρ' w' where
  row := (hk.block p h.lt (fun s => by have := (hS p h.lt s).ne; rw [h.rp] at this; exact absurd this.2.2.2 (by decide))).trans h.row
  rp := (ag p h.lt).trans h.rp
  sl j hj := (h.sl j hj).keep hk ag (fun k hk s => role_ne (by have := (hS k hk s).ne; omega))
  i1 := h.s1 S w w' ρ ρ' h.i1 hk ag (fun k hk s => (hS k hk s).ne.1)
  i2 := h.s2 S w w' ρ ρ' h.i2 hk ag (fun k hk s => (hS k hk s).ne.2.1)
  i3 := h.s3 S w w' ρ ρ' h.i3 hk ag (fun k hk s => (hS k hk s).ne.2.2.1)
  s1 := h.s1
  s2 := h.s2
  s3 := h.s3
  each x hx := (h.each x hx).keep hk ag (fun k hk s e => by
    rcases hS k hk s with h0 | ⟨_, h5⟩
    · have := (h.each x hx).role k e
      omega
    · exact h5 x hx e)
  lo := h.lo' ag
theorem WIn.next0 (h : WIn B p vs xs n I1 I2 I3 li ρ w) (hb : Below w.heap.size w w') : WIn B p vs xs n I1 I2 I3 li ρ w' :=
  h.next (S := fun _ => False) (Hw.Kept.of_below hb) (fun _ _ => rfl) (fun _ _ f => f.elim)
theorem WIn.set1 {J : World → (Nat → Nat × Nat) → Prop} (h : WIn B p vs xs n I1 I2 I3 li ρ w) (hk : Hw.Kept S w w') (ag : ∀ k, k < w.heap.size → ρ' k = ρ k) (hS : ∀ k, k < w.heap.size → S k → (ρ k).1 = 1) (hJ : J w' ρ') (sJ : Stable 1 J) : WIn B p vs xs n J I2 I3 li ρ' w' where
  row := (hk.block p h.lt (fun s => by have := hS p h.lt s; rw [h.rp] at this; cases this)).trans h.row
  rp := (ag p h.lt).trans h.rp
  sl j hj := (h.sl j hj).keep hk ag (fun k hk s => role_ne (by have := hS k hk s; omega))
  i1 := hJ
  i2 := h.s2 S w w' ρ ρ' h.i2 hk ag (fun k hk s => by rw [hS k hk s]; decide)
  i3 := h.s3 S w w' ρ ρ' h.i3 hk ag (fun k hk s => by rw [hS k hk s]; decide)
  s1 := sJ
  s2 := h.s2
  s3 := h.s3
  each x hx := (h.each x hx).keep hk ag (fun k hk s e => by have h1 := (h.each x hx).role k e; rw [hS k hk s] at h1; cases h1)
  lo := h.lo' ag
theorem WIn.set2 {J : World → (Nat → Nat × Nat) → Prop} (h : WIn B p vs xs n I1 I2 I3 li ρ w) (hk : Hw.Kept S w w') (ag : ∀ k, k < w.heap.size → ρ' k = ρ k) (hS : ∀ k, k < w.heap.size → S k → (ρ k).1 = 2) (hJ : J w' ρ') (sJ : Stable 2 J) : WIn B p vs xs n I1 J I3 li ρ' w' where
  row := (hk.block p h.lt (fun s => by have := hS p h.lt s; rw [h.rp] at this; cases this)).trans h.row
  rp := (ag p h.lt).trans h.rp
  sl j hj := (h.sl j hj).keep hk ag (fun k hk s => role_ne (by have := hS k hk s; omega))
  i1 := h.s1 S w w' ρ ρ' h.i1 hk ag (fun k hk s => by rw [hS k hk s]; decide)
  i2 := hJ
  i3 := h.s3 S w w' ρ ρ' h.i3 hk ag (fun k hk s => by rw [hS k hk s]; decide)
  s1 := h.s1
  s2 := sJ
  s3 := h.s3
  each x hx := (h.each x hx).keep hk ag (fun k hk s e => by have h1 := (h.each x hx).role k e; rw [hS k hk s] at h1; cases h1)
  lo := h.lo' ag
theorem WIn.set3 {J : World → (Nat → Nat × Nat) → Prop} (h : WIn B p vs xs n I1 I2 I3 li ρ w) (hk : Hw.Kept S w w') (ag : ∀ k, k < w.heap.size → ρ' k = ρ k) (hS : ∀ k, k < w.heap.size → S k → (ρ k).1 = 3) (hJ : J w' ρ') (sJ : Stable 3 J) : WIn B p vs xs n I1 I2 J li ρ' w' where
  row := (hk.block p h.lt (fun s => by have := hS p h.lt s; rw [h.rp] at this; cases this)).trans h.row
  rp := (ag p h.lt).trans h.rp
  sl j hj := (h.sl j hj).keep hk ag (fun k hk s => role_ne (by have := hS k hk s; omega))
  i1 := h.s1 S w w' ρ ρ' h.i1 hk ag (fun k hk s => by rw [hS k hk s]; decide)
  i2 := h.s2 S w w' ρ ρ' h.i2 hk ag (fun k hk s => by rw [hS k hk s]; decide)
  i3 := hJ
  s1 := h.s1
  s2 := h.s2
  s3 := sJ
  each x hx := (h.each x hx).keep hk ag (fun k hk s e => by have h1 := (h.each x hx).role k e; rw [hS k hk s] at h1; cases h1)
  lo := h.lo' ag
theorem WIn.last {m : Nat} (h : WIn B p vs xs n I1 I2 I3 li ρ w) (P : Hw.Put w p 142 (wCells vs m) w') : WIn B p vs xs m I1 I2 I3 li ρ w' where
  row := P.row
  rp := h.rp
  sl j hj := (h.sl j hj).keep P.kept (fun _ _ => rfl) (fun k _ s e => by subst s; rw [h.rp] at e; have := congrArg Prod.fst e; dsimp only at this; omega)
  i1 := h.s1 _ w w' ρ ρ h.i1 P.kept (fun _ _ => rfl) (fun k _ s => by subst s; rw [h.rp]; decide)
  i2 := h.s2 _ w w' ρ ρ h.i2 P.kept (fun _ _ => rfl) (fun k _ s => by subst s; rw [h.rp]; decide)
  i3 := h.s3 _ w w' ρ ρ h.i3 P.kept (fun _ _ => rfl) (fun k _ s => by subst s; rw [h.rp]; decide)
  s1 := h.s1
  s2 := h.s2
  s3 := h.s3
  each x hx := (h.each x hx).keep P.kept (fun _ _ => rfl) (fun k _ s e => by subst s; have := (h.each x hx).role _ e; rw [h.rp] at this; cases this)
  lo := h.lo
theorem WIn.app {o : Obj} {w5 w6 : World} {j : Nat} (hj : j < 8) {v : Value} {x : Value} (h : WIn B p vs xs n I1 I2 I3 li ρ w) (hown : w5.ownsRow 0 (wty j) 1 v ((xs j).length + 1) (xs j ++ [x])) (hg : (w.alloc o).grownBy w5 (vs j).ownBlock)
    (hat : v.ownBlock = (vs j).ownBlock ∨ v.ownBlock = some (w.alloc o).heap.size) (P : Hw.Put w5 p 142 (wCells (up vs j v) n) w6) :
    WIn B p (up vs j v) (up xs j (xs j ++ [x])) n I1 I2 I3 li (ext ρ w.heap.size (j + 10, 0)) w6 ∧ Below B w w6 := by
  have hk1 : Hw.Kept (fun k => (vs j).ownBlock = some k) w w5 := ((Hw.Kept.refl _ _).alloc o).trans ((Hw.Kept.of_grown hg).mono (T := fun k => (vs j).ownBlock = some k) (fun _ _ e => e.symm)) (fun _ _ e => e)
  have hk : Hw.Kept (fun k => k = p ∨ (vs j).ownBlock = some k) w w6 := (hk1.mono (fun _ _ e => .inr e)).trans P.kept (fun _ _ e => .inl e)
  have hr : ∀ k, k < w.heap.size → (k = p ∨ (vs j).ownBlock = some k) → ρ k = (9, 0) ∨ ρ k = (j + 10, 0) := fun k _ e => by
    rcases e with e | e
    · subst e; exact .inl h.rp
    · exact .inr ((h.sl j hj).role k e)
  have h9 : ∀ k, k < w.heap.size → (k = p ∨ (vs j).ownBlock = some k) → 9 ≤ (ρ k).1 := fun k hk e => by
    rcases hr k hk e with e | e <;> rw [e]
    · exact Nat.le_refl _
    · show 9 ≤ j + 10
      omega
  have ag : ∀ k, k < w.heap.size → ext ρ w.heap.size (j + 10, 0) k = ρ k := fun k hk => ext_lt hk
  refine ⟨⟨P.row, (ag p h.lt).trans h.rp, fun i hi => ?_, h.s1 _ w w6 ρ _ h.i1 hk ag (fun k hk s e => by have := h9 k hk s; omega), h.s2 _ w w6 ρ _ h.i2 hk ag (fun k hk s e => by have := h9 k hk s; omega), h.s3 _ w w6 ρ _ h.i3 hk ag (fun k hk s e => by have := h9 k hk s; omega), h.s1, h.s2, h.s3, fun y hy => (h.each y hy).keep hk ag (fun k hk s e => by have := h9 k hk s; have := (h.each y hy).role k e; omega), h.lo' ag⟩, h.below hk (fun k hk s e => by have := h9 k hk s; omega)⟩
  by_cases hij : i = j
  · subst hij
    rw [up_at, up_at]
    have hvp : ∀ k, v.ownBlock = some k → k ≠ p := fun k e e2 => by
      subst e2
      rcases hat with e3 | e3
      · rw [e3] at e
        have := (h.sl i hi).role k e
        rw [h.rp] at this
        have := congrArg Prod.fst this
        dsimp only at this
        omega
      · rw [e3] at e
        have := h.lt
        simp at e
        omega
    refine ⟨?_, fun k e => ?_⟩
    · have := Hw.ownsRow_keptS hown P.kept (fun k e s => hvp k e s)
      simpa using this
    · rcases hat with e3 | e3
      · rw [e3] at e
        rw [ag k (own_lt (h.sl i hi).own e)]
        exact (h.sl i hi).role k e
      · rw [e3] at e
        exact ext_ge (by simp at e; omega)
  · rw [up_ne _ _ hij, up_ne _ _ hij]
    exact (h.sl i hi).keep hk ag (fun k hk s e => by
      rcases hr k hk s with e2 | e2 <;> rw [e2] at e <;> have e := congrArg Prod.fst e <;> dsimp only at e <;> omega)
theorem WIn.appL {o : Obj} {w5 : World} {l v : Value} {k : Nat} {m : List UInt8} (h : WIn B p vs xs n I1 I2 I3 li ρ w) (hl : LiItem w ρ ⟨l, k, m⟩) (hle : ∀ y ∈ li, ∀ b, y.v.ownBlock = some b → l.ownBlock = some b → y.n ≤ k)
    (hown : w5.ownsRow 0 9 1 v (k + 1) (List.replicate k (strV m) ++ [strV m])) (hg : (w.alloc o).grownBy w5 l.ownBlock) (hat : v.ownBlock = l.ownBlock ∨ v.ownBlock = some (w.alloc o).heap.size) (hold : Hw.Older 9 l k (w.alloc o) w5) :
    WIn B p vs xs n I1 I2 I3 li (ext ρ w.heap.size (5, 0)) w5 ∧ LiItem w5 (ext ρ w.heap.size (5, 0)) ⟨v, k + 1, m⟩ ∧ (∀ y ∈ li, ∀ b, y.v.ownBlock = some b → v.ownBlock = some b → y.n ≤ k + 1) ∧ Below B w w5 := by
  have hk : Hw.Kept (fun k => l.ownBlock = some k) w w5 := ((Hw.Kept.refl _ _).alloc o).trans ((Hw.Kept.of_grown hg).mono (T := fun k => l.ownBlock = some k) (fun _ _ e => e.symm)) (fun _ _ e => e)
  have ag : ∀ k, k < w.heap.size → ext ρ w.heap.size (5, 0) k = ρ k := fun k hk => ext_lt hk
  have h5 : ∀ k, k < w.heap.size → l.ownBlock = some k → (ρ k).1 = 5 := fun k _ e => hl.role k e
  refine ⟨⟨(hk.block p h.lt (fun s => by have := h5 p h.lt s; rw [h.rp] at this; cases this)).trans h.row, (ag p h.lt).trans h.rp, fun j hj => (h.sl j hj).keep hk ag (fun k hk s => role_ne (by have := h5 k hk s; omega)),
    h.s1 _ w w5 ρ _ h.i1 hk ag (fun k hk s e => by have := h5 k hk s; omega), h.s2 _ w w5 ρ _ h.i2 hk ag (fun k hk s e => by have := h5 k hk s; omega), h.s3 _ w w5 ρ _ h.i3 hk ag (fun k hk s e => by have := h5 k hk s; omega), h.s1, h.s2, h.s3, fun y hy => ?_, h.lo' ag⟩, ⟨?_, fun b e => ?_⟩, fun y hy b e1 e2 => ?_, h.below hk (fun k hk s e => by have := h5 k hk s; omega)⟩
  · refine ⟨hold _ _ _ (Hw.ownsRow_keptS (S := fun _ => False) (h.each y hy).own (Hw.Kept.of_below ((Below.refl _ _).alloc (Nat.le_refl _) o)) (fun _ _ f => f)) (fun b e1 e2 => hle y hy b e1 e2), fun b e => ?_⟩
    rw [ag b (own_lt (h.each y hy).own e)]
    exact (h.each y hy).role b e
  · rw [List.replicate_succ']
    exact hown
  · rcases hat with e3 | e3
    · rw [e3] at e
      rw [ag b (own_lt hl.own e)]
      exact hl.role b e
    · rw [e3] at e
      rw [ext_ge (by simp at e; omega)]
  · rcases hat with e3 | e3
    · rw [e3] at e2
      exact Nat.le_succ_of_le (hle y hy b e1 e2)
    · rw [e3] at e2
      have := own_lt (h.each y hy).own e1
      simp at e2
      omega
theorem WIn.add {x : LiI} (h : WIn B p vs xs n I1 I2 I3 li ρ w) (hx : LiItem w ρ x) : WIn B p vs xs n I1 I2 I3 (li ++ [x]) ρ w :=
  ⟨h.row, h.rp, h.sl, h.i1, h.i2, h.i3, h.s1, h.s2, h.s3, fun y hy => by
    rcases List.mem_append.1 hy with hy | hy
    · exact h.each y hy
    · simp at hy; subst hy; exact hx, h.lo⟩
theorem WIn.cell (h : WIn B p vs xs n I1 I2 I3 li ρ w) {j : Nat} (hj : j < 8) : w.cell? ⟨p, j, none⟩ = some (vs j) := by
  simp [World.cell?, h.row, wCells_get vs n hj]
theorem WIn.cell8 (h : WIn B p vs xs n I1 I2 I3 li ρ w) : w.cell? ⟨p, 8, none⟩ = some (.int .i64 n) := by
  simp [World.cell?, h.row, wCells]
theorem WIn.own (h : WIn B p vs xs n I1 I2 I3 li ρ w) {j : Nat} (hj : j < 8) : w.cell? ⟨p, j, none⟩ = some (vs j) ∧ w.ownsRow 0 (wty j) 1 (vs j) (xs j).length (xs j) ∧
    ∀ (o : Obj) (v : Value) (w5 : World) (x : Value), w5.ownsRow 0 (wty j) 1 v ((xs j).length + 1) (xs j ++ [x]) → (w.alloc o).grownBy w5 (vs j).ownBlock → (v.ownBlock = (vs j).ownBlock ∨ v.ownBlock = some (w.alloc o).heap.size) →
      ∃ old, w5.heap[p]? = some (.cells old 142 (0, 0)) ∧ old.size = 9 ∧ ∀ w6, Hw.Put w5 p 142 (old.setIfInBounds j v) w6 → WIn B p (up vs j v) (up xs j (xs j ++ [x])) n I1 I2 I3 li (ext ρ w.heap.size (j + 10, 0)) w6 ∧ Below B w w6 := by
  refine ⟨h.cell hj, (h.sl j hj).own, fun o v w5 x hown hg hat => ⟨wCells vs n, ?_, rfl, fun w6 P => ?_⟩⟩
  · refine (hg.block p (by have := h.lt; simp; omega) (fun e => ?_)).trans ((heap_alloc_old w o h.lt).trans h.row)
    have := (h.sl j hj).role p e.symm
    rw [h.rp] at this
    have := congrArg Prod.fst this
    dsimp only at this
    omega
  · rw [wCells_up _ _ _ hj] at P
    exact h.app hj hown hg hat P
end
end Go.Proofs.YtdlhbmncbmconaaGreatDoor

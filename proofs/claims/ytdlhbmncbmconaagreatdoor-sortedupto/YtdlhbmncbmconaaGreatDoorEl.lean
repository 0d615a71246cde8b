/- Contracts of the statements' package: made, of frames and of rules. -/
import Derived.Test.YtdlhbmncbmconaaGreatDoorBi
import Derived.Test.YtdlhbmncbmconaaGreatDoorBj
import Derived.Test.YtdlhbmncbmconaaGreatDoorEc
import Derived.Test.YtdlhbmncbmconaaGreatDoorEh
import Derived.Test.YtdlhbmncbmconaaGreatDoorEi
import Derived.Test.YtdlhbmncbmconaaGreatDoorEk
import Derived.Test.YtdlhbmncbmconaaGreatDoorVm
namespace Go.Hm
theorem rulesFrom_len : ∀ (k n : Nat) (l : List UInt8) (acc rs : List Rl), acc.length = n → n ≤ 12 → rulesFrom k n l acc = .ok rs → rs.length ≤ 12
  | 0, n, l, acc, rs, _, _, h => by cases h
  | k + 1, n, l, acc, rs, ha, hn, h => by
    unfold rulesFrom at h
    split at h
    · cases h; omega
    · split at h
      · cases h
      · next hc =>
        split at h
        · cases h
        · next r hr =>
          have : ¬ n = 12 := fun e => hc (.inl e)
          exact rulesFrom_len k _ _ _ rs (by simp [ha]) (by omega) h
theorem newRules_len {l : List UInt8} {rs : List Rl} (h : newRules l = .ok rs) : rs.length ≤ 12 := rulesFrom_len (l.length + 1) 0 l [] rs rfl (by omega) h
end Go.Hm
namespace Go.Proofs.YtdlhbmncbmconaaGreatDoor
open Go.RowKit Go.Sort
theorem own_ge {w : World} {base e size n : Nat} {v : Value} {xs : List Value} (h : w.ownsRow base e size v n xs) {k : Nat} (hk : v.ownBlock = some k) : base ≤ k := by
  rcases h.2 with ⟨rfl, _⟩ | ⟨g, cap, cur, rfl, hb, _⟩
  · cases hk
  · cases hk
    exact hb
structure LFr where
  p : Nat
  q : Nat
  b : Nat
  A : List UInt8
  C : List UInt8
  v : Value
structure FrItem (w : World) (ρ : Nat → Nat × Nat) (i : Nat) (x : LFr) : Prop where
  prog : FramesAt w x.p ((Hm.Frs.fresh x.b).feed x.A).1 x.v
  ref : w.heap[x.q]? = some (.cells (rfrCells x.b x.C (Hm.splitOf x.b x.C).1.length) 216 (0, 0))
  b1 : 1 ≤ x.b
  b2 : x.b ≤ 200
  rp : ρ x.p = (1, 3 * i)
  rv : ∀ k, x.v.ownBlock = some k → ρ k = (1, 3 * i + 1)
  rq : ρ x.q = (1, 3 * i + 2)
theorem FrItem.keep {S : Nat → Prop} {w w' : World} {ρ ρ' : Nat → Nat × Nat} {i : Nat} {x : LFr} (h : FrItem w ρ i x) (hk : Hw.Kept S w w') (ag : ∀ k, k < w.heap.size → ρ' k = ρ k) (hS : ∀ k, k < w.heap.size → S k → ρ k ≠ (1, 3 * i) ∧ ρ k ≠ (1, 3 * i + 1) ∧ ρ k ≠ (1, 3 * i + 2)) : FrItem w' ρ' i x := by
  have hp : x.p < w.heap.size := (Array.getElem?_eq_some_iff.1 h.prog.row).1
  have hq : x.q < w.heap.size := (Array.getElem?_eq_some_iff.1 h.ref).1
  exact ⟨h.prog.keep hk (fun s => (hS _ hp s).1 h.rp) (fun k e s => (hS _ (own_lt h.prog.own e) s).2.1 (h.rv k e)), (hk.block _ hq (fun s => (hS _ hq s).2.2 h.rq)).trans h.ref, h.b1, h.b2, (ag _ hp).trans h.rp, fun k e => (ag _ (own_lt h.prog.own e)).trans (h.rv k e), (ag _ hq).trans h.rq⟩
def FrP (frs : List LFr) (w : World) (ρ : Nat → Nat × Nat) : Prop := ∀ i x, frs[i]? = some x → FrItem w ρ i x
theorem FrP.stable (frs : List LFr) : Stable 1 (FrP frs) := fun _ _ _ _ _ h hk ag hS i x hx => (h i x hx).keep hk ag (fun k hk s => ⟨fun e => hS k hk s (by rw [e]), fun e => hS k hk s (by rw [e]), fun e => hS k hk s (by rw [e])⟩)
structure LRu where
  p : Nat
  q : Nat
  rs : List Hm.Rl
  xs : List RIt
  v : Value
  u : Value
structure RuItem (w : World) (ρ : Nat → Nat × Nat) (x : LRu) : Prop where
  prog : RulesAt w x.p x.rs x.v
  ref : RRulesAt w x.q x.rs x.xs x.u
  small : ∀ r ∈ x.rs, r.small
  len : x.rs.length ≤ 1000
  rp : (ρ x.p).1 = 2
  rv : ∀ k, x.v.ownBlock = some k → (ρ k).1 = 2
  rq : (ρ x.q).1 = 2
  ru : ∀ k, x.u.ownBlock = some k → (ρ k).1 = 2
  rx : ∀ y ∈ x.xs, ∀ k, y.v.ownBlock = some k → (ρ k).1 = 2
def RuP (rus : List LRu) (w : World) (ρ : Nat → Nat × Nat) : Prop := ∀ x ∈ rus, RuItem w ρ x
theorem RuItem.keep {S : Nat → Prop} {w w' : World} {ρ ρ' : Nat → Nat × Nat} {x : LRu} (h : RuItem w ρ x) (hk : Hw.Kept S w w') (ag : ∀ k, k < w.heap.size → ρ' k = ρ k) (hS : ∀ k, k < w.heap.size → S k → (ρ k).1 ≠ 2) : RuItem w' ρ' x := by
  have hp : x.p < w.heap.size := (Array.getElem?_eq_some_iff.1 h.prog.row).1
  have hq : x.q < w.heap.size := (Array.getElem?_eq_some_iff.1 h.ref.row).1
  have ag1 : ∀ k, k < w.heap.size → (ρ' k).1 = (ρ k).1 := fun k hk => by rw [ag k hk]
  exact ⟨⟨(hk.block _ hp (fun s => hS _ hp s h.rp)).trans h.prog.row, Hw.ownsRow_keptS h.prog.own hk (fun k e s => hS _ (own_lt h.prog.own e) s (h.rv k e))⟩,
    ⟨(hk.block _ hq (fun s => hS _ hq s h.rq)).trans h.ref.row, Hw.ownsRow_keptS h.ref.own hk (fun k e s => hS _ (own_lt h.ref.own e) s (h.ru k e)), fun y hy => Hw.ownsRow_keptS (h.ref.each y hy) hk (fun k e s => hS _ (own_lt (h.ref.each y hy) e) s (h.rx y hy k e)), h.ref.len, h.ref.alike⟩,
    h.small, h.len, (ag1 _ hp).trans h.rp, fun k e => (ag1 _ (own_lt h.prog.own e)).trans (h.rv k e), (ag1 _ hq).trans h.rq, fun k e => (ag1 _ (own_lt h.ref.own e)).trans (h.ru k e), fun y hy k e => (ag1 _ (own_lt (h.ref.each y hy) e)).trans (h.rx y hy k e)⟩
theorem RuP.stable (rus : List LRu) : Stable 2 (RuP rus) := fun _ _ _ _ _ h hk ag hS x hx => (h x hx).keep hk ag hS
def ptrV (p : Nat) : Value := .pointer (some ⟨p, 0, none⟩)
def LInv (B p : Nat) (frs : List LFr) (rus : List LRu) (X : World → (Nat → Nat × Nat) → Prop) (pe pf : List Value) (L n : Nat) (w : World) : Prop :=
  ∃ vs xs li ρ, WIn B p vs xs n (FrP frs) (RuP rus) X li ρ w ∧ (xs 0 = frs.map fun x => ptrV x.p) ∧ (xs 1 = frs.map fun x => ptrV x.q) ∧ (xs 2 = rus.map fun x => ptrV x.p) ∧ (xs 3 = rus.map fun x => ptrV x.q) ∧ xs 4 = pe ∧ xs 5 = pf ∧ xs 6 = li.map (·.v) ∧ (xs 7 = li.map fun x => strV x.m) ∧ li.length = L
section
variable {B p : Nat} {frs : List LFr} {rus : List LRu} {X : World → (Nat → Nat × Nat) → Prop} {pe pf : List Value} {L n : Nat} {w w' : World}
theorem LInv.next (h : LInv B p frs rus X pe pf L n w) (hb : Below w.heap.size w w') : LInv B p frs rus X pe pf L n w' := by
  obtain ⟨vs, xs, li, ρ, hI, h⟩ := h
  exact ⟨vs, xs, li, ρ, hI.next0 hb, h⟩
theorem LInv.lt (h : LInv B p frs rus X pe pf L n w) : p < w.heap.size := by
  obtain ⟨vs, xs, li, ρ, hI, h⟩ := h
  exact hI.lt
theorem LInv.le (h : LInv B p frs rus X pe pf L n w) : B ≤ p := by
  obtain ⟨vs, xs, li, ρ, hI, h⟩ := h
  exact hI.le
/- Between the two appends of made: the first of the two lists has one more. -/
def LMid (j : Nat) (B p : Nat) (frs : List LFr) (rus : List LRu) (X : World → (Nat → Nat × Nat) → Prop) (xs0 : Nat → List Value) (L n : Nat) (w0 w : World) : Prop :=
  ∃ vs xs li ρ, WIn B p vs xs n (FrP frs) (RuP rus) X li ρ w ∧ xs = xs0 ∧ xs 6 = li.map (·.v) ∧ (xs 7 = li.map fun x => strV x.m) ∧ li.length = L ∧ j < 6 ∧ Below B w0 w
theorem LMid.own {j : Nat} {xs0 : Nat → List Value} {w0 : World} (h : LMid j B p frs rus X xs0 L n w0 w) : ∃ v, w.cell? ⟨p, j, none⟩ = some v ∧ w.ownsRow 0 (wty j) 1 v (xs0 j).length (xs0 j) ∧
    ∀ (o : Obj) (v' : Value) (w5 : World) (x : Value), w5.ownsRow 0 (wty j) 1 v' ((xs0 j).length + 1) (xs0 j ++ [x]) → (w.alloc o).grownBy w5 v.ownBlock → (v'.ownBlock = v.ownBlock ∨ v'.ownBlock = some (w.alloc o).heap.size) →
      ∃ old, w5.heap[p]? = some (.cells old 142 (0, 0)) ∧ old.size = 9 ∧ ∀ w6, Hw.Put w5 p 142 (old.setIfInBounds j v') w6 → LMid j B p frs rus X (up xs0 j (xs0 j ++ [x])) L n w0 w6 := by
  obtain ⟨vs, xs, li, ρ, hI, rfl, h6, h7, hL, hj, hb⟩ := h
  obtain ⟨c, ow, hc⟩ := hI.own (j := j) (by omega)
  refine ⟨vs j, c, ow, fun o v' w5 x h1 h2 h3 => ?_⟩
  obtain ⟨old, r1, r2, r3⟩ := hc o v' w5 x h1 h2 h3
  refine ⟨old, r1, r2, fun w6 P => ?_⟩
  obtain ⟨q1, q2⟩ := r3 w6 P
  exact ⟨_, _, li, _, q1, rfl, by rw [up_ne _ _ (by omega), h6], by rw [up_ne _ _ (by omega), h7], hL, hj, hb.trans q2⟩
theorem LMid.turn {j k : Nat} {xs0 : Nat → List Value} {w0 : World} (h : LMid j B p frs rus X xs0 L n w0 w) (hk : k < 6) : LMid k B p frs rus X xs0 L n w0 w := by
  obtain ⟨vs, xs, li, ρ, hI, rfl, h6, h7, hL, hj, hb⟩ := h
  exact ⟨vs, xs, li, ρ, hI, rfl, h6, h7, hL, hk, hb⟩
theorem LMid.frame {xs0 : Nat → List Value} {w0 : World} {x : LFr} (h : LMid 1 B p (frs ++ [x]) rus X (up (up xs0 0 (xs0 0 ++ [ptrV x.p])) 1 (xs0 1 ++ [ptrV x.q])) L n w0 w)
    (h0 : xs0 0 = frs.map fun x => ptrV x.p) (h1 : xs0 1 = frs.map fun x => ptrV x.q) (h2 : xs0 2 = rus.map fun x => ptrV x.p) (h3 : xs0 3 = rus.map fun x => ptrV x.q) (h4 : xs0 4 = pe) (h5 : xs0 5 = pf) : LInv B p (frs ++ [x]) rus X pe pf L n w := by
  obtain ⟨vs, xs, li, ρ, hI, rfl, h6, h7, hL, hj, hb⟩ := h
  refine ⟨vs, _, li, ρ, hI, ?_, ?_, h2, h3, h4, h5, h6, h7, hL⟩
  · show xs0 0 ++ _ = _
    rw [h0]; simp
  · show xs0 1 ++ _ = _
    rw [h1]; simp
theorem LMid.rule {xs0 : Nat → List Value} {w0 : World} {x : LRu} (h : LMid 3 B p frs (rus ++ [x]) X (up (up xs0 2 (xs0 2 ++ [ptrV x.p])) 3 (xs0 3 ++ [ptrV x.q])) L n w0 w)
    (h0 : xs0 0 = frs.map fun x => ptrV x.p) (h1 : xs0 1 = frs.map fun x => ptrV x.q) (h2 : xs0 2 = rus.map fun x => ptrV x.p) (h3 : xs0 3 = rus.map fun x => ptrV x.q) (h4 : xs0 4 = pe) (h5 : xs0 5 = pf) : LInv B p frs (rus ++ [x]) X pe pf L n w := by
  obtain ⟨vs, xs, li, ρ, hI, rfl, h6, h7, hL, hj, hb⟩ := h
  refine ⟨vs, _, li, ρ, hI, h0, h1, ?_, ?_, h4, h5, h6, h7, hL⟩
  · show xs0 2 ++ _ = _
    rw [h2]; simp
  · show xs0 3 ++ _ = _
    rw [h3]; simp
/- Two new frames: the program's lies at the world's end, the reference's behind it. -/
theorem LInv.newFrame {w1 w2 : World} {m : Nat} (h : LInv B p frs rus X pe pf L n w) (hb1 : Below w.heap.size w w1) (hf : FramesAt w1 w.heap.size (Hm.Frs.fresh m) (.slice none 0 0)) (hb2 : Below w1.heap.size w1 w2)
    (hr : w2.heap[w1.heap.size]? = some (.cells (rfrCells m [] 0) 216 (0, 0))) (m1 : 1 ≤ m) (m2 : m ≤ 200) :
    ∃ xs0, LMid 0 B p (frs ++ [⟨w.heap.size, w1.heap.size, m, [], [], .slice none 0 0⟩]) rus X xs0 L n w w2 ∧ (xs0 0 = frs.map fun x => ptrV x.p) ∧ (xs0 1 = frs.map fun x => ptrV x.q) ∧ (xs0 2 = rus.map fun x => ptrV x.p) ∧ (xs0 3 = rus.map fun x => ptrV x.q) ∧ xs0 4 = pe ∧ xs0 5 = pf := by
  obtain ⟨vs, xs, li, ρ, hI, h0, h1, h2, h3, h4, h5, h6, h7, hL⟩ := h
  have hb : Below w.heap.size w w2 := Below.next hb1 (Nat.le_refl _) hb2
  have hz1 : w.heap.size < w1.heap.size := (Array.getElem?_eq_some_iff.1 hf.row).1
  obtain ⟨ρ', hρ⟩ : ∃ ρ', ρ' = ext (ext ρ w.heap.size (1, 3 * frs.length)) w1.heap.size (1, 3 * frs.length + 2) := ⟨_, rfl⟩
  have ag : ∀ k, k < w.heap.size → ρ' k = ρ k := fun k hk => by rw [hρ, ext_lt (by omega), ext_lt hk]
  have hk : Hw.Kept (fun _ => False) w w2 := Hw.Kept.of_below hb
  refine ⟨xs, ⟨vs, xs, li, ρ', hI.set1 hk ag (fun _ _ f => f.elim) ?_ (FrP.stable _), rfl, h6, h7, hL, by omega, hb.mono (by have := hI.le; have := hI.lt; omega)⟩, h0, h1, h2, h3, h4, h5⟩
  intro i x hx
  rcases Nat.lt_or_ge i frs.length with hi | hi
  · rw [List.getElem?_append_left hi] at hx
    exact FrP.stable frs _ _ _ _ _ hI.i1 hk ag (fun _ _ f => f.elim) i x hx
  · rw [List.getElem?_append_right hi] at hx
    have hi0 : i - frs.length = 0 := by
      have := (List.getElem?_eq_some_iff.1 hx).1
      simp at this
      omega
    rw [hi0] at hx
    have hx : ⟨w.heap.size, w1.heap.size, m, [], [], .slice none 0 0⟩ = x := by simpa using hx
    subst hx
    have hie : i = frs.length := by omega
    subst hie
    refine ⟨hf.keep (S := fun _ => False) (Hw.Kept.of_below hb2) (fun f => f) (fun _ _ f => f), hr, m1, m2, ?_, fun k e => (by cases e), ?_⟩
    · rw [hρ, ext_lt hz1, ext_ge (Nat.le_refl _)]
    · rw [hρ, ext_ge (Nat.le_refl _)]
/- Two new lists of rules: the program's and the reference's. -/
theorem LInv.newRule {w1 w2 : World} {rs : List Hm.Rl} {ys : List RIt} {v u : Value} (h : LInv B p frs rus X pe pf L n w) (hb1 : Below w.heap.size w w1) (hf : RulesAt w1 w.heap.size rs v) (hb2 : Below w1.heap.size w1 w2)
    (hr : RRulesAt w2 w1.heap.size rs ys u) (hs : ∀ r ∈ rs, r.small) (hl : rs.length ≤ 12) :
    ∃ xs0, LMid 2 B p frs (rus ++ [⟨w.heap.size, w1.heap.size, rs, ys, v, u⟩]) X xs0 L n w w2 ∧ (xs0 0 = frs.map fun x => ptrV x.p) ∧ (xs0 1 = frs.map fun x => ptrV x.q) ∧ (xs0 2 = rus.map fun x => ptrV x.p) ∧ (xs0 3 = rus.map fun x => ptrV x.q) ∧ xs0 4 = pe ∧ xs0 5 = pf := by
  obtain ⟨vs, xs, li, ρ, hI, h0, h1, h2, h3, h4, h5, h6, h7, hL⟩ := h
  have hb : Below w.heap.size w w2 := Below.next hb1 (Nat.le_refl _) hb2
  have hz1 : w.heap.size < w1.heap.size := (Array.getElem?_eq_some_iff.1 hf.row).1
  have ag : ∀ k, k < w.heap.size → ext ρ w.heap.size (2, 0) k = ρ k := fun k hk => ext_lt hk
  have hk : Hw.Kept (fun _ => False) w w2 := Hw.Kept.of_below hb
  have hk2 : Hw.Kept (fun _ => False) w1 w2 := Hw.Kept.of_below hb2
  have new : ∀ k, w.heap.size ≤ k → (ext ρ w.heap.size (2, 0) k).1 = 2 := fun k hk => by rw [ext_ge hk]
  refine ⟨xs, ⟨vs, xs, li, _, hI.set2 hk ag (fun _ _ f => f.elim) ?_ (RuP.stable _), rfl, h6, h7, hL, by omega, hb.mono (by have := hI.le; have := hI.lt; omega)⟩, h0, h1, h2, h3, h4, h5⟩
  intro x hx
  rcases List.mem_append.1 hx with hx | hx
  · exact RuP.stable rus _ _ _ _ _ hI.i2 hk ag (fun _ _ f => f.elim) x hx
  · simp at hx
    subst hx
    refine ⟨⟨(hk2.block _ hz1 (fun f => f)).trans hf.row, Hw.ownsRow_keptS hf.own hk2 (fun _ _ f => f)⟩, hr, hs, by dsimp only; omega, new _ (Nat.le_refl _), fun k e => new k ?_, new _ (by dsimp only; omega), fun k e => new k ?_, fun y hy k e => new k ?_⟩
    · have := own_ge hf.own e; omega
    · have := own_ge hr.own e; omega
    · have := own_ge (hr.each y hy) e; omega
end
end Go.Proofs.YtdlhbmncbmconaaGreatDoor

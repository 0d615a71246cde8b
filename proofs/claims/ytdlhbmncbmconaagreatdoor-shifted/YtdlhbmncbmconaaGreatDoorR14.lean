/- Contract: Shifted. -/
import Derived.Test.YtdlhbmncbmconaaGreatDoorBq
import Derived.Test.YtdlhbmncbmconaaGreatDoorR7
import Derived.Test.YtdlhbmncbmconaaGreatDoorR9
import Derived.Test.YtdlhbmncbmconaaGreatDoorMb
namespace Go.Proofs.YtdlhbmncbmconaaGreatDoor
open Go.RowKit Go.Sort
theorem cut_last (l : List UInt8) (c : UInt8) : (⟨(l ++ [c]).toArray⟩ : ByteArray).extract 0 l.length = ⟨l.toArray⟩ := by
  apply ByteArray.ext
  simp
attribute [local go_sem] alloc_drewN setCell_drewN app_list cut_last

def tmLine (body : List UInt8) (sg : UInt8) (dh dn : List UInt8) : List UInt8 := 60 :: 48 :: 62 :: 49 :: 32 :: (body ++ sg :: (dh ++ 58 :: (dn ++ [32, 45, 32, 45, 32, 45, 32, 45, 32, 45])))
structure Shifts (day second part hours minutes : Int) (body : List UInt8) (h n : Nat) (dh dn : List UInt8) : Prop where
  km : ∀ w, Calls Tryz.prog 23 #[.int .i64 day, .int .i64 second, .int .i64 part] w fun e w' => e = .returned (.string ⟨(body ++ [90]).toArray⟩) ∧ Below w.heap.size w w'
  ph : ∀ w, Calls Tryz.prog 22 #[.int .i64 hours, .int .i64 24] w fun e w' => e = .returned (.int .i64 h) ∧ w' = w
  pm : ∀ w, Calls Tryz.prog 22 #[.int .i64 minutes, .int .i64 60] w fun e w' => e = .returned (.int .i64 n) ∧ w' = w
  t2 : ∀ w, Calls Tryz.prog 24 #[.int .i64 h] w fun e w' => e = .returned (.string ⟨dh.toArray⟩) ∧ Below w.heap.size w w'
  t3 : ∀ w, Calls Tryz.prog 24 #[.int .i64 n] w fun e w' => e = .returned (.string ⟨dn.toArray⟩) ∧ Below w.heap.size w w'
  hb : body.length ≤ 26
  hb2 : 19 ≤ body.length
  l2 : dh.length = 2
  l3 : dn.length = 2
def msgT (t : List UInt8) : Array Value := #[.int .i64 0, .int .i64 0, .string ⟨t.toArray⟩, .string ⟨#[]⟩, .string ⟨#[]⟩, .string ⟨#[]⟩, .string ⟨#[]⟩, .string ⟨#[]⟩, .string ⟨#[]⟩]
def ReadsAs (l : List UInt8) (t : List UInt8) (e a : Int) : Prop := ∀ w, Tabs w → Calls Tryz.prog 21 #[.string ⟨l.toArray⟩, .int .i64 1] w fun x w' => x = .returned (.tuple #[.agg #[.int .i64 0, .int .i64 0, .string ⟨t.toArray⟩, .string ⟨#[]⟩, .string ⟨#[]⟩, .string ⟨#[]⟩, .string ⟨#[]⟩, .string ⟨#[]⟩, .string ⟨#[]⟩], .int .i64 e, .int .i64 a]) ∧ Below w.heap.size w w'















--RI-BEGIN
def putAll (T : Array Value) : List (Nat × Nat) → (Nat → Value) → Array Value
  | [], _ => T
  | s :: r, X => (putAll T r X).setIfInBounds s.1 (X s.2)
def upd (X : Nat → Value) (i : Nat) (y : Value) (j : Nat) : Value := if j = i then y else X j
structure DrI (V : Nat → Value) (M : Array Value) (B : World) (L : Array Bool) (X : Nat → Value) (w' : World) : Prop where
  bel : Below B.heap.size B w'
  f : ∀ i, i ≠ 22 → i ≠ 23 → L.getD i false = true → X i = V i
  f22 : L.getD 22 false = true → ∃ g cs, X 22 = .pointer (some ⟨g, 0, none⟩) ∧ B.heap.size ≤ g ∧ w'.heap[g]? = some (.cells cs 29 (0, 0)) ∧ cs.size = 9 ∧ (L.getD 23 false = true → cs = M)
  f23 : L.getD 23 false = true → L.getD 22 false = true
theorem DrI.grow {V : Nat → Value} {M : Array Value} {B w' w'' : World} {L : Array Bool} {X : Nat → Value} (h : DrI V M B L X w') (hb : Below w'.heap.size w' w'') : DrI V M B L X w'' where
  bel := Below.next h.bel (Nat.le_refl _) hb
  f := h.f
  f22 e := by
    obtain ⟨g, cs, h1, h2, h3, h4⟩ := h.f22 e
    exact ⟨g, cs, h1, h2, (hb.block _ (Array.getElem?_eq_some_iff.1 h3).1).trans h3, h4⟩
  f23 := h.f23
theorem DrI.step {V : Nat → Value} {M : Array Value} {B w' : World} {L : Array Bool} {X : Nat → Value} (h : DrI V M B L X w') (i : Nat) (h22 : i ≠ 22) (h23 : i ≠ 23) {y : Value} (hy : y = V i) : DrI V M B (L.setIfInBounds i true) (upd X i y) w' where
  bel := h.bel
  f j a b e := by
    unfold upd
    split
    · next hj => rw [hj]; exact hy
    · next hj => exact h.f j a b ((Hw.listed_set e).resolve_left hj)
  f22 e := by
    obtain ⟨g, cs, h1, h2, h3, h4, h5⟩ := h.f22 ((Hw.listed_set e).resolve_left (fun e => h22 e.symm))
    exact ⟨g, cs, by unfold upd; rw [if_neg (fun e => h22 e.symm)]; exact h1, h2, h3, h4, fun e => h5 ((Hw.listed_set e).resolve_left (fun e => h23 e.symm))⟩
  f23 e := by
    have h14 := h.f23 ((Hw.listed_set e).resolve_left (fun e => h23 e.symm))
    rw [Hw.getD_set_ne (fun e => h22 e.symm)]
    exact h14
theorem DrI.alloc {V : Nat → Value} {M : Array Value} {B w' : World} {L : Array Bool} {X : Nat → Value} (h : DrI V M B L X w') (hn : L.getD 23 false = true → False) {g : Nat} {cs : Array Value} (h2 : B.heap.size ≤ g) (h3 : w'.heap[g]? = some (.cells cs 29 (0, 0))) (h4 : cs.size = 9) :
    DrI V M B (L.setIfInBounds 22 true) (upd X 22 (.pointer (some ⟨g, 0, none⟩))) w' where
  bel := h.bel
  f j a b e := by
    unfold upd
    rw [if_neg a]
    exact h.f j a b ((Hw.listed_set e).resolve_left a)
  f22 _ := ⟨g, cs, rfl, h2, h3, h4, fun e => (hn ((Hw.listed_set e).resolve_left (by decide))).elim⟩
  f23 e := (hn ((Hw.listed_set e).resolve_left (by decide))).elim
theorem DrI.store {V : Nat → Value} {M : Array Value} {B w' w2 : World} {L : Array Bool} {X : Nat → Value} (h : DrI V M B L X w') (h14 : L.getD 22 false = true) {g : Nat} (hy : X 22 = .pointer (some ⟨g, 0, none⟩)) (h2 : B.heap.size ≤ g) (hM : M.size = 9) (hp : Hw.Put w' g 29 M w2) :
    DrI V M B (L.setIfInBounds 23 true) X w2 where
  bel := h.bel.trans (hp.below (by omega))
  f j a b e := h.f j a b ((Hw.listed_set e).resolve_left b)
  f22 _ := ⟨g, _, hy, h2, hp.row, hM, fun _ => rfl⟩
  f23 _ := by
    rw [Hw.getD_set_ne (by decide)]
    exact h14
theorem getD_rep {n i : Nat} (h : (Array.replicate n false).getD i false = true) : False := by
  simp only [Array.getD_eq_getD_getElem?, Array.getElem?_replicate] at h
  split at h <;> cases h
def forwardB (md : Region.Mode) (ops : Array Oper) : Bool := (List.range ops.size).all fun i => ((ops[i]?).map (·.after.all fun e => !Region.binds md e || decide (e.on < i))).getD true
theorem all_listedB {md : Region.Mode} {ops : Array Oper} {L : Array Bool} (hs : L.size = ops.size) (hf : forwardB md ops = true) (hr : Region.ready md ops L = []) : ∀ n i, i < n → i < ops.size → L.getD i false = true := by
  intro n
  induction n with
  | zero => intro i h; omega
  | succ n ih =>
    intro i hi hlt
    by_cases hin : i < n
    · exact ih i hin hlt
    · cases hg : L.getD i false with
      | true => rfl
      | false =>
        have hmem : i ∈ Region.ready md ops L := by
          unfold Region.ready
          rw [List.mem_filter]
          refine ⟨by simpa using hlt, ?_⟩
          have hgt : L.getD i true = false := by
            have hl : i < L.size := by omega
            simp [Array.getD, hl] at hg ⊢
            exact hg
          simp only [hgt, Bool.not_false, Bool.true_and]
          have ho : ops[i]? = some ops[i] := Array.getElem?_eq_getElem hlt
          rw [ho]
          simp only [Option.map_some, Option.getD_some, Array.all_eq_true']
          intro e he
          have hfi := List.all_eq_true.1 hf i (by simpa using hlt)
          rw [ho] at hfi
          simp only [Option.map_some, Option.getD_some, Array.all_eq_true'] at hfi
          have hei := hfi e he
          cases hb : Region.binds md e with
          | false => simp
          | true =>
            have hon : e.on < i := by simpa [hb] using hei
            have := ih e.on (by omega) (by omega)
            simp [this]
        rw [hr] at hmem
        cases hmem
theorem wpAny_invB {P : Program} {md : Region.Mode} {ops : Array Oper} {Q : Exit → Act → World → Prop} (Inv : Array Bool → Act → World → Prop) (hf : forwardB md ops = true)
    (hstep : ∀ L a w i, L.size = ops.size → Inv L a w → i ∈ Region.ready md ops L → wpOp P ops Q i (fun a' w' => Inv (L.setIfInBounds i true) a' w') a w)
    (hend : ∀ L a w, Inv L a w → (∀ i, i < ops.size → L.getD i false = true) → Q .normal a w) :
    ∀ fuel L a w, L.size = ops.size → Hw.left L ≤ fuel → Inv L a w → wpAny P md ops Q fuel L a w := by
  intro fuel
  induction fuel with
  | zero =>
    intro L a w hs hl hi
    have hr : Region.ready md ops L = [] := by
      cases hr : Region.ready md ops L with
      | nil => rfl
      | cons j t =>
        have := Hw.left_set (Hw.ready_deps (md := md) (ops := ops) (L := L) (i := j) (by rw [hr]; simp)).2.1
        omega
    exact ⟨hr, hend L a w hi (fun i hlt => all_listedB hs hf hr (i + 1) i (by omega) hlt)⟩
  | succ fuel ih =>
    intro L a w hs hl hi
    refine ⟨fun hr => hend L a w hi (fun i hlt => all_listedB hs hf hr (i + 1) i (by omega) hlt), fun i hm => ?_⟩
    refine wpOp_mono (fun a' w' h => ih _ a' w' (by simpa using hs) ?_ h) (hstep L a w i hs hi hm)
    have := Hw.left_set (Hw.ready_deps hm).2.1
    omega
theorem region_inv3 {P : Program} {id : Nat} {Q : Exit → Act → World → Prop} {a : Act} {w : World} {l : List Oper} (Inv : Array Bool → Act → World → Prop) (hm : P.follows .mixedOrders = true) (hf : forwardB .any l.toArray = true)
    (h0 : Inv (Array.replicate l.toArray.size false) a w.drew)
    (hstep : ∀ L a w i, Inv L a w → i < l.toArray.size → (∀ o, l.toArray[i]? = some o → ∀ e ∈ o.after, Region.binds .any e = true → L.getD e.on false = true) → L.getD i true = false → wpOp P l.toArray Q i (fun a' w' => Inv (L.setIfInBounds i true) a' w') a w)
    (hend : ∀ L a w, Inv L a w → (∀ i, i < l.toArray.size → L.getD i false = true) → Q .normal a w) : (Code.region id l.toArray true).wp P Q a w :=
  wp_region_any hm (wpAny_invB Inv hf (fun L a w i _ hi hr => hstep L a w i hi (Hw.ready_deps hr).1 (Hw.ready_deps hr).2.2 (Hw.ready_deps hr).2.1) hend _ _ _ _ (by simp) (by rw [Hw.left_none]; exact Nat.le_refl _) h0)
theorem region_slots {P : Program} {id : Nat} {Q : Exit → Act → World → Prop} {T : Array Value} {w : World} {l : List Oper} (slots : List (Nat × Nat)) (R : Array Bool → (Nat → Value) → World → Prop) (hm : P.follows .mixedOrders = true) (hf : forwardB .any l.toArray = true)
    (h0 : T = putAll T slots (fun _ => undef)) (hr : R (Array.replicate l.toArray.size false) (fun _ => undef) w.drew)
    (hstep : ∀ L X w i, R L X w → i < l.toArray.size → (∀ o, l.toArray[i]? = some o → ∀ e ∈ o.after, Region.binds .any e = true → L.getD e.on false = true) → L.getD i true = false → wpOp P l.toArray Q i (fun a' w' => ∃ X, a' = ⟨putAll T slots X, []⟩ ∧ R (L.setIfInBounds i true) X w') ⟨putAll T slots X, []⟩ w)
    (hend : ∀ L X w, R L X w → (∀ i, i < l.toArray.size → L.getD i false = true) → Q .normal ⟨putAll T slots X, []⟩ w) : (Code.region id l.toArray true).wp P Q ⟨T, []⟩ w :=
  region_inv3 (fun L a w => ∃ X, a = ⟨putAll T slots X, []⟩ ∧ R L X w) hm hf ⟨_, by rw [← h0], hr⟩ (fun L a w i ⟨X, e, h⟩ hi hd hn => by subst e; exact hstep L X w i h hi hd hn) (fun L a w ⟨X, e, h⟩ ha => by subst e; exact hend L X w h ha)
def shV (g : Nat) (sg : UInt8) (b1 t dh dn : List UInt8) (h n : Nat) : Nat → Value
  | 0 | 2 => .pointer (some ⟨g, 2, none⟩)
  | 1 | 3 => .string ⟨(b1 ++ [90]).toArray⟩
  | 4 => .int .i64 ((b1.length : Int) + 1)
  | 5 => .int .i64 b1.length
  | 6 => .string ⟨b1.toArray⟩
  | 7 => .string ⟨(60 :: 48 :: 62 :: 49 :: 32 :: b1).toArray⟩
  | 8 => .string ⟨(60 :: 48 :: 62 :: 49 :: 32 :: (b1 ++ [sg])).toArray⟩
  | 9 => .int .i64 h
  | 10 => .string ⟨dh.toArray⟩
  | 11 => .string ⟨(60 :: 48 :: 62 :: 49 :: 32 :: (b1 ++ sg :: dh)).toArray⟩
  | 12 => .string ⟨(60 :: 48 :: 62 :: 49 :: 32 :: (b1 ++ sg :: (dh ++ [58]))).toArray⟩
  | 13 => .int .i64 n
  | 14 => .string ⟨dn.toArray⟩
  | 15 => .string ⟨(60 :: 48 :: 62 :: 49 :: 32 :: (b1 ++ sg :: (dh ++ 58 :: dn))).toArray⟩
  | 16 => .string ⟨(tmLine b1 sg dh dn).toArray⟩
  | 17 | 18 => .tuple #[.agg (msgT t), .int .i64 0, .int .i64 0]
  | 19 => .agg (msgT t)
  | _ => .int .i64 0
--RI-END

set_option maxRecDepth 50000 in
set_option maxHeartbeats 4000000 in
theorem Shifted_far (day second part hours minutes : Int) (body b1 b2 dh dn : List UInt8) (h n : Nat) (hS : Shifts day second part hours minutes body h n dh dn) (R1 : ReadsAs (tmLine body 43 dh dn) (b1 ++ [90]) 0 0) (R2 : ReadsAs (tmLine body 45 dh dn) (b2 ++ [90]) 0 0)
    (R3 : ReadsAs (tmLine b1 45 dh dn) (body ++ [90]) 0 0) (R4 : ReadsAs (tmLine b2 43 dh dn) (body ++ [90]) 0 0) (l1 : b1.length = body.length) (l2 : b2.length = body.length) (yr : List UInt8) (hcut : (⟨(body ++ [90]).toArray⟩ : ByteArray).extract 0 4 = ⟨yr.toArray⟩) (hy1 : (yr == [48, 48, 48, 49]) = false) (hy2 : (yr == [57, 57, 57, 57]) = false) (z : h = 0 → n = 0 → b1 = body ∧ b2 = body) (o : ¬ (h = 0 ∧ n = 0) → Go.Op.bytesLess (b1 ++ [90]) (body ++ [90]) = true ∧ Go.Op.bytesLess (body ++ [90]) (b2 ++ [90]) = true) (w : World) (hT : Tabs w) :
    Calls Tryz.prog 8 #[.int .i64 day, .int .i64 second, .int .i64 part, .int .i64 hours, .int .i64 minutes] w fun e w' => e = .returned (.bool true) ∧ Below w.heap.size w w' := by
  have AW : Hid (∀ w, Tabs w → Calls Tryz.prog 18 #[] w fun e w' => e = .returned (.bool true) ∧ Below w.heap.size w w') := awake_any
  have HSh : Hid (Shifts day second part hours minutes body h n dh dn) := hS
  have hb := hS.hb
  have hb2 := hS.hb2
  have hl2 := hS.l2
  have hl3 := hS.l3
  have hb1 : ¬ (b1.length : Int) + 1 < 20 := by omega
  have hb2' : ¬ (b2.length : Int) + 1 < 20 := by omega
  have HZ := show Hid _ from z
  have HO := show Hid _ from o
  have hb1l : b1.length ≤ 26 := by omega
  have hb2l : b2.length ≤ 26 := by omega
  clear hS z o l1 l2
  have HR1 : Hid (ReadsAs (tmLine body 43 dh dn) (b1 ++ [90]) 0 0) := R1
  have HR2 : Hid (ReadsAs (tmLine body 45 dh dn) (b2 ++ [90]) 0 0) := R2
  have HR3 : Hid (ReadsAs (tmLine b1 45 dh dn) (body ++ [90]) 0 0) := R3
  have HR4 : Hid (ReadsAs (tmLine b2 43 dh dn) (body ++ [90]) 0 0) := R4
  clear R1 R2 R3 R4
  go_enter Tryz.func8, Tryz.ntmps8
  go_wp2_with fail
  refine (AW.out _ hT).mono ?_
  rintro e w0 ⟨rfl, hb0⟩
  have HB0 : Hid (Below w.heap.size w w0) := hb0
  have HT0 : Hid (Tabs w0) := hT.next hb0
  clear hb0
  go_wp2_with fail
  refine (HSh.out.km _).mono ?_
  rintro e w1 ⟨rfl, hb1⟩
  have HB1 : Hid (Below w.heap.size w w1) := Below.next HB0.out (Nat.le_refl _) hb1
  have HT1 : Hid (Tabs w1) := HT0.out.next hb1
  clear hb1
  go_wp2_with fail
  refine (HSh.out.ph _).mono ?_
  rintro e w2 ⟨rfl, rfl⟩
  go_wp2_with fail
  refine (HSh.out.pm _).mono ?_
  rintro e w3 ⟨rfl, rfl⟩
  go_wp2_with fail
  refine (HSh.out.t2 _).mono ?_
  rintro e w4 ⟨rfl, hb4⟩
  have HB4 : Hid (Below w.heap.size w w4) := Below.next HB1.out (Nat.le_refl _) hb4
  have HT4 : Hid (Tabs w4) := HT1.out.next hb4
  clear hb4
  go_wp2_with fail
  refine (HSh.out.t3 _).mono ?_
  rintro e w5 ⟨rfl, hb5⟩
  have HB5 : Hid (Below w.heap.size w w5) := Below.next HB4.out (Nat.le_refl _) hb5
  have HT5 : Hid (Tabs w5) := HT4.out.next hb5
  clear hb5
  go_wp2_with fail
  refine (HR1.out _ HT5.out).mono ?_
  rintro e w6 ⟨rfl, hb6⟩
  have HB6 : Hid (Below w.heap.size w w6) := Below.next HB5.out (Nat.le_refl _) hb6
  have HT6 : Hid (Tabs w6) := HT5.out.next hb6
  clear hb6
  go_wp2_with fail
  refine (HSh.out.t2 _).mono ?_
  rintro e w7 ⟨rfl, hb7⟩
  have hr7 : w7.heap[w6.heap.size]? = some (.cells (msgT (b1 ++ [90])) 29 (0, 0)) := (hb7.block _ (by simp)).trans (heap_alloc_new _ _)
  have HB7 : Hid (Below w.heap.size w w7) := Below.next (HB6.out.alloc HB6.out.size _) (Nat.le_refl _) hb7
  have HT7 : Hid (Tabs w7) := (HT6.out.alloc _).next hb7
  have HR7 := show Hid _ from hr7
  clear hb7 hr7
  go_wp2_with fail
  refine (HSh.out.t3 _).mono ?_
  rintro e w8 ⟨rfl, hb8⟩
  have HB8 : Hid (Below w.heap.size w w8) := Below.next HB7.out (Nat.le_refl _) hb8
  have HT8 : Hid (Tabs w8) := HT7.out.next hb8
  have HR8 : Hid (w8.heap[w6.heap.size]? = some (.cells (msgT (b1 ++ [90])) 29 (0, 0))) := (hb8.block _ (Array.getElem?_eq_some_iff.1 HR7.out).1).trans HR7.out
  clear hb8 HR7
  go_wp2_with fail
  refine (HR2.out _ HT8.out).mono ?_
  rintro e w9 ⟨rfl, hb9⟩
  have HB9 : Hid (Below w.heap.size w w9) := Below.next HB8.out (Nat.le_refl _) hb9
  have HT9 : Hid (Tabs w9) := HT8.out.next hb9
  have HR9 : Hid (w9.heap[w6.heap.size]? = some (.cells (msgT (b1 ++ [90])) 29 (0, 0))) := (hb9.block _ (Array.getElem?_eq_some_iff.1 HR8.out).1).trans HR8.out
  have hs9 : w6.heap.size < w9.heap.size := (Array.getElem?_eq_some_iff.1 HR9.out).1
  clear hb9 HR8
  have c2 : w9.cell? ⟨w6.heap.size, 2, none⟩ = some (.string ⟨(b1 ++ [90]).toArray⟩) := by simp [World.cell?, HR9.out, msgT]
  go_wp2_with fail
  have HT9' : Hid (Tabs (w9.alloc (.cells (msgT (b2 ++ [90])) 29))) := HT9.out.alloc _
  have c2' : (w9.alloc (.cells (msgT (b2 ++ [90])) 29)).cell? ⟨w6.heap.size, 2, none⟩ = some (.string ⟨(b1 ++ [90]).toArray⟩) := by simp [World.cell?, heap_alloc_old _ _ hs9, HR9.out, msgT]
  have c3' : (w9.alloc (.cells (msgT (b2 ++ [90])) 29)).cell? ⟨w9.heap.size, 2, none⟩ = some (.string ⟨(b2 ++ [90]).toArray⟩) := by
    unfold World.cell?
    rw [show (⟨w9.heap.size, 2, none⟩ : Addr).block = w9.heap.size from rfl, heap_alloc_new]
    rfl
  refine region_slots [(118, 0), (119, 1), (120, 2), (121, 3), (122, 4), (123, 5), (124, 6), (125, 7), (126, 8), (127, 9), (128, 10), (129, 11), (130, 12), (131, 13), (132, 14), (133, 15), (134, 16), (135, 17), (117, 18), (136, 19), (137, 20), (138, 21), (23, 22), (24, 24), (25, 25)] (DrI (shV w6.heap.size 45 b1 (body ++ [90]) dh dn h n) (msgT (body ++ [90])) (w9.alloc (.cells (msgT (b2 ++ [90])) 29))) mixed (by kernel_rfl) (by simp only [putAll, List.setIfInBounds_toArray, List.set_cons_succ, List.set_cons_zero]) ⟨(Below.refl _ _).drew, fun _ _ _ e => (getD_rep e).elim, fun e => (getD_rep e).elim, fun e => (getD_rep e).elim⟩ ?_ ?_
  rintro L X w' i hI hi hdep hno
  have hi26 : i < 26 := hi
  have HI : Hid (DrI (shV w6.heap.size 45 b1 (body ++ [90]) dh dn h n) (msgT (body ++ [90])) (w9.alloc (.cells (msgT (b2 ++ [90])) 29)) L X w') := hI
  have c2w : w'.cell? ⟨w6.heap.size, 2, none⟩ = some (.string ⟨(b1 ++ [90]).toArray⟩) := (hI.bel.cell (p := ⟨w6.heap.size, 2, none⟩) (by simp; omega)).trans c2'
  clear hI hi
  rcases (by omega : i = 0 ∨ i = 1 ∨ i = 2 ∨ i = 3 ∨ i = 4 ∨ i = 5 ∨ i = 6 ∨ i = 7 ∨ i = 8 ∨ i = 9 ∨ i = 10 ∨ i = 11 ∨ i = 12 ∨ i = 13 ∨ i = 14 ∨ i = 15 ∨ i = 16 ∨ i = 17 ∨ i = 18 ∨ i = 19 ∨ i = 20 ∨ i = 21 ∨ i = 22 ∨ i = 23 ∨ i = 24 ∨ i = 25) with h | h | h | h | h | h | h | h | h | h | h | h | h | h | h | h | h | h | h | h | h | h | h | h | h | h <;> subst h
  · clear hdep
    simp only [putAll, List.setIfInBounds_toArray, List.set_cons_succ, List.set_cons_zero]
    refine wpOp_step rfl (fun K hK => ?_)
    go_simp
    exact hK _ _ ⟨upd X 0 (shV w6.heap.size 45 b1 (body ++ [90]) dh dn h n 0), by simp [upd, shV], HI.out.step 0 (by decide) (by decide) rfl⟩
  · have hd := hdep _ rfl
    have e0 := HI.out.f 0 (by decide) (by decide) (hd ⟨0, .data⟩ (by simp) rfl)
    clear hdep hd
    simp only [putAll, List.setIfInBounds_toArray, List.set_cons_succ, List.set_cons_zero]
    simp only [shV] at e0
    refine wpOp_step rfl (fun K hK => ?_)
    try simp only [e0]
    go_simp
    exact hK _ _ ⟨upd X 1 (shV w6.heap.size 45 b1 (body ++ [90]) dh dn h n 1), by simp [upd, shV, e0], HI.out.step 1 (by decide) (by decide) rfl⟩
  · clear hdep
    simp only [putAll, List.setIfInBounds_toArray, List.set_cons_succ, List.set_cons_zero]
    refine wpOp_step rfl (fun K hK => ?_)
    go_simp
    exact hK _ _ ⟨upd X 2 (shV w6.heap.size 45 b1 (body ++ [90]) dh dn h n 2), by simp [upd, shV], HI.out.step 2 (by decide) (by decide) rfl⟩
  · have hd := hdep _ rfl
    have e2 := HI.out.f 2 (by decide) (by decide) (hd ⟨2, .data⟩ (by simp) rfl)
    clear hdep hd
    simp only [putAll, List.setIfInBounds_toArray, List.set_cons_succ, List.set_cons_zero]
    simp only [shV] at e2
    refine wpOp_step rfl (fun K hK => ?_)
    try simp only [e2]
    go_simp
    exact hK _ _ ⟨upd X 3 (shV w6.heap.size 45 b1 (body ++ [90]) dh dn h n 3), by simp [upd, shV, e2], HI.out.step 3 (by decide) (by decide) rfl⟩
  · have hd := hdep _ rfl
    have e3 := HI.out.f 3 (by decide) (by decide) (hd ⟨3, .data⟩ (by simp) rfl)
    clear hdep hd
    simp only [putAll, List.setIfInBounds_toArray, List.set_cons_succ, List.set_cons_zero]
    simp only [shV] at e3
    refine wpOp_step rfl (fun K hK => ?_)
    try simp only [e3]
    go_simp
    exact hK _ _ ⟨upd X 4 (shV w6.heap.size 45 b1 (body ++ [90]) dh dn h n 4), by simp [upd, shV, e3], HI.out.step 4 (by decide) (by decide) rfl⟩
  · have hd := hdep _ rfl
    have e4 := HI.out.f 4 (by decide) (by decide) (hd ⟨4, .data⟩ (by simp) rfl)
    clear hdep hd
    simp only [putAll, List.setIfInBounds_toArray, List.set_cons_succ, List.set_cons_zero]
    simp only [shV] at e4
    refine wpOp_step rfl (fun K hK => ?_)
    try simp only [e4]
    go_wp2_with fail
    exact ⟨upd X 5 (shV w6.heap.size 45 b1 (body ++ [90]) dh dn h n 5), by simp [upd, shV, e4], HI.out.step 5 (by decide) (by decide) rfl⟩
  · have hd := hdep _ rfl
    have e1 := HI.out.f 1 (by decide) (by decide) (hd ⟨1, .data⟩ (by simp) rfl)
    have e5 := HI.out.f 5 (by decide) (by decide) (hd ⟨5, .data⟩ (by simp) rfl)
    clear hdep hd
    simp only [putAll, List.setIfInBounds_toArray, List.set_cons_succ, List.set_cons_zero]
    simp only [shV] at e1
    simp only [shV] at e5
    refine wpOp_step rfl (fun K hK => ?_)
    try simp only [e1]
    try simp only [e5]
    go_wp2_with fail
    exact ⟨upd X 6 (shV w6.heap.size 45 b1 (body ++ [90]) dh dn h n 6), by simp [upd, shV, e1, e5], HI.out.step 6 (by decide) (by decide) rfl⟩
  · have hd := hdep _ rfl
    have e6 := HI.out.f 6 (by decide) (by decide) (hd ⟨6, .data⟩ (by simp) rfl)
    clear hdep hd
    simp only [putAll, List.setIfInBounds_toArray, List.set_cons_succ, List.set_cons_zero]
    simp only [shV] at e6
    refine wpOp_step rfl (fun K hK => ?_)
    try simp only [e6]
    go_wp2_with fail
    exact ⟨upd X 7 (shV w6.heap.size 45 b1 (body ++ [90]) dh dn h n 7), by simp [upd, shV, e6], HI.out.step 7 (by decide) (by decide) rfl⟩
  · have hd := hdep _ rfl
    have e7 := HI.out.f 7 (by decide) (by decide) (hd ⟨7, .data⟩ (by simp) rfl)
    clear hdep hd
    simp only [putAll, List.setIfInBounds_toArray, List.set_cons_succ, List.set_cons_zero]
    simp only [shV] at e7
    refine wpOp_step rfl (fun K hK => ?_)
    try simp only [e7]
    go_wp2_with fail
    exact ⟨upd X 8 (shV w6.heap.size 45 b1 (body ++ [90]) dh dn h n 8), by simp [upd, shV, e7], HI.out.step 8 (by decide) (by decide) rfl⟩
  · clear hdep
    simp only [putAll, List.setIfInBounds_toArray, List.set_cons_succ, List.set_cons_zero]
    refine wpOp_step rfl (fun K hK => ?_)
    go_simp
    exact hK _ _ ⟨upd X 9 (shV w6.heap.size 45 b1 (body ++ [90]) dh dn h n 9), by simp [upd, shV], HI.out.step 9 (by decide) (by decide) rfl⟩
  · have hd := hdep _ rfl
    have e9 := HI.out.f 9 (by decide) (by decide) (hd ⟨9, .data⟩ (by simp) rfl)
    clear hdep hd
    simp only [putAll, List.setIfInBounds_toArray, List.set_cons_succ, List.set_cons_zero]
    simp only [shV] at e9
    refine wpOp_step rfl (fun K hK => ?_)
    try simp only [e9]
    go_wp2_with fail
    refine (HSh.out.t2 _).mono ?_
    rintro e w2 ⟨rfl, hb⟩
    go_wp2_with fail
    exact ⟨upd X 10 (shV w6.heap.size 45 b1 (body ++ [90]) dh dn h n 10), by simp [upd, shV, e9], (HI.out.grow hb).step 10 (by decide) (by decide) rfl⟩
  · have hd := hdep _ rfl
    have e8 := HI.out.f 8 (by decide) (by decide) (hd ⟨8, .data⟩ (by simp) rfl)
    have e10 := HI.out.f 10 (by decide) (by decide) (hd ⟨10, .data⟩ (by simp) rfl)
    clear hdep hd
    simp only [putAll, List.setIfInBounds_toArray, List.set_cons_succ, List.set_cons_zero]
    simp only [shV] at e8
    simp only [shV] at e10
    refine wpOp_step rfl (fun K hK => ?_)
    try simp only [e8]
    try simp only [e10]
    go_wp2_with fail
    exact ⟨upd X 11 (shV w6.heap.size 45 b1 (body ++ [90]) dh dn h n 11), by simp [upd, shV, e8, e10], HI.out.step 11 (by decide) (by decide) rfl⟩
  · have hd := hdep _ rfl
    have e11 := HI.out.f 11 (by decide) (by decide) (hd ⟨11, .data⟩ (by simp) rfl)
    clear hdep hd
    simp only [putAll, List.setIfInBounds_toArray, List.set_cons_succ, List.set_cons_zero]
    simp only [shV] at e11
    refine wpOp_step rfl (fun K hK => ?_)
    try simp only [e11]
    go_wp2_with fail
    exact ⟨upd X 12 (shV w6.heap.size 45 b1 (body ++ [90]) dh dn h n 12), by simp [upd, shV, e11], HI.out.step 12 (by decide) (by decide) rfl⟩
  · clear hdep
    simp only [putAll, List.setIfInBounds_toArray, List.set_cons_succ, List.set_cons_zero]
    refine wpOp_step rfl (fun K hK => ?_)
    go_simp
    exact hK _ _ ⟨upd X 13 (shV w6.heap.size 45 b1 (body ++ [90]) dh dn h n 13), by simp [upd, shV], HI.out.step 13 (by decide) (by decide) rfl⟩
  · have hd := hdep _ rfl
    have e13 := HI.out.f 13 (by decide) (by decide) (hd ⟨13, .data⟩ (by simp) rfl)
    clear hdep hd
    simp only [putAll, List.setIfInBounds_toArray, List.set_cons_succ, List.set_cons_zero]
    simp only [shV] at e13
    refine wpOp_step rfl (fun K hK => ?_)
    try simp only [e13]
    go_wp2_with fail
    refine (HSh.out.t3 _).mono ?_
    rintro e w2 ⟨rfl, hb⟩
    go_wp2_with fail
    exact ⟨upd X 14 (shV w6.heap.size 45 b1 (body ++ [90]) dh dn h n 14), by simp [upd, shV, e13], (HI.out.grow hb).step 14 (by decide) (by decide) rfl⟩
  · have hd := hdep _ rfl
    have e12 := HI.out.f 12 (by decide) (by decide) (hd ⟨12, .data⟩ (by simp) rfl)
    have e14 := HI.out.f 14 (by decide) (by decide) (hd ⟨14, .data⟩ (by simp) rfl)
    clear hdep hd
    simp only [putAll, List.setIfInBounds_toArray, List.set_cons_succ, List.set_cons_zero]
    simp only [shV] at e12
    simp only [shV] at e14
    refine wpOp_step rfl (fun K hK => ?_)
    try simp only [e12]
    try simp only [e14]
    go_wp2_with fail
    exact ⟨upd X 15 (shV w6.heap.size 45 b1 (body ++ [90]) dh dn h n 15), by simp [upd, shV, e12, e14], HI.out.step 15 (by decide) (by decide) rfl⟩
  · have hd := hdep _ rfl
    have e15 := HI.out.f 15 (by decide) (by decide) (hd ⟨15, .data⟩ (by simp) rfl)
    clear hdep hd
    simp only [putAll, List.setIfInBounds_toArray, List.set_cons_succ, List.set_cons_zero]
    simp only [shV] at e15
    refine wpOp_step rfl (fun K hK => ?_)
    try simp only [e15]
    go_wp2_with fail
    exact ⟨upd X 16 (shV w6.heap.size 45 b1 (body ++ [90]) dh dn h n 16), by simp [upd, shV, tmLine, e15], HI.out.step 16 (by decide) (by decide) rfl⟩
  · have hd := hdep _ rfl
    have e16 := HI.out.f 16 (by decide) (by decide) (hd ⟨16, .data⟩ (by simp) rfl)
    clear hdep hd
    simp only [putAll, List.setIfInBounds_toArray, List.set_cons_succ, List.set_cons_zero]
    simp only [shV] at e16
    refine wpOp_step rfl (fun K hK => ?_)
    try simp only [e16]
    go_wp2_with fail
    refine (HR3.out _ (HT9'.out.next HI.out.bel)).mono ?_
    rintro e w2 ⟨rfl, hb⟩
    go_wp2_with fail
    exact ⟨upd X 17 (shV w6.heap.size 45 b1 (body ++ [90]) dh dn h n 17), by simp [upd, shV, msgT, e16], (HI.out.grow hb).step 17 (by decide) (by decide) rfl⟩
  · have hd := hdep _ rfl
    have e17 := HI.out.f 17 (by decide) (by decide) (hd ⟨17, .data⟩ (by simp) rfl)
    clear hdep hd
    simp only [putAll, List.setIfInBounds_toArray, List.set_cons_succ, List.set_cons_zero]
    simp only [shV] at e17
    refine wpOp_step rfl (fun K hK => ?_)
    try simp only [e17]
    go_simp
    exact hK _ _ ⟨upd X 18 (shV w6.heap.size 45 b1 (body ++ [90]) dh dn h n 18), by simp [upd, shV, e17], HI.out.step 18 (by decide) (by decide) rfl⟩
  · have hd := hdep _ rfl
    have e18 := HI.out.f 18 (by decide) (by decide) (hd ⟨18, .data⟩ (by simp) rfl)
    clear hdep hd
    simp only [putAll, List.setIfInBounds_toArray, List.set_cons_succ, List.set_cons_zero]
    simp only [shV] at e18
    refine wpOp_step rfl (fun K hK => ?_)
    try simp only [e18]
    go_simp
    exact hK _ _ ⟨upd X 19 (shV w6.heap.size 45 b1 (body ++ [90]) dh dn h n 19), by simp [upd, shV, e18], HI.out.step 19 (by decide) (by decide) rfl⟩
  · have hd := hdep _ rfl
    have e18 := HI.out.f 18 (by decide) (by decide) (hd ⟨18, .data⟩ (by simp) rfl)
    clear hdep hd
    simp only [putAll, List.setIfInBounds_toArray, List.set_cons_succ, List.set_cons_zero]
    simp only [shV] at e18
    refine wpOp_step rfl (fun K hK => ?_)
    try simp only [e18]
    go_simp
    exact hK _ _ ⟨upd X 20 (shV w6.heap.size 45 b1 (body ++ [90]) dh dn h n 20), by simp [upd, shV, e18], HI.out.step 20 (by decide) (by decide) rfl⟩
  · have hd := hdep _ rfl
    have e18 := HI.out.f 18 (by decide) (by decide) (hd ⟨18, .data⟩ (by simp) rfl)
    clear hdep hd
    simp only [putAll, List.setIfInBounds_toArray, List.set_cons_succ, List.set_cons_zero]
    simp only [shV] at e18
    refine wpOp_step rfl (fun K hK => ?_)
    try simp only [e18]
    go_simp
    exact hK _ _ ⟨upd X 21 (shV w6.heap.size 45 b1 (body ++ [90]) dh dn h n 21), by simp [upd, shV, e18], HI.out.step 21 (by decide) (by decide) rfl⟩
  · have hn : L.getD 23 false = true → False := fun e => by
      have h14 := HI.out.f23 e
      rw [Hw.getD_true h14] at hno
      cases hno
    clear hdep
    simp only [putAll, List.setIfInBounds_toArray, List.set_cons_succ, List.set_cons_zero]
    refine wpOp_step rfl (fun K hK => ?_)
    go_simp
    exact hK _ _ ⟨_, rfl, (HI.out.grow ((Below.refl _ _).alloc (Nat.le_refl _) _)).alloc hn HI.out.bel.size (heap_alloc_new _ _) rfl⟩
  · have hd := hdep _ rfl
    have h14 := hd ⟨22, .data⟩ (by simp) rfl
    have e19 := HI.out.f 19 (by decide) (by decide) (hd ⟨19, .data⟩ (by simp) rfl)
    obtain ⟨g, cs, e3, h2, h3, h4, _⟩ := HI.out.f22 h14
    clear hdep hd
    simp only [putAll, List.setIfInBounds_toArray, List.set_cons_succ, List.set_cons_zero]
    refine Hw.wpOp_store_row rfl rfl 29 _ _ rfl rfl g (msgT (body ++ [90])) e3 e19 29 cs h3 size_msg (by rw [h4]; rfl) rfl ?_
    intro w2 p2
    exact ⟨_, rfl, HI.out.store h14 e3 h2 rfl p2⟩
  · have hd := hdep _ rfl
    have e20 := HI.out.f 20 (by decide) (by decide) (hd ⟨20, .data⟩ (by simp) rfl)
    clear hdep hd
    simp only [putAll, List.setIfInBounds_toArray, List.set_cons_succ, List.set_cons_zero]
    simp only [shV] at e20
    refine wpOp_step rfl (fun K hK => ?_)
    try simp only [e20]
    go_simp
    exact hK _ _ ⟨upd X 24 (shV w6.heap.size 45 b1 (body ++ [90]) dh dn h n 24), by simp [upd, shV, e20], HI.out.step 24 (by decide) (by decide) rfl⟩
  · have hd := hdep _ rfl
    have e21 := HI.out.f 21 (by decide) (by decide) (hd ⟨21, .data⟩ (by simp) rfl)
    clear hdep hd
    simp only [putAll, List.setIfInBounds_toArray, List.set_cons_succ, List.set_cons_zero]
    simp only [shV] at e21
    refine wpOp_step rfl (fun K hK => ?_)
    try simp only [e21]
    go_simp
    exact hK _ _ ⟨upd X 25 (shV w6.heap.size 45 b1 (body ++ [90]) dh dn h n 25), by simp [upd, shV, e21], HI.out.step 25 (by decide) (by decide) rfl⟩
  rintro L X w15 hI hall
  have e24 := hI.f 24 (by decide) (by decide) (hall 24 (by decide))
  have e25 := hI.f 25 (by decide) (by decide) (hall 25 (by decide))
  simp only [shV] at e24 e25
  obtain ⟨g15, cs, e22, hg15, hr15, _, hcs⟩ := hI.f22 (hall 22 (by decide))
  obtain rfl := hcs (hall 23 (by decide))
  have HB15 : Hid (Below w.heap.size w w15) := Below.next (HB9.out.alloc HB9.out.size _) (Nat.le_refl _) hI.bel
  have HT15 : Hid (Tabs w15) := HT9'.out.next hI.bel
  have HR15 := show Hid _ from hr15
  have hs15 : g15 < w15.heap.size := (Array.getElem?_eq_some_iff.1 hr15).1
  have hs15' : w9.heap.size < g15 := by simp at hg15; omega
  have d1 : w15.cell? ⟨w6.heap.size, 2, none⟩ = some (.string ⟨(b1 ++ [90]).toArray⟩) := (hI.bel.cell (p := ⟨w6.heap.size, 2, none⟩) (by simp; omega)).trans c2'
  have d2 : w15.cell? ⟨w9.heap.size, 2, none⟩ = some (.string ⟨(b2 ++ [90]).toArray⟩) := (hI.bel.cell (p := ⟨w9.heap.size, 2, none⟩) (by simp)).trans c3'
  have d3 : w15.cell? ⟨g15, 2, none⟩ = some (.string ⟨(body ++ [90]).toArray⟩) := by simp [World.cell?, hr15, msgT]
  clear c2' c3' c2 hI hall hcs hg15 hr15
  simp only [putAll, List.setIfInBounds_toArray, List.set_cons_succ, List.set_cons_zero]
  simp only [e22, e24, e25]
  clear e22 e24 e25
  generalize X 0 = x0, X 1 = x1, X 2 = x2, X 3 = x3, X 4 = x4, X 5 = x5, X 6 = x6, X 7 = x7, X 8 = x8, X 9 = x9, X 10 = x10, X 11 = x11, X 12 = x12, X 13 = x13, X 14 = x14, X 15 = x15, X 16 = x16, X 17 = x17, X 18 = x18, X 19 = x19, X 20 = x20, X 21 = x21
  clear X L
  go_wp2_with fail
  refine region_slots [(140, 0), (141, 1), (142, 2), (143, 3), (144, 4), (145, 5), (146, 6), (147, 7), (148, 8), (149, 9), (150, 10), (151, 11), (152, 12), (153, 13), (154, 14), (155, 15), (156, 16), (157, 17), (139, 18), (158, 19), (159, 20), (160, 21), (26, 22), (27, 24), (28, 25)] (DrI (shV w9.heap.size 43 b2 (body ++ [90]) dh dn h n) (msgT (body ++ [90])) w15) mixed (by kernel_rfl) (by simp only [putAll, List.setIfInBounds_toArray, List.set_cons_succ, List.set_cons_zero]) ⟨(Below.refl _ _).drew, fun _ _ _ e => (getD_rep e).elim, fun e => (getD_rep e).elim, fun e => (getD_rep e).elim⟩ ?_ ?_
  rintro L X w' i hI hi hdep hno
  have hi26 : i < 26 := hi
  have HI : Hid (DrI (shV w9.heap.size 43 b2 (body ++ [90]) dh dn h n) (msgT (body ++ [90])) w15 L X w') := hI
  have c2w : w'.cell? ⟨w9.heap.size, 2, none⟩ = some (.string ⟨(b2 ++ [90]).toArray⟩) := (hI.bel.cell (p := ⟨w9.heap.size, 2, none⟩) (by simp; omega)).trans d2
  clear hI hi
  rcases (by omega : i = 0 ∨ i = 1 ∨ i = 2 ∨ i = 3 ∨ i = 4 ∨ i = 5 ∨ i = 6 ∨ i = 7 ∨ i = 8 ∨ i = 9 ∨ i = 10 ∨ i = 11 ∨ i = 12 ∨ i = 13 ∨ i = 14 ∨ i = 15 ∨ i = 16 ∨ i = 17 ∨ i = 18 ∨ i = 19 ∨ i = 20 ∨ i = 21 ∨ i = 22 ∨ i = 23 ∨ i = 24 ∨ i = 25) with h | h | h | h | h | h | h | h | h | h | h | h | h | h | h | h | h | h | h | h | h | h | h | h | h | h <;> subst h
  · clear hdep
    simp only [putAll, List.setIfInBounds_toArray, List.set_cons_succ, List.set_cons_zero]
    refine wpOp_step rfl (fun K hK => ?_)
    go_simp
    exact hK _ _ ⟨upd X 0 (shV w9.heap.size 43 b2 (body ++ [90]) dh dn h n 0), by simp [upd, shV], HI.out.step 0 (by decide) (by decide) rfl⟩
  · have hd := hdep _ rfl
    have e0 := HI.out.f 0 (by decide) (by decide) (hd ⟨0, .data⟩ (by simp) rfl)
    clear hdep hd
    simp only [putAll, List.setIfInBounds_toArray, List.set_cons_succ, List.set_cons_zero]
    simp only [shV] at e0
    refine wpOp_step rfl (fun K hK => ?_)
    try simp only [e0]
    go_simp
    exact hK _ _ ⟨upd X 1 (shV w9.heap.size 43 b2 (body ++ [90]) dh dn h n 1), by simp [upd, shV, e0], HI.out.step 1 (by decide) (by decide) rfl⟩
  · clear hdep
    simp only [putAll, List.setIfInBounds_toArray, List.set_cons_succ, List.set_cons_zero]
    refine wpOp_step rfl (fun K hK => ?_)
    go_simp
    exact hK _ _ ⟨upd X 2 (shV w9.heap.size 43 b2 (body ++ [90]) dh dn h n 2), by simp [upd, shV], HI.out.step 2 (by decide) (by decide) rfl⟩
  · have hd := hdep _ rfl
    have e2 := HI.out.f 2 (by decide) (by decide) (hd ⟨2, .data⟩ (by simp) rfl)
    clear hdep hd
    simp only [putAll, List.setIfInBounds_toArray, List.set_cons_succ, List.set_cons_zero]
    simp only [shV] at e2
    refine wpOp_step rfl (fun K hK => ?_)
    try simp only [e2]
    go_simp
    exact hK _ _ ⟨upd X 3 (shV w9.heap.size 43 b2 (body ++ [90]) dh dn h n 3), by simp [upd, shV, e2], HI.out.step 3 (by decide) (by decide) rfl⟩
  · have hd := hdep _ rfl
    have e3 := HI.out.f 3 (by decide) (by decide) (hd ⟨3, .data⟩ (by simp) rfl)
    clear hdep hd
    simp only [putAll, List.setIfInBounds_toArray, List.set_cons_succ, List.set_cons_zero]
    simp only [shV] at e3
    refine wpOp_step rfl (fun K hK => ?_)
    try simp only [e3]
    go_simp
    exact hK _ _ ⟨upd X 4 (shV w9.heap.size 43 b2 (body ++ [90]) dh dn h n 4), by simp [upd, shV, e3], HI.out.step 4 (by decide) (by decide) rfl⟩
  · have hd := hdep _ rfl
    have e4 := HI.out.f 4 (by decide) (by decide) (hd ⟨4, .data⟩ (by simp) rfl)
    clear hdep hd
    simp only [putAll, List.setIfInBounds_toArray, List.set_cons_succ, List.set_cons_zero]
    simp only [shV] at e4
    refine wpOp_step rfl (fun K hK => ?_)
    try simp only [e4]
    go_wp2_with fail
    exact ⟨upd X 5 (shV w9.heap.size 43 b2 (body ++ [90]) dh dn h n 5), by simp [upd, shV, e4], HI.out.step 5 (by decide) (by decide) rfl⟩
  · have hd := hdep _ rfl
    have e1 := HI.out.f 1 (by decide) (by decide) (hd ⟨1, .data⟩ (by simp) rfl)
    have e5 := HI.out.f 5 (by decide) (by decide) (hd ⟨5, .data⟩ (by simp) rfl)
    clear hdep hd
    simp only [putAll, List.setIfInBounds_toArray, List.set_cons_succ, List.set_cons_zero]
    simp only [shV] at e1
    simp only [shV] at e5
    refine wpOp_step rfl (fun K hK => ?_)
    try simp only [e1]
    try simp only [e5]
    go_wp2_with fail
    exact ⟨upd X 6 (shV w9.heap.size 43 b2 (body ++ [90]) dh dn h n 6), by simp [upd, shV, e1, e5], HI.out.step 6 (by decide) (by decide) rfl⟩
  · have hd := hdep _ rfl
    have e6 := HI.out.f 6 (by decide) (by decide) (hd ⟨6, .data⟩ (by simp) rfl)
    clear hdep hd
    simp only [putAll, List.setIfInBounds_toArray, List.set_cons_succ, List.set_cons_zero]
    simp only [shV] at e6
    refine wpOp_step rfl (fun K hK => ?_)
    try simp only [e6]
    go_wp2_with fail
    exact ⟨upd X 7 (shV w9.heap.size 43 b2 (body ++ [90]) dh dn h n 7), by simp [upd, shV, e6], HI.out.step 7 (by decide) (by decide) rfl⟩
  · have hd := hdep _ rfl
    have e7 := HI.out.f 7 (by decide) (by decide) (hd ⟨7, .data⟩ (by simp) rfl)
    clear hdep hd
    simp only [putAll, List.setIfInBounds_toArray, List.set_cons_succ, List.set_cons_zero]
    simp only [shV] at e7
    refine wpOp_step rfl (fun K hK => ?_)
    try simp only [e7]
    go_wp2_with fail
    exact ⟨upd X 8 (shV w9.heap.size 43 b2 (body ++ [90]) dh dn h n 8), by simp [upd, shV, e7], HI.out.step 8 (by decide) (by decide) rfl⟩
  · clear hdep
    simp only [putAll, List.setIfInBounds_toArray, List.set_cons_succ, List.set_cons_zero]
    refine wpOp_step rfl (fun K hK => ?_)
    go_simp
    exact hK _ _ ⟨upd X 9 (shV w9.heap.size 43 b2 (body ++ [90]) dh dn h n 9), by simp [upd, shV], HI.out.step 9 (by decide) (by decide) rfl⟩
  · have hd := hdep _ rfl
    have e9 := HI.out.f 9 (by decide) (by decide) (hd ⟨9, .data⟩ (by simp) rfl)
    clear hdep hd
    simp only [putAll, List.setIfInBounds_toArray, List.set_cons_succ, List.set_cons_zero]
    simp only [shV] at e9
    refine wpOp_step rfl (fun K hK => ?_)
    try simp only [e9]
    go_wp2_with fail
    refine (HSh.out.t2 _).mono ?_
    rintro e w2 ⟨rfl, hb⟩
    go_wp2_with fail
    exact ⟨upd X 10 (shV w9.heap.size 43 b2 (body ++ [90]) dh dn h n 10), by simp [upd, shV, e9], (HI.out.grow hb).step 10 (by decide) (by decide) rfl⟩
  · have hd := hdep _ rfl
    have e8 := HI.out.f 8 (by decide) (by decide) (hd ⟨8, .data⟩ (by simp) rfl)
    have e10 := HI.out.f 10 (by decide) (by decide) (hd ⟨10, .data⟩ (by simp) rfl)
    clear hdep hd
    simp only [putAll, List.setIfInBounds_toArray, List.set_cons_succ, List.set_cons_zero]
    simp only [shV] at e8
    simp only [shV] at e10
    refine wpOp_step rfl (fun K hK => ?_)
    try simp only [e8]
    try simp only [e10]
    go_wp2_with fail
    exact ⟨upd X 11 (shV w9.heap.size 43 b2 (body ++ [90]) dh dn h n 11), by simp [upd, shV, e8, e10], HI.out.step 11 (by decide) (by decide) rfl⟩
  · have hd := hdep _ rfl
    have e11 := HI.out.f 11 (by decide) (by decide) (hd ⟨11, .data⟩ (by simp) rfl)
    clear hdep hd
    simp only [putAll, List.setIfInBounds_toArray, List.set_cons_succ, List.set_cons_zero]
    simp only [shV] at e11
    refine wpOp_step rfl (fun K hK => ?_)
    try simp only [e11]
    go_wp2_with fail
    exact ⟨upd X 12 (shV w9.heap.size 43 b2 (body ++ [90]) dh dn h n 12), by simp [upd, shV, e11], HI.out.step 12 (by decide) (by decide) rfl⟩
  · clear hdep
    simp only [putAll, List.setIfInBounds_toArray, List.set_cons_succ, List.set_cons_zero]
    refine wpOp_step rfl (fun K hK => ?_)
    go_simp
    exact hK _ _ ⟨upd X 13 (shV w9.heap.size 43 b2 (body ++ [90]) dh dn h n 13), by simp [upd, shV], HI.out.step 13 (by decide) (by decide) rfl⟩
  · have hd := hdep _ rfl
    have e13 := HI.out.f 13 (by decide) (by decide) (hd ⟨13, .data⟩ (by simp) rfl)
    clear hdep hd
    simp only [putAll, List.setIfInBounds_toArray, List.set_cons_succ, List.set_cons_zero]
    simp only [shV] at e13
    refine wpOp_step rfl (fun K hK => ?_)
    try simp only [e13]
    go_wp2_with fail
    refine (HSh.out.t3 _).mono ?_
    rintro e w2 ⟨rfl, hb⟩
    go_wp2_with fail
    exact ⟨upd X 14 (shV w9.heap.size 43 b2 (body ++ [90]) dh dn h n 14), by simp [upd, shV, e13], (HI.out.grow hb).step 14 (by decide) (by decide) rfl⟩
  · have hd := hdep _ rfl
    have e12 := HI.out.f 12 (by decide) (by decide) (hd ⟨12, .data⟩ (by simp) rfl)
    have e14 := HI.out.f 14 (by decide) (by decide) (hd ⟨14, .data⟩ (by simp) rfl)
    clear hdep hd
    simp only [putAll, List.setIfInBounds_toArray, List.set_cons_succ, List.set_cons_zero]
    simp only [shV] at e12
    simp only [shV] at e14
    refine wpOp_step rfl (fun K hK => ?_)
    try simp only [e12]
    try simp only [e14]
    go_wp2_with fail
    exact ⟨upd X 15 (shV w9.heap.size 43 b2 (body ++ [90]) dh dn h n 15), by simp [upd, shV, e12, e14], HI.out.step 15 (by decide) (by decide) rfl⟩
  · have hd := hdep _ rfl
    have e15 := HI.out.f 15 (by decide) (by decide) (hd ⟨15, .data⟩ (by simp) rfl)
    clear hdep hd
    simp only [putAll, List.setIfInBounds_toArray, List.set_cons_succ, List.set_cons_zero]
    simp only [shV] at e15
    refine wpOp_step rfl (fun K hK => ?_)
    try simp only [e15]
    go_wp2_with fail
    exact ⟨upd X 16 (shV w9.heap.size 43 b2 (body ++ [90]) dh dn h n 16), by simp [upd, shV, tmLine, e15], HI.out.step 16 (by decide) (by decide) rfl⟩
  · have hd := hdep _ rfl
    have e16 := HI.out.f 16 (by decide) (by decide) (hd ⟨16, .data⟩ (by simp) rfl)
    clear hdep hd
    simp only [putAll, List.setIfInBounds_toArray, List.set_cons_succ, List.set_cons_zero]
    simp only [shV] at e16
    refine wpOp_step rfl (fun K hK => ?_)
    try simp only [e16]
    go_wp2_with fail
    refine (HR4.out _ (HT15.out.next HI.out.bel)).mono ?_
    rintro e w2 ⟨rfl, hb⟩
    go_wp2_with fail
    exact ⟨upd X 17 (shV w9.heap.size 43 b2 (body ++ [90]) dh dn h n 17), by simp [upd, shV, msgT, e16], (HI.out.grow hb).step 17 (by decide) (by decide) rfl⟩
  · have hd := hdep _ rfl
    have e17 := HI.out.f 17 (by decide) (by decide) (hd ⟨17, .data⟩ (by simp) rfl)
    clear hdep hd
    simp only [putAll, List.setIfInBounds_toArray, List.set_cons_succ, List.set_cons_zero]
    simp only [shV] at e17
    refine wpOp_step rfl (fun K hK => ?_)
    try simp only [e17]
    go_simp
    exact hK _ _ ⟨upd X 18 (shV w9.heap.size 43 b2 (body ++ [90]) dh dn h n 18), by simp [upd, shV, e17], HI.out.step 18 (by decide) (by decide) rfl⟩
  · have hd := hdep _ rfl
    have e18 := HI.out.f 18 (by decide) (by decide) (hd ⟨18, .data⟩ (by simp) rfl)
    clear hdep hd
    simp only [putAll, List.setIfInBounds_toArray, List.set_cons_succ, List.set_cons_zero]
    simp only [shV] at e18
    refine wpOp_step rfl (fun K hK => ?_)
    try simp only [e18]
    go_simp
    exact hK _ _ ⟨upd X 19 (shV w9.heap.size 43 b2 (body ++ [90]) dh dn h n 19), by simp [upd, shV, e18], HI.out.step 19 (by decide) (by decide) rfl⟩
  · have hd := hdep _ rfl
    have e18 := HI.out.f 18 (by decide) (by decide) (hd ⟨18, .data⟩ (by simp) rfl)
    clear hdep hd
    simp only [putAll, List.setIfInBounds_toArray, List.set_cons_succ, List.set_cons_zero]
    simp only [shV] at e18
    refine wpOp_step rfl (fun K hK => ?_)
    try simp only [e18]
    go_simp
    exact hK _ _ ⟨upd X 20 (shV w9.heap.size 43 b2 (body ++ [90]) dh dn h n 20), by simp [upd, shV, e18], HI.out.step 20 (by decide) (by decide) rfl⟩
  · have hd := hdep _ rfl
    have e18 := HI.out.f 18 (by decide) (by decide) (hd ⟨18, .data⟩ (by simp) rfl)
    clear hdep hd
    simp only [putAll, List.setIfInBounds_toArray, List.set_cons_succ, List.set_cons_zero]
    simp only [shV] at e18
    refine wpOp_step rfl (fun K hK => ?_)
    try simp only [e18]
    go_simp
    exact hK _ _ ⟨upd X 21 (shV w9.heap.size 43 b2 (body ++ [90]) dh dn h n 21), by simp [upd, shV, e18], HI.out.step 21 (by decide) (by decide) rfl⟩
  · have hn : L.getD 23 false = true → False := fun e => by
      have h14 := HI.out.f23 e
      rw [Hw.getD_true h14] at hno
      cases hno
    clear hdep
    simp only [putAll, List.setIfInBounds_toArray, List.set_cons_succ, List.set_cons_zero]
    refine wpOp_step rfl (fun K hK => ?_)
    go_simp
    exact hK _ _ ⟨_, rfl, (HI.out.grow ((Below.refl _ _).alloc (Nat.le_refl _) _)).alloc hn HI.out.bel.size (heap_alloc_new _ _) rfl⟩
  · have hd := hdep _ rfl
    have h14 := hd ⟨22, .data⟩ (by simp) rfl
    have e19 := HI.out.f 19 (by decide) (by decide) (hd ⟨19, .data⟩ (by simp) rfl)
    obtain ⟨g, cs, e3, h2, h3, h4, _⟩ := HI.out.f22 h14
    clear hdep hd
    simp only [putAll, List.setIfInBounds_toArray, List.set_cons_succ, List.set_cons_zero]
    refine Hw.wpOp_store_row rfl rfl 29 _ _ rfl rfl g (msgT (body ++ [90])) e3 e19 29 cs h3 size_msg (by rw [h4]; rfl) rfl ?_
    intro w2 p2
    exact ⟨_, rfl, HI.out.store h14 e3 h2 rfl p2⟩
  · have hd := hdep _ rfl
    have e20 := HI.out.f 20 (by decide) (by decide) (hd ⟨20, .data⟩ (by simp) rfl)
    clear hdep hd
    simp only [putAll, List.setIfInBounds_toArray, List.set_cons_succ, List.set_cons_zero]
    simp only [shV] at e20
    refine wpOp_step rfl (fun K hK => ?_)
    try simp only [e20]
    go_simp
    exact hK _ _ ⟨upd X 24 (shV w9.heap.size 43 b2 (body ++ [90]) dh dn h n 24), by simp [upd, shV, e20], HI.out.step 24 (by decide) (by decide) rfl⟩
  · have hd := hdep _ rfl
    have e21 := HI.out.f 21 (by decide) (by decide) (hd ⟨21, .data⟩ (by simp) rfl)
    clear hdep hd
    simp only [putAll, List.setIfInBounds_toArray, List.set_cons_succ, List.set_cons_zero]
    simp only [shV] at e21
    refine wpOp_step rfl (fun K hK => ?_)
    try simp only [e21]
    go_simp
    exact hK _ _ ⟨upd X 25 (shV w9.heap.size 43 b2 (body ++ [90]) dh dn h n 25), by simp [upd, shV, e21], HI.out.step 25 (by decide) (by decide) rfl⟩
  rintro L X w16 hI hall
  have e24 := hI.f 24 (by decide) (by decide) (hall 24 (by decide))
  have e25 := hI.f 25 (by decide) (by decide) (hall 25 (by decide))
  simp only [shV] at e24 e25
  obtain ⟨g16, cs, e22, hg16, hr16, _, hcs⟩ := hI.f22 (hall 22 (by decide))
  obtain rfl := hcs (hall 23 (by decide))
  have HB16 : Hid (Below w.heap.size w w16) := Below.next HB15.out (Nat.le_refl _) hI.bel
  have f1 : w16.cell? ⟨w6.heap.size, 2, none⟩ = some (.string ⟨(b1 ++ [90]).toArray⟩) := (hI.bel.cell (p := ⟨w6.heap.size, 2, none⟩) (by simp; omega)).trans d1
  have f2 : w16.cell? ⟨w9.heap.size, 2, none⟩ = some (.string ⟨(b2 ++ [90]).toArray⟩) := (hI.bel.cell (p := ⟨w9.heap.size, 2, none⟩) (by simp; omega)).trans d2
  have f3 : w16.cell? ⟨g15, 2, none⟩ = some (.string ⟨(body ++ [90]).toArray⟩) := (hI.bel.cell (p := ⟨g15, 2, none⟩) (by simp; omega)).trans d3
  have f4 : w16.cell? ⟨g16, 2, none⟩ = some (.string ⟨(body ++ [90]).toArray⟩) := by simp [World.cell?, hr16, msgT]
  clear d1 d2 d3 hI hall hcs hg16 hr16
  simp only [putAll, List.setIfInBounds_toArray, List.set_cons_succ, List.set_cons_zero]
  simp only [e22, e24, e25]
  clear e22 e24 e25
  generalize X 0 = x0, X 1 = x1, X 2 = x2, X 3 = x3, X 4 = x4, X 5 = x5, X 6 = x6, X 7 = x7, X 8 = x8, X 9 = x9, X 10 = x10, X 11 = x11, X 12 = x12, X 13 = x13, X 14 = x14, X 15 = x15, X 16 = x16, X 17 = x17, X 18 = x18, X 19 = x19, X 20 = x20, X 21 = x21
  clear X L
  by_cases hz : h = 0 ∧ n = 0
  · obtain ⟨h1, h2⟩ := hz
    have hE1 := (HZ.out h1 h2).1
    have hE2 := (HZ.out h1 h2).2
    rw [hE1] at f1
    rw [hE2] at f2
    have q1 : ((h : Int) == 0) = true := by simp [h1]
    have q2 : ((n : Int) == 0) = true := by simp [h2]
    clear h1 h2 hE1 hE2
    go_wp2
    go_ret
    exact ⟨rfl, HB16.out⟩
  · have hL1 := (HO.out hz).1
    have hL2 := (HO.out hz).2
    by_cases h1 : h = 0
    · have q1 : ((h : Int) == 0) = true := by simp [h1]
      have q2 : ((n : Int) == 0) = false := by simp; omega
      clear h1 hz
      go_wp2
      go_ret
      exact ⟨rfl, HB16.out⟩
    · have q1 : ((h : Int) == 0) = false := by simp; omega
      clear h1 hz
      go_wp2
      go_ret
      exact ⟨rfl, HB16.out⟩
end Go.Proofs.YtdlhbmncbmconaaGreatDoor

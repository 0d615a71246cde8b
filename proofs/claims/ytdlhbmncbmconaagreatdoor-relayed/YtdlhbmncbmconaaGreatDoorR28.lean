/- Contract: Relay. What is carried through its loop. -/
import Derived.Test.YtdlhbmncbmconaaGreatDoorR24
import Derived.Test.YtdlhbmncbmconaaGreatDoorR26
import Derived.Test.YtdlhbmncbmconaaGreatDoorR27
namespace Go.Proofs.YtdlhbmncbmconaaGreatDoor
open Go.RowKit Go.Shelf Go.Sort
abbrev OkMsg := {m : Hm.Msg // (Hm.line m).2 = 0 ∧ Hm.Good m ∧ m.Small}
structure RelC (w : World) (pf pr pl : Nat) (rlv : Value) : Prop where
  f : pf < w.heap.size
  r : pr < w.heap.size
  l : pl < w.heap.size
  d1 : pf ≠ pl
  d2 : pr ≠ pf
  d3 : pr ≠ pl
  rl : ∀ k, rlv.ownBlock = some k → k < w.heap.size ∧ k ≠ pf ∧ k ≠ pl
  lo : 11 ≤ w.heap.size
structure RelW (w : World) (pf pr pl : Nat) (rs : List Hm.Rl) (rlv : Value) (s : ByteArray) (W : World) : Prop where
  b0 : W.heap[w.heap.size]? = some (.cells #[.pointer (some ⟨pr, 0, none⟩)] 56 (0, 0))
  b1 : W.heap[w.heap.size + 1]? = some (.cells #[.pointer (some ⟨pl, 0, none⟩)] 63 (0, 0))
  b2 : W.heap[w.heap.size + 2]? = some (.cells #[.int .i64 2000] 3 (0, 0))
  b4 : W.heap[w.heap.size + 4]? = some (.cells #[.pointer (some ⟨pf, 0, none⟩)] 45 (0, 0))
  b5 : W.heap[w.heap.size + 5]? = some (.cells #[.string s] 9 (0, 0))
  rules : RulesAt W pr rs rlv
  kept : Hw.Kept (fun k => k = pf ∨ k = pl) w W
def RelFix (w : World) (pr : Nat) (rlv : Value) (k : Nat) : Prop := k = w.heap.size ∨ k = w.heap.size + 1 ∨ k = w.heap.size + 2 ∨ k = w.heap.size + 4 ∨ k = w.heap.size + 5 ∨ k = pr ∨ rlv.ownBlock = some k
theorem RelW.cells {w W : World} {pf pr pl : Nat} {rs : List Hm.Rl} {rlv : Value} {s : ByteArray} (h : RelW w pf pr pl rs rlv s W) {k : Nat} (hk : RelFix w pr rlv k) : ∃ cs t, W.heap[k]? = some (.cells cs t (0, 0)) := by
  rcases hk with rfl | rfl | rfl | rfl | rfl | rfl | e
  · exact ⟨_, _, h.b0⟩
  · exact ⟨_, _, h.b1⟩
  · exact ⟨_, _, h.b2⟩
  · exact ⟨_, _, h.b4⟩
  · exact ⟨_, _, h.b5⟩
  · exact ⟨_, _, h.rules.row⟩
  · obtain ⟨cur, hc⟩ := Hw.ownsRow_cells h.rules.own e
    exact ⟨_, _, hc⟩
theorem RelW.keep {w A B : World} {pf pr pl : Nat} {rs : List Hm.Rl} {rlv : Value} {s : ByteArray} {S : Nat → Prop} (h : RelW w pf pr pl rs rlv s A) (hk : Hw.Kept S A B) (hS : ∀ k, RelFix w pr rlv k → ¬ S k) (hw : ∀ k, k < w.heap.size → S k → k = pf ∨ k = pl) : RelW w pf pr pl rs rlv s B where
  b0 := (hk.block _ (Array.getElem?_eq_some_iff.1 h.b0).1 (hS _ (.inl rfl))).trans h.b0
  b1 := (hk.block _ (Array.getElem?_eq_some_iff.1 h.b1).1 (hS _ (.inr (.inl rfl)))).trans h.b1
  b2 := (hk.block _ (Array.getElem?_eq_some_iff.1 h.b2).1 (hS _ (.inr (.inr (.inl rfl))))).trans h.b2
  b4 := (hk.block _ (Array.getElem?_eq_some_iff.1 h.b4).1 (hS _ (.inr (.inr (.inr (.inl rfl)))))).trans h.b4
  b5 := (hk.block _ (Array.getElem?_eq_some_iff.1 h.b5).1 (hS _ (.inr (.inr (.inr (.inr (.inl rfl))))))).trans h.b5
  rules := ⟨(hk.block _ (Array.getElem?_eq_some_iff.1 h.rules.row).1 (hS _ (.inr (.inr (.inr (.inr (.inr (.inl rfl)))))))).trans h.rules.row, Hw.ownsRow_keptS h.rules.own hk (fun _ e => hS _ (.inr (.inr (.inr (.inr (.inr (.inr e)))))))⟩
  kept := h.kept.trans hk hw
theorem RelW.size {w W : World} {pf pr pl : Nat} {rs : List Hm.Rl} {rlv : Value} {s : ByteArray} (h : RelW w pf pr pl rs rlv s W) : w.heap.size + 6 ≤ W.heap.size := (Array.getElem?_eq_some_iff.1 h.b5).1
theorem RelC.fix {w : World} {pf pr pl : Nat} {rlv : Value} (h : RelC w pf pr pl rlv) {k : Nat} (hk : RelFix w pr rlv k) : k ≠ pf ∧ k ≠ pl ∧ k ≠ w.heap.size + 3 ∧ k < w.heap.size + 6 := by
  have := h.f
  have := h.r
  have := h.l
  have := h.d2
  have := h.d3
  rcases hk with e | e | e | e | e | e | e
  · omega
  · omega
  · omega
  · omega
  · omega
  · omega
  · have := h.rl k e
    omega
structure RelX (w : World) (pl : Nat) (g : Hm.Lg) (txt : List UInt8) (v bv rv wv : Value) (W : World) : Prop where
  bld : BuildAt W (w.heap.size + 3) bv txt
  log : LogIn W pl g rv wv
  nil : txt = [] → bv = .slice none 0 0
  lb : ∀ k, bv.ownBlock = some k → w.heap.size + 6 ≤ k
  lr : ∀ k, rv.ownBlock = some k → w.heap.size + 6 ≤ k
  lw : ∀ k, wv.ownBlock = some k → w.heap.size + 6 ≤ k
  lv : ∀ k, v.ownBlock = some k → w.heap.size + 6 ≤ k
  s1 : ∀ k, bv.ownBlock = some k → rv.ownBlock ≠ some k ∧ v.ownBlock ≠ some k
  s2 : ∀ k, v.ownBlock = some k → rv.ownBlock ≠ some k
theorem RelX.bt {w W : World} {pl : Nat} {g : Hm.Lg} {txt : List UInt8} {v bv rv wv : Value} (h : RelX w pl g txt v bv rv wv W) {k : Nat} (e : bv.ownBlock = some k) : ∃ c, W.heap[k]? = some (.cells c 5 (0, 0)) := Hw.ownsRow_cells h.bld.own e
theorem RelX.rt {w W : World} {pl : Nat} {g : Hm.Lg} {txt : List UInt8} {v bv rv wv : Value} (h : RelX w pl g txt v bv rv wv W) {k : Nat} (e : rv.ownBlock = some k) : ∃ c, W.heap[k]? = some (.cells c 5 (0, 0)) := Hw.ownsRow_cells h.log.recs e
theorem RelX.wt {w W : World} {pl : Nat} {g : Hm.Lg} {txt : List UInt8} {v bv rv wv : Value} (h : RelX w pl g txt v bv rv wv W) {k : Nat} (e : wv.ownBlock = some k) : ∃ c, W.heap[k]? = some (.cells c 9 (0, 0)) := (Hw.ownsFrom_cells h.log.wai e).2
theorem not_both {W : World} {k : Nat} {c c' : Array Value} (h : W.heap[k]? = some (.cells c 5 (0, 0))) (h' : W.heap[k]? = some (.cells c' 9 (0, 0))) : False := ne_types h h' (by decide) rfl
theorem RelX.keep {w A B : World} {pl : Nat} {g : Hm.Lg} {txt : List UInt8} {v bv rv wv : Value} {S : Nat → Prop} (h : RelX w pl g txt v bv rv wv A) (hk : Hw.Kept S A B) (h1 : ¬ S (w.heap.size + 3)) (h2 : ¬ S pl) (h3 : ∀ k, bv.ownBlock = some k ∨ rv.ownBlock = some k ∨ wv.ownBlock = some k → ¬ S k) : RelX w pl g txt v bv rv wv B :=
  ⟨h.bld.keep hk h1 (fun k e => h3 k (.inl e)), h.log.keep hk h2 (fun k e => h3 k (.inr (.inl e))) (fun k e => h3 k (.inr (.inr e))), h.nil, h.lb, h.lr, h.lw, h.lv, h.s1, h.s2⟩
-- frames take a byte
theorem RelX.frames {w A B : World} {pf pr pl : Nat} {rlv : Value} {g : Hm.Lg} {txt : List UInt8} {v v' bv rv wv : Value} {f : Hm.Frs} (hc : RelC w pf pr pl rlv) (h : RelX w pl g txt v bv rv wv A) (hz : w.heap.size + 6 ≤ A.heap.size) (hf : FramesAt A pf f v) (hs : StepF pf v A v' B) : RelX w pl g txt v' bv rv wv B := by
  have hF := hc.f
  have hL := hc.l
  have hvt : ∀ k, v.ownBlock = some k → ∃ c, A.heap[k]? = some (.cells c 5 (0, 0)) := fun k e => Hw.ownsRow_cells hf.own e
  have K := h.keep hs.kept (fun e => by
      rcases e with e | e
      · omega
      · have := h.lv _ e; omega) (fun e => by
      rcases e with e | e
      · exact hc.d1 e.symm
      · have := h.lv _ e; omega) (fun k hk e => by
      rcases hk with hk | hk | hk
      · rcases e with e | e
        · have := h.lb _ hk; omega
        · exact (h.s1 k hk).2 e
      · rcases e with e | e
        · have := h.lr _ hk; omega
        · exact h.s2 k e hk
      · rcases e with e | e
        · have := h.lw _ hk; omega
        · obtain ⟨c, h1⟩ := hvt k e
          obtain ⟨c', h2⟩ := h.wt hk
          exact not_both h1 h2)
  refine ⟨K.bld, K.log, K.nil, K.lb, K.lr, K.lw, fun k e => ?_, fun k e => ⟨(h.s1 k e).1, fun e' => ?_⟩, fun k e e' => ?_⟩
  · rcases hs.lies k e with e | e
    · exact h.lv k e
    · omega
  · rcases hs.lies k e' with e' | e'
    · exact (h.s1 k e).2 e'
    · obtain ⟨c, h1⟩ := h.bt e
      have := (Array.getElem?_eq_some_iff.1 h1).1
      omega
  · rcases hs.lies k e with e | e
    · exact h.s2 k e e'
    · obtain ⟨c, h1⟩ := h.rt e'
      have := (Array.getElem?_eq_some_iff.1 h1).1
      omega
-- the log takes a message
theorem RelX.logs {w A B : World} {pf pr pl : Nat} {rlv : Value} {g g' : Hm.Lg} {txt : List UInt8} {v bv rv wv rv' wv' : Value} {f : Hm.Frs} (hc : RelC w pf pr pl rlv) (h : RelX w pl g txt v bv rv wv A) (hz : w.heap.size + 6 ≤ A.heap.size) (hf : FramesAt A pf f v) (hs : StepL pl rv wv A rv' wv' B) (hl : LogIn B pl g' rv' wv') : RelX w pl g' txt v bv rv' wv' B ∧ FramesAt B pf f v := by
  have hF := hc.f
  have hL := hc.l
  have hvt : ∀ k, v.ownBlock = some k → ∃ c, A.heap[k]? = some (.cells c 5 (0, 0)) := fun k e => Hw.ownsRow_cells hf.own e
  refine ⟨⟨h.bld.keep hs.kept (fun e => ?_) (fun k hk e => ?_), hl, h.nil, h.lb, fun k e => ?_, fun k e => ?_, h.lv, fun k e => ⟨fun e' => ?_, (h.s1 k e).2⟩, fun k e e' => ?_⟩, hf.keep hs.kept (fun e => ?_) (fun k hk e => ?_)⟩
  · rcases e with e | e | e
    · omega
    · have := h.lr _ e; omega
    · have := h.lw _ e; omega
  · rcases e with e | e | e
    · have := h.lb _ hk; omega
    · exact (h.s1 k hk).1 e
    · obtain ⟨c, h1⟩ := h.bt hk
      obtain ⟨c', h2⟩ := h.wt e
      exact not_both h1 h2
  · rcases hs.lr k e with e | e
    · exact h.lr k e
    · omega
  · rcases hs.lw k e with e | e
    · exact h.lw k e
    · omega
  · rcases hs.lr k e' with e' | e'
    · exact (h.s1 k e).1 e'
    · obtain ⟨c, h1⟩ := h.bt e
      have := (Array.getElem?_eq_some_iff.1 h1).1
      omega
  · rcases hs.lr k e' with e' | e'
    · exact h.s2 k e e'
    · obtain ⟨c, h1⟩ := hvt k e
      have := (Array.getElem?_eq_some_iff.1 h1).1
      omega
  · rcases e with e | e | e
    · exact hc.d1 e
    · have := h.lr _ e; omega
    · have := h.lw _ e; omega
  · rcases e with e | e | e
    · have := h.lv _ hk; omega
    · exact h.s2 k hk e
    · obtain ⟨c, h1⟩ := hvt k hk
      obtain ⟨c', h2⟩ := h.wt e
      exact not_both h1 h2
-- the builder takes bytes
theorem RelX.builds {w A B : World} {pf pr pl : Nat} {rlv : Value} {g : Hm.Lg} {txt txt' : List UInt8} {v bv bv' rv wv : Value} {f : Hm.Frs} (hc : RelC w pf pr pl rlv) (h : RelX w pl g txt v bv rv wv A) (hz : w.heap.size + 6 ≤ A.heap.size) (hf : FramesAt A pf f v) (hs : StepB (w.heap.size + 3) bv A bv' B) (hb : BuildAt B (w.heap.size + 3) bv' txt') (hn : txt' ≠ []) : RelX w pl g txt' v bv' rv wv B ∧ FramesAt B pf f v := by
  have hF := hc.f
  have hL := hc.l
  have hvt : ∀ k, v.ownBlock = some k → ∃ c, A.heap[k]? = some (.cells c 5 (0, 0)) := fun k e => Hw.ownsRow_cells hf.own e
  refine ⟨⟨hb, h.log.keep hs.kept (fun e => ?_) (fun k hk e => ?_) (fun k hk e => ?_), fun e => absurd e hn, fun k e => ?_, h.lr, h.lw, h.lv, fun k e => ⟨fun e' => ?_, fun e' => ?_⟩, h.s2⟩, hf.keep hs.kept (fun e => ?_) (fun k hk e => ?_)⟩
  · rcases e with e | e
    · omega
    · have := h.lb _ e; omega
  · rcases e with e | e
    · have := h.lr _ hk; omega
    · exact (h.s1 k e).1 hk
  · rcases e with e | e
    · have := h.lw _ hk; omega
    · obtain ⟨c, h1⟩ := h.bt e
      obtain ⟨c', h2⟩ := h.wt hk
      exact not_both h1 h2
  · rcases hs.lies k e with e | e
    · exact h.lb k e
    · omega
  · rcases hs.lies k e with e | e
    · exact (h.s1 k e).1 e'
    · obtain ⟨c, h1⟩ := h.rt e'
      have := (Array.getElem?_eq_some_iff.1 h1).1
      omega
  · rcases hs.lies k e with e | e
    · exact (h.s1 k e).2 e'
    · obtain ⟨c, h1⟩ := hvt k e'
      have := (Array.getElem?_eq_some_iff.1 h1).1
      omega
  · rcases e with e | e
    · omega
    · have := h.lb _ e; omega
  · rcases e with e | e
    · have := h.lv _ hk; omega
    · exact (h.s1 k e).2 hk
def RelJ (w : World) (pf pr pl : Nat) (rs : List Hm.Rl) (rlv : Value) (s : ByteArray) (sv : Nat) (pre : List OkMsg) (v : Value) (W : World) : Prop :=
  RelW w pf pr pl rs rlv s W ∧ ∃ bv rv wv, RelX w pl (Hm.rel sv (pre.map (·.1))).1 (Hm.rel sv (pre.map (·.1))).2 v bv rv wv W
theorem RelJ.step {w A B : World} {pf pr pl : Nat} {rs : List Hm.Rl} {rlv : Value} {s : ByteArray} {sv : Nat} {pre : List OkMsg} {v v' : Value} {f : Hm.Frs} (hc : RelC w pf pr pl rlv) (h : RelJ w pf pr pl rs rlv s sv pre v A) (hf : FramesAt A pf f v) (hs : StepF pf v A v' B) : RelJ w pf pr pl rs rlv s sv pre v' B := by
  obtain ⟨hw, bv, rv, wv, hx⟩ := h
  refine ⟨hw.keep hs.kept (fun k hk e => ?_) (fun k hk e => ?_), bv, rv, wv, hx.frames hc hw.size hf hs⟩
  · have h1 := hc.fix hk
    rcases e with e | e
    · exact h1.1 e
    · have := hx.lv k e; omega
  · rcases e with e | e
    · exact .inl e
    · have := hx.lv k e; omega
theorem RelJ.cells {w W : World} {pf pr pl : Nat} {rs : List Hm.Rl} {rlv : Value} {s : ByteArray} {sv : Nat} {pre : List OkMsg} {v : Value} (h : RelJ w pf pr pl rs rlv s sv pre v W) : W.cell? ⟨w.heap.size + 4, 0, none⟩ = some (.pointer (some ⟨pf, 0, none⟩)) ∧ W.cell? ⟨w.heap.size + 5, 0, none⟩ = some (.string s) := by
  refine ⟨?_, ?_⟩ <;> simp [World.cell?, h.1.b4, h.1.b5]
theorem RelJ.put {w W : World} {pf pr pl : Nat} {rs : List Hm.Rl} {rlv : Value} {s : ByteArray} {sv : Nat} {pre : List OkMsg} {v : Value} {f : Hm.Frs} {l : Nat} {o o' : Obj} (hl : w.heap.size ≤ l) (h : RelJ w pf pr pl rs rlv s sv pre v W) (hf : FramesAt W pf f v) (ho : W.heap[l]? = some o) (hoc : o.isCells = false) : RelJ w pf pr pl rs rlv s sv pre v (W.putObj l o') ∧ FramesAt (W.putObj l o') pf f v := by
  obtain ⟨hw, bv, rv, wv, hx⟩ := h
  have no : ∀ {k : Nat} {c : Array Value} {t : TypeId}, W.heap[k]? = some (.cells c t (0, 0)) → ¬ k = l := fun hk e => by
    subst e
    rw [ho] at hk; cases hk; cases hoc
  obtain ⟨bp, _, hbr⟩ := hx.bld.row
  refine ⟨⟨hw.keep (kept_putObj o') (fun k hk => ?_) (fun k hk e => by omega), bv, rv, wv, hx.keep (kept_putObj o') (no hbr) (no hx.log.row) (fun k hk => ?_)⟩, hf.keep (kept_putObj o') (no hf.row) (fun k e => ?_)⟩
  · obtain ⟨cs, t, hc⟩ := hw.cells hk
    exact no hc
  · rcases hk with hk | hk | hk
    · obtain ⟨c, h1⟩ := hx.bt hk
      exact no h1
    · obtain ⟨c, h1⟩ := hx.rt hk
      exact no h1
    · obtain ⟨c, h1⟩ := hx.wt hk
      exact no h1
  · obtain ⟨c, h1⟩ := Hw.ownsRow_cells hf.own e
    exact no h1
theorem RelJ.below {w A B : World} {pf pr pl : Nat} {rs : List Hm.Rl} {rlv : Value} {s : ByteArray} {sv : Nat} {pre : List OkMsg} {v : Value} {f : Hm.Frs} (h : RelJ w pf pr pl rs rlv s sv pre v A) (hf : FramesAt A pf f v) (hb : Below A.heap.size A B) : RelJ w pf pr pl rs rlv s sv pre v B ∧ FramesAt B pf f v := by
  obtain ⟨hw, bv, rv, wv, hx⟩ := h
  have K : Hw.Kept (fun _ => False) A B := Hw.Kept.of_below hb
  exact ⟨⟨hw.keep K (fun _ _ e => e) (fun _ _ e => e.elim), bv, rv, wv, hx.keep K (fun e => e) (fun e => e) (fun _ _ e => e)⟩, hf.keep K (fun e => e) (fun _ _ e => e)⟩
end Go.Proofs.YtdlhbmncbmconaaGreatDoor

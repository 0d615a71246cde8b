/- Contract: Open of any log. -/
import Derived.Test.YtdlhbmncbmconaaGreatDoorBo
import Derived.Test.YtdlhbmncbmconaaGreatDoorBp
namespace Go.Hm
theorem flatR_long : ∀ rs : List Rec, 5 * rs.length ≤ (flatR rs).length
  | [] => by simp
  | r :: rs => by
    have := flatR_long rs
    rw [flatR_cons, List.length_append, recB_length, List.length_cons]
    omega
theorem flatR_short : ∀ rs : List Rec, SmallR rs → (flatR rs).length ≤ 65541 * rs.length
  | [], _ => by simp [flatR_nil]
  | r :: rs, h => by
    have := flatR_short rs (fun q hq => h q (by simp [hq]))
    have := h r (by simp)
    rw [flatR_cons, List.length_append, recB_length, List.length_cons]
    omega
end Go.Hm
namespace Go.Proofs.YtdlhbmncbmconaaGreatDoor
open Go.RowKit Go.Shelf Go.Sort
attribute [local go_sem] Oper.semAt_some
def OpenI (w : World) (p room : Nat) (pre : List RecS) (W : World) : Prop :=
  ∃ g rv wv, Hm.goes (Hm.Lg.fresh room) (pre.map (·.1)) = some g ∧ Hm.Fine g room (pre.map (·.1)) ∧ LogIn W p g rv wv ∧ (∀ k, rv.ownBlock = some k → p ≤ k) ∧ (∀ k, wv.ownBlock = some k → p ≤ k) ∧ W.heap[p + 1]? = some (.cells #[.pointer (some ⟨p, 0, none⟩)] 63 (0, 0)) ∧ Below p w W
def OpenX (w : World) (p room : Nat) (c : Code) (pre : List RecS) (W : World) : Prop :=
  c = .exit 0 ∧ ∃ g rv wv pre' x, pre = pre' ++ [x] ∧ Hm.goes (Hm.Lg.fresh room) (pre'.map (·.1)) = some g ∧ ¬ (g.back x.1).2 = true ∧ LogIn W p g rv wv ∧ W.heap[p + 1]? = some (.cells #[.pointer (some ⟨p, 0, none⟩)] 63 (0, 0)) ∧ Below p w W
theorem kept_row {W W' : World} {row : Option Nat} (h : W.grownBy W' row) : Hw.Kept (fun k => some k = row) W W' := Hw.Kept.of_grown h
theorem LogIn.grown {W W' : World} {p : Nat} {g : Hm.Lg} {rv wv : Value} {row : Option Nat} (h : LogIn W p g rv wv) (hg : W.grownBy W' row) (hr : ∀ r, row = some r → ∃ o : Obj, W.heap[r]? = some o ∧ o.isCells = false) : LogIn W' p g rv wv := by
  have no : ∀ k cs t fr, W.heap[k]? = some (.cells cs t fr) → ¬ some k = row := fun k cs t fr hk e => by
    obtain ⟨o, ho, hc⟩ := hr k e.symm
    rw [hk] at ho
    cases ho
    cases hc
  refine h.keep (kept_row hg) (no _ _ _ _ h.row) (fun k e => ?_) (fun k e => ?_)
  · obtain ⟨cur, hc⟩ := Hw.ownsRow_cells h.recs e
    exact no _ _ _ _ hc
  · obtain ⟨_, cur, hc⟩ := Hw.ownsFrom_cells h.wai e
    exact no _ _ _ _ hc
theorem row_kept {W W' : World} {row : Option Nat} {k : Nat} {cs : Array Value} {t : TypeId} {fr : Nat × Nat} (h : W.heap[k]? = some (.cells cs t fr)) (hg : W.grownBy W' row) (hr : ∀ r, row = some r → ∃ o : Obj, W.heap[r]? = some o ∧ o.isCells = false) : W'.heap[k]? = some (.cells cs t fr) :=
  (hg.block k (Array.getElem?_eq_some_iff.1 h).1 (fun e => by
    obtain ⟨o, ho, hc⟩ := hr k e.symm
    rw [h] at ho
    cases ho
    cases hc)).trans h
theorem subs : ∀ {l : List Hm.Rec}, (∀ r ∈ l, r.2.length < 65536) → ∃ xs : List RecS, xs.map (·.1) = l
  | [], _ => ⟨[], rfl⟩
  | r :: l, h => by
    obtain ⟨xs, e⟩ := subs (l := l) (fun q hq => h q (by simp [hq]))
    exact ⟨⟨r, h r (by simp)⟩ :: xs, by rw [List.map_cons, e]⟩
theorem StepL.var {p : Nat} {rv wv rv' wv' : Value} {g : Hm.Lg} {W W' : World} {k : Nat} {cs : Array Value} (h : LogIn W p g rv wv) (hs : StepL p rv wv W rv' wv' W') (hk : W.heap[k]? = some (.cells cs 63 (0, 0))) : W'.heap[k]? = some (.cells cs 63 (0, 0)) :=
  (hs.kept.block k (Array.getElem?_eq_some_iff.1 hk).1 (fun e => by
    rcases e with e | e | e
    · exact ne_types hk h.row (by decide) e
    · obtain ⟨cur, hc⟩ := Hw.ownsRow_cells h.recs e
      exact ne_types hk hc (by decide) rfl
    · obtain ⟨_, cur, hc⟩ := Hw.ownsFrom_cells h.wai e
      exact ne_types hk hc (by decide) rfl)).trans hk
theorem below_grown {w W W' : World} {p : Nat} {row : Option Nat} (h : Below p w W) (hg : W.grownBy W' row) (hr : ∀ r, row = some r → p ≤ r) (hp : p ≤ W.heap.size) : Below p w W' :=
  h.trans ((kept_row hg).below (fun k _ e => hr k e.symm) hp)
theorem own_OpenI (w : World) (p room B : Nat) (hB : p ≤ B) : OwnFrom B (OpenI w p room) := fun _ _ _ _ ⟨g, rv, wv, h1, h2, h3, h4, h5, h6, h7⟩ hg hr =>
  ⟨g, rv, wv, h1, h2, h3.grown hg (fun r e => (hr r e).2), h4, h5, row_kept h6 hg (fun r e => (hr r e).2), below_grown h7 hg (fun r e => Nat.le_trans hB (hr r e).1) (Nat.le_of_lt (Array.getElem?_eq_some_iff.1 h3.row).1)⟩
theorem own_OpenX (w : World) (p room B : Nat) (hB : p ≤ B) (c : Code) : OwnFrom B (OpenX w p room c) := fun _ _ _ _ ⟨hc, g, rv, wv, pre', x, h0, h1, h2, h3, h6, h7⟩ hg hr =>
  ⟨hc, g, rv, wv, pre', x, h0, h1, h2, h3.grown hg (fun r e => (hr r e).2), row_kept h6 hg (fun r e => (hr r e).2), below_grown h7 hg (fun r e => Nat.le_trans hB (hr r e).1) (Nat.le_of_lt (Array.getElem?_eq_some_iff.1 h3.row).1)⟩
theorem grown_of_below {A B : World} (h : Below A.heap.size A B) : A.grownBy B none := ⟨h.os, h.tape, h.output, h.size, fun k hk _ => h.block k hk⟩
theorem StepL.keeps {p : Nat} {rv wv rv' wv' : Value} {g : Hm.Lg} {W W' : World} (h : LogIn W p g rv wv) (hs : StepL p rv wv W rv' wv' W') (B : Nat) : KeepsFrom B W W' :=
  ⟨hs.kept.size, fun k o _ hk ho => (hs.kept.block k (Array.getElem?_eq_some_iff.1 hk).1 (fun e => by
    rcases e with rfl | e | e
    · rw [h.row] at hk; cases hk; cases ho
    · obtain ⟨cur, hc⟩ := Hw.ownsRow_cells h.recs e
      rw [hc] at hk; cases hk; cases ho
    · obtain ⟨_, cur, hc⟩ := Hw.ownsFrom_cells h.wai e
      rw [hc] at hk; cases hk; cases ho)).trans hk⟩
theorem OpenI.step {w W W' : World} {p room : Nat} {pre : List RecS} {x : RecS} {g : Hm.Lg} {rv wv rv' wv' : Value} (h1 : Hm.goes (Hm.Lg.fresh room) (pre.map (·.1)) = some g) (h2 : Hm.Fine g room (pre.map (·.1))) (h3 : LogIn W p g rv wv) (h4 : ∀ k, rv.ownBlock = some k → p ≤ k) (h5 : ∀ k, wv.ownBlock = some k → p ≤ k)
    (h7 : Below p w W) (hb : (g.back x.1).2 = true) (hl : LogIn W' p (g.back x.1).1 rv' wv') (hs : StepL p rv wv W rv' wv' W') (h8 : W'.heap[p + 1]? = some (.cells #[.pointer (some ⟨p, 0, none⟩)] 63 (0, 0))) : OpenI w p room (pre ++ [x]) W' := by
  have hp : p < W.heap.size := (Array.getElem?_eq_some_iff.1 h3.row).1
  refine ⟨(g.back x.1).1, rv', wv', ?_, ?_, hl, ?_, ?_, h8, ?_⟩
  · rw [List.map_append, List.map_cons, List.map_nil, Hm.goes_snoc _ _ _ x.1 h1, if_pos hb]
  · rw [List.map_append, List.map_cons, List.map_nil]
    exact Hm.fine_back h2 hb x.2
  · intro k e
    rcases hs.lr k e with e | e
    · exact h4 k e
    · omega
  · intro k e
    rcases hs.lw k e with e | e
    · exact h5 k e
    · omega
  · exact h7.trans (hs.kept.below (fun k _ e => by
      rcases e with rfl | e | e
      · exact Nat.le_refl _
      · exact h4 k e
      · exact h5 k e) (by omega))
def tmpsO (s : ByteArray) (room p B : Nat) (x : RecS) : Array Value := #[.string s, .int .i64 room, undef, undef, .pointer none, .int .i64 0, .pointer (some ⟨p + 1, 0, none⟩), .pointer (some ⟨B, 0, none⟩), .int .i64 room, .bool false, .bool false, .int .i64 room, .bool false, .bool false, .int .i64 room,
  .agg #[.int .i64 room, .slice none 0 0, .int .i64 0, .slice none 0 0], .pointer (some ⟨p, 0, none⟩), .string s, .func (.func 98) #[] #[.pointer (some ⟨p + 1 + 1, 0, none⟩)], .agg #[.int .u8 x.1.1.toNat, .string ⟨x.1.2.toArray⟩], undef, undef, undef, undef, undef]
def OpenA (s : ByteArray) (room p : Nat) (x : RecS) (a' : Act) (W : World) : Prop := ∃ B, a' = { tmps := tmpsO s room p B x, defers := [] } ∧ W.heap[B]? = some (.cells #[.int .u8 x.1.1.toNat, .string ⟨x.1.2.toArray⟩] 121 (0, 0))
theorem own_OpenA (s : ByteArray) (room p : Nat) (x : RecS) (a' : Act) (B : Nat) : OwnFrom B (fun (_ : Unit) W => OpenA s room p x a' W) := fun _ _ _ _ ⟨b, h1, h2⟩ hg hr =>
  ⟨b, h1, (hg.block b (Array.getElem?_eq_some_iff.1 h2).1 (fun e => by
    obtain ⟨_, o, ho, hc⟩ := hr b e.symm
    rw [h2] at ho
    cases ho
    cases hc)).trans h2⟩
set_option maxRecDepth 100000 in
set_option maxHeartbeats 2000000 in
theorem open_log (s : ByteArray) (hs : s.size ≤ 40000) (room : Nat) (h1 : 1 ≤ room) (h2 : room ≤ 8) (w : World) (hT : Tabs w) :
    CallsIn Fence.wide 4 Tryz.prog 34 #[.string s, .int .i64 room] w fun e w' => ∃ p rv wv, e = .returned (.tuple #[.pointer (some ⟨p, 0, none⟩), .int .i64 0]) ∧ w.heap.size ≤ p ∧ LogIn w' p (Hm.opens s.data.toList room) rv wv ∧ Below w.heap.size w w' := by
  have hw : 11 ≤ w.heap.size := hT.size
  have i1 : ¬ (room : Int) < 1 := by omega
  have i2 : ¬ 8 < (room : Int) := by omega
  refine callsIn_of_wp_marks Tryz.func34 rfl trivial ?_ rfl
  simp only [Tryz.ntmps34, List.size_toArray, List.length_cons, List.length_nil, Nat.reduceAdd, Nat.reduceSub, Array.replicate_succ, Array.replicate_zero, List.push_toArray, List.append_toArray, List.nil_append, List.cons_append]
  gi_wp2_with fail
  refine ⟨trivial, ?_⟩
  refine (callsIn_wide.2 (recordsIn_any _ _)).mono ?_
  rintro e w' ⟨rfl, rfl⟩
  gi_wp2_with fail
  obtain ⟨W0, hW0⟩ : ∃ W0, (((w.alloc (.cells #[.int .i64 room, .slice none 0 0, .int .i64 0, .slice none 0 0] 116)).alloc (.cells #[.pointer (some ⟨w.heap.size, 0, none⟩)] 63)).alloc (.cells #[.string s] 9)) = W0 := ⟨_, rfl⟩
  have hz : W0.heap.size = w.heap.size + 3 := by subst hW0; simp
  have hB0 : Below w.heap.size w W0 := by
    rw [← hW0]
    exact (((Below.refl _ w).alloc (Nat.le_refl _) _).alloc (by simp) _).alloc (by simp; omega) _
  have r0 : W0.heap[w.heap.size]? = some (.cells #[.int .i64 room, .slice none 0 0, .int .i64 0, .slice none 0 0] 116 (0, 0)) := by
    rw [← hW0]
    exact (heap_alloc_old _ _ (by simp; omega)).trans ((heap_alloc_old _ _ (by simp)).trans (heap_alloc_new _ _))
  have r1 : W0.heap[w.heap.size + 1]? = some (.cells #[.pointer (some ⟨w.heap.size, 0, none⟩)] 63 (0, 0)) := by
    rw [← hW0]
    refine (heap_alloc_old _ _ (by simp)).trans ?_
    have := heap_alloc_new (w.alloc (.cells #[.int .i64 room, .slice none 0 0, .int .i64 0, .slice none 0 0] 116)) (.cells #[.pointer (some ⟨w.heap.size, 0, none⟩)] 63)
    rwa [World.size_alloc] at this
  have r2 : W0.cell? ⟨w.heap.size + 1 + 1, 0, none⟩ = some (.string s) := by subst hW0; go_simp
  rw [hW0]
  clear hW0
  have hsm := (Hm.recs_text (s.data.toList.length + 1) s.data.toList).1
  have htx := (Hm.recs_text (s.data.toList.length + 1) s.data.toList).2
  have hst : (Hm.flatR (Hm.recs s.data.toList)).length ≤ 40000 := by
    obtain ⟨t, ht⟩ := htx
    have := congrArg List.length ht
    rw [List.length_append] at this
    have e : s.data.toList.length = s.size := by rw [Hm.len]
    unfold Hm.recs
    omega
  obtain ⟨xs, hxs⟩ : ∃ xs : List RecS, xs.map (·.1) = Hm.recs s.data.toList := subs hsm
  have hop : Hm.opens s.data.toList room = (Hm.Lg.fresh room).backs (xs.map (·.1)) := by rw [hxs]; rfl
  rw [← hxs] at hst
  have hseq : SeqStopsK Fence.wide (4 - 1) Tryz.prog 98 #[.pointer (some ⟨w.heap.size + 1 + 1, 0, none⟩)] encRec TrueK (fun ys => ys = xs) (fun pre => pre <+: xs) xs.length W0 := fun l J Jx W hW hJ _ hY h0 =>
    records1_in (4 - 1) (by omega) l (w.heap.size + 1 + 1) s (by omega) xs hxs J Jx (fun pre A B hj hb => hJ pre A B none hj (grown_of_below hb) (fun r e => by cases e)) hY W ((hW.cell (p := ⟨w.heap.size + 1 + 1, 0, none⟩) (by show w.heap.size + 1 + 1 < _; omega)).trans r2) h0
  refine wpIn_rangeFunc_ownH rfl (by omega) (gf := 98) (lb := #[.pointer (some ⟨w.heap.size + 1 + 1, 0, none⟩)]) rfl trivial (enters_of Tryz.func98 (by kernel_rfl) rfl) hseq (fun _ _ => trivial) (fun _ _ _ _ _ _ _ _ => trivial) (Below.refl _ _) (fun _ => rfl)
    (OpenI w w.heap.size room) (OpenX w w.heap.size room) (own_OpenI w _ room _ (by omega)) (fun c => own_OpenX w _ room _ (by omega) c) ?start (OpenA s room w.heap.size) (fun x a' => own_OpenA s room _ x a' _) ?assign ?body ?done ?stop
  case start =>
    exact ⟨Hm.Lg.fresh room, .slice none 0 0, .slice none 0 0, rfl, Hm.fine_fresh room, ⟨r0, World.ownsRow_nil _ _ _ _, Hw.ownsFrom_nil _ _ _, hw⟩, (fun k e => by cases e), (fun k e => by cases e), r1, hB0⟩
  case assign =>
    intro l pre x W K hI hK
    unfold encRec
    gi_wp2
    exact hK _ _ ⟨by simp, fun k o _ hk _ => (heap_alloc_old _ _ (Array.getElem?_eq_some_iff.1 hk).1).trans hk⟩ trivial (own_OpenI w _ room w.heap.size (Nat.le_refl _) pre W _ none hI (grown_of_below ((Below.refl _ _).alloc (Nat.le_refl _) _)) (fun r e => by cases e)) ⟨W.heap.size, rfl, heap_alloc_new _ _⟩
  case body =>
    intro l pre x a' W hl hL hI hA hlt
    obtain ⟨g, rv, wv, g1, g2, g3, g4, g5, g6, g7⟩ := hI
    obtain ⟨B, rfl, hrow⟩ := hA
    unfold tmpsO
    have k6 : W.cell? ⟨w.heap.size + 1, 0, none⟩ = some (.pointer (some ⟨w.heap.size, 0, none⟩)) := by simp [World.cell?, g6]
    have k0 : W.cell? ⟨B, 0, none⟩ = some (.int .u8 x.1.1.toNat) := by simp [World.cell?, hrow]
    have k1 : W.cell? ⟨B, 1, none⟩ = some (.string ⟨x.1.2.toArray⟩) := by simp [World.cell?, hrow]
    have hpl : pre.length ≤ 8000 := by
      have := Hm.flatR_long (xs.map (·.1))
      rw [List.length_map] at this
      omega
    have hrl : g.records.length ≤ 800000000 := by
      rw [g2.text]
      have := Hm.flatR_short (pre.map (·.1)) (fun q hq => by
        obtain ⟨y, _, rfl⟩ := List.mem_map.1 hq
        exact y.2)
      rw [List.length_map] at this
      omega
    have hgf : LgFine g := by
      have h8 := g2.most
      have h9 := g2.room
      unfold Hm.Lg.messages at h8
      exact ⟨hrl, by omega, by omega, by omega⟩
    have TB := takeBack_in w.heap.size g rv wv W (hT.next g7) g3 hgf x.1.1 x.1.2 (by have := x.2; omega)
    have HTB : Hid (Calls Tryz.prog 63 #[.pointer (some ⟨w.heap.size, 0, none⟩), .agg #[.int .u8 x.1.1.toNat, .string ⟨x.1.2.toArray⟩]] W fun e w' => e = .returned (.bool (g.back x.1).2) ∧ ∃ rv' wv', LogIn w' w.heap.size (g.back x.1).1 rv' wv' ∧ StepL w.heap.size rv wv W rv' wv' w') := TB
    clear TB hrl hpl hgf
    by_cases hb : (g.back x.1).2 = true
    · rw [hb] at HTB
      gi_wp2_with fail
      refine ⟨trivial, ?_⟩
      refine CallsIn.mono (show CallsIn (Fence.wide.inRound l) 1 _ _ _ _ _ from callsIn_wide.2 HTB.out) ?_
      rintro e W3 ⟨rfl, rv3, wv3, hl3, hs3⟩
      gi_wp2
      exact ⟨StepL.keeps g3 hs3 _, trivial, OpenI.step g1 g2 g3 g4 g5 g7 hb hl3 hs3 (StepL.var g3 hs3 g6)⟩
    · have hb' : (g.back x.1).2 = false := by simpa using hb
      rw [hb'] at HTB
      gi_wp2_with fail
      refine ⟨trivial, ?_⟩
      refine CallsIn.mono (show CallsIn (Fence.wide.inRound l) 1 _ _ _ _ _ from callsIn_wide.2 HTB.out) ?_
      rintro e W3 ⟨rfl, rv3, wv3, hl3, hs3⟩
      gi_wp2
      rw [Hm.back_no hb] at hl3
      refine ⟨StepL.keeps g3 hs3 _, rfl, g, rv3, wv3, pre, x, rfl, g1, hb, hl3, StepL.var g3 hs3 g6, ?_⟩
      have hp : w.heap.size < W.heap.size := (Array.getElem?_eq_some_iff.1 g3.row).1
      exact g7.trans (hs3.kept.below (fun k _ e => by
        rcases e with rfl | e | e
        · exact Nat.le_refl _
        · exact g4 k e
        · exact g5 k e) (by omega))
  case done =>
    rintro D ys W hD rfl ⟨g, rv, wv, g1, g2, g3, g4, g5, g6, g7⟩ hK
    have hg : Hm.opens s.data.toList room = g := by
      have := Hm.goes_backs _ _ _ [] g1
      rw [List.append_nil] at this
      rw [hop, this]
      rfl
    have HGE : Hid (Hm.opens s.data.toList room = g) := hg
    have k1 : W.cell? ⟨w.heap.size + 1, 0, none⟩ = some (.pointer (some ⟨w.heap.size, 0, none⟩)) := by simp [World.cell?, g6]
    clear hg hop hst hseq
    gi_wp2
    have hk1 : Hw.Kept (fun k => k = D) W (W.putObj D (.deferred none)) := kept_putObj _
    have hDn : ∀ k cs t fr, W.heap[k]? = some (.cells cs t fr) → ¬ k = D := fun k cs t fr hk e => by
      rw [e, hK] at hk
      cases hk
    have hb2 : Below w.heap.size w (W.putObj D (.deferred none)) := g7.trans (hk1.below (fun k _ e => by omega) (Nat.le_of_lt (Array.getElem?_eq_some_iff.1 g3.row).1))
    refine ⟨by simp, .inl ⟨_, _, rfl, run_takeDeferred hK, ?_⟩⟩
    refine ⟨.tuple #[.pointer (some ⟨w.heap.size, 0, none⟩), .int .i64 0], by simp [results, Tryz.results34, go_sem], ?_⟩
    exact ⟨w.heap.size, rv, wv, rfl, Nat.le_refl _, (by rw [HGE.out]; exact g3.keep hk1 (hDn _ _ _ _ g3.row) (fun k e => by obtain ⟨cur, hc⟩ := Hw.ownsRow_cells g3.recs e; exact hDn _ _ _ _ hc) (fun k e => by obtain ⟨_, cur, hc⟩ := Hw.ownsFrom_cells g3.wai e; exact hDn _ _ _ _ hc)), hb2⟩
  case stop =>
    rintro D c pre W hD ⟨more, hpre⟩ ⟨rfl, g, rv, wv, pre', x, rfl, g1, g2, g3, g6, g7⟩ hK
    have hg : Hm.opens s.data.toList room = g := by
      have := Hm.goes_backs _ _ _ (x.1 :: more.map (·.1)) g1
      rw [hop, ← hpre, List.map_append, List.map_append, List.append_assoc]
      refine this.trans ?_
      unfold Hm.Lg.backs
      rw [if_neg g2]
    have HGE : Hid (Hm.opens s.data.toList room = g) := hg
    have k1 : W.cell? ⟨w.heap.size + 1, 0, none⟩ = some (.pointer (some ⟨w.heap.size, 0, none⟩)) := by simp [World.cell?, g6]
    clear hg hop hst hseq
    gi_wp2
    have hk1 : Hw.Kept (fun k => k = D) W (W.putObj D (.deferred none)) := kept_putObj _
    have hDn : ∀ k cs t fr, W.heap[k]? = some (.cells cs t fr) → ¬ k = D := fun k cs t fr hk e => by
      rw [e, hK] at hk
      cases hk
    have hb2 : Below w.heap.size w (W.putObj D (.deferred none)) := g7.trans (hk1.below (fun k _ e => by omega) (Nat.le_of_lt (Array.getElem?_eq_some_iff.1 g3.row).1))
    refine ⟨by simp, .inl ⟨_, _, rfl, run_takeDeferred hK, ?_⟩⟩
    refine ⟨.tuple #[.pointer (some ⟨w.heap.size, 0, none⟩), .int .i64 0], by simp [results, Tryz.results34, go_sem], ?_⟩
    exact ⟨w.heap.size, rv, wv, rfl, Nat.le_refl _, (by rw [HGE.out]; exact g3.keep hk1 (hDn _ _ _ _ g3.row) (fun k e => by obtain ⟨cur, hc⟩ := Hw.ownsRow_cells g3.recs e; exact hDn _ _ _ _ hc) (fun k e => by obtain ⟨_, cur, hc⟩ := Hw.ownsFrom_cells g3.wai e; exact hDn _ _ _ _ hc)), hb2⟩
theorem Open_any (s : ByteArray) (hs : s.size ≤ 40000) (room : Nat) (h1 : 1 ≤ room) (h2 : room ≤ 8) (w : World) (hT : Tabs w) :
    Calls Tryz.prog 34 #[.string s, .int .i64 room] w fun e w' => ∃ p rv wv, e = .returned (.tuple #[.pointer (some ⟨p, 0, none⟩), .int .i64 0]) ∧ w.heap.size ≤ p ∧ LogIn w' p (Hm.opens s.data.toList room) rv wv ∧ Below w.heap.size w w' := callsIn_wide.1 (open_log s hs room h1 h2 w hT)
end Go.Proofs.YtdlhbmncbmconaaGreatDoor

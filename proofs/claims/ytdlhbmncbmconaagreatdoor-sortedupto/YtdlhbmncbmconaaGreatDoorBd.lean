/- Contracts: plain texts, elements gone through. -/
import Derived.Test.YtdlhbmncbmconaaGreatDoorBc
import Derived.Test.YtdlhbmncbmconaaGreatDoorMa
import Derived.RangeFuncNested
import Derived.RangeFuncBound
import Derived.RangeFuncCalls
import Derived.RangeFuncLeaves
import Derived.RangeFuncWrites
import Derived.Shelf.Abstract
import Derived.Shelf.RegionOpen
import Derived.OwnWalkIn
import Derived.TacticsInMore
import Derived.LoopNIn
import Derived.LoopIn
import Derived.Maps.OwnIn
namespace Go.Proofs.YtdlhbmncbmconaaGreatDoor
open Go.RowKit Go.Sort
attribute [local go_sem] alloc_drewN setCell_drewN
theorem validString_any (s : ByteArray) (w : World) (hs : s.size ≤ 9223372036854775807) (hT : Tabs w) :
    Calls Tryz.prog 90 #[.string s] w fun e w' => e = .returned (.bool (Lib.validD s.data.toList)) ∧ Below w.heap.size w w' :=
  Any.utf8_ValidString Tryz.lays196 s w hs hT.u8
theorem low_true {c : UInt8} (h : Hm.low c = true) : c.toNat < 32 ∨ c.toNat = 127 := by
  simpa [Hm.low] using h
theorem low_false {c : UInt8} (h : Hm.low c = false) : ¬ c.toNat < 32 ∧ ¬ c.toNat = 127 := by
  simp only [Hm.low, Bool.or_eq_false_iff, decide_eq_false_iff_not, beq_eq_false_iff_ne] at h
  exact h
theorem isPlain_any (s : ByteArray) (w : World) (hT : Tabs w) (hs : s.size ≤ 9223372036854775800) :
    Calls Tryz.prog 55 #[.string s] w fun e w' => e = .returned (.bool (Hm.plain s.data.toList)) ∧ Below w.heap.size w w' := by
  have HV : Hid (Calls Tryz.prog 90 #[.string s] w fun e w' => e = .returned (.bool (Lib.validD s.data.toList)) ∧ Below w.heap.size w w') := validString_any s w (by omega) hT
  clear hT
  go_enter Tryz.func55, Tryz.ntmps55
  go_wp2
  go_loop [3, 6] (fun _ i => ∃ k : Nat, k ≤ s.size ∧ i = .int .i64 k ∧ ∀ c ∈ s.data.toList.take k, Hm.low c = false) (fun _ i => s.size - (intOf i).toNat)
  case atStart => exact ⟨0, Nat.zero_le _, rfl, by simp⟩
  case round =>
    obtain ⟨k, hk, rfl, hall⟩ := hrel
    have HA : Hid (∀ c ∈ s.data.toList.take k, Hm.low c = false) := hall
    clear hall
    by_cases hlt : k < s.size
    · cases hl : Hm.low s[k]
      · obtain ⟨l1, l2⟩ := low_false hl
        have b1 : ((s[k].toNat : Int) == 127) = false := beq_eq_false_iff_ne.2 (by omega)
        have b2 : ¬ (s[k].toNat : Int) < 32 := by omega
        have HN : Hid (∀ c ∈ s.data.toList.take (k + 1), Hm.low c = false) := by
          show ∀ c ∈ _, _
          rw [Hm.take_snoc s k hlt]
          intro c hc
          rcases List.mem_append.1 hc with h | h
          · exact HA.out c h
          · rw [List.mem_singleton.1 h]; exact hl
        clear l1 l2 hl
        go_wp2
        go_round
        case rel => exact ⟨k + 1, by omega, by go_num, HN.out⟩
        case measure => simp [intOf]; omega
      · have HF : Hid (Hm.plain s.data.toList = false) := by
          show _ = _
          unfold Hm.plain
          rw [Bool.and_eq_false_iff]
          left
          rw [List.all_eq_false]
          exact ⟨s[k], by rw [show s[k] = s.data.toList[k]'(by rw [Hm.len]; exact hlt) from rfl]; exact List.getElem_mem _, by simp [hl]⟩
        by_cases h32 : (s[k].toNat : Int) < 32
        · clear hl
          go_wp2
          go_ret
          exact ⟨by rw [HF.out]; rfl, Below.refl _ _⟩
        · have h127 : s[k].toNat = 127 := by rcases low_true hl with h | h; omega; exact h
          have b1 : ((s[k].toNat : Int) == 127) = true := beq_iff_eq.2 (by omega)
          clear hl h127
          go_wp2
          go_ret
          exact ⟨by rw [HF.out]; rfl, Below.refl _ _⟩
    · have HF : Hid (Hm.plain s.data.toList = Lib.validD s.data.toList) := by
        show _ = _
        unfold Hm.plain
        have : (s.data.toList.all fun c => !Hm.low c) = true := by
          rw [List.all_eq_true]
          intro c hc
          have := HA.out c (by rw [List.take_of_length_le (by rw [Hm.len]; omega)]; exact hc)
          simp [this]
        rw [this, Bool.true_and]
      go_wp2_with fail
      refine HV.out.mono ?_
      rintro e w1 ⟨rfl, hb⟩
      go_wp2
      go_ret
      exact ⟨by rw [HF.out]; rfl, hb⟩
end Go.Proofs.YtdlhbmncbmconaaGreatDoor
namespace Go.Proofs.YtdlhbmncbmconaaGreatDoor
open Go.RowKit Go.Shelf Go.Hm
attribute [local go_sem] Oper.semAt_some
def KeepT (Bt : Nat) (A B : World) : Prop := B.cell? ⟨Bt, 0, none⟩ = A.cell? ⟨Bt, 0, none⟩
theorem keepT_t {Bt : Nat} {A B C : World} (h : KeepT Bt A B) (k : KeepT Bt B C) : KeepT Bt A C := Eq.trans k h
theorem keepT_b {Bt : Nat} {w : World} (hlt : Bt < w.heap.size) (W : World) (l : Nat) (o o' : Obj) (hl : w.heap.size ≤ l) (_ : W.heap[l]? = some o) (_ : o.isCells = false) (_ : o.isWalk = false) : KeepT Bt W (W.putObj l o') :=
  World.cell?_of_block (w := W) (World.putObj_heap_other (k := Bt) (by omega))
def encEl (x : El) : Array Value := #[.string ⟨x.1.1.toArray⟩, .int .i64 x.1.2]
set_option maxRecDepth 100000 in
set_option maxHeartbeats 1000000 in
theorem elements1_in (n : Nat) (hn : 2 ≤ n) (l Bt : Nat) (s : ByteArray) (hs : s.size ≤ 9000000000) (xs : List El) (hxs : xs.map (·.1) = elems (s.size + 1) s.data.toList 0) (J Jx : List El → World → Prop)
    (hY : ∀ pre x W, J pre W → pre.length < xs.length → YieldAt Fence.wide (n - 1) Tryz.prog l (encEl x) W fun e W' =>
      (e = .returned (.bool true) ∧ J (pre ++ [x]) W' ∧ KeepT Bt W W') ∨ (e = .returned (.bool false) ∧ Jx (pre ++ [x]) W'))
    (W : World) (hBt : W.cell? ⟨Bt, 0, none⟩ = some (.string s)) (h0 : J [] W) :
    CallsIn Fence.wide n Tryz.prog 199 #[.func (.yield l) #[] #[], .pointer (some ⟨Bt, 0, none⟩)] W fun e W' => (∃ v, e = .returned v) ∧
      ((∃ ys, ys = xs ∧ J ys W') ∨ (∃ pre, pre <+: xs ∧ Jx pre W')) := by
  refine callsIn_of_wp Tryz.func199 rfl trivial ?_ rfl
  simp only [Tryz.ntmps199, List.size_toArray, List.length_cons, List.length_nil, Nat.reduceAdd, Nat.reduceSub, Array.replicate_succ, Array.replicate_zero, List.push_toArray, List.append_toArray, List.nil_append, List.cons_append]
  gi_wp2
  gi_loopw [3, 4, 5] (fun p _ _ wr => ∃ (pre rest : List El) (e : Nat), p = .int .i64 e ∧ e ≤ s.size ∧ xs = pre ++ rest ∧ rest.map (·.1) = elems (s.size + 1) s.data.toList e ∧ wr.cell? ⟨Bt, 0, none⟩ = some (.string s) ∧ J pre wr)
    (fun p _ _ _ => s.size - (intOf p).toNat)
  case atStart => exact ⟨[], xs, 0, rfl, Nat.zero_le _, rfl, hxs, hBt, h0⟩
  case round =>
    obtain ⟨pre, rest, e, rfl, he, hx, hr, hc, hJs⟩ := hrel
    have hel := element_le (s.data.toList.drop e)
    rw [List.length_drop, Hm.len] at hel
    obtain ⟨nm, k, hnk⟩ : ∃ nm k, element (s.data.toList.drop e) = (nm, k) := ⟨_, _, rfl⟩
    rw [hnk] at hel
    dsimp only at hel
    have HC : Hid (∀ w, Calls Tryz.prog 200 #[.string (s.extract e s.size)] w fun x w' => x = .returned (.tuple #[.string ⟨nm.toArray⟩, .int .i64 k]) ∧ w' = w) := fun w => by
      have := elementAhead_any (s.extract e s.size) w (by simp; omega)
      rwa [Hm.drop_ex, hnk] at this
    have HX : Hid (xs = pre ++ rest) := hx
    by_cases hk : k = 0
    · have hrest : rest = [] := by
        rw [elems_end (by rw [Hm.len]; omega) (by rw [Hm.len]; omega) (by rw [hnk]; exact hk)] at hr
        exact List.map_eq_nil_iff.1 hr
      subst hrest
      subst hk
      clear hr hnk hx
      gi_wp2_with fail
      refine ⟨trivial, fun _ => by omega, ?_⟩
      refine (callsIn_wide.2 (HC.out _)).mono ?_
      rintro x w' ⟨rfl, rfl⟩
      gi_wp2
      refine ⟨fun _ h => (by cases h), ?_⟩
      gi_wp2
      refine bodyPost_ret (results_none rfl _ _ _) rfl ?_
      exact ⟨⟨_, rfl⟩, .inl ⟨pre, by rw [HX.out, List.append_nil], hJs⟩⟩
    · have b0 : ((k : Int) == 0) = false := beq_eq_false_iff_ne.2 (by omega)
      have hkp : 0 < k := by omega
      rw [elems_step (by rw [Hm.len]; omega) (by rw [Hm.len]; omega) (by rw [hnk]; exact hk), hnk] at hr
      dsimp only at hr
      cases rest with
      | nil => simp at hr
      | cons x rest =>
        rw [List.map_cons, List.cons.injEq] at hr
        obtain ⟨hx1, hr⟩ := hr
        have HR : Hid (rest.map (·.1) = elems (s.size + 1) s.data.toList (e + k)) := hr
        obtain ⟨fn, tmps, assign, body, hy, hR⟩ := hY pre x wr hJs (by rw [hx]; simp)
        unfold encEl at hy
        rw [hx1] at hy
        dsimp only at hy
        rw [Int.natCast_add] at hy
        clear hr hnk hx hx1 hk
        gi_wp2_with fail
        refine ⟨trivial, fun _ => by omega, ?_⟩
        refine (callsIn_wide.2 (HC.out _)).mono ?_
        rintro z w' ⟨rfl, rfl⟩
        gi_wp2
        refine ⟨fun _ => by omega, hR.mono ?_⟩
        rintro z W3 (⟨rfl, hJ3, hk3⟩ | ⟨rfl, hJx3⟩)
        · have hc3 : W3.cell? ⟨Bt, 0, none⟩ = some (.string s) := Eq.trans hk3 hc
          gi_wp2
          go_roundw
          case rel => exact ⟨pre ++ [x], rest, e + k, int_eq (by omega), by omega, by rw [HX.out]; simp, HR.out, hc3, hJ3⟩
          case measure => show s.size - ((e : Int) + (k : Int)).toNat < s.size - ((e : Int)).toNat; omega
        · gi_wp2
          refine bodyPost_ret (results_none rfl _ _ _) rfl ?_
          exact ⟨⟨_, rfl⟩, .inr ⟨pre ++ [x], ⟨rest, by rw [HX.out]; simp⟩, hJx3⟩⟩
theorem elements_in (s : ByteArray) (w : World) :
    Calls Tryz.prog 167 #[.string s] w fun e w' => e = .returned (.func (.func 199) #[] #[.pointer (some ⟨w.heap.size, 0, none⟩)]) ∧ w' = w.alloc (.cells #[.string s] 9) := by
  go_enter Tryz.func167, Tryz.ntmps167
  go_wp2
  go_ret
  exact ⟨rfl, rfl⟩
theorem elements_stops (n : Nat) (hn : 2 ≤ n) (Bt : Nat) (s : ByteArray) (hs : s.size ≤ 9000000000) (xs : List El) (hxs : xs.map (·.1) = elems (s.size + 1) s.data.toList 0) (w : World) (hBt : Bt < w.heap.size)
    (hc : w.cell? ⟨Bt, 0, none⟩ = some (.string s)) :
    SeqStopsK Fence.wide n Tryz.prog 199 #[.pointer (some ⟨Bt, 0, none⟩)] encEl (KeepT Bt) (fun ys => ys = xs) (fun pre => pre <+: xs) xs.length w := fun l J Jx W hW _ _ hY h0 =>
  elements1_in n hn l Bt s hs xs hxs J Jx hY W ((hW.cell (p := ⟨Bt, 0, none⟩) hBt).trans hc) h0
end Go.Proofs.YtdlhbmncbmconaaGreatDoor
namespace Go.Proofs.YtdlhbmncbmconaaGreatDoor
open Go.RowKit Go.Shelf Go.Hm
attribute [local go_sem] Oper.semAt_some
theorem size_map : (Tryz.prog.info? 230).map (·.size) = some 1 := by kernel_rfl
theorem has_put {H : Type} {D : DataW H} (hD : Maps.IsMap D) (nm nm' : List UInt8) (d : DataW H) :
    Maps.has (D.put (.string nm) d) (.string nm') = (decide (nm' = nm) || Maps.has D (.string nm')) := by
  by_cases h : nm' = nm
  · subst h
    rw [Maps.has_put_same hD (by trivial) d]
    simp
  · rw [Maps.has_put_other (by simpa using h) d]
    simp [h]
def DI (H : Type) (s : ByteArray) (w : World) (pre : List El) (W : World) : Prop :=
  W.cell? ⟨w.heap.size + 1 + 1 + 1 + 1, 0, none⟩ = some (.string s) ∧
  (W.cell? ⟨w.heap.size, 0, none⟩ = some (.int .i64 0) ∧ W.frozen? ⟨w.heap.size, 0, none⟩ = false) ∧
  (W.cell? ⟨w.heap.size + 1 + 1, 0, none⟩ = some (.map (some (w.heap.size + 1)))) ∧
  (W.cell? ⟨w.heap.size + 1 + 1 + 1, 0, none⟩ = some (.int .i64 (lastEnd (pre.map (·.1)))) ∧ W.frozen? ⟨w.heap.size + 1 + 1 + 1, 0, none⟩ = false) ∧
  ((pre.map (·.1.1)).Nodup ∧ ∃ D : DataW H, Maps.IsMap D ∧ (∀ nm, Maps.has D (.string nm) = decide (nm ∈ pre.map (·.1.1))) ∧ W.ownsMap Tryz.prog 9 (plainElem (H := H) Tryz.prog 3) (w.heap.size + 1) pre.length D)
def DX (w : World) (pre : List El) (W : World) : Prop :=
  W.cell? ⟨w.heap.size, 0, none⟩ = some (.int .i64 0) ∧ ¬ (pre.map (·.1.1)).Nodup
theorem own_DI (H : Type) (s : ByteArray) (w : World) (B : Nat) (hB : w.heap.size + 1 < B) : OwnFrom B (DI H s w) := fun _ _ _ _ ⟨t1, ⟨a1, a2⟩, b1, ⟨c1, c2⟩, d, D, e1, e2, e3⟩ hg hr =>
  ⟨cell_kept t1 hg (fun r e => (hr r e).2), ⟨cell_kept a1 hg (fun r e => (hr r e).2), (frozen_kept a1 hg (fun r e => (hr r e).2)).trans a2⟩, cell_kept b1 hg (fun r e => (hr r e).2), ⟨cell_kept c1 hg (fun r e => (hr r e).2), (frozen_kept c1 hg (fun r e => (hr r e).2)).trans c2⟩, d, D, e1, e2,
    e3.kept hg (fun e => by have := (hr _ e.symm).1; omega)⟩
theorem own_DX (w : World) (B : Nat) : OwnFrom B (DX w) := fun _ _ _ _ ⟨a1, d⟩ hg hr => ⟨cell_kept a1 hg (fun r e => (hr r e).2), d⟩
set_option maxRecDepth 100000 in
set_option maxHeartbeats 2000000 in
theorem dataAhead_in (s : ByteArray) (hs : s.size ≤ 9000000000) (w : World) (hT : Tabs w) (xs : List El) (hxs : xs.map (·.1) = elems (s.size + 1) s.data.toList 0) :
    CallsIn Fence.wide 4 Tryz.prog 125 #[.string s] w fun e W' => e = .returned (.int .i64 (dataOf s.data.toList (xs.map (·.1)))) ∧ Below w.heap.size w W' := by
  have hmm := @run_makeMap Tryz.prog
  have hxl : xs.length ≤ s.size := by
    have := elems_count (s.size + 1) s.data.toList 0 (Nat.zero_le _)
    rw [← hxs, List.length_map, Hm.len] at this
    omega
  refine callsIn_of_wp_marks Tryz.func125 rfl trivial ?_ rfl
  simp only [Tryz.ntmps125, List.size_toArray, List.length_cons, List.length_nil, Nat.reduceAdd, Nat.reduceSub, Array.replicate_succ, Array.replicate_zero, List.push_toArray, List.append_toArray, List.nil_append, List.cons_append]
  gi_wp2_with fail
  refine ⟨trivial, ?_⟩
  refine (callsIn_wide.2 (elements_in _ _)).mono ?_
  rintro e w' ⟨rfl, rfl⟩
  gi_wp2_with fail
  obtain ⟨W0, hW0⟩ : ∃ W0, (((((w.alloc (.cells #[.int .i64 0] 3)).alloc (.map #[] 0)).alloc (.cells #[.map (some (w.heap.size + 1))] 230)).alloc (.cells #[.int .i64 0] 3)).alloc (.cells #[.string s] 9)) = W0 := ⟨_, rfl⟩
  have hz : W0.heap.size = w.heap.size + 5 := by subst hW0; simp
  have c0 : W0.cell? ⟨w.heap.size, 0, none⟩ = some (.int .i64 0) := by subst hW0; go_simp
  have f0 : W0.frozen? ⟨w.heap.size, 0, none⟩ = false := by subst hW0; go_simp
  have c2 : W0.cell? ⟨w.heap.size + 1 + 1, 0, none⟩ = some (.map (some (w.heap.size + 1))) := by subst hW0; go_simp
  have c3 : W0.cell? ⟨w.heap.size + 1 + 1 + 1, 0, none⟩ = some (.int .i64 0) := by subst hW0; go_simp
  have f3 : W0.frozen? ⟨w.heap.size + 1 + 1 + 1, 0, none⟩ = false := by subst hW0; go_simp
  have c4 : W0.cell? ⟨w.heap.size + 1 + 1 + 1 + 1, 0, none⟩ = some (.string s) := by subst hW0; go_simp
  have m1 : W0.ownsMap Tryz.prog 9 (plainElem (H := Unit) Tryz.prog 3) (w.heap.size + 1) 0 (.map []) := by
    rw [← hW0]
    have := World.ownsMap_made (w.alloc (.cells #[.int .i64 0] 3)) Tryz.prog 9 (plainElem (H := Unit) Tryz.prog 3)
    rw [World.size_alloc] at this
    exact ((this.alloc _).alloc _).alloc _
  have hB0 : Below w.heap.size w W0 := by
    rw [← hW0]
    exact (((((Below.refl _ w).alloc (Nat.le_refl _) _).alloc (by simp) _).alloc (by simp; omega) _).alloc (by simp; omega) _).alloc (by simp; omega) _
  rw [hW0]
  clear hW0
  refine wpIn_rangeFunc_ownG rfl (by omega) (gf := 199) (lb := #[.pointer (some ⟨w.heap.size + 1 + 1 + 1 + 1, 0, none⟩)]) rfl trivial (enters_of Tryz.func199 (by kernel_rfl) rfl)
    (elements_stops (4 - 1) (by omega) (w.heap.size + 1 + 1 + 1 + 1) s hs xs hxs W0 (by omega) c4) keepT_t (keepT_b (by omega)) (Below.refl _ _) (fun _ => rfl)
    (fun pre W => DI Unit s w pre W ∧ Below w.heap.size w W) (fun c pre W => (c = .ret ∧ DX w pre W) ∧ Below w.heap.size w W)
    (OwnFrom.and (own_DI Unit s w _ (by omega)) (ownFrom_below (Nat.le_refl _) (by omega)))
    (fun c => OwnFrom.and (fun a b d e ⟨h1, h2⟩ hg hr => ⟨h1, own_DX w _ a b d e h2 hg hr⟩) (ownFrom_below (Nat.le_refl _) (by omega)))
    ⟨⟨c4, ⟨c0, f0⟩, c2, ⟨c3, f3⟩, by simp, .map [], ⟨_, rfl⟩, by intro nm; simp [Maps.has], m1⟩, hB0⟩
    (fun x => { tmps := #[.string s, undef, .pointer (some ⟨w.heap.size, 0, none⟩), .pointer (some ⟨w.heap.size + 1 + 1, 0, none⟩), .pointer (some ⟨w.heap.size + 1 + 1 + 1, 0, none⟩), .string ⟨x.1.1.toArray⟩, .int .i64 x.1.2, undef, undef, .map (some (w.heap.size + 1)), .string s, .func (.func 199) #[] #[.pointer (some ⟨w.heap.size + 1 + 1 + 1 + 1, 0, none⟩)], .string ⟨x.1.1.toArray⟩, .int .i64 x.1.2, undef, undef, undef, undef, undef, undef, undef, undef, undef, undef, undef, undef, undef, undef, undef, undef, undef], defers := [] }) ?assign ?body ?done ?stop
  case assign =>
    intro l x W K hK
    unfold encEl
    gi_wp2
    exact hK
  case body =>
    rintro l pre x W ⟨⟨t1, ⟨a1, a2⟩, b1, ⟨d1, d2⟩, hnd, D, hD1, hD2, hown⟩, hB⟩ hlt
    have hkey : keyOf Tryz.prog 9 (.string ⟨x.1.1.toArray⟩) = some (.string x.1.1) := WideMaps.keyOf_string_mk Tryz.underlying9 (by rw [← Hm.len]; show x.1.1.length ≤ _; have := x.2.1; unfold maxLen; omega)
    have hwf : (Lit.int .i64 (x.1.2 : Int)).wf = true := by have := x.2.2; simp only [Lit.wf, IntKind.min, IntKind.max, Bool.and_eq_true]; simp [IntKind.signed, IntKind.bits]; omega
    have hpl : pre.length < maxLen := by unfold maxLen; omega
    have HH : Hid (Maps.has D (.string x.1.1) = decide (x.1.1 ∈ pre.map (·.1.1))) := hD2 _
    by_cases hin : x.1.1 ∈ pre.map (·.1.1)
    · have hhas : Maps.has D (.string x.1.1) = true := by rw [HH.out]; simpa using hin
      have HI : Hid (x.1.1 ∈ pre.map (·.1.1)) := hin
      clear hin hD2
      gi_wp2_with (gi_at_lookup; refine wpListIn_lookup_own_ok_int _ rfl _ _ 230 rfl 9 3 .i64 (Maps.string_keyed Tryz.underlying9) Tryz.underlying230 Tryz.underlying3 (Tryz.zeroValue3 _) (w.heap.size + 1) pre.length D rfl hown _ (.string x.1.1) rfl hkey ?_; intro c hat hwc)
      exact ⟨(KeepsOthers.setCell _ _ _).from _, ⟨rfl, World.cell?_setCell_same' _ _ _ (by rw [a1]; rfl), by rw [List.map_append]; intro h; exact (List.nodup_append.1 h).2.2 _ HI.out _ (by simp) rfl⟩, hB.setCell (p := ⟨w.heap.size, 0, none⟩) (Nat.le_refl _) _⟩
    · have hhas : Maps.has D (.string x.1.1) = false := by rw [HH.out]; simpa using hin
      have HI : Hid (x.1.1 ∉ pre.map (·.1.1)) := hin
      have HD2 : Hid (∀ nm, Maps.has D (.string nm) = decide (nm ∈ pre.map (·.1.1))) := hD2
      clear hin hD2
      have hh0 : ∃ es ck, W.heap[w.heap.size + 1]? = some (.map es ck) := let ⟨es, ck, h, _⟩ := hown; ⟨es, ck, h⟩
      obtain ⟨es, ck, hh0⟩ := hh0
      have HH1 : Hid (W.heap[w.heap.size + 1]? = some (.map es ck)) := hh0
      clear hh0
      gi_wp2_with (first
        | (gi_at_lookup; refine wpListIn_lookup_own_ok_int _ rfl _ _ 230 rfl 9 3 .i64 (Maps.string_keyed Tryz.underlying9) Tryz.underlying230 Tryz.underlying3 (Tryz.zeroValue3 _) (w.heap.size + 1) pre.length D rfl hown _ (.string x.1.1) rfl hkey ?_; intro c hat hwc)
        | (gi_at_mapUpdate; refine wpListIn_mapUpdate_own _ rfl _ _ _ 230 rfl 9 3 (Maps.string_keyed Tryz.underlying9) Tryz.underlying230 _ (w.heap.size + 1) pre.length D rfl hown hpl _ _ (.string x.1.1) rfl rfl hkey _ [] (plainElem_int Tryz.underlying3 hwf) ?_; intro w1 hown1 hgrow1; have e1 : w1.cell? ⟨w.heap.size + 1 + 1 + 1, 0, none⟩ = some (.int .i64 (lastEnd (pre.map (·.1)))) := cell_kept d1 hgrow1 (fun r e => by cases e; exact ⟨_, HH1.out, rfl⟩); have e2 : w1.frozen? ⟨w.heap.size + 1 + 1 + 1, 0, none⟩ = false := (frozen_kept d1 hgrow1 (fun r e => by cases e; exact ⟨_, HH1.out, rfl⟩)).trans d2))
      have k4 : w1.cell? ⟨w.heap.size + 1 + 1 + 1 + 1, 0, none⟩ = some (.string s) := cell_kept t1 hgrow1 (fun r e => by cases e; exact ⟨_, HH1.out, rfl⟩)
      have q4 : (w1.setCell ⟨w.heap.size + 1 + 1 + 1, 0, none⟩ (.int .i64 x.1.2)).cell? ⟨w.heap.size + 1 + 1 + 1 + 1, 0, none⟩ = some (.string s) := (World.cell?_setCell_other _ _ _ _ (by simp)).trans k4
      refine ⟨(KeepsFrom.of_grownBy hgrow1 (fun j e => by cases e; omega)).trans ((KeepsOthers.setCell _ _ _).from _), q4.trans t1.symm, ⟨q4, ⟨?_, ?_⟩, ?_, ⟨?_, ?_⟩, ?_, D.put (.string x.1.1) (.lit (.int .i64 x.1.2)), hD1.put _ _, ?_, ?_⟩, ?_⟩
      · exact (World.cell?_setCell_other _ _ _ _ (by simp)).trans (cell_kept a1 hgrow1 (fun r e => by cases e; exact ⟨_, HH1.out, rfl⟩))
      · rw [World.frozen?_setCell]; exact (frozen_kept a1 hgrow1 (fun r e => by cases e; exact ⟨_, HH1.out, rfl⟩)).trans a2
      · exact (World.cell?_setCell_other _ _ _ _ (by simp)).trans (cell_kept b1 hgrow1 (fun r e => by cases e; exact ⟨_, HH1.out, rfl⟩))
      · rw [World.cell?_setCell_same' _ _ _ (by rw [e1]; rfl)]; simp [lastEnd]
      · rw [World.frozen?_setCell]; exact e2
      · rw [List.map_append, List.nodup_append]; exact ⟨hnd, by simp, fun a ha b hb h => HI.out (by simp at hb; rw [← hb, ← h]; exact ha)⟩
      · intro nm
        rw [has_put hD1, HD2.out]
        simp only [List.map_append, List.mem_append, List.map_cons, List.map_nil, List.mem_singleton]
        rw [Bool.eq_iff_iff]
        simp only [Bool.or_eq_true, decide_eq_true_eq]
        exact or_comm
      · rw [List.length_append]; exact hown1.setCell (by simp) _
      · exact (hB.grown hgrow1 hB.size (fun k e => by cases e; omega)).setCell (p := ⟨w.heap.size + 1 + 1 + 1, 0, none⟩) (by show _ ≤ w.heap.size + 1 + 1 + 1; omega) _
  case done =>
    rintro Db ys W hD rfl ⟨⟨_, ⟨a1, a2⟩, _, ⟨d1, _⟩, hnd, _⟩, hB⟩ hK
    have hq : lastEnd (ys.map (·.1)) ≤ s.size := by
      unfold lastEnd
      cases hl : (ys.map (·.1)).getLast? with
      | none => simp
      | some x =>
        have hm : x ∈ ys.map (·.1) := List.mem_of_getLast? hl
        rw [hxs] at hm
        have := (elems_bd _ _ 0 (Nat.zero_le _) x hm).2
        rw [Hm.len] at this
        simpa using this
    have hnd2 : ((ys.map (·.1)).map (·.1)).Nodup := by rw [List.map_map]; exact hnd
    obtain ⟨q, hqe⟩ : ∃ q, lastEnd (ys.map (·.1)) = q := ⟨_, rfl⟩
    have HO : Hid (dataOf s.data.toList (ys.map (·.1)) = if plain (s.data.toList.take q) = true then q else 0) := by
      show _ = _
      unfold dataOf
      rw [if_pos hnd2, hqe]
    rw [hqe] at d1 hq
    clear hqe hnd hnd2 hxs hxl c0 f0 c2 c3 f3 c4 m1 hB0
    have HP : Hid (∀ W, Tabs W → Calls Tryz.prog 55 #[.string (s.extract 0 q)] W fun e w' => e = .returned (.bool (plain (s.data.toList.take q))) ∧ Below W.heap.size W w') := fun W hT => by
      have := isPlain_any (s.extract 0 q) W hT (by simp; omega)
      rwa [ex_take, List.drop_zero, Nat.sub_zero] at this
    have hblk : w.heap.size < W.heap.size ∧ w.heap.size + 1 + 1 + 1 < W.heap.size := ⟨(block_lt_of_cell a1 : w.heap.size < _), (block_lt_of_cell d1 : w.heap.size + 1 + 1 + 1 < _)⟩
    have hKl : Db < W.heap.size := (Array.getElem?_eq_some_iff.1 hK).1
    gi_wp2_with fail
    refine ⟨trivial, ?_⟩
    refine (callsIn_wide.2 (HP.out W (hT.next hB))).mono ?_
    rintro e W2 ⟨rfl, hb2⟩
    have a3 : W2.cell? ⟨w.heap.size, 0, none⟩ = some (.int .i64 0) := (hb2.cell (p := ⟨w.heap.size, 0, none⟩) hblk.1).trans a1
    have a4 : W2.frozen? ⟨w.heap.size, 0, none⟩ = false := (hb2.frozen (p := ⟨w.heap.size, 0, none⟩) hblk.1).trans a2
    have d3 : W2.cell? ⟨w.heap.size + 1 + 1 + 1, 0, none⟩ = some (.int .i64 q) := (hb2.cell (p := ⟨w.heap.size + 1 + 1 + 1, 0, none⟩) hblk.2).trans d1
    have hK2 : W2.heap[Db]? = some (.deferred (some [])) := (hb2.block Db hKl).trans hK
    have HB2 : Hid (Below w.heap.size w W2) := hB.trans (hb2.mono hB.size)
    clear a1 a2 d1 hK hb2 hB
    cases hp : plain (s.data.toList.take q)
    · have HF : Hid (dataOf s.data.toList (ys.map (·.1)) = 0) := by show _ = _; rw [HO.out, hp]; rfl
      gi_wp2
      have hK3 : (W2.setCell ⟨w.heap.size, 0, none⟩ (.int .i64 0)).heap[Db]? = some (.deferred (some [])) := (KeepsOthers.setCell _ _ _).same Db _ hK2 rfl
      have hc3 : (W2.setCell ⟨w.heap.size, 0, none⟩ (.int .i64 0)).cell? ⟨w.heap.size, 0, none⟩ = some (.int .i64 0) := World.cell?_setCell_same' _ _ _ (by rw [a3]; rfl)
      have hc4 : ((W2.setCell ⟨w.heap.size, 0, none⟩ (.int .i64 0)).putObj Db (.deferred none)).cell? ⟨w.heap.size, 0, none⟩ = some (.int .i64 0) := cell_kept hc3 (grownBy_putObj' _ Db (.deferred none)) (fun r e => by cases e; exact ⟨_, hK3, rfl⟩)
      have hb3 : Below w.heap.size w (W2.setCell ⟨w.heap.size, 0, none⟩ (.int .i64 0)) := HB2.out.setCell (p := ⟨w.heap.size, 0, none⟩) (Nat.le_refl _) _
      refine ⟨by simp, .inl ⟨_, _, rfl, run_takeDeferred hK3, ?_⟩⟩
      exact ⟨.int .i64 0, by simp [results, Tryz.results125, go_sem, hc4], by rw [HF.out]; rfl, hb3.trans (belowK_b (w := w) (Nat.le_refl _) _ Db _ _ (by omega) hK3 rfl rfl)⟩
    · have HF : Hid (dataOf s.data.toList (ys.map (·.1)) = q) := by show _ = _; rw [HO.out, hp]; rfl
      gi_wp2
      have hK3 : (W2.setCell ⟨w.heap.size, 0, none⟩ (.int .i64 q)).heap[Db]? = some (.deferred (some [])) := (KeepsOthers.setCell _ _ _).same Db _ hK2 rfl
      have hc3 : (W2.setCell ⟨w.heap.size, 0, none⟩ (.int .i64 q)).cell? ⟨w.heap.size, 0, none⟩ = some (.int .i64 q) := World.cell?_setCell_same' _ _ _ (by rw [a3]; rfl)
      have hc4 : ((W2.setCell ⟨w.heap.size, 0, none⟩ (.int .i64 q)).putObj Db (.deferred none)).cell? ⟨w.heap.size, 0, none⟩ = some (.int .i64 q) := cell_kept hc3 (grownBy_putObj' _ Db (.deferred none)) (fun r e => by cases e; exact ⟨_, hK3, rfl⟩)
      have hb3 : Below w.heap.size w (W2.setCell ⟨w.heap.size, 0, none⟩ (.int .i64 q)) := HB2.out.setCell (p := ⟨w.heap.size, 0, none⟩) (Nat.le_refl _) _
      refine ⟨by simp, .inl ⟨_, _, rfl, run_takeDeferred hK3, ?_⟩⟩
      exact ⟨.int .i64 q, by simp [results, Tryz.results125, go_sem, hc4], by rw [HF.out], hb3.trans (belowK_b (w := w) (Nat.le_refl _) _ Db _ _ (by omega) hK3 rfl rfl)⟩
  case stop =>
    rintro Db c pre W hD hpre ⟨⟨rfl, a1, hnd⟩, hB⟩ hK
    have HF : Hid (dataOf s.data.toList (xs.map (·.1)) = 0) := by
      show _ = _
      unfold dataOf
      rw [if_neg]
      intro h
      apply hnd
      obtain ⟨rest, rfl⟩ := hpre
      rw [List.map_map, List.map_append] at h
      exact (List.nodup_append.1 h).1
    gi_wp2
    have hc4 : (W.putObj Db (.deferred none)).cell? ⟨w.heap.size, 0, none⟩ = some (.int .i64 0) := cell_kept a1 (grownBy_putObj' _ Db (.deferred none)) (fun r e => by cases e; exact ⟨_, hK, rfl⟩)
    refine ⟨by simp, .inl ⟨_, _, rfl, run_takeDeferred hK, ?_⟩⟩
    exact ⟨.int .i64 0, by simp [results, Tryz.results125, go_sem, hc4], by rw [HF.out]; rfl, hB.trans (belowK_b (w := w) (Nat.le_refl _) _ Db _ _ (by omega) hK rfl rfl)⟩
theorem dataAhead_any (s : ByteArray) (hs : s.size ≤ 9000000000) (w : World) (hT : Tabs w) :
    Calls Tryz.prog 125 #[.string s] w fun e w' => e = .returned (.int .i64 (dataLen s.data.toList)) ∧ Below w.heap.size w w' := by
  obtain ⟨xs, hx⟩ := els (elems (s.size + 1) s.data.toList 0) fun x hx => by
    have := elems_bd _ _ 0 (Nat.zero_le _) x hx
    rw [Hm.len] at this
    omega
  have := callsIn_wide.1 (dataAhead_in s hs w hT xs hx)
  rw [hx, ← Hm.len] at this
  exact this
end Go.Proofs.YtdlhbmncbmconaaGreatDoor

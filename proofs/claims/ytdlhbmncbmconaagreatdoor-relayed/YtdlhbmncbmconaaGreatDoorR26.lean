/- Contracts: strings.Builder (copyCheck, WriteString, WriteByte, String), telling which blocks they leave. -/
import Derived.Test.YtdlhbmncbmconaaGreatDoorBi
import Derived.Lib.Builder
import Derived.Shelf.Strings.Builder1
import Derived.Lib.UnsafeStr
import Derived.Shelf.RegionOpenPlain
namespace Go.Proofs.YtdlhbmncbmconaaGreatDoor
open Go.RowKit Go.Sort Go.Shelf
attribute [local go_sem] alloc_drewN setCell_drewN
structure BuildAt (w : World) (b : Nat) (v : Value) (l : List UInt8) : Prop where
  row : ∃ p, (p = .pointer none ∨ p = .pointer (some ⟨b, 0, none⟩)) ∧ w.heap[b]? = some (.cells #[p, v] 127 (0, 0))
  own : w.ownsRow 11 5 1 v l.length (Lib.byteCells l)
structure StepB (b : Nat) (v : Value) (w : World) (v' : Value) (w' : World) : Prop where
  kept : Hw.Kept (fun k => k = b ∨ v.ownBlock = some k) w w'
  lies : ∀ k, v'.ownBlock = some k → v.ownBlock = some k ∨ w.heap.size ≤ k
theorem BuildAt.lt {w : World} {b : Nat} {v : Value} {l : List UInt8} (h : BuildAt w b v l) : b < w.heap.size := by
  obtain ⟨p, _, hr⟩ := h.row
  exact (Array.getElem?_eq_some_iff.1 hr).1
theorem BuildAt.ne {w : World} {b : Nat} {v : Value} {l : List UInt8} (h : BuildAt w b v l) : v.ownBlock ≠ some b := fun e => by
  obtain ⟨p, _, hr⟩ := h.row
  obtain ⟨cur, hc⟩ := Hw.ownsRow_cells h.own e
  exact ne_types hr hc (by decide) rfl
theorem BuildAt.keep {w w' : World} {b : Nat} {v : Value} {l : List UInt8} {S : Nat → Prop} (h : BuildAt w b v l) (hk : Hw.Kept S w w') (h1 : ¬ S b) (h2 : ∀ k, v.ownBlock = some k → ¬ S k) : BuildAt w' b v l := by
  obtain ⟨p, hp, hr⟩ := h.row
  exact ⟨⟨p, hp, (hk.block _ (Array.getElem?_eq_some_iff.1 hr).1 h1).trans hr⟩, Hw.ownsRow_keptS h.own hk h2⟩
theorem size_builder : (Tryz.prog.info? 127).map (·.size) = some 2 := by kernel_rfl
theorem size_pbuilder : (Tryz.prog.info? 125).map (·.size) = some 1 := by kernel_rfl
theorem lies_builder : liesAt Tryz.prog Tryz.prog.depth 127 (2 / Tryz.prog.cellsOf 127) 0 127 1 = true := by kernel_rfl
set_option maxHeartbeats 1000000 in
set_option maxRecDepth 100000 in
theorem copyCheck_b (b : Nat) (v : Value) (l : List UInt8) (w : World) (h : BuildAt w b v l) :
    Calls Tryz.prog 103 #[.pointer (some ⟨b, 0, none⟩)] w fun e w' => e = .returned (.tuple #[]) ∧ w'.heap[b]? = some (.cells #[.pointer (some ⟨b, 0, none⟩), v] 127 (0, 0)) ∧ Hw.Kept (fun k => k = b) w w' := by
  obtain ⟨p, hp, hr⟩ := h.row
  clear h
  have c0 : w.cell? ⟨b, 0, none⟩ = some p := by simp [World.cell?, hr]
  have hsh : w.shape? b = some (127, 2) := by simp [World.shape?, hr]
  have HR := show Hid _ from hr
  clear hr
  obtain ⟨j, hj, hjs⟩ := Option.map_eq_some_iff.1 size_builder
  rcases hp with rfl | rfl
  · go_enter Tryz.func103, Tryz.ntmps103
    go_wp2
    rw [Lib.run_to_unsafe w ⟨b, 0, none⟩ Tryz.underlying125 Tryz.underlying213 hj (by rw [hjs]; decide) hsh (Nat.zero_lt_succ 1)]
    simp only [Result.andThen]
    rw [Oper.upon_value]
    go_wp2
    rw [run_callFunc_extern Tryz.func149 (by kernel_rfl) (by kernel_rfl) (by kernel_rfl) (e := Extern.AbiNoEscape.same) (by kernel_rfl)]
    rw [Lib.run_noEscape]
    simp only [Result.andThen]
    rw [Oper.upon_value]
    go_wp2
    rw [Lib.run_from_unsafe w ⟨b, 0, none⟩ Tryz.underlying213 Tryz.underlying125 hj hsh lies_builder]
    simp only [Result.andThen]
    rw [Oper.upon_value]
    go_wp2_with (refine Hw.wpList_store_fieldP rfl _ _ _ rfl rfl b 0 (.pointer (some ⟨b, 0, none⟩)) rfl rfl _ _ #[.pointer (some ⟨b, 0, none⟩), v] HR.out size_pbuilder (by simp) rfl rfl ?_; intro w2 p2; have HP2 := show Hid _ from p2; clear p2)
    go_end0
    exact ⟨rfl, HP2.out.row, HP2.out.kept⟩
  · go_enter Tryz.func103, Tryz.ntmps103
    go_wp2
    rw [Lib.run_neq_ptr_same w _ Tryz.underlying125 hj]
    go_wp2
    go_end0
    exact ⟨rfl, HR.out, Hw.Kept.refl _ _⟩
theorem build_put {b : Nat} {v v' : Value} {l l' : List UInt8} {w w2 w5 w6 : World} (hb : BuildAt w b v l) (hr2 : w2.heap[b]? = some (.cells #[.pointer (some ⟨b, 0, none⟩), v] 127 (0, 0))) (hk2 : Hw.Kept (fun k => k = b) w w2) (hown' : w5.ownsRow 11 5 1 v' l'.length (Lib.byteCells l')) (hk5 : Hw.Kept (fun k => some k = v.ownBlock) w2 w5) (hat : ∀ k, v'.ownBlock = some k → v.ownBlock = some k ∨ w2.heap.size ≤ k) (p6 : Hw.Put w5 b 127 #[.pointer (some ⟨b, 0, none⟩), v'] w6) :
    BuildAt w6 b v' l' ∧ StepB b v w v' w6 := by
  have hne : ∀ k, v'.ownBlock = some k → ¬ k = b := fun k e e' => by
    subst e'
    rcases hat k e with e | e
    · exact hb.ne e
    · have := (Array.getElem?_eq_some_iff.1 hr2).1
      omega
  refine ⟨⟨⟨_, .inr rfl, p6.row⟩, Hw.ownsRow_keptS hown' p6.kept hne⟩, ⟨?_, fun k e => ?_⟩⟩
  · refine (hk2.mono (fun _ _ e => .inl e)).trans ((hk5.mono (T := fun k => k = b ∨ v.ownBlock = some k) (fun _ _ e => .inr e.symm)).trans (p6.kept.mono (T := fun k => k = b ∨ v.ownBlock = some k) (fun _ _ e => .inl e)) (fun _ _ e => e)) (fun _ _ e => e)
  · rcases hat k e with e | e
    · exact .inl e
    · exact .inr (Nat.le_trans hk2.size e)
theorem bytes_app (l s : List UInt8) : Lib.byteCells l ++ Lib.strCells ⟨s.toArray⟩ = Lib.byteCells (l ++ s) := by
  simp [Lib.byteCells, Lib.strCells]
set_option maxHeartbeats 1000000 in
set_option maxRecDepth 100000 in
theorem WriteString_b (b : Nat) (v : Value) (l s : List UInt8) (w : World) (h : BuildAt w b v l) (h1 : l.length ≤ 1000000) (h2 : s.length ≤ 1000000) (hlo : 11 ≤ w.heap.size) :
    Calls Tryz.prog 66 #[.pointer (some ⟨b, 0, none⟩), .string ⟨s.toArray⟩] w fun e w' => (∃ u, e = .returned u) ∧ ∃ v', BuildAt w' b v' (l ++ s) ∧ StepB b v w v' w' := by
  have CC : Hid (Calls Tryz.prog 103 #[.pointer (some ⟨b, 0, none⟩)] w fun e w' => e = .returned (.tuple #[]) ∧ w'.heap[b]? = some (.cells #[.pointer (some ⟨b, 0, none⟩), v] 127 (0, 0)) ∧ Hw.Kept (fun k => k = b) w w') := copyCheck_b b v l w h
  have HB := show Hid _ from h
  clear h
  have hsz : (⟨s.toArray⟩ : ByteArray).size = s.length := by show Array.size _ = _; simp
  obtain ⟨i0, hi, hz0, hz1, hz2⟩ := info_parts info_u8
  go_enter Tryz.func66, Tryz.ntmps66
  go_wp2_with fail
  refine CC.out.mono ?_
  rintro e w2 ⟨rfl, hr2, hk2⟩
  have c1 : w2.cell? ⟨b, 1, none⟩ = some v := by simp [World.cell?, hr2]
  have HR2 := show Hid _ from hr2
  have HK2 := show Hid _ from hk2
  have HO2 : Hid (w2.ownsRow 11 5 1 v l.length (Lib.byteCells l)) := Hw.ownsRow_keptS HB.out.own hk2 (fun k e e' => HB.out.ne (e' ▸ e))
  have hlo2 : 11 ≤ w2.heap.size := Nat.le_trans hlo hk2.size
  clear hr2 hk2 CC
  obtain ⟨a0, c0, rfl⟩ := own_form HO2.out
  go_wp2_with (first
    | (at_builtin; refine Hw.wpList_append_string_at _ rfl _ _ 72 9 rfl 11 5 i0 Tryz.underlying72 Tryz.underlying9 hi hz0 hz1 hz2 _ _ _ rfl HO2.out ⟨s.toArray⟩ rfl (by unfold maxLen; rw [hsz]; omega) (by rw [hsz]; omega) hlo2 ?_; intro rv5 w5 hown' hgrow hat; rw [hsz, bytes_app] at hown'; have HG5 := show Hid _ from (Hw.Kept.of_grown hgrow); have HA5 := show Hid _ from hat; obtain ⟨a5, c5, rfl⟩ := own_form hown'; have HO5 : Hid (w5.ownsRow 11 5 1 (.slice a5 (l.length + s.length) c5) (l ++ s).length (Lib.byteCells (l ++ s))) := (by rw [List.length_append]; exact hown'); clear hown' hgrow hat)
    | (refine Hw.wpList_store_fieldP rfl _ _ _ rfl rfl b 1 (.slice a5 (l.length + s.length) c5) rfl rfl _ _ #[.pointer (some ⟨b, 0, none⟩), .slice a5 (l.length + s.length) c5] ((HG5.out.block _ (Array.getElem?_eq_some_iff.1 HR2.out).1 (fun e => HB.out.ne e.symm)).trans HR2.out) size_bytes (by simp) rfl rfl ?_; intro w6 p6; have HP6 := show Hid _ from build_put HB.out HR2.out HK2.out HO5.out HG5.out HA5.out p6; clear p6))
  go_ret2
  exact ⟨⟨_, rfl⟩, _, HP6.out⟩
set_option maxHeartbeats 1000000 in
set_option maxRecDepth 100000 in
theorem WriteByte_b (b : Nat) (v : Value) (l : List UInt8) (c : UInt8) (w : World) (h : BuildAt w b v l) (h1 : l.length ≤ 1000000) (hlo : 11 ≤ w.heap.size) :
    Calls Tryz.prog 68 #[.pointer (some ⟨b, 0, none⟩), .int .u8 c.toNat] w fun e w' => (∃ u, e = .returned u) ∧ ∃ v', BuildAt w' b v' (l ++ [c]) ∧ StepB b v w v' w' := by
  have CC : Hid (Calls Tryz.prog 103 #[.pointer (some ⟨b, 0, none⟩)] w fun e w' => e = .returned (.tuple #[]) ∧ w'.heap[b]? = some (.cells #[.pointer (some ⟨b, 0, none⟩), v] 127 (0, 0)) ∧ Hw.Kept (fun k => k = b) w w') := copyCheck_b b v l w h
  have HB := show Hid _ from h
  clear h
  obtain ⟨i0, hi, hz0, hz1, hz2⟩ := info_parts info_u8
  go_enter Tryz.func68, Tryz.ntmps68
  go_wp2_with fail
  refine CC.out.mono ?_
  rintro e w2 ⟨rfl, hr2, hk2⟩
  have c1 : w2.cell? ⟨b, 1, none⟩ = some v := by simp [World.cell?, hr2]
  have HR2 := show Hid _ from hr2
  have HK2 := show Hid _ from hk2
  have HO2 : Hid (w2.ownsRow 11 5 1 v l.length (Lib.byteCells l)) := Hw.ownsRow_keptS HB.out.own hk2 (fun k e e' => HB.out.ne (e' ▸ e))
  have hlo2 : 11 ≤ w2.heap.size := Nat.le_trans hlo hk2.size
  clear hr2 hk2 CC
  obtain ⟨a0, c0, rfl⟩ := own_form HO2.out
  go_wp2_with (first
    | (at_builtin; refine wpList_append_own_at _ rfl _ _ 72 rfl 11 5 i0 (.int .u8 0) 1 1 Tryz.underlying72 hi hz0 hz1 hz2 rfl (by decide) _ _ _ rfl (HO2.out.alloc _) ⟨w2.heap.size, 0, none⟩ 1 1 [.int .u8 c.toNat] rfl rfl (cell_one_new _ _ _) (fun x hx => by simp at hx; subst hx; rfl) (by unfold maxLen; omega) (by omega) (by simp; omega) ?_; intro rv5 w5 hown' hgrow hnil hat; have HO5' : Hid (w5.ownsRow 11 5 1 rv5 (l.length + 1) (Lib.byteCells (l ++ [c]))) := (by show World.ownsRow _ _ _ _ _ _ _; simpa [Lib.byteCells] using hown'); have HG5 : Hid (Hw.Kept (fun k => some k = (Value.slice a0 l.length c0).ownBlock) w2 w5) := ((Hw.Kept.refl (fun k => some k = (Value.slice a0 l.length c0).ownBlock) w2).alloc _).trans (Hw.Kept.of_grown hgrow) (fun _ _ e => e); have HA5 : Hid (∀ k, rv5.ownBlock = some k → (Value.slice a0 l.length c0).ownBlock = some k ∨ w2.heap.size ≤ k) := (fun k e => hat.elim (fun hat => .inl (hat ▸ e)) (fun hat => .inr (by rw [hat] at e; have := Option.some.inj e; simp at this; omega))); obtain ⟨a5, c5, rfl⟩ := own_form HO5'.out; have HO5 : Hid (w5.ownsRow 11 5 1 (.slice a5 (l.length + 1) c5) (l ++ [c]).length (Lib.byteCells (l ++ [c]))) := (by rw [List.length_append]; exact HO5'.out); clear hown' hgrow hat hnil)
    | (refine Hw.wpList_store_fieldP rfl _ _ _ rfl rfl b 1 (.slice a5 (l.length + 1) c5) rfl rfl _ _ #[.pointer (some ⟨b, 0, none⟩), .slice a5 (l.length + 1) c5] ((HG5.out.block _ (Array.getElem?_eq_some_iff.1 HR2.out).1 (fun e => HB.out.ne e.symm)).trans HR2.out) size_bytes (by simp) rfl rfl ?_; intro w6 p6; have HP6 := show Hid _ from build_put HB.out HR2.out HK2.out HO5.out HG5.out HA5.out p6; clear p6))
  go_ret
  exact ⟨⟨_, rfl⟩, _, HP6.out⟩
theorem kept_freeze (w : World) (p : Addr) (n : Nat) : Hw.Kept (fun k => k = p.block) w (w.freeze p n) := by
  unfold World.freeze
  split
  · exact Hw.Kept.refl _ _
  · exact ⟨rfl, rfl, rfl, by simp, fun k _ hk => by
      simp only [Array.getElem?_modify]
      rw [if_neg (fun e => hk e.symm)]⟩
theorem cells_u8 : Tryz.prog.cellsOf 5 = 1 := by kernel_rfl
set_option maxHeartbeats 2000000 in
set_option maxRecDepth 100000 in
theorem String_b (b : Nat) (v : Value) (l : List UInt8) (w : World) (h : BuildAt w b v l) (h0 : l ≠ []) :
    Calls Tryz.prog 69 #[.pointer (some ⟨b, 0, none⟩)] w fun e w' => e = .returned (.string ⟨l.toArray⟩) ∧ Hw.Kept (fun k => v.ownBlock = some k) w w' := by
  obtain ⟨p, hp, hbk⟩ := h.row
  have hown := h.own
  clear h hp
  have hl0 : l.length ≠ 0 := by simpa using h0
  obtain ⟨g, cap, cur, rfl, hbg, hg, hnc, hcm, hcs, htake⟩ : ∃ g cap cur, v = .slice (some ⟨g, 0, none⟩) l.length cap ∧ 11 ≤ g ∧ w.heap[g]? = some (.cells cur 5 (0, 0)) ∧ l.length ≤ cap ∧ cap ≤ maxLen ∧ cur.size = cap * 1 ∧ cur.toList.take (l.length * 1) = Lib.byteCells l := by
    rcases hown.2 with ⟨_, hz⟩ | ⟨g, cap, cur, hv, r⟩
    · exact absurd hz hl0
    · exact ⟨g, cap, cur, hv, r⟩
  have c1 : w.drew.cell? ⟨b, 1, none⟩ = some (.slice (some ⟨g, 0, none⟩) l.length cap) := by
    have : w.drew.heap[b]? = some (.cells #[p, .slice (some ⟨g, 0, none⟩) l.length cap] 127 (0, 0)) := hbk
    rw [Lib.cell_of_heap this]; rfl
  have hSD : (Builtin.unsafeSliceData_ #[72] 168 #[.slice (some ⟨g, 0, none⟩) l.length cap]).run Tryz.prog w.drew = .ok (.pointer (some ⟨g, 0, none⟩)) w.drew :=
    Lib.run_unsafeSliceData_row _ _ _ _ _ _ (by omega)
  have hUS : (Builtin.unsafeString_ #[168, 3] 9 #[.pointer (some ⟨g, 0, none⟩), .int .i64 l.length]).run Tryz.prog w.drew = .ok (.string ⟨l.toArray⟩) (w.drew.freeze ⟨g, 0, none⟩ l.length) := by
    refine Lib.run_unsafeString_row w.drew 168 3 9 5 Tryz.underlying168 cells_u8 g cur.size (by have hg' : w.drew.heap[g]? = some (.cells cur 5 (0, 0)) := hg; simp [World.shape?, hg']) l h0 (by omega) (by unfold maxLen at hcm; omega) ?_
    intro j x hx
    have := hown.cells (g := g) rfl j (.int .u8 x.toNat) (by simp [Lib.byteCells, hx])
    exact this
  clear hown hg htake hbk
  have mixed := mixed
  go_enter Tryz.func69, Tryz.ntmps69
  go_wp2
  go_region_o
  all_goals (go_wp2; go_ret; exact ⟨rfl, (Hw.Kept.of_below (drew_below ⟨1, rfl⟩)).trans ((kept_freeze w.drew ⟨g, 0, none⟩ l.length).mono (T := fun k => (Value.slice (some ⟨g, 0, none⟩) l.length cap).ownBlock = some k) (fun _ _ e => by rw [e]; rfl)) (fun _ _ e => e)⟩)
set_option maxHeartbeats 2000000 in
set_option maxRecDepth 100000 in
theorem String_nil_b (b : Nat) (w : World) (h : BuildAt w b (.slice none 0 0) []) :
    Calls Tryz.prog 69 #[.pointer (some ⟨b, 0, none⟩)] w fun e w' => e = .returned (.string ⟨#[]⟩) ∧ Hw.Kept (fun _ => False) w w' := by
  obtain ⟨p, hp, hbk⟩ := h.row
  clear h hp
  have hUS : ∀ (W : World) (q : Option Addr), (Builtin.unsafeString_ #[168, 3] 9 #[.pointer q, .int .i64 0]).run Tryz.prog W = .ok (.string .empty) W := fun W q => Lib.run_unsafeString_none W _ _ _ q
  have c1 : w.drew.cell? ⟨b, 1, none⟩ = some (.slice none 0 0) := by
    have : w.drew.heap[b]? = some (.cells #[p, .slice none 0 0] 127 (0, 0)) := hbk
    rw [Lib.cell_of_heap this]; rfl
  have hSD : (Builtin.unsafeSliceData_ #[72] 168 #[.slice none 0 0]).run Tryz.prog w.drew = .ok (.pointer none) w.drew := rfl
  clear hbk
  have mixed := mixed
  go_enter Tryz.func69, Tryz.ntmps69
  go_wp2
  go_region_o
  all_goals (go_wp2; go_ret; exact ⟨rfl, Hw.Kept.of_below (drew_below ⟨1, rfl⟩)⟩)
end Go.Proofs.YtdlhbmncbmconaaGreatDoor

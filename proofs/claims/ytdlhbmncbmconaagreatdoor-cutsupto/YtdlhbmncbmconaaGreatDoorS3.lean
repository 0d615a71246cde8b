/- Cuts, wherever what it reads is of bulk at most 1048576: the answer is true, and the arguments read as they did. -/
import Derived.Test.YtdlhbmncbmconaaGreatDoorR2
import Derived.Test.YtdlhbmncbmconaaGreatDoorBs
import Derived.ChangeSlices
import Derived.ChangeMaps5
import Derived.WideKeyArgs
namespace Go.Proofs.YtdlhbmncbmconaaGreatDoor.cuts
open Go.ChangeShapes Go.WideShapes Go.ChangeAt Go.RowKit Go.Lib
open Go.ChangeMaps (open_string)
open Go.OpenShut

theorem three {α : Type} {xs : List α} (h : xs.length = 3) : ∃ a b c, xs = [a, b, c] := by
  match xs, h with
  | [a, b, c], _ => exact ⟨a, b, c, rfl⟩

theorem cells3 : Tryz.prog.cellsOf 3 = 1 := by kernel_rfl
theorem one_le {H : Type} (d : DataW H) : 1 ≤ Rows.uptoBulk d := by
  cases d with
  | lit l => cases l <;> simp [Rows.uptoBulk]
  | nil => simp [Rows.uptoBulk]
  | ptr d => simp [Rows.uptoBulk]
  | slice elems spare => simp [Rows.uptoBulk]
  | agg parts => simp [Rows.uptoBulk]
  | iface t d => simp [Rows.uptoBulk]
  | map entries => simp [Rows.uptoBulk]
  | held h => simp [Rows.uptoBulk]
theorem length_le {H : Type} (l : List (DataW H)) : l.length ≤ Rows.uptoBulkAll l := by
  induction l with
  | nil => simp [Rows.uptoBulkAll]
  | cons x r ih => have := one_le x; simp only [Rows.uptoBulkAll, List.length_cons]; omega
theorem slice_le {H : Type} (elems spare : List (DataW H)) : elems.length + 1 ≤ Rows.uptoBulk (.slice elems spare) := by
  have h1 := length_le elems
  simp only [Rows.uptoBulk]
  omega
theorem bulks {H : Type} {l : List (DataW H)} (hk : Rows.uptoSmall H l = true) : Rows.uptoBulkAll l ≤ 1048576 := of_decide_eq_true hk
theorem ints_in {H : Type} {enc : TypeId × Value → H} {W : World} {v : Value} {d : DataW H} {p : List MemPlace} (h : DataW.Trod enc Tryz.prog W 0 (fun _ => true) true 44 v d p) (hone : v.cells = #[v]) (hd : Rows.uptoBulk d ≤ 1048576) :
    ∃ (ad : Option Addr) (cs : List Int) (cap : Nat), v = .slice ad cs.length cap ∧ IntsIn W ad cs := by
  obtain ⟨fuel, hf⟩ := h
  rw [hone] at hf
  rcases open_ints Tryz.underlying44 Tryz.underlying3 cells3 hf with ⟨hcs, hx⟩ | ⟨a, len, cap, zs, hcs, _, hl, hm, hz, hx, hcell, hwz⟩
  · have hv : v = .slice none 0 0 := by simpa using hcs
    exact ⟨none, [], 0, hv, fun j z hj => by simp at hj, by simp, by simp, by simp⟩
  · have hv : v = .slice (some a) len cap := by simpa using hcs
    have hd' : d = .slice (lits .i64 (zs.take len)) (lits .i64 (zs.drop len)) := congrArg Prod.fst hx
    have hzl : len ≤ zs.length := by rw [hz]; simpa using hl
    have hlen : (zs.take len).length = len := by simp; omega
    have hb : len ≤ 1048576 := by
      rw [hd'] at hd
      have := slice_le (H := H) (lits .i64 (zs.take len)) (lits .i64 (zs.drop len))
      have e : (lits (H := H) .i64 (zs.take len)).length = len := by rw [← hlen]; simp [lits]
      omega
    refine ⟨some a, zs.take len, cap, by rw [hlen]; exact hv, ?_, ?_, ?_, by omega⟩
    · intro j z hj
      have hj' : j < len := by have := (List.getElem?_eq_some_iff.1 hj).1; omega
      obtain ⟨b, off, rfl, hc⟩ := ints_at hcell (by omega)
      have hc := hc j (by omega)
      refine ⟨b, off, rfl, ?_⟩
      rw [List.getElem?_take, if_pos hj'] at hj
      rw [List.getD_eq_getElem?_getD, hj] at hc
      exact hc
    · intro z hz'
      have := hwz z (List.mem_of_mem_take hz')
      exact (bounds_i64 this).1
    · intro z hz'
      have := hwz z (List.mem_of_mem_take hz')
      exact (bounds_i64 this).2

set_option maxRecDepth 100000 in
theorem contract (H : Type) (enc : TypeId × Value → H) (W : World) (base : Nat) (args : Array Value) (ds gs : List (DataW H)) (before : List MemPlace)
    (hval : ∀ (j : Nat) t v, Tryz.f10.params[j]? = some t → args[j]? = some v → Value.okWide Tryz.prog W .any base t v)
    (hW : DataW.Whole enc Tryz.prog Tryz.f10.params.toList Rows.cutsSpec.vars false W args.toList ds gs before) (hk : Rows.uptoSmall H (ds ++ gs) = true) (hL : laidMetH Tryz.prog laidL W) (hS : W.ShapedOpen Tryz.prog) :
    Calls Tryz.prog 10 args W fun e W' => ∃ v, e = .returned v ∧ Rows.cutsSpec.post enc Tryz.prog Tryz.f10 false true false false W args v W' := by
  have hT : Tabs W := tabs_laid hL hS
  have hW' := hW
  obtain ⟨p, q, hA0, hV, rfl, hfz, hnd⟩ := hW
  have hA : DataW.TrodAll enc Tryz.prog W 0 (fun _ => true) true Tryz.f10.params.toList args.toList ds p := hA0
  rw [Tryz.params10] at hA hval
  obtain ⟨v0, v1, v2, d0, d1, d2, p0, p1, p2, rfl, rfl, rfl, h0, h1, h2⟩ := trodAll_three hA
  obtain ⟨rfl, rfl⟩ := trodVars_none hV
  obtain ⟨s, rfl, rfl, rfl, hmax⟩ := open_string Tryz.underlying9 (hval 0 9 v0 rfl rfl) h0
  obtain ⟨n2, rfl, rfl, rfl, hn2⟩ := open_int Tryz.underlying3 (hval 2 3 v2 rfl rfl) h2
  have hb : s.size ≤ 1048576 ∧ Rows.uptoBulk d1 ≤ 1048576 := by
    have hb := bulks hk
    have e : ([.lit (.string s.data.toList), d1, .lit (.int .i64 n2)] ++ [] : List (DataW H)) = [.lit (.string s.data.toList), d1, .lit (.int .i64 n2)] := rfl
    rw [e] at hb
    have hbs : Rows.uptoBulk (DataW.lit (H := H) (.string s.data.toList)) = s.data.toList.length + 1 := by simp [Rows.uptoBulk]
    unfold Rows.uptoBulkAll at hb
    unfold Rows.uptoBulkAll at hb
    rw [hbs, Hm.len] at hb
    omega
  obtain ⟨a1, l1, c1, hv1⟩ := okWide_slice Tryz.underlying44 (hval 1 44 v1 rfl rfl)
  obtain ⟨ad, cs, cap, rfl, hin⟩ := ints_in h1 (by rw [hv1]; rfl) (by omega)
  have hbd := bounds_i64 hn2
  refine (Cuts_any s (by omega) ad cs cap n2 hbd.1 hbd.2 W hT hin).mono fun e W' ⟨he, hbl⟩ => ?_
  subst he
  exact ⟨_, rfl, Hw.post_bool (t := 4) laidOut rfl hW' hbl (by rw [Tryz.params10]; decide +kernel) (by kernel_rfl) Tryz.underlying4 (fun xs hx => by obtain ⟨a, b, c, rfl⟩ := three hx; rfl) (fun xs hx => by obtain ⟨a, b, c, rfl⟩ := three hx; rfl) (fun xs hx => by obtain ⟨a, b, c, rfl⟩ := three hx; rfl)⟩
theorem reads (os : Os) {H : Type} (enc : TypeId × Value → H) : ∃ places, DataW.whole enc Tryz.prog ((World.laidAll Tryz.prog os laidL).forCall (fun _ _ => 0) ⟨#[], #[.string .empty, .slice none 0 0, .int .i64 0], []⟩).memory Tryz.f10.params.toList Rows.cutsSpec.vars false #[Value.string .empty, .slice none 0 0, .int .i64 0].toList 8 = some ([.lit (.string []), .nil, .lit (.int .i64 0)], [], places) :=
  ⟨[], by kernel_rfl⟩
set_option maxRecDepth 100000 in
theorem lifted (os : Os) (started : os.Started) (H : Type) (enc : TypeId × Value → H) (F : Stop.Interp) :
    ReturnsInHanded {} Tryz.checked os 10 .any ((Rows.OpenSpec.upto Rows.cutsSpec).preRow enc Tryz.prog Tryz.f10 Rows.cutsUptoRow.domain false Rows.cutsUptoRow.laid) (((Rows.OpenSpec.upto Rows.cutsSpec).at F).post enc Tryz.prog Tryz.f10 false true false false) := by
  obtain ⟨places, hx⟩ := reads os enc
  refine returnsInHanded_of_row (C := Tryz.checked) (s := Rows.OpenSpec.upto Rows.cutsSpec) ownG started (by kernel_rfl) Tryz.func10
    (witness_row_at (enc := enc) (C := Tryz.checked) false (World.laidAll Tryz.prog os laidL) #[.string .empty, .slice none 0 0, .int .i64 0] (World.laidAll_os _ _ _) (laid_vars os _) (laid_rest os _) (by kernel_rfl)
      (OpenSpec.preRow_of_cond 8 hx (by kernel_rfl) (fun k hk => by cases hk; kernel_rfl) (by kernel_rfl) (laid_met os _))) ?_
  intro W base args ds gs before hval hW _ hcond _ hL hS _
  exact contract H enc W base args ds gs before hval hW (hcond _ rfl) hL hS
theorem said : Rows.CutsUptoSaid :=
  OpenClaim.holds_of_cond 10 Tryz.f10 rfl rfl rfl rfl rfl rfl rfl ⟨rfl, rfl, rfl, rfl, rfl⟩ rfl rfl rfl rfl rfl (by kernel_rfl) Tryz.func10 (by kernel_rfl)
    (of_decide_eq_true (by kernel_rfl)) (by unfold Func.isWrapper; first | (rw [if_pos (by decide +kernel)]; kernel_rfl) | (rw [if_neg (by decide +kernel)]; exact ⟨rfl, rfl⟩))
    (fun os started H enc _ F => by rw [OpenClaim.pre_eq_preRow]; exact lifted os started H enc F)
theorem plain (f : FuncId) (fn : Func) (hf : Tryz.pinned.checked.prog.funcNamed "herald/heraldkeep.Cuts" = some f) (hfn : Tryz.pinned.checked.prog.funcs[f]? = some fn) :
    false = Tryz.pinned.checked.prog.looks [] ∧ ∀ (j : Nat) t, fn.params[j]? = some t → Tryz.pinned.checked.prog.wantsStandIn t = false := by
  obtain rfl : f = 10 := Option.some.inj ((show Tryz.prog.funcNamed "herald/heraldkeep.Cuts" = some 10 by kernel_rfl).symm.trans hf) |>.symm
  obtain rfl : fn = Tryz.f10 := (Option.some.inj (Tryz.func10.symm.trans hfn)).symm
  refine ⟨by kernel_rfl, fun j t ht => ?_⟩
  rw [Tryz.params10] at ht
  have hm := Array.mem_of_getElem? ht
  simp only [List.mem_toArray, List.mem_cons, List.not_mem_nil, or_false] at hm
  rcases hm with rfl | rfl | rfl
  · exact (show Tryz.prog.wantsStandIn 9 = false by kernel_rfl)
  · exact (show Tryz.prog.wantsStandIn 44 = false by kernel_rfl)
  · exact (show Tryz.prog.wantsStandIn 3 = false by kernel_rfl)
end Go.Proofs.YtdlhbmncbmconaaGreatDoor.cuts
namespace Go.Proofs.YtdlhbmncbmconaaGreatDoor
/-- THE CARD. -/
theorem cuts_holds : Rows.CutsUptoCardSaid :=
  Claim7.holds_tied_plain_at .later [] _ _ _ _ cuts.said (fun _ h => by cases h) (by kernel_rfl) (fun _ h => by cases h) cutsUpto_row_tie rfl ⟨rfl, rfl⟩ (by kernel_rfl) rfl cuts.plain (by kernel_rfl)
end Go.Proofs.YtdlhbmncbmconaaGreatDoor

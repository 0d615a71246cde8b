/- Relayed, of any raw messages and any raw number: the answer is true, and the arguments read as they did. No condition beside what the card itself says (the tables are as the program's text lays them). -/
import Derived.Test.YtdlhbmncbmconaaGreatDoorR25
import Derived.Test.YtdlhbmncbmconaaGreatDoorVz
namespace Go.Proofs.YtdlhbmncbmconaaGreatDoor.relayed
open Go.ChangeShapes Go.WideShapes Go.ChangeAt Go.RowKit Go.Lib
open Go.OpenShut

theorem two {α : Type} {xs : List α} (h : xs.length = 2) : ∃ a b, xs = [a, b] := by
  match xs, h with
  | [a, b], _ => exact ⟨a, b, rfl⟩
set_option maxRecDepth 100000 in
theorem contract (H : Type) (enc : TypeId × Value → H) (W : World) (base : Nat) (args : Array Value) (ds gs : List (DataW H)) (before : List MemPlace)
    (hval : ∀ (j : Nat) t v, Tryz.f15.params[j]? = some t → args[j]? = some v → Value.okWide Tryz.prog W .any base t v)
    (hW : DataW.Whole enc Tryz.prog Tryz.f15.params.toList Rows.relayedSpec.vars false W args.toList ds gs before)
    (hz : (DataW.weightsEach Tryz.prog (Tryz.f15.params.toList ++ (OpenSpec.ofChange Rows.relayedSpec).bare.plain.varTypes Tryz.prog) (ds ++ gs)).all (· ≤ reachBytes) = true) (hL : laidMetH Tryz.prog laidL W) (hS : W.ShapedOpen Tryz.prog) :
    Calls Tryz.prog 15 args W fun e W' => ∃ v, e = .returned v ∧ Rows.relayedSpec.post enc Tryz.prog Tryz.f15 false true false false W args v W' := by
  have hT : Tabs W := tabs_laid hL hS
  have hW' := hW
  obtain ⟨p, q, hA0, hV, rfl, hfz, hnd⟩ := hW
  have hA : DataW.TrodAll enc Tryz.prog W 0 (fun _ => true) true Tryz.f15.params.toList args.toList ds p := hA0
  rw [Tryz.params15] at hA hval hz
  obtain ⟨v0, v1, d0, d1, p0, p1, rfl, rfl, rfl, h0, h1⟩ := trodAll_two hA
  obtain ⟨rfl, rfl⟩ := trodVars_none hV
  have hz' := fun (j : Nat) (t : TypeId) (d : DataW H) (ht) (hd) (n : Nat) (hn : n ∈ d.weights Tryz.prog t) => of_decide_eq_true (List.all_eq_true.1 hz n (DataW.weights_mem_each (j := j) ht hd n hn))
  obtain ⟨a0, l0, c0, hv0⟩ := okWide_slice Tryz.underlying62 (hval 0 62 v0 rfl rfl)
  obtain ⟨ad, rows, cap, rfl, hs⟩ := rawz.raws_of h0 (by rw [hv0]; rfl) (hz' 0 _ _ rfl rfl)
  obtain ⟨x, rfl, rfl, rfl, hx⟩ := open_int Tryz.underlying3 (hval 1 3 v1 rfl rfl) h1
  have hbx := bounds_i64 hx
  refine (Relayed_any ad rows cap x hbx.1 hbx.2 W hT hs).mono fun e W' ⟨he, hbl⟩ => ?_
  subst he
  exact ⟨_, rfl, Hw.post_bool (t := 4) laidOut rfl hW' hbl (by rw [Tryz.params15]; decide +kernel) (by kernel_rfl) Tryz.underlying4 (fun xs hx => by obtain ⟨a, b, rfl⟩ := two hx; rfl) (fun xs hx => by obtain ⟨a, b, rfl⟩ := two hx; rfl) (fun xs hx => by obtain ⟨a, b, rfl⟩ := two hx; rfl)⟩
theorem reads (os : Os) {H : Type} (enc : TypeId × Value → H) : ∃ places, DataW.whole enc Tryz.prog ((World.laidAll Tryz.prog os laidL).forCall (fun _ _ => 0) ⟨#[], #[.slice none 0 0, .int .i64 0], []⟩).memory Tryz.f15.params.toList Rows.relayedSpec.vars false (#[.slice none 0 0, .int .i64 0] : Array Value).toList 8 = some ([.nil, .lit (.int .i64 0)], [], places) :=
  ⟨[], by kernel_rfl⟩
set_option maxRecDepth 100000 in
theorem lifted (os : Os) (started : os.Started) (H : Type) (enc : TypeId × Value → H) (F : Stop.Interp) :
    ReturnsInHanded {} Tryz.checked os 15 .any ((OpenSpec.ofChange Rows.relayedSpec).preRow enc Tryz.prog Tryz.f15 Rows.relayedRow.domain false Rows.relayedRow.laid) (((OpenSpec.ofChange Rows.relayedSpec).at F).post enc Tryz.prog Tryz.f15 false true false false) := by
  obtain ⟨places, hx⟩ := reads os enc
  refine returnsInHanded_of_row (C := Tryz.checked) (s := OpenSpec.ofChange Rows.relayedSpec) ownG started (by kernel_rfl) Tryz.func15
    (witness_row_at (enc := enc) (C := Tryz.checked) false (World.laidAll Tryz.prog os laidL) #[.slice none 0 0, .int .i64 0] (World.laidAll_os _ _ _) (laid_vars os _) (laid_rest os _) (by kernel_rfl)
      (OpenSpec.preRow_of_cond 8 hx (by kernel_rfl) (fun k hk => by cases hk) (by kernel_rfl) (laid_met os _))) ?_
  intro W base args ds gs before hval hW _ _ hz hL hS _
  exact contract H enc W base args ds gs before hval hW hz hL hS
theorem said : Rows.RelayedSaid :=
  OpenClaim.holds_of_cond 15 Tryz.f15 rfl rfl rfl rfl rfl rfl rfl ⟨rfl, rfl, rfl, rfl, rfl⟩ rfl rfl rfl rfl rfl (by kernel_rfl) Tryz.func15 (by kernel_rfl)
    (of_decide_eq_true (by kernel_rfl)) (by unfold Func.isWrapper; first | (rw [if_pos (by decide +kernel)]; kernel_rfl) | (rw [if_neg (by decide +kernel)]; exact ⟨rfl, rfl⟩))
    (fun os started H enc _ F => by rw [OpenClaim.pre_eq_preRow]; exact lifted os started H enc F)
theorem plain (f : FuncId) (fn : Func) (hf : Tryz.pinned.checked.prog.funcNamed "herald/heraldkeep.Relayed" = some f) (hfn : Tryz.pinned.checked.prog.funcs[f]? = some fn) :
    false = Tryz.pinned.checked.prog.looks [] ∧ ∀ (j : Nat) t, fn.params[j]? = some t → Tryz.pinned.checked.prog.wantsStandIn t = false := by
  obtain rfl : f = 15 := Option.some.inj ((show Tryz.prog.funcNamed "herald/heraldkeep.Relayed" = some 15 by kernel_rfl).symm.trans hf) |>.symm
  obtain rfl : fn = Tryz.f15 := (Option.some.inj (Tryz.func15.symm.trans hfn)).symm
  refine ⟨by kernel_rfl, fun j t ht => ?_⟩
  rw [Tryz.params15] at ht
  have hm := Array.mem_of_getElem? ht
  simp only [List.mem_toArray, List.mem_cons, List.not_mem_nil, or_false] at hm
  rcases hm with rfl | rfl
  · exact (show Tryz.prog.wantsStandIn 62 = false by kernel_rfl)
  · exact (show Tryz.prog.wantsStandIn 3 = false by kernel_rfl)
end Go.Proofs.YtdlhbmncbmconaaGreatDoor.relayed
namespace Go.Proofs.YtdlhbmncbmconaaGreatDoor
/-- THE CARD. -/
theorem relayed_holds : Rows.RelayedCardSaid :=
  Claim7.holds_tied_plain_at .later [] _ _ _ _ relayed.said (fun _ h => by cases h) (by kernel_rfl) (fun _ h => by cases h) relayed_row_tie rfl ⟨rfl, rfl⟩ (by kernel_rfl) rfl relayed.plain (by kernel_rfl)
end Go.Proofs.YtdlhbmncbmconaaGreatDoor

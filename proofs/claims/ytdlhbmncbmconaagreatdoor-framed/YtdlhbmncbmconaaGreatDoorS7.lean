/- Framed, of any texts and any kinds: the answer is true, and the arguments read as they did. No condition beside what the card itself says (the tables are as the program's text lays them). -/
import Derived.Test.YtdlhbmncbmconaaGreatDoorR13
import Derived.Test.YtdlhbmncbmconaaGreatDoorBs
import Derived.ChangeSlices
import Derived.SliceStrings
import Derived.SizedLaws
namespace Go.Proofs.YtdlhbmncbmconaaGreatDoor.framed
open Go.ChangeShapes Go.WideShapes Go.ChangeAt Go.RowKit Go.Lib
open Go.OpenShut

theorem two {α : Type} {xs : List α} (h : xs.length = 2) : ∃ a b, xs = [a, b] := by
  match xs, h with
  | [a, b], _ => exact ⟨a, b, rfl⟩
theorem cells_int : Tryz.prog.cellsOf 3 = 1 := by kernel_rfl
theorem cells_str : Tryz.prog.cellsOf 9 = 1 := by kernel_rfl
theorem bytes_int : Tryz.prog.bytesOf 3 = 8 := by kernel_rfl
theorem bytes_str : Tryz.prog.bytesOf 9 = 16 := by kernel_rfl
theorem mem_all {H : Type} {P : Program} {e : TypeId} {d : DataW H} {n : Nat} : ∀ {l : List (DataW H)}, d ∈ l → n ∈ d.weights P e → n ∈ DataW.weightsAll P e l
  | x :: r, h, hn => by
    simp only [DataW.weightsAll, List.mem_append]
    rcases List.mem_cons.1 h with rfl | h
    · exact .inl hn
    · exact .inr (mem_all h hn)
theorem ints_of {H : Type} {enc : TypeId × Value → H} {W : World} {v : Value} {d : DataW H} {p : List MemPlace} (h : DataW.Trod enc Tryz.prog W 0 (fun _ => true) true 44 v d p) (hone : v.cells = #[v]) (hd : ∀ n ∈ d.weights Tryz.prog 44, n ≤ reachBytes) :
    ∃ (ad : Option Addr) (cs : List Int) (cap : Nat), v = .slice ad cs.length cap ∧ IntsAt W ad cs := by
  obtain ⟨fuel, hf⟩ := h
  rw [hone] at hf
  rcases open_ints Tryz.underlying44 Tryz.underlying3 cells_int hf with ⟨hcs, hx⟩ | ⟨a, len, cap, zs, hcs, _, hl, hm, hz, hx, hcell, hwz⟩
  · have hv : v = .slice none 0 0 := by simpa using hcs
    exact ⟨none, [], 0, hv, fun j z hj => by simp at hj, by simp, by simp, by simp⟩
  · have hv : v = .slice (some a) len cap := by simpa using hcs
    have hd' : d = .slice (lits .i64 (zs.take len)) (lits .i64 (zs.drop len)) := congrArg Prod.fst hx
    have hzl : len ≤ zs.length := by rw [hz]; simpa using hl
    have hlen : (zs.take len).length = len := by simp; omega
    have hb : len ≤ 1000000000000000 := by
      rw [hd'] at hd
      have h8 := hd (((lits (H := H) .i64 (zs.take len)).length + (lits (H := H) .i64 (zs.drop len)).length) * Tryz.prog.bytesOf 3) (by simp [DataW.weights, Tryz.underlying44])
      rw [bytes_int] at h8
      have e : (lits (H := H) .i64 (zs.take len)).length = len := by rw [← hlen]; simp [lits]
      have := reachBytes_lt
      omega
    refine ⟨some a, zs.take len, cap, by rw [hlen]; exact hv, ?_, ?_, ?_, by omega⟩
    · intro j z hj
      have hj' : j < len := by have := (List.getElem?_eq_some_iff.1 hj).1; omega
      obtain ⟨b, off, rfl, hc⟩ := ints_at hcell (by omega)
      have hc := hc j (by omega)
      refine ⟨b, off, rfl, ?_⟩
      rw [List.getElem?_take, if_pos hj'] at hj
      rw [List.getD_eq_getElem?_getD, hj] at hc
      exact hc
    · intro z hz'
      have := hwz z (List.mem_of_mem_take hz')
      exact (bounds_i64 this).1
    · intro z hz'
      have := hwz z (List.mem_of_mem_take hz')
      exact (bounds_i64 this).2
theorem strs_of {H : Type} {enc : TypeId × Value → H} {W : World} {v : Value} {d : DataW H} {p : List MemPlace} (h : DataW.Trod enc Tryz.prog W 0 (fun _ => true) true 42 v d p) (hone : v.cells = #[v]) (hd : ∀ n ∈ d.weights Tryz.prog 42, n ≤ reachBytes) :
    ∃ (ad : Option Addr) (ts : List (List UInt8)) (cap : Nat), v = .slice ad ts.length cap ∧ StrsIn W ad ts := by
  obtain ⟨fuel, hf⟩ := h
  rw [hone] at hf
  rcases open_strings Tryz.underlying42 Tryz.underlying9 cells_str hf with ⟨hcs, hx⟩ | ⟨a, len, cap, ss, hcs, _, hl, hm, hz, hx, hcell, hsz⟩
  · have hv : v = .slice none 0 0 := by simpa using hcs
    exact ⟨none, [], 0, hv, fun j z hj => by simp at hj, by simp, by simp⟩
  · have hv : v = .slice (some a) len cap := by simpa using hcs
    have hd' : d = .slice (strs (ss.take len)) (strs (ss.drop len)) := congrArg Prod.fst hx
    have hzl : len ≤ ss.length := by rw [hz]; simpa using hl
    have hlen : (ss.take len).length = len := by simp; omega
    have hr := reachBytes_lt
    rw [hd'] at hd
    have hb : len ≤ 1000000000000000 := by
      have h8 := hd (((strs (H := H) (ss.take len)).length + (strs (H := H) (ss.drop len)).length) * Tryz.prog.bytesOf 9) (by simp [DataW.weights, Tryz.underlying42])
      rw [bytes_str] at h8
      have e : (strs (H := H) (ss.take len)).length = len := by rw [← hlen]; simp [strs]
      omega
    refine ⟨some a, (ss.take len).map (fun s => s.data.toList), cap, by rw [List.length_map, hlen]; exact hv, ?_, ?_, by rw [List.length_map]; omega⟩
    · intro j z hj
      have hj' : j < len := by have := (List.getElem?_eq_some_iff.1 hj).1; rw [List.length_map] at this; omega
      obtain ⟨b, off, spot⟩ := a
      have hspot : spot = none := by simpa [Addr.add] using World.cell?_spot (hcell 0 (by omega))
      subst hspot
      have hc := hcell j (by omega)
      rw [WideShapes.add_plain] at hc
      refine ⟨b, off, rfl, ?_⟩
      rw [List.getElem?_map, List.getElem?_take, if_pos hj'] at hj
      rw [List.getD_eq_getElem?_getD] at hc
      cases hs : ss[j]? with
      | none => rw [hs] at hj; cases hj
      | some s =>
        rw [hs] at hj hc
        cases hj
        exact hc
    · intro z hz'
      obtain ⟨s, hs, rfl⟩ := List.mem_map.1 hz'
      have := hd s.data.toList.length (by
        simp only [DataW.weights, Tryz.underlying42, List.mem_cons, List.mem_append]
        exact .inr (.inl (mem_all (d := .lit (.string s.data.toList)) (List.mem_map.2 ⟨s, hs, rfl⟩) (by simp [DataW.weights]))))
      omega

set_option maxRecDepth 100000 in
theorem contract (H : Type) (enc : TypeId × Value → H) (W : World) (base : Nat) (args : Array Value) (ds gs : List (DataW H)) (before : List MemPlace)
    (hval : ∀ (j : Nat) t v, Tryz.f11.params[j]? = some t → args[j]? = some v → Value.okWide Tryz.prog W .any base t v)
    (hW : DataW.Whole enc Tryz.prog Tryz.f11.params.toList Rows.framedSpec.vars false W args.toList ds gs before)
    (hz : (DataW.weightsEach Tryz.prog (Tryz.f11.params.toList ++ (OpenSpec.ofChange Rows.framedSpec).bare.plain.varTypes Tryz.prog) (ds ++ gs)).all (· ≤ reachBytes) = true) (hL : laidMetH Tryz.prog laidL W) (hS : W.ShapedOpen Tryz.prog) :
    Calls Tryz.prog 11 args W fun e W' => ∃ v, e = .returned v ∧ Rows.framedSpec.post enc Tryz.prog Tryz.f11 false true false false W args v W' := by
  have hT : Tabs W := tabs_laid hL hS
  have hW' := hW
  obtain ⟨p, q, hA0, hV, rfl, hfz, hnd⟩ := hW
  have hA : DataW.TrodAll enc Tryz.prog W 0 (fun _ => true) true Tryz.f11.params.toList args.toList ds p := hA0
  rw [Tryz.params11] at hA hval hz
  obtain ⟨v0, v1, d0, d1, p0, p1, rfl, rfl, rfl, h0, h1⟩ := trodAll_two hA
  obtain ⟨rfl, rfl⟩ := trodVars_none hV
  have hz' := fun (j : Nat) (t : TypeId) (d : DataW H) (ht) (hd) (n : Nat) (hn : n ∈ d.weights Tryz.prog t) => of_decide_eq_true (List.all_eq_true.1 hz n (DataW.weights_mem_each (j := j) ht hd n hn))
  obtain ⟨a0, l0, c0, hv0⟩ := okWide_slice Tryz.underlying42 (hval 0 42 v0 rfl rfl)
  obtain ⟨a1, l1, c1, hv1⟩ := okWide_slice Tryz.underlying44 (hval 1 44 v1 rfl rfl)
  obtain ⟨ad, ts, cap, rfl, hs⟩ := strs_of h0 (by rw [hv0]; rfl) (hz' 0 _ _ rfl rfl)
  obtain ⟨ad2, ks, cap2, rfl, hk⟩ := ints_of h1 (by rw [hv1]; rfl) (hz' 1 _ _ rfl rfl)
  refine (Framed_any ad ts cap ad2 ks cap2 W hT hs hk).mono fun e W' ⟨he, hbl⟩ => ?_
  subst he
  exact ⟨_, rfl, Hw.post_bool (t := 4) laidOut rfl hW' hbl (by rw [Tryz.params11]; decide +kernel) (by kernel_rfl) Tryz.underlying4 (fun xs hx => by obtain ⟨a, b, rfl⟩ := two hx; rfl) (fun xs hx => by obtain ⟨a, b, rfl⟩ := two hx; rfl) (fun xs hx => by obtain ⟨a, b, rfl⟩ := two hx; rfl)⟩
theorem reads (os : Os) {H : Type} (enc : TypeId × Value → H) : ∃ places, DataW.whole enc Tryz.prog ((World.laidAll Tryz.prog os laidL).forCall (fun _ _ => 0) ⟨#[], #[.slice none 0 0, .slice none 0 0], []⟩).memory Tryz.f11.params.toList Rows.framedSpec.vars false (#[.slice none 0 0, .slice none 0 0] : Array Value).toList 8 = some ([.nil, .nil], [], places) :=
  ⟨[], by kernel_rfl⟩
set_option maxRecDepth 100000 in
theorem lifted (os : Os) (started : os.Started) (H : Type) (enc : TypeId × Value → H) (F : Stop.Interp) :
    ReturnsInHanded {} Tryz.checked os 11 .any ((OpenSpec.ofChange Rows.framedSpec).preRow enc Tryz.prog Tryz.f11 Rows.framedRow.domain false Rows.framedRow.laid) (((OpenSpec.ofChange Rows.framedSpec).at F).post enc Tryz.prog Tryz.f11 false true false false) := by
  obtain ⟨places, hx⟩ := reads os enc
  refine returnsInHanded_of_row (C := Tryz.checked) (s := OpenSpec.ofChange Rows.framedSpec) ownG started (by kernel_rfl) Tryz.func11
    (witness_row_at (enc := enc) (C := Tryz.checked) false (World.laidAll Tryz.prog os laidL) #[.slice none 0 0, .slice none 0 0] (World.laidAll_os _ _ _) (laid_vars os _) (laid_rest os _) (by kernel_rfl)
      (OpenSpec.preRow_of_cond 8 hx (by kernel_rfl) (fun k hk => by cases hk) (by kernel_rfl) (laid_met os _))) ?_
  intro W base args ds gs before hval hW _ _ hz hL hS _
  exact contract H enc W base args ds gs before hval hW hz hL hS
theorem said : Rows.FramedSaid :=
  OpenClaim.holds_of_cond 11 Tryz.f11 rfl rfl rfl rfl rfl rfl rfl ⟨rfl, rfl, rfl, rfl, rfl⟩ rfl rfl rfl rfl rfl (by kernel_rfl) Tryz.func11 (by kernel_rfl)
    (of_decide_eq_true (by kernel_rfl)) (by unfold Func.isWrapper; first | (rw [if_pos (by decide +kernel)]; kernel_rfl) | (rw [if_neg (by decide +kernel)]; exact ⟨rfl, rfl⟩))
    (fun os started H enc _ F => by rw [OpenClaim.pre_eq_preRow]; exact lifted os started H enc F)
theorem plain (f : FuncId) (fn : Func) (hf : Tryz.pinned.checked.prog.funcNamed "herald/heraldkeep.Framed" = some f) (hfn : Tryz.pinned.checked.prog.funcs[f]? = some fn) :
    false = Tryz.pinned.checked.prog.looks [] ∧ ∀ (j : Nat) t, fn.params[j]? = some t → Tryz.pinned.checked.prog.wantsStandIn t = false := by
  obtain rfl : f = 11 := Option.some.inj ((show Tryz.prog.funcNamed "herald/heraldkeep.Framed" = some 11 by kernel_rfl).symm.trans hf) |>.symm
  obtain rfl : fn = Tryz.f11 := (Option.some.inj (Tryz.func11.symm.trans hfn)).symm
  refine ⟨by kernel_rfl, fun j t ht => ?_⟩
  rw [Tryz.params11] at ht
  have hm := Array.mem_of_getElem? ht
  simp only [List.mem_toArray, List.mem_cons, List.not_mem_nil, or_false] at hm
  rcases hm with rfl | rfl
  · exact (show Tryz.prog.wantsStandIn 42 = false by kernel_rfl)
  · exact (show Tryz.prog.wantsStandIn 44 = false by kernel_rfl)
end Go.Proofs.YtdlhbmncbmconaaGreatDoor.framed
namespace Go.Proofs.YtdlhbmncbmconaaGreatDoor
/-- THE CARD. -/
theorem framed_holds : Rows.FramedCardSaid :=
  Claim7.holds_tied_plain_at .later [] _ _ _ _ framed.said (fun _ h => by cases h) (by kernel_rfl) (fun _ h => by cases h) framed_row_tie rfl ⟨rfl, rfl⟩ (by kernel_rfl) rfl framed.plain (by kernel_rfl)
end Go.Proofs.YtdlhbmncbmconaaGreatDoor

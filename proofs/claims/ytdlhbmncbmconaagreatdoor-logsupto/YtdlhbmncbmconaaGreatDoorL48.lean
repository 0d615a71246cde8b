/- Logs, wherever what it reads is of bulk at most 1048576: the answer is true, and the arguments read as they did. -/
import Derived.Test.YtdlhbmncbmconaaGreatDoorL45
import Derived.Test.YtdlhbmncbmconaaGreatDoorL47
import Derived.Test.YtdlhbmncbmconaaGreatDoorL46
import Derived.ChangeSlices
import Derived.ChangeMaps5
import Derived.WideKeyArgs
namespace Go.Proofs.YtdlhbmncbmconaaGreatDoor.logs
open Go.ChangeShapes Go.WideShapes Go.ChangeAt Go.RowKit Go.Lib
open Go.OpenShut
theorem one {α:Type} {xs:List α} (h:xs.length=1):∃ a,xs=[a]:=by
 match xs,h with
 | [a],_=>exact ⟨a,rfl⟩
theorem bulks {H:Type} {l:List (DataW H)} (hk:Rows.uptoSmall H l=true):Rows.uptoBulkAll l<=1048576:=of_decide_eq_true hk
set_option maxRecDepth 100000 in
theorem contract (H:Type) (enc:TypeId × Value->H) (W:World) (base:Nat) (args:Array Value) (ds gs:List (DataW H)) (before:List MemPlace)
  (hval:∀ (j:Nat) t v,Tryz.f5.params[j]?=some t->args[j]?=some v->Value.okWide Tryz.prog W .any base t v)
  (hW:DataW.Whole enc Tryz.prog Tryz.f5.params.toList Rows.logsSpec.vars false W args.toList ds gs before) (hk:Rows.uptoSmall H (ds ++ gs)=true) (hL:laidMetH Tryz.prog laidL W) (hS:W.ShapedOpen Tryz.prog) :
  Calls Tryz.prog 5 args W fun e W'=>∃ v,e=.returned v/\Rows.logsSpec.post enc Tryz.prog Tryz.f5 false true false false W args v W':=by
 have hT:Tabs W:=tabs_laid hL hS
 have hW':=hW
 obtain ⟨p,q,hA0,hV,rfl,hfz,hnd⟩:=hW
 have hA:DataW.TrodAll enc Tryz.prog W 0 (fun _=>true) true Tryz.f5.params.toList args.toList ds p:=hA0
 rw [Tryz.params5] at hA hval
 obtain ⟨v0,d0,rfl,rfl,h0⟩:=trodAll_one hA
 obtain ⟨rfl,rfl⟩:=trodVars_none hV
 have hb:Rows.uptoBulk d0<=1048576:=Nat.le_trans (bulk_mem (by simp)) (bulks hk)
 obtain ⟨a1,l1,c1,hv1⟩:=okWide_slice Tryz.underlying22 (hval 0 22 v0 rfl rfl)
 obtain ⟨ad,ops,cap,rfl,hin⟩:=ops_of h0 (by rw [hv1];rfl) 1048576 hb
 refine (Logs_any ad ops cap W hT hT.size hin).mono fun e W' ⟨he,hbl⟩=>?_
 subst he
 exact ⟨_,rfl,Hw.post_bool (t:=4) laidOut rfl hW' hbl (by rw [Tryz.params5];decide +kernel) (by kernel_rfl) Tryz.underlying4 (fun xs hx=>by obtain ⟨a,rfl⟩:=one hx;rfl) (fun xs hx=>by obtain ⟨a,rfl⟩:=one hx;rfl) (fun xs hx=>by obtain ⟨a,rfl⟩:=one hx;rfl)⟩
theorem reads (os:Os) {H:Type} (enc:TypeId × Value->H):∃ places,DataW.whole enc Tryz.prog ((World.laidAll Tryz.prog os laidL).forCall (fun _ _=>0) ⟨#[],#[.slice none 0 0],[]⟩).memory Tryz.f5.params.toList Rows.logsSpec.vars false (#[.slice none 0 0]:Array Value).toList 8=some ([.nil],[],places):=
 ⟨[],by kernel_rfl⟩
set_option maxRecDepth 100000 in
theorem lifted (os:Os) (started:os.Started) (H:Type) (enc:TypeId × Value->H) (F:Stop.Interp) :
  ReturnsInHanded {} Tryz.checked os 5 .any ((Rows.OpenSpec.upto Rows.logsSpec).preRow enc Tryz.prog Tryz.f5 Rows.logsUptoRow.domain false Rows.logsUptoRow.laid) (((Rows.OpenSpec.upto Rows.logsSpec).at F).post enc Tryz.prog Tryz.f5 false true false false):=by
 obtain ⟨places,hx⟩:=reads os enc
 refine returnsInHanded_of_row (C:=Tryz.checked) (s:=Rows.OpenSpec.upto Rows.logsSpec) ownG started (by kernel_rfl) Tryz.func5
  (witness_row_at (enc:=enc) (C:=Tryz.checked) false (World.laidAll Tryz.prog os laidL) #[.slice none 0 0] (World.laidAll_os _ _ _) (laid_vars os _) (laid_rest os _) (by kernel_rfl)
   (OpenSpec.preRow_of_cond 8 hx (by kernel_rfl) (fun k hk=>by cases hk;kernel_rfl) (by kernel_rfl) (laid_met os _))) ?_
 intro W base args ds gs before hval hW _ hcond _ hL hS _
 exact contract H enc W base args ds gs before hval hW (hcond _ rfl) hL hS
theorem said:Rows.LogsUptoSaid:=
 OpenClaim.holds_of_cond 5 Tryz.f5 rfl rfl rfl rfl rfl rfl rfl ⟨rfl,rfl,rfl,rfl,rfl⟩ rfl rfl rfl rfl rfl (by kernel_rfl) Tryz.func5 closed3
  (of_decide_eq_true (by kernel_rfl)) (by unfold Func.isWrapper;first | (rw [if_pos (by decide +kernel)];kernel_rfl) | (rw [if_neg (by decide +kernel)];exact ⟨rfl,rfl⟩))
  (fun os started H enc _ F=>by rw [OpenClaim.pre_eq_preRow];exact lifted os started H enc F)
theorem plain (f:FuncId) (fn:Func) (hf:Tryz.pinned.checked.prog.funcNamed "herald/heraldlaw.Logs"=some f) (hfn:Tryz.pinned.checked.prog.funcs[f]?=some fn) :
  false=Tryz.pinned.checked.prog.looks []/\∀ (j:Nat) t,fn.params[j]?=some t->Tryz.pinned.checked.prog.wantsStandIn t=false:=by
 obtain rfl:f=5:=Option.some.inj ((show Tryz.prog.funcNamed "herald/heraldlaw.Logs"=some 5 by kernel_rfl).symm.trans hf) |>.symm
 obtain rfl:fn=Tryz.f5:=(Option.some.inj (Tryz.func5.symm.trans hfn)).symm
 refine ⟨by kernel_rfl,fun j t ht=>?_⟩
 rw [Tryz.params5] at ht
 have hm:=Array.mem_of_getElem? ht
 simp only [List.mem_toArray,List.mem_cons,List.not_mem_nil,or_false] at hm
 subst hm
 exact (show Tryz.prog.wantsStandIn 22=false by kernel_rfl)
end Go.Proofs.YtdlhbmncbmconaaGreatDoor.logs
namespace Go.Proofs.YtdlhbmncbmconaaGreatDoor
theorem logs_holds:Rows.LogsUptoCardSaid:=
 Claim7.holds_tied_plain_at .later [] _ _ _ _ logs.said (fun _ h=>by cases h) (by kernel_rfl) (fun _ h=>by cases h) logsUpto_row_tie rfl ⟨rfl,rfl⟩ (by kernel_rfl) rfl logs.plain (by kernel_rfl)
end Go.Proofs.YtdlhbmncbmconaaGreatDoor

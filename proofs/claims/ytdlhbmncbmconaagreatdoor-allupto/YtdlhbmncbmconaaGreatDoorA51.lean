/- All, wherever what it reads is of bulk at most 1048576: the answer is true, and the arguments read as they did. -/
import Derived.Test.YtdlhbmncbmconaaGreatDoorA48
import Derived.Test.YtdlhbmncbmconaaGreatDoorA50
import Derived.Test.YtdlhbmncbmconaaGreatDoorA49
namespace Go.Proofs.YtdlhbmncbmconaaGreatDoor.all
open Hw Go.Proofs.Z Go.ChangeAt Go.ChangeShapes Go.Lib Go.OpenShut Go.RowKit Go.WideShapes
theorem one{α:Type}{xs:List α}(h:xs.length=1):∃a,xs=[a]:=by
 match xs,h with
 |[a],_=>exact⟨a,rfl⟩
theorem bulks{H:Type}{l:List (DataW H)}(a:Rows.uptoSmall H l=true):Rows.uptoBulkAll l<=1048576:=of_decide_eq_true a
set_option maxRecDepth 100000 in
theorem contract(H:Type)(enc:TypeId×Value->H)(W:World)(d:Nat)(args:Array Value)(g m:List (DataW H))(b:List MemPlace)(c:∀(j:Nat) t v,Tryz.f16.params[j]?=some t->args[j]?=some v->Value.okWide Tryz.prog W .any d t v)(n:DataW.Whole enc Tryz.prog Tryz.f16.params.toList Rows.allSpec.vars false W args.toList g m b)(s:Rows.uptoSmall H (g++m)=true)(u:laidMetH Tryz.prog nX W)(w:W.ShapedOpen Tryz.prog):
  Calls Tryz.prog 16 args W fun e o=>∃v,e= .returned v/\Rows.allSpec.post enc Tryz.prog Tryz.f16 false true false false W args v o:=by
 have r:aJ W:=aCY u w;have h:=n;obtain⟨p,q,hA0,x,rfl,y,z⟩:=n;have hA:DataW.TrodAll enc Tryz.prog W 0 (fun _=>true) true Tryz.f16.params.toList args.toList g p:=hA0;rw[Tryz.params16]at hA c;obtain⟨v0,A,rfl,rfl,h0⟩:=trodAll_one hA;obtain⟨rfl,rfl⟩:=trodVars_none x;have B:Rows.uptoBulk A<=1048576:=Nat.le_trans (rG (by simp)) (bulks s);obtain⟨D,E,F,i⟩:=okWide_slice Tryz.underlying22 (c 0 22 v0 rfl rfl);obtain⟨C,ops,k,rfl,l⟩:=E8 h0 (by rw[i];rfl) 1048576 B;refine(aCK C ops k W r r.size l).mono fun e o⟨he,hbl⟩=>?_;subst he;exact⟨_,rfl,ZC (t:=4) aCX rfl h hbl (by rw[Tryz.params16];decide +kernel) (by kernel_rfl) Tryz.underlying4 (fun xs f=>by obtain⟨a,rfl⟩:=one f;rfl) (fun xs f=>by obtain⟨a,rfl⟩:=one f;rfl) (fun xs f=>by obtain⟨a,rfl⟩:=one f;rfl)⟩
theorem reads(os:Os){H:Type}(enc:TypeId×Value->H):∃a,DataW.whole enc Tryz.prog ((World.laidAll Tryz.prog os nX).forCall (fun _ _=>0) ⟨#[],#[.slice none 0 0],[]⟩).memory Tryz.f16.params.toList Rows.allSpec.vars false (#[.slice none 0 0]:Array Value).toList 8=some ([.nil],[],a):=
 ⟨[],by kernel_rfl⟩
set_option maxRecDepth 100000 in
theorem lifted(os:Os)(a:os.Started)(H:Type)(enc:TypeId×Value->H)(F:Stop.Interp):
  ReturnsInHanded {} Tryz.checked os 16 .any ((Rows.OpenSpec.upto Rows.allSpec).preRow enc Tryz.prog Tryz.f16 Rows.allUptoRow.domain false Rows.allUptoRow.laid) (((Rows.OpenSpec.upto Rows.allSpec).at F).post enc Tryz.prog Tryz.f16 false true false false):=by
 obtain⟨f,g⟩:=reads os enc;refine returnsInHanded_of_row (C:=Tryz.checked) (s:=Rows.OpenSpec.upto Rows.allSpec) aCW a (by kernel_rfl) Tryz.func16
  (witness_row_at (enc:=enc) (C:=Tryz.checked) false (World.laidAll Tryz.prog os nX) #[.slice none 0 0] (World.laidAll_os _ _ _) (aCZ os _) (aC0 os _) (by kernel_rfl)
   (OpenSpec.preRow_of_cond 8 g (by kernel_rfl) (fun k h=>by cases h;kernel_rfl) (by kernel_rfl) (RJ os _))) ?_
 intro W d args i j b e l _ c _ m n _;exact contract H enc W d args i j b e l (c _ rfl) m n
theorem said:Rows.AllUptoSaid:=
 OpenClaim.holds_of_cond 16 Tryz.f16 rfl rfl rfl rfl rfl rfl rfl ⟨rfl,rfl,rfl,rfl,rfl⟩ rfl rfl rfl rfl rfl (by kernel_rfl) Tryz.func16 closed3
  (of_decide_eq_true (by kernel_rfl)) (by unfold Func.isWrapper;first|(rw[if_pos (by decide +kernel)];kernel_rfl)|(rw[if_neg (by decide +kernel)];exact⟨rfl,rfl⟩))
  (fun os a H enc _ F=>by rw[OpenClaim.pre_eq_preRow];exact lifted os a H enc F)
theorem plain (f : FuncId) (fn : Func) (hf : Tryz.pinned.checked.prog.funcNamed "herald/heraldlaw.All" = some f) (hfn : Tryz.pinned.checked.prog.funcs[f]? = some fn) :
  false=Tryz.pinned.checked.prog.looks []/\∀(j:Nat) t,fn.params[j]?=some t->Tryz.pinned.checked.prog.wantsStandIn t=false:=by
 obtain rfl : f = 16 := Option.some.inj ((show Tryz.prog.funcNamed "herald/heraldlaw.All" = some 16 by kernel_rfl).symm.trans hf) |>.symm
 obtain rfl:fn=Tryz.f16:=(Option.some.inj (Tryz.func16.symm.trans hfn)).symm;refine⟨by kernel_rfl,fun j t ht=>?_⟩;rw[Tryz.params16]at ht;have hm:=Array.mem_of_getElem? ht;simp only[List.mem_toArray,List.mem_cons,List.not_mem_nil,or_false]at hm;subst hm;exact(show Tryz.prog.wantsStandIn 22=false by kernel_rfl)
end Go.Proofs.YtdlhbmncbmconaaGreatDoor.all
namespace Go.Proofs.YtdlhbmncbmconaaGreatDoor
theorem all_holds:Rows.AllUptoCardSaid:=
 Claim7.holds_tied_plain_at .later [] _ _ _ _ all.said (fun _ h=>by cases h) (by kernel_rfl) (fun _ h=>by cases h) allUpto_row_tie rfl ⟨rfl,rfl⟩ (by kernel_rfl) rfl all.plain (by kernel_rfl)
end Go.Proofs.YtdlhbmncbmconaaGreatDoor

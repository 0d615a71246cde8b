/- Pressed by program out of Ep Eq Er. -/
import Derived.Test.YtdlhbmncbmconaaGreatDoorL35
import Derived.Test.YtdlhbmncbmconaaGreatDoorL36
import Derived.Test.YtdlhbmncbmconaaGreatDoorL09
namespace Go.Hm
def exRu:List UInt8:=[42,46,100,101,98,117,103,32,100,114,111,112,10]
theorem exRu_rules:newRules exRu=.ok [⟨16777215,255,false⟩]:=by kernel_rfl
end Go.Hm
namespace Go.Proofs.YtdlhbmncbmconaaGreatDoor
open Go.RowKit Go.Sort
def opF:OpV:=⟨3,0,0,0,100,0,[],⟨0,0,[],[],[],[],[],[],[]⟩⟩
def opR:OpV:=⟨5,0,0,0,0,0,Hm.exRu,⟨0,0,[],[],[],[],[],[],[]⟩⟩
theorem opF_cells:opCells opF=#[.int .i64 3,.int .i64 0,.int .i64 0,.int .i64 0,.int .i64 100,.int .i64 0,.string ⟨#[]⟩,.int .i64 0,.int .i64 0,.string ⟨#[]⟩,.string ⟨#[]⟩,.string ⟨#[]⟩,.string ⟨#[]⟩,.string ⟨#[]⟩,.string ⟨#[]⟩,.string ⟨#[]⟩]:=rfl
theorem opR_cells:opCells opR=#[.int .i64 5,.int .i64 0,.int .i64 0,.int .i64 0,.int .i64 0,.int .i64 0,.string ⟨#[42,46,100,101,98,117,103,32,100,114,111,112,10]⟩,.int .i64 0,.int .i64 0,.string ⟨#[]⟩,.string ⟨#[]⟩,.string ⟨#[]⟩,.string ⟨#[]⟩,.string ⟨#[]⟩,.string ⟨#[]⟩,.string ⟨#[]⟩]:=rfl
end Go.Proofs.YtdlhbmncbmconaaGreatDoor
namespace Go.Proofs.YtdlhbmncbmconaaGreatDoor
open Go.RowKit Go.Sort
def sumS (ops:List OpV) (k:Nat):Nat:=((ops.take k).map fun o=>o.s.length).sum
theorem sumS_next {ops:List OpV} {k:Nat} {o:OpV} (h:ops[k]?=some o):sumS ops (k+1)=sumS ops k+o.s.length:=by
 unfold sumS
 rw [List.take_add_one,h]
 simp
theorem sumS_le (ops:List OpV) (k:Nat):sumS ops k<=(ops.map fun o=>o.s.length).sum:=by
 have h:=congrArg (fun l:List OpV=>(l.map fun o=>o.s.length).sum) (List.take_append_drop k ops)
 simp only [List.map_append,List.sum_append] at h
 unfold sumS
 omega
theorem OpsAt.mono {A B:Nat} {W:World} {ad:Option Addr} {ops:List OpV} (h:OpsAt A W ad ops) (hB:A<=B):OpsAt B W ad ops:=
 ⟨h.cells,fun o ho=>(h.small o ho).mono hB,Nat.le_trans h.most hB,Nat.le_trans h.sum hB⟩
end Go.Proofs.YtdlhbmncbmconaaGreatDoor

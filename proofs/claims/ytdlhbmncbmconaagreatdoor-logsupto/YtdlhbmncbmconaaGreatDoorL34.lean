/- Pressed by program out of Vr Vm. -/
import Derived.Test.YtdlhbmncbmconaaGreatDoorL07
import Derived.Test.YtdlhbmncbmconaaGreatDoorRows
import Derived.Deep.Slices
import Derived.Deep.MidRow
import Derived.SizedLaws
import Derived.OpenShut
namespace Go.Proofs.YtdlhbmncbmconaaGreatDoor
open Go.ChangeShapes Go.WideShapes
structure OpV where
 kind:Int
 w:Int
 v:Int
 u:Int
 n:Int
 m:Int
 s:List UInt8
 msg:Hm.Msg
def opCells (o:OpV):Array Value:=#[.int .i64 o.kind,.int .i64 o.w,.int .i64 o.v,.int .i64 o.u,.int .i64 o.n,.int .i64 o.m,.string ⟨o.s.toArray⟩,.int .i64 o.msg.fac,.int .i64 o.msg.sev,.string ⟨o.msg.time.toArray⟩,.string ⟨o.msg.host.toArray⟩,.string ⟨o.msg.app.toArray⟩,.string ⟨o.msg.proc.toArray⟩,.string ⟨o.msg.id.toArray⟩,.string ⟨o.msg.data.toArray⟩,.string ⟨o.msg.text.toArray⟩]
structure OpV.Small (B:Nat) (o:OpV):Prop where
 s:o.s.length<=B
 time:o.msg.time.length<=B
 host:o.msg.host.length<=B
 app:o.msg.app.length<=B
 proc:o.msg.proc.length<=B
 id:o.msg.id.length<=B
 data:o.msg.data.length<=B
 text:o.msg.text.length<=B
 iw:-9223372036854775808<=o.w/\o.w<=9223372036854775807
 iv:-9223372036854775808<=o.v/\o.v<=9223372036854775807
 iu:-9223372036854775808<=o.u/\o.u<=9223372036854775807
 inn:-9223372036854775808<=o.n/\o.n<=9223372036854775807
theorem OpV.Small.mono {B C:Nat} {o:OpV} (h:o.Small B) (hB:B<=C):o.Small C:=
 ⟨Nat.le_trans h.s hB,Nat.le_trans h.time hB,Nat.le_trans h.host hB,Nat.le_trans h.app hB,Nat.le_trans h.proc hB,Nat.le_trans h.id hB,Nat.le_trans h.data hB,Nat.le_trans h.text hB,h.iw,h.iv,h.iu,h.inn⟩
structure OpsAt (B:Nat) (W:World) (ad:Option Addr) (ops:List OpV):Prop where
 cells:∀ j o,ops[j]?=some o->∃ b off,ad=some ⟨b,off,none⟩/\W.rangeAt b (off+j * 16) (opCells o).toList
 small:∀ o ∈ ops,o.Small B
 most:ops.length<=B
 sum:(ops.map fun o=>o.s.length).sum<=B
theorem cells_op:Tryz.prog.cellsOf 82=16:=by kernel_rfl
theorem cells_rm:Tryz.prog.cellsOf 80=9:=by kernel_rfl
theorem cells_ar:Tryz.prog.cellsOf 78=4:=by kernel_rfl
theorem cells_i:Tryz.prog.cellsOf 3=1:=by kernel_rfl
theorem cells_s:Tryz.prog.cellsOf 9=1:=by kernel_rfl
theorem bulk_mem {H:Type} {d:DataW H}:∀ {l:List (DataW H)},d ∈ l->Rows.uptoBulk d<=Rows.uptoBulkAll l
 | x :: r,h=>by
  unfold Rows.uptoBulkAll
  rcases List.mem_cons.1 h with rfl | h
  ·omega
  ·have:=bulk_mem h;omega
theorem bulk_one {H:Type} (d:DataW H):1<=Rows.uptoBulk d:=by
 cases d with
 | lit l=>cases l<;>simp [Rows.uptoBulk]
 | nil=>simp [Rows.uptoBulk]
 | ptr d=>simp [Rows.uptoBulk]
 | slice elems spare=>simp [Rows.uptoBulk]
 | agg parts=>simp [Rows.uptoBulk]
 | iface t d=>simp [Rows.uptoBulk]
 | map entries=>simp [Rows.uptoBulk]
 | held h=>simp [Rows.uptoBulk]
theorem bulk_len {H:Type} (l:List (DataW H)):l.length<=Rows.uptoBulkAll l:=by
 induction l with
 | nil=>simp [Rows.uptoBulkAll]
 | cons x r ih=>have:=bulk_one x;simp only [Rows.uptoBulkAll,List.length_cons];omega
theorem bulk_slice {H:Type} (elems spare:List (DataW H)):Rows.uptoBulkAll elems<=Rows.uptoBulk (.slice elems spare):=by
 simp only [Rows.uptoBulk];omega
theorem bulk_agg {H:Type} (parts:List (DataW H)):Rows.uptoBulkAll parts<=Rows.uptoBulk (.agg parts):=by
 simp only [Rows.uptoBulk];omega
theorem bulk_str {H:Type} (s:List UInt8):s.length<=Rows.uptoBulk (DataW.lit (H:=H) (.string s)):=by
 simp [Rows.uptoBulk]
theorem wf_i64 {n:Int} (h:(Lit.int .i64 n).wf=true):-9223372036854775808<=n/\n<=9223372036854775807:=by
 have h:=Bool.and_eq_true_iff.1 h
 exact ⟨of_decide_eq_true h.1,of_decide_eq_true h.2⟩
theorem bulk_sum {H:Type} (D:Nat->DataW H) (R:Nat->OpV):∀ l:List Nat,(∀ i ∈ l,(R i).s.length<=Rows.uptoBulk (D i))->((l.map R).map fun o=>o.s.length).sum<=Rows.uptoBulkAll (l.map D)
 | [],_=>by simp
 | i :: l,h=>by
  have h1:=h i (by simp)
  have h2:=bulk_sum D R l (fun j hj=>h j (List.mem_cons_of_mem _ hj))
  simp only [List.map_cons,List.sum_cons,Rows.uptoBulkAll]
  omega
set_option linter.unusedSimpArgs false in
set_option maxRecDepth 20000 in
set_option maxHeartbeats 2000000 in
theorem op_open {H:Type} {enc:TypeId × Value->H} {W:World} {fuel:Nat} {cs:List Value} {x:DataW H × List MemPlace}
  (h:DataW.trod enc Tryz.prog W 0 (fun _=>true) true fuel 82 cs=some x) (B:Nat) (hB:Rows.uptoBulk x.1<=B):∃ o:OpV,cs=(opCells o).toList/\o.Small B:=by
 obtain ⟨xs,m,_,rfl,hlen,hxl,hf⟩:=DataW.trod_struct Tryz.underlying82 h
 rw [cells_op] at hlen
 match cs,hlen with
 | [c0,c1,c2,c3,c4,c5,c6,c7,c8,c9,c10,c11,c12,c13,c14,c15],_=>
 match xs,hxl with
 | [x0,x1,x2,x3,x4,x5,x6,x7],_=>
 have h0:DataW.trod enc Tryz.prog W 0 (fun _=>true) true m 3 (([c0,c1,c2,c3,c4,c5,c6,c7,c8,c9,c10,c11,c12,c13,c14,c15].drop 0).take (Tryz.prog.cellsOf 3))=some x0:=hf 0 _ rfl
 have h1:DataW.trod enc Tryz.prog W 0 (fun _=>true) true m 3 (([c0,c1,c2,c3,c4,c5,c6,c7,c8,c9,c10,c11,c12,c13,c14,c15].drop 1).take (Tryz.prog.cellsOf 3))=some x1:=hf 1 _ rfl
 have h2:DataW.trod enc Tryz.prog W 0 (fun _=>true) true m 3 (([c0,c1,c2,c3,c4,c5,c6,c7,c8,c9,c10,c11,c12,c13,c14,c15].drop 2).take (Tryz.prog.cellsOf 3))=some x2:=hf 2 _ rfl
 have h3:DataW.trod enc Tryz.prog W 0 (fun _=>true) true m 3 (([c0,c1,c2,c3,c4,c5,c6,c7,c8,c9,c10,c11,c12,c13,c14,c15].drop 3).take (Tryz.prog.cellsOf 3))=some x3:=hf 3 _ rfl
 have h4:DataW.trod enc Tryz.prog W 0 (fun _=>true) true m 3 (([c0,c1,c2,c3,c4,c5,c6,c7,c8,c9,c10,c11,c12,c13,c14,c15].drop 4).take (Tryz.prog.cellsOf 3))=some x4:=hf 4 _ rfl
 have h5:DataW.trod enc Tryz.prog W 0 (fun _=>true) true m 3 (([c0,c1,c2,c3,c4,c5,c6,c7,c8,c9,c10,c11,c12,c13,c14,c15].drop 5).take (Tryz.prog.cellsOf 3))=some x5:=hf 5 _ rfl
 have h6:DataW.trod enc Tryz.prog W 0 (fun _=>true) true m 9 (([c0,c1,c2,c3,c4,c5,c6,c7,c8,c9,c10,c11,c12,c13,c14,c15].drop 6).take (Tryz.prog.cellsOf 9))=some x6:=hf 6 _ rfl
 have h7:DataW.trod enc Tryz.prog W 0 (fun _=>true) true m 80 (([c0,c1,c2,c3,c4,c5,c6,c7,c8,c9,c10,c11,c12,c13,c14,c15].drop 7).take (Tryz.prog.cellsOf 80))=some x7:=hf 7 _ rfl
 simp only [cells_i,cells_s,cells_rm,List.drop_succ_cons,List.drop_zero,List.take_succ_cons,List.take_zero,List.getElem?_cons_zero,List.getElem?_cons_succ] at h0 h1 h2 h3 h4 h5 h6 h7
 obtain ⟨k0,e0,_,_⟩:=DataW.trod_int Tryz.underlying3 h0
 obtain ⟨k1,e1,_,wf1⟩:=DataW.trod_int Tryz.underlying3 h1
 obtain ⟨k2,e2,_,wf2⟩:=DataW.trod_int Tryz.underlying3 h2
 obtain ⟨k3,e3,_,wf3⟩:=DataW.trod_int Tryz.underlying3 h3
 obtain ⟨k4,e4,_,wf4⟩:=DataW.trod_int Tryz.underlying3 h4
 obtain ⟨k5,e5,_,_⟩:=DataW.trod_int Tryz.underlying3 h5
 obtain ⟨s6,e6,b6,_⟩:=DataW.trod_string Tryz.underlying9 h6
 obtain ⟨ys,m2,_,hy,_,hyl,hg⟩:=DataW.trod_struct Tryz.underlying80 h7
 match ys,hyl with
 | [y0,y1,y2,y3,y4,y5],_=>
 have g0:DataW.trod enc Tryz.prog W 0 (fun _=>true) true m2 3 (([c7,c8,c9,c10,c11,c12,c13,c14,c15].drop 0).take (Tryz.prog.cellsOf 3))=some y0:=hg 0 _ rfl
 have g1:DataW.trod enc Tryz.prog W 0 (fun _=>true) true m2 3 (([c7,c8,c9,c10,c11,c12,c13,c14,c15].drop 1).take (Tryz.prog.cellsOf 3))=some y1:=hg 1 _ rfl
 have g2:DataW.trod enc Tryz.prog W 0 (fun _=>true) true m2 9 (([c7,c8,c9,c10,c11,c12,c13,c14,c15].drop 2).take (Tryz.prog.cellsOf 9))=some y2:=hg 2 _ rfl
 have g3:DataW.trod enc Tryz.prog W 0 (fun _=>true) true m2 78 (([c7,c8,c9,c10,c11,c12,c13,c14,c15].drop 3).take (Tryz.prog.cellsOf 78))=some y3:=hg 3 _ rfl
 have g4:DataW.trod enc Tryz.prog W 0 (fun _=>true) true m2 9 (([c7,c8,c9,c10,c11,c12,c13,c14,c15].drop 7).take (Tryz.prog.cellsOf 9))=some y4:=hg 4 _ rfl
 have g5:DataW.trod enc Tryz.prog W 0 (fun _=>true) true m2 9 (([c7,c8,c9,c10,c11,c12,c13,c14,c15].drop 8).take (Tryz.prog.cellsOf 9))=some y5:=hg 5 _ rfl
 simp only [cells_i,cells_s,cells_ar,List.drop_succ_cons,List.drop_zero,List.take_succ_cons,List.take_zero,List.getElem?_cons_zero,List.getElem?_cons_succ] at g0 g1 g2 g3 g4 g5
 obtain ⟨q0,f0,_,_⟩:=DataW.trod_int Tryz.underlying3 g0
 obtain ⟨q1,f1,_,_⟩:=DataW.trod_int Tryz.underlying3 g1
 obtain ⟨t2,f2,b2,_⟩:=DataW.trod_string Tryz.underlying9 g2
 obtain ⟨t4,f4,b4,_⟩:=DataW.trod_string Tryz.underlying9 g4
 obtain ⟨t5,f5,b5,_⟩:=DataW.trod_string Tryz.underlying9 g5
 obtain ⟨zs,m3,_,hz,_,hzl,hp⟩:=DataW.trod_array Tryz.underlying78 g3
 match zs,hzl with
 | [z0,z1,z2,z3],_=>
 have p0:=hp 0 (by decide)
 have p1:=hp 1 (by decide)
 have p2:=hp 2 (by decide)
 have p3:=hp 3 (by decide)
 simp only [cells_s,Nat.zero_mul,Nat.one_mul,Nat.mul_one,List.drop_succ_cons,List.drop_zero,List.take_succ_cons,List.take_zero,List.getElem?_cons_zero,List.getElem?_cons_succ] at p0 p1 p2 p3
 obtain ⟨u0,v0,d0,_⟩:=DataW.trod_string Tryz.underlying9 p0
 obtain ⟨u1,v1,d1,_⟩:=DataW.trod_string Tryz.underlying9 p1
 obtain ⟨u2,v2,d2,_⟩:=DataW.trod_string Tryz.underlying9 p2
 obtain ⟨u3,v3,d3,_⟩:=DataW.trod_string Tryz.underlying9 p3
 simp only [List.cons.injEq,and_true] at e0 e1 e2 e3 e4 e5 e6 f0 f1 f2 f4 f5 v0 v1 v2 v3
 subst e0 e1 e2 e3 e4 e5 e6 f0 f1 f2 f4 f5 v0 v1 v2 v3
 have a7:Rows.uptoBulk x7.1<=B:=by
  have h1:=bulk_agg ([x0,x1,x2,x3,x4,x5,x6,x7].map (·.1))
  have h2:=bulk_mem (d:=x7.1) (l:=[x0,x1,x2,x3,x4,x5,x6,x7].map (·.1)) (by simp)
  dsimp only at hB
  omega
 have a6:Rows.uptoBulk x6.1<=B:=by
  have h1:=bulk_agg ([x0,x1,x2,x3,x4,x5,x6,x7].map (·.1))
  have h2:=bulk_mem (d:=x6.1) (l:=[x0,x1,x2,x3,x4,x5,x6,x7].map (·.1)) (by simp)
  dsimp only at hB
  omega
 rw [hy] at a7
 dsimp only at a7
 have hy3:∀ y ∈ [y0,y1,y2,y3,y4,y5],Rows.uptoBulk y.1<=B:=fun y hyy=>by
  have h1:=bulk_agg ([y0,y1,y2,y3,y4,y5].map (·.1))
  have h2:=bulk_mem (d:=y.1) (l:=[y0,y1,y2,y3,y4,y5].map (·.1)) (List.mem_map.2 ⟨y,hyy,rfl⟩)
  omega
 have c2:=hy3 y2 (by simp)
 have c3:=hy3 y3 (by simp)
 have c4:=hy3 y4 (by simp)
 have c5:=hy3 y5 (by simp)
 rw [hz] at c3
 dsimp only at c3
 have hz3:∀ z ∈ [z0,z1,z2,z3],Rows.uptoBulk z.1<=B:=fun z hzz=>by
  have h1:=bulk_agg ([z0,z1,z2,z3].map (·.1))
  have h2:=bulk_mem (d:=z.1) (l:=[z0,z1,z2,z3].map (·.1)) (List.mem_map.2 ⟨z,hzz,rfl⟩)
  omega
 have r0:=hz3 z0 (by simp)
 have r1:=hz3 z1 (by simp)
 have r2:=hz3 z2 (by simp)
 have r3:=hz3 z3 (by simp)
 rw [b6] at a6
 rw [b2] at c2
 rw [b4] at c4
 rw [b5] at c5
 rw [d0] at r0
 rw [d1] at r1
 rw [d2] at r2
 rw [d3] at r3
 refine ⟨⟨k0,k1,k2,k3,k4,k5,s6.data.toList,⟨q0,q1,t2.data.toList,u0.data.toList,u1.data.toList,u2.data.toList,u3.data.toList,t4.data.toList,t5.data.toList⟩⟩,?_,?_⟩
 ·simp [opCells]
 ·exact ⟨Nat.le_trans (bulk_str _) a6,Nat.le_trans (bulk_str _) c2,Nat.le_trans (bulk_str _) r0,Nat.le_trans (bulk_str _) r1,Nat.le_trans (bulk_str _) r2,Nat.le_trans (bulk_str _) r3,Nat.le_trans (bulk_str _) c4,Nat.le_trans (bulk_str _) c5,wf_i64 wf1,wf_i64 wf2,wf_i64 wf3,wf_i64 wf4⟩
theorem ops_of {H:Type} {enc:TypeId × Value->H} {W:World} {v:Value} {d:DataW H} {p:List MemPlace}
  (h:DataW.Trod enc Tryz.prog W 0 (fun _=>true) true 22 v d p) (hone:v.cells=#[v]) (B:Nat) (hd:Rows.uptoBulk d<=B) :
  ∃ (ad:Option Addr) (ops:List OpV) (cap:Nat),v=.slice ad ops.length cap/\OpsAt B W ad ops:=by
 obtain ⟨fuel,hfu⟩:=h
 rw [hone] at hfu
 rcases Go.Deep.open_slice Tryz.underlying22 hfu with ⟨hcs,hx⟩ | ⟨a,len,cap,m,n,D,Pl,hcs,hb,hl,hm,hmm,hx,hel⟩
 ·have hv:v=.slice none 0 0:=by simpa using hcs
  exact ⟨none,[],0,hv,fun j z hj=>by simp at hj,by simp,by simp,by simp⟩
 ·have hv:v=.slice (some a) len cap:=by simpa using hcs
  have hd':d=.slice ((List.range len).map D) ((List.range (m - len)).map fun j=>D (len+j)):=congrArg Prod.fst hx
  have hm':m=cap:=by simpa using hmm
  rw [hd'] at hd
  have hall:=Nat.le_trans (bulk_slice _ _) hd
  have hlen:len<=B:=by
   have:=bulk_len ((List.range len).map D)
   simp at this
   omega
  have each:∀ i,i < len->∃ o:OpV,(∀ j,j < 16->W.cell? ((a.add (i * 16)).add j)=(opCells o).toList[j]?)/\o.Small B/\o.s.length<=Rows.uptoBulk (D i):=by
   intro i hi
   obtain ⟨cs',h1,h2⟩:=hel i (by omega)
   rw [cells_op] at h1
   obtain ⟨_,hcl,hcell⟩:=World.cells?_some h1
   obtain ⟨o,ho,hs⟩:=op_open h2 (Rows.uptoBulk (D i)) (Nat.le_refl _)
   refine ⟨o,fun j hj=>?_,hs.mono (Nat.le_trans (bulk_mem (List.mem_map.2 ⟨i,by simpa using hi,rfl⟩)) hall),hs.s⟩
   rw [hcell j hj,ho]
  have inh:Inhabited OpV:=⟨⟨0,0,0,0,0,0,[],Hm.Msg.none⟩⟩
  obtain ⟨R,hR⟩:=Go.Deep.choose_lt each
  refine ⟨some a,(List.range len).map R,cap,by simpa using hv,?_,?_,by simpa using hlen,Nat.le_trans (bulk_sum D R _ (fun i hi=>(hR i (by simpa using hi)).2.2)) hall⟩
  ·intro j r hj
   have hjl:j < len:=by
    have:=(List.getElem?_eq_some_iff.1 hj).1
    simpa using this
   rw [List.getElem?_map,List.getElem?_range hjl] at hj
   have hrj:R j=r:=by simpa using hj
   obtain ⟨h2,h3⟩:=hR j hjl
   rw [hrj] at h2
   obtain ⟨b,off,spot⟩:=a
   obtain ⟨g2,_⟩:=hR 0 (by omega)
   have h20:=g2 0 (by decide)
   have hspot:spot=none:=by
    have:=World.cell?_spot (h20.trans rfl)
    simpa [Addr.add] using this
   subst hspot
   refine ⟨b,off,rfl,?_⟩
   intro j' v' hv'
   have hj':j' < 16:=(List.getElem?_eq_some_iff.1 hv').1
   have:=h2 j' hj'
   rw [add_plain,add_plain] at this
   rw [this,hv']
  ·intro r hr
   obtain ⟨i,hi,rfl⟩:=List.mem_map.1 hr
   exact (hR i (by simpa using hi)).2.1
end Go.Proofs.YtdlhbmncbmconaaGreatDoor

/- Pressed by program out of Fk Fl. -/
import Derived.Test.YtdlhbmncbmconaaGreatDoorL43
import Derived.Test.YtdlhbmncbmconaaGreatDoorL23
namespace Go.Proofs.YtdlhbmncbmconaaGreatDoor
open Go.RowKit Go.Sort
attribute [local go_sem] alloc_drewN setCell_drewN
theorem ocells16 {w:World} {g:Nat} {a0 a1 a2 a3 a4 a5 a6 a7 a8 a9 a10 a11 a12 a13 a14 a15:Value} {t:TypeId} {fr:Nat × Nat} (h:w.heap[g]?=some (.cells #[a0,a1,a2,a3,a4,a5,a6,a7,a8,a9,a10,a11,a12,a13,a14,a15] t fr)) :
  w.cell? ⟨g,0,none⟩=some a0/\w.cell? ⟨g,3,none⟩=some a3/\w.cell? ⟨g,4,none⟩=some a4/\w.cell? ⟨g,7,none⟩=some a7/\w.cell? ⟨g,8,none⟩=some a8/\w.cell? ⟨g,9,none⟩=some a9/\w.cell? ⟨g,10,none⟩=some a10/\w.cell? ⟨g,11,none⟩=some a11/\w.cell? ⟨g,12,none⟩=some a12/\w.cell? ⟨g,13,none⟩=some a13/\w.cell? ⟨g,14,none⟩=some a14/\w.cell? ⟨g,15,none⟩=some a15:=
 ⟨cell_of_row _ _ _ _ _ _ h,cell_of_row _ _ _ _ _ _ h,cell_of_row _ _ _ _ _ _ h,cell_of_row _ _ _ _ _ _ h,cell_of_row _ _ _ _ _ _ h,cell_of_row _ _ _ _ _ _ h,cell_of_row _ _ _ _ _ _ h,cell_of_row _ _ _ _ _ _ h,cell_of_row _ _ _ _ _ _ h,cell_of_row _ _ _ _ _ _ h,cell_of_row _ _ _ _ _ _ h,cell_of_row _ _ _ _ _ _ h⟩
structure LFine (R:Nat) (y:LLg):Prop where
 eq:y.h=y.g
 few:y.g.messages<=65535
 room:y.g.room<=8
 recl:y.g.records.length<=R
theorem LFine.mono {R S:Nat} {y:LLg} (h:LFine R y) (hR:R<=S):LFine S y:=⟨h.eq,h.few,h.room,Nat.le_trans h.recl hR⟩
theorem LFine.small {R:Nat} {y:LLg} (h:LFine R y) (hR:R<=800000000000):LgSmall y.g:=by
 have h1:=h.few
 have h2:=h.room
 have h3:=h.recl
 unfold Hm.Lg.messages at h1
 exact ⟨by omega,by omega,by omega,by omega⟩
theorem stepL_other {w w':World} {p:Nat} {g:Hm.Lg} {rv wv rv' wv':Value} (hf:LogIn w p g rv wv) (hS:StepL p rv wv w rv' wv' w') {k:Nat} {cur:Array Value} {t:TypeId} (hk:w.heap[k]?=some (.cells cur t (0,0))) (h1:t ≠ 116) (h2:t ≠ 5) (h3:t ≠ 9):w'.heap[k]?=w.heap[k]?:=by
 refine hS.kept.block k (Array.getElem?_eq_some_iff.1 hk).1 (fun e=>?_)
 rcases e with e | e | e
 ·exact ne_types hk hf.row h1 e
 ·obtain ⟨cur2,hc2⟩:=Hw.ownsRow_cells hf.recs e
  exact ne_types hk hc2 h2 rfl
 ·obtain ⟨_,cur2,hc2⟩:=Hw.ownsFrom_cells hf.wai e
  exact ne_types hk hc2 h3 rfl
set_option maxRecDepth 20000 in
set_option maxHeartbeats 8000000 in
theorem logged_put {B p:Nat} {frs:List LFr} {rus:List LRu} {lgs:List LLg} {L n R:Nat} {w:World} (h:LInv B p frs rus (LgP lgs) (pes lgs) (pfs lgs) L n w) (hT:Tabs w)
  (o:OpV) (hk:o.kind=8) (hou:-9223372036854775808<=o.u/\o.u<=9223372036854775807) (hpos:0 < lgs.length) (hlen:lgs.length<=4000000000) (hF:∀ y ∈ lgs,LFine R y) (hR:R<=800000000000) (hs:o.Small 1048576) :
  Calls Tryz.prog 73 #[.pointer (some ⟨p,0,none⟩),.agg (opCells o)] w fun e w'=>e=.returned (.bool true)/\Below B w w'/\∃ lgs':List LLg,lgs'.length=lgs.length/\(∀ y ∈ lgs',LFine (R+300) y)/\LInv B p frs rus (LgP lgs') (pes lgs') (pfs lgs') L n w':=by
 have PK:Hid (∀ w,Calls Tryz.prog 114 #[.int .i64 o.u,.int .i64 lgs.length] w fun e w'=>e=.returned (.int .i64 (Hm.pick o.u lgs.length))/\w'=w):=fun w=>lpick_any o.u lgs.length hpos hlen hou.1 hou.2 w
 have hilt:=Hm.pick_lt o.u hpos
 generalize Hm.pick o.u lgs.length=i at PK hilt
 obtain ⟨x,hx⟩:∃ x,lgs[i]?=some x:=⟨_,List.getElem?_eq_getElem hilt⟩
 have hfx:=hF x (List.mem_of_getElem? hx)
 have HF:Hid (∀ y ∈ lgs,LFine R y):=hF
 have HX:Hid (lgs[i]?=some x):=hx
 have HFX:Hid (LFine R x):=hfx
 have HR:Hid (R<=800000000000):=hR
 clear hF hou hfx hR
 have HH:Hid (LInv B p frs rus (LgP lgs) (pes lgs) (pfs lgs) L n w):=h
 clear h
 have hsm:=hs
 obtain ⟨G,A,E,hGAE⟩:∃ G A E,x.g.put o.msg=(G,A,E):=⟨_,_,_,rfl⟩
 have hpf:=Hm.put_fine x.g o.msg HFX.out.few
 rw [hGAE] at hpf
 have HPF:Hid (G.records.length<=x.g.records.length+300/\G.messages<=65535/\G.room=x.g.room):=hpf
 have PU0:Hid (∀ w,Tabs w->LogIn w x.p x.g x.rv x.wv->Calls Tryz.prog 43 #[.pointer (some ⟨x.p,0,none⟩),.agg (msgCells o.msg)] w fun e w'=>e=.returned (.tuple #[.int .i64 A,.int .i64 E])/\∃ rv' wv',LogIn w' x.p G rv' wv'/\StepL x.p x.rv x.wv w rv' wv' w'):=fun w hT hl=>by
  have:=Put_in x.p x.g x.rv x.wv w hT hl (HFX.out.small HR.out) o.msg (Nat.le_trans hsm.time (by omega)) (Nat.le_trans hsm.host (by omega)) (Nat.le_trans hsm.app (by omega)) (Nat.le_trans hsm.proc (by omega)) (Nat.le_trans hsm.id (by omega)) (Nat.le_trans hsm.data (by omega)) (Nat.le_trans hsm.text (by omega))
  rw [hGAE] at this
  exact this
 have RP0:Hid (∀ w,RLogAt w x.q x.h x.ls x.lv->Calls Tryz.prog 119 #[.pointer (some ⟨x.q,0,none⟩),.agg (msgCells o.msg)] w fun e w'=>e=.returned (.tuple #[.int .i64 A,.int .i64 E])/\∃ ls' lv',RLogAt w' x.q G ls' lv'/\StepR x.q x.lv w lv' w'):=fun w hl=>by
  have hl':=hl
  rw [HFX.out.eq] at hl'
  have:=rPut_any x.q o.msg x.g x.ls x.lv w hl' (Nat.le_trans hsm.time (by omega)) (Nat.le_trans hsm.host (by omega)) (Nat.le_trans hsm.app (by omega)) (Nat.le_trans hsm.proc (by omega)) (Nat.le_trans hsm.id (by omega)) (Nat.le_trans hsm.data (by omega)) (Nat.le_trans hsm.text (by omega)) (by have:=HFX.out.recl;have:=HR.out;omega) (by have:=hl'.len;have:=HFX.out.few;omega)
  rw [hGAE] at this
  exact this
 have ME:Hid (∀ w,Calls Tryz.prog 112 #[.agg (msgCells o.msg)] w fun r w'=>r=.returned (.agg (msgCells o.msg))/\Below w.heap.size w w'):=fun w=>message_any o.msg w
 have NU:Hid (∀ w,Calls Tryz.prog 107 #[.int .i64 (E:Int)] w fun r w'=>r=.returned (.int .i64 (E:Int))/\w'=w):=fun w=>lnum_any E w
 clear hsm hs hGAE hpf
 obtain ⟨kd,a,b,c,mm,q,s,⟨f,sv,t,h1,h2,h3,h4,d,tx⟩⟩:=o
 dsimp only at hk PK PU0 RP0 ME
 subst hk
 unfold opCells
 unfold msgCells at PU0 RP0 ME
 dsimp only at PU0 RP0 ME ⊢
 have hii:(i:Int) < (lgs.length:Int):=by omega
 go_enter Tryz.func73,Tryz.ntmps73
 go_wp2_with fail
 generalize hW:w.alloc _=W
 have HB0:Hid (Below w.heap.size w W):=by
  show Below _ _ _
  rw [<-hW]
  exact (Below.refl _ _).alloc (Nat.le_refl _) _
 have HR0:Hid (W.heap[w.heap.size]?=some (.cells #[.int .i64 8,.int .i64 a,.int .i64 b,.int .i64 c,.int .i64 mm,.int .i64 q,.string ⟨s.toArray⟩,.int .i64 f,.int .i64 sv,.string ⟨t.toArray⟩,.string ⟨h1.toArray⟩,.string ⟨h2.toArray⟩,.string ⟨h3.toArray⟩,.string ⟨h4.toArray⟩,.string ⟨d.toArray⟩,.string ⟨tx.toArray⟩] 82 (0,0))):=by
  show _=_
  rw [<-hW]
  exact heap_alloc_new _ _
 clear hW
 have hz0:w.heap.size < W.heap.size:=(Array.getElem?_eq_some_iff.1 HR0.out).1
 have HL0:Hid (LInv B p frs rus (LgP lgs) (pes lgs) (pfs lgs) L n W):=HH.out.next HB0.out
 have HTW:Hid (Tabs W):=hT.next HB0.out
 have hBW:Hid (B<=W.heap.size):=show B<=W.heap.size by have:=HH.out.le;have:=HH.out.lt;omega
 obtain ⟨g4,cap4,g5,cap5,c4,s4,c5,s5,hf0,hr0⟩:=HL0.out.fresh.logAt HX.out
 unfold ptrV at s4 s5
 obtain ⟨y0,y3,y4,y7,y8,y9,y10,y11,y12,y13,y14,y15⟩:=ocells16 HR0.out
 have PU:Hid (∀ w':World,Below W.heap.size W w'->Calls Tryz.prog 43 #[.pointer (some ⟨x.p,0,none⟩),.agg #[.int .i64 f,.int .i64 sv,.string ⟨t.toArray⟩,.string ⟨h1.toArray⟩,.string ⟨h2.toArray⟩,.string ⟨h3.toArray⟩,.string ⟨h4.toArray⟩,.string ⟨d.toArray⟩,.string ⟨tx.toArray⟩]] w' fun e w1=>e=.returned (.tuple #[.int .i64 A,.int .i64 E])/\∃ rv wv,LInv B p frs rus (LgP (lgs.set i ⟨x.p,x.q,G,x.h,x.ls,rv,wv,x.lv⟩)) (pes (lgs.set i ⟨x.p,x.q,G,x.h,x.ls,rv,wv,x.lv⟩)) (pfs (lgs.set i ⟨x.p,x.q,G,x.h,x.ls,rv,wv,x.lv⟩)) L n w1/\Below B W w1/\w1.heap[w.heap.size]?=W.heap[w.heap.size]?):=fun w' hb'=>by
  have hl':=hf0.below hb'
  refine (PU0.out w' (HTW.out.next hb') hl').mono ?_
  rintro e w1 ⟨rfl,rv,wv,hl1,hS1⟩
  obtain ⟨q1,q2⟩:=(HL0.out.next hb').logP HX.out hS1 hl1
  have e1:=hb'.block w.heap.size hz0
  exact ⟨rfl,rv,wv,q1,(hb'.mono hBW.out).trans q2,(stepL_other hl' hS1 (e1.trans HR0.out) (by decide) (by decide) (by decide)).trans e1⟩
 have RP:Hid (∀ (w':World) (rv wv:Value),LInv B p frs rus (LgP (lgs.set i ⟨x.p,x.q,G,x.h,x.ls,rv,wv,x.lv⟩)) (pes (lgs.set i ⟨x.p,x.q,G,x.h,x.ls,rv,wv,x.lv⟩)) (pfs (lgs.set i ⟨x.p,x.q,G,x.h,x.ls,rv,wv,x.lv⟩)) L n w'->Calls Tryz.prog 119 #[.pointer (some ⟨x.q,0,none⟩),.agg #[.int .i64 f,.int .i64 sv,.string ⟨t.toArray⟩,.string ⟨h1.toArray⟩,.string ⟨h2.toArray⟩,.string ⟨h3.toArray⟩,.string ⟨h4.toArray⟩,.string ⟨d.toArray⟩,.string ⟨tx.toArray⟩]] w' fun e w1=>e=.returned (.tuple #[.int .i64 A,.int .i64 E])/\∃ ls lv,LInv B p frs rus (LgP (lgs.set i ⟨x.p,x.q,G,G,ls,rv,wv,lv⟩)) (pes (lgs.set i ⟨x.p,x.q,G,G,ls,rv,wv,lv⟩)) (pfs (lgs.set i ⟨x.p,x.q,G,G,ls,rv,wv,lv⟩)) L n w1/\Below B w' w1):=fun w' rv wv hL'=>by
  have hx1:(lgs.set i ⟨x.p,x.q,G,x.h,x.ls,rv,wv,x.lv⟩)[i]?=some ⟨x.p,x.q,G,x.h,x.ls,rv,wv,x.lv⟩:=by simp [hilt]
  obtain ⟨_,_,_,_,_,_,_,_,_,hr1⟩:=hL'.fresh.logAt hx1
  refine (RP0.out w' hr1).mono ?_
  rintro e w1 ⟨rfl,ls',lv',hl1,hS1⟩
  obtain ⟨q1,q2⟩:=hL'.logR hx1 hS1 hl1
  rw [List.set_set] at q1
  exact ⟨rfl,ls',lv',q1,q2⟩
 clear hf0 hr0 PU0 RP0
 go_quiet ((go_at_call 114;exact Calls.quiet_of_same (PK.out _)))
 go_wp2_with fail
 refine (ME.out _).mono ?_
 rintro e w1 ⟨rfl,hb1⟩
 have HB1:Hid (Below W.heap.size W w1):=Below.next (drew_below ⟨_,rfl⟩) (Nat.le_refl _) hb1
 clear hb1 y0 y3 y4 y7 y8 y9 y10 y11 y12 y13 y14 y15 c4 s4 c5 s5
 go_wp2_with fail
 refine (PU.out _ HB1.out).mono ?_
 rintro e w2 ⟨rfl,rv2,wv2,hl2,hb2,ho2⟩
 have HL2:Hid (LInv B p frs rus (LgP (lgs.set i ⟨x.p,x.q,G,x.h,x.ls,rv2,wv2,x.lv⟩)) (pes (lgs.set i ⟨x.p,x.q,G,x.h,x.ls,rv2,wv2,x.lv⟩)) (pfs (lgs.set i ⟨x.p,x.q,G,x.h,x.ls,rv2,wv2,x.lv⟩)) L n w2):=hl2
 have HB2:Hid (Below B W w2):=hb2
 obtain ⟨y0,y3,y4,y7,y8,y9,y10,y11,y12,y13,y14,y15⟩:=ocells16 (ho2.trans HR0.out)
 clear hl2 hb2 ho2
 go_wp2_with fail
 refine (RP.out _ _ _ HL2.out).mono ?_
 rintro e w3 ⟨rfl,ls3,lv3,hl3,hb3⟩
 have HL3:Hid (LInv B p frs rus (LgP (lgs.set i ⟨x.p,x.q,G,G,ls3,rv2,wv2,lv3⟩)) (pes (lgs.set i ⟨x.p,x.q,G,G,ls3,rv2,wv2,lv3⟩)) (pfs (lgs.set i ⟨x.p,x.q,G,G,ls3,rv2,wv2,lv3⟩)) L n w3):=hl3
 have HB3:Hid (Below B w w3):=((HB0.out.mono (by have:=HH.out.le;have:=HH.out.lt;omega)).trans HB2.out).trans hb3
 clear hl3 hb3 y0 y3 y4 y7 y8 y9 y10 y11 y12 y13 y14 y15
 go_wp2_with fail
 refine (NU.out _).mono ?_
 rintro e w4 ⟨rfl,hw4⟩
 have hw4:=hw4.symm
 subst hw4
 go_wp2
 go_ret
 refine ⟨rfl,HB3.out,_,by simp,fun z hz=>?_,HL3.out⟩
 rcases List.mem_or_eq_of_mem_set hz with hz | rfl
 ·exact (HF.out z hz).mono (by omega)
 ·exact ⟨rfl,HPF.out.2.1,by rw [HPF.out.2.2];exact HFX.out.room,by have:=HPF.out.1;have:=HFX.out.recl;dsimp only;omega⟩
end Go.Proofs.YtdlhbmncbmconaaGreatDoor
namespace Go.Proofs.YtdlhbmncbmconaaGreatDoor
open Go.RowKit Go.Sort
attribute [local go_sem] alloc_drewN setCell_drewN
set_option maxRecDepth 20000 in
set_option maxHeartbeats 8000000 in
theorem logged_ack {B p:Nat} {frs:List LFr} {rus:List LRu} {lgs:List LLg} {L n R:Nat} {w:World} (h:LInv B p frs rus (LgP lgs) (pes lgs) (pfs lgs) L n w) (hT:Tabs w)
  (o:OpV) (hk:o.kind=9) (hou:-9223372036854775808<=o.u/\o.u<=9223372036854775807) (hpos:0 < lgs.length) (hlen:lgs.length<=4000000000) (hF:∀ y ∈ lgs,LFine R y) (hR:R<=800000000000) (hon:-9223372036854775808<=o.n/\o.n<=9223372036854775807) :
  Calls Tryz.prog 73 #[.pointer (some ⟨p,0,none⟩),.agg (opCells o)] w fun e w'=>e=.returned (.bool true)/\Below B w w'/\∃ lgs':List LLg,lgs'.length=lgs.length/\(∀ y ∈ lgs',LFine (R+300) y)/\LInv B p frs rus (LgP lgs') (pes lgs') (pfs lgs') L n w':=by
 have PK:Hid (∀ w,Calls Tryz.prog 114 #[.int .i64 o.u,.int .i64 lgs.length] w fun e w'=>e=.returned (.int .i64 (Hm.pick o.u lgs.length))/\w'=w):=fun w=>lpick_any o.u lgs.length hpos hlen hou.1 hou.2 w
 have hilt:=Hm.pick_lt o.u hpos
 generalize Hm.pick o.u lgs.length=i at PK hilt
 obtain ⟨x,hx⟩:∃ x,lgs[i]?=some x:=⟨_,List.getElem?_eq_getElem hilt⟩
 have hfx:=hF x (List.mem_of_getElem? hx)
 have HF:Hid (∀ y ∈ lgs,LFine R y):=hF
 have HX:Hid (lgs[i]?=some x):=hx
 have HFX:Hid (LFine R x):=hfx
 have HR:Hid (R<=800000000000):=hR
 clear hF hou hfx hR
 have HH:Hid (LInv B p frs rus (LgP lgs) (pes lgs) (pfs lgs) L n w):=h
 clear h
 obtain ⟨G,E,hGE⟩:∃ G E,x.g.ack o.n=(G,E):=⟨_,_,rfl⟩
 have hpf:=Hm.ack_fine x.g o.n HFX.out.few
 rw [hGE] at hpf
 have HPF:Hid (G.records.length<=x.g.records.length+300/\G.messages<=65535/\G.room=x.g.room):=hpf
 have PU0:Hid (∀ w,LogIn w x.p x.g x.rv x.wv->Calls Tryz.prog 64 #[.pointer (some ⟨x.p,0,none⟩),.int .i64 o.n] w fun e w'=>e=.returned (.int .i64 E)/\∃ rv' wv',LogIn w' x.p G rv' wv'/\StepL x.p x.rv x.wv w rv' wv' w'):=fun w hl=>by
  have:=Ack_in x.p x.g x.rv x.wv w hl (HFX.out.small HR.out) o.n hon.1 hon.2
  rw [hGE] at this
  exact this
 have RP0:Hid (∀ w,RLogAt w x.q x.h x.ls x.lv->Calls Tryz.prog 120 #[.pointer (some ⟨x.q,0,none⟩),.int .i64 o.n] w fun e w'=>e=.returned (.int .i64 E)/\RLogAt w' x.q G x.ls x.lv/\StepR x.q x.lv w x.lv w'):=fun w hl=>by
  have hl':=hl
  rw [HFX.out.eq] at hl'
  have:=rAck_any x.q o.n x.g x.ls x.lv w hl' (by have:=HFX.out.recl;have:=HR.out;omega) (by have:=hl'.len;have:=HFX.out.few;omega)
  rw [hGE] at this
  exact this
 have NU:Hid (∀ w,Calls Tryz.prog 107 #[.int .i64 (E:Int)] w fun r w'=>r=.returned (.int .i64 (E:Int))/\w'=w):=fun w=>lnum_any E w
 clear hon hGE hpf
 obtain ⟨kd,a,b,c,mm,q,s,⟨f,sv,t,h1,h2,h3,h4,d,tx⟩⟩:=o
 dsimp only at hk PK PU0 RP0
 subst hk
 unfold opCells
 dsimp only
 have hii:(i:Int) < (lgs.length:Int):=by omega
 go_enter Tryz.func73,Tryz.ntmps73
 go_wp2_with fail
 generalize hW:w.alloc _=W
 have HB0:Hid (Below w.heap.size w W):=by
  show Below _ _ _
  rw [<-hW]
  exact (Below.refl _ _).alloc (Nat.le_refl _) _
 have HR0:Hid (W.heap[w.heap.size]?=some (.cells #[.int .i64 9,.int .i64 a,.int .i64 b,.int .i64 c,.int .i64 mm,.int .i64 q,.string ⟨s.toArray⟩,.int .i64 f,.int .i64 sv,.string ⟨t.toArray⟩,.string ⟨h1.toArray⟩,.string ⟨h2.toArray⟩,.string ⟨h3.toArray⟩,.string ⟨h4.toArray⟩,.string ⟨d.toArray⟩,.string ⟨tx.toArray⟩] 82 (0,0))):=by
  show _=_
  rw [<-hW]
  exact heap_alloc_new _ _
 clear hW
 have hz0:w.heap.size < W.heap.size:=(Array.getElem?_eq_some_iff.1 HR0.out).1
 have HL0:Hid (LInv B p frs rus (LgP lgs) (pes lgs) (pfs lgs) L n W):=HH.out.next HB0.out
 have HTW:Hid (Tabs W):=hT.next HB0.out
 have hBW:Hid (B<=W.heap.size):=show B<=W.heap.size by have:=HH.out.le;have:=HH.out.lt;omega
 obtain ⟨g4,cap4,g5,cap5,c4,s4,c5,s5,hf0,hr0⟩:=HL0.out.fresh.logAt HX.out
 unfold ptrV at s4 s5
 obtain ⟨y0,y3,y4,y7,y8,y9,y10,y11,y12,y13,y14,y15⟩:=ocells16 HR0.out
 have PU:Hid (∀ w':World,Below W.heap.size W w'->Calls Tryz.prog 64 #[.pointer (some ⟨x.p,0,none⟩),.int .i64 mm] w' fun e w1=>e=.returned (.int .i64 E)/\∃ rv wv,LInv B p frs rus (LgP (lgs.set i ⟨x.p,x.q,G,x.h,x.ls,rv,wv,x.lv⟩)) (pes (lgs.set i ⟨x.p,x.q,G,x.h,x.ls,rv,wv,x.lv⟩)) (pfs (lgs.set i ⟨x.p,x.q,G,x.h,x.ls,rv,wv,x.lv⟩)) L n w1/\Below B W w1/\w1.heap[w.heap.size]?=W.heap[w.heap.size]?):=fun w' hb'=>by
  have hl':=hf0.below hb'
  refine (PU0.out w' hl').mono ?_
  rintro e w1 ⟨rfl,rv,wv,hl1,hS1⟩
  obtain ⟨q1,q2⟩:=(HL0.out.next hb').logP HX.out hS1 hl1
  have e1:=hb'.block w.heap.size hz0
  exact ⟨rfl,rv,wv,q1,(hb'.mono hBW.out).trans q2,(stepL_other hl' hS1 (e1.trans HR0.out) (by decide) (by decide) (by decide)).trans e1⟩
 have RP:Hid (∀ (w':World) (rv wv:Value),LInv B p frs rus (LgP (lgs.set i ⟨x.p,x.q,G,x.h,x.ls,rv,wv,x.lv⟩)) (pes (lgs.set i ⟨x.p,x.q,G,x.h,x.ls,rv,wv,x.lv⟩)) (pfs (lgs.set i ⟨x.p,x.q,G,x.h,x.ls,rv,wv,x.lv⟩)) L n w'->Calls Tryz.prog 120 #[.pointer (some ⟨x.q,0,none⟩),.int .i64 mm] w' fun e w1=>e=.returned (.int .i64 E)/\LInv B p frs rus (LgP (lgs.set i ⟨x.p,x.q,G,G,x.ls,rv,wv,x.lv⟩)) (pes (lgs.set i ⟨x.p,x.q,G,G,x.ls,rv,wv,x.lv⟩)) (pfs (lgs.set i ⟨x.p,x.q,G,G,x.ls,rv,wv,x.lv⟩)) L n w1/\Below B w' w1):=fun w' rv wv hL'=>by
  have hx1:(lgs.set i ⟨x.p,x.q,G,x.h,x.ls,rv,wv,x.lv⟩)[i]?=some ⟨x.p,x.q,G,x.h,x.ls,rv,wv,x.lv⟩:=by simp [hilt]
  obtain ⟨_,_,_,_,_,_,_,_,_,hr1⟩:=hL'.fresh.logAt hx1
  refine (RP0.out w' hr1).mono ?_
  rintro e w1 ⟨rfl,hl1,hS1⟩
  obtain ⟨q1,q2⟩:=hL'.logR hx1 hS1 hl1
  rw [List.set_set] at q1
  exact ⟨rfl,q1,q2⟩
 clear hf0 hr0 PU0 RP0
 go_quiet ((go_at_call 114;exact Calls.quiet_of_same (PK.out _)))
 go_wp2_with fail
 refine (PU.out _ (drew_below ⟨_,rfl⟩)).mono ?_
 rintro e w2 ⟨rfl,rv2,wv2,hl2,hb2,ho2⟩
 have HL2:Hid (LInv B p frs rus (LgP (lgs.set i ⟨x.p,x.q,G,x.h,x.ls,rv2,wv2,x.lv⟩)) (pes (lgs.set i ⟨x.p,x.q,G,x.h,x.ls,rv2,wv2,x.lv⟩)) (pfs (lgs.set i ⟨x.p,x.q,G,x.h,x.ls,rv2,wv2,x.lv⟩)) L n w2):=hl2
 have HB2:Hid (Below B W w2):=hb2
 clear y0 y3 y4 y7 y8 y9 y10 y11 y12 y13 y14 y15 c4 s4 c5 s5
 obtain ⟨y0,y3,y4,y7,y8,y9,y10,y11,y12,y13,y14,y15⟩:=ocells16 (ho2.trans HR0.out)
 clear hl2 hb2 ho2
 go_wp2_with fail
 refine (RP.out _ _ _ HL2.out).mono ?_
 rintro e w3 ⟨rfl,hl3,hb3⟩
 have HL3:Hid (LInv B p frs rus (LgP (lgs.set i ⟨x.p,x.q,G,G,x.ls,rv2,wv2,x.lv⟩)) (pes (lgs.set i ⟨x.p,x.q,G,G,x.ls,rv2,wv2,x.lv⟩)) (pfs (lgs.set i ⟨x.p,x.q,G,G,x.ls,rv2,wv2,x.lv⟩)) L n w3):=hl3
 have HB3:Hid (Below B w w3):=((HB0.out.mono (by have:=HH.out.le;have:=HH.out.lt;omega)).trans HB2.out).trans hb3
 clear hl3 hb3 y0 y3 y4 y7 y8 y9 y10 y11 y12 y13 y14 y15
 go_wp2_with fail
 refine (NU.out _).mono ?_
 rintro e w4 ⟨rfl,hw4⟩
 have hw4:=hw4.symm
 subst hw4
 go_wp2
 go_ret
 refine ⟨rfl,HB3.out,_,by simp,fun z hz=>?_,HL3.out⟩
 rcases List.mem_or_eq_of_mem_set hz with hz | rfl
 ·exact (HF.out z hz).mono (by omega)
 ·exact ⟨rfl,HPF.out.2.1,by rw [HPF.out.2.2];exact HFX.out.room,by have:=HPF.out.1;have:=HFX.out.recl;dsimp only;omega⟩
set_option maxRecDepth 20000 in
set_option maxHeartbeats 8000000 in
theorem logged_waiting {B p:Nat} {frs:List LFr} {rus:List LRu} {lgs:List LLg} {L n R:Nat} {w:World} (h:LInv B p frs rus (LgP lgs) (pes lgs) (pfs lgs) L n w) (hT:Tabs w)
  (o:OpV) (hk:o.kind=10) (hou:-9223372036854775808<=o.u/\o.u<=9223372036854775807) (hpos:0 < lgs.length) (hlen:lgs.length<=4000000000) (hF:∀ y ∈ lgs,LFine R y) (hR:R<=800000000000) (hn:n<=1000000000) (hL:L<=1000000000000) :
  Calls Tryz.prog 73 #[.pointer (some ⟨p,0,none⟩),.agg (opCells o)] w fun e w'=>e=.returned (.bool true)/\Below B w w'/\LInv B p frs rus (LgP lgs) (pes lgs) (pfs lgs) (L+9) (n+1) w':=by
 have PK:Hid (∀ w,Calls Tryz.prog 114 #[.int .i64 o.u,.int .i64 lgs.length] w fun e w'=>e=.returned (.int .i64 (Hm.pick o.u lgs.length))/\w'=w):=fun w=>lpick_any o.u lgs.length hpos hlen hou.1 hou.2 w
 have hilt:=Hm.pick_lt o.u hpos
 generalize Hm.pick o.u lgs.length=i at PK hilt
 obtain ⟨x,hx⟩:∃ x,lgs[i]?=some x:=⟨_,List.getElem?_eq_getElem hilt⟩
 have hfx:=hF x (List.mem_of_getElem? hx)
 have HF:Hid (∀ y ∈ lgs,LFine R y):=hF
 have HX:Hid (lgs[i]?=some x):=hx
 have HFX:Hid (LFine R x):=hfx
 have HR:Hid (R<=800000000000):=hR
 clear hF hou hfx hR
 have HH:Hid (LInv B p frs rus (LgP lgs) (pes lgs) (pfs lgs) L n w):=h
 clear h
 have hwl:x.g.waiting.length<=65535:=by
  have:=HFX.out.few
  unfold Hm.Lg.messages at this
  omega
 have HWL:Hid (x.g.waiting.length<=65535):=hwl
 clear hwl
 obtain ⟨kd,a,b,c,mm,q,s,⟨f,sv,t,h1,h2,h3,h4,d,tx⟩⟩:=o
 dsimp only at hk PK
 subst hk
 unfold opCells
 dsimp only
 have hii:(i:Int) < (lgs.length:Int):=by omega
 go_enter Tryz.func73,Tryz.ntmps73
 go_wp2_with fail
 generalize hW:w.alloc _=W
 have HB0:Hid (Below w.heap.size w W):=by
  show Below _ _ _
  rw [<-hW]
  exact (Below.refl _ _).alloc (Nat.le_refl _) _
 have HR0:Hid (W.heap[w.heap.size]?=some (.cells #[.int .i64 10,.int .i64 a,.int .i64 b,.int .i64 c,.int .i64 mm,.int .i64 q,.string ⟨s.toArray⟩,.int .i64 f,.int .i64 sv,.string ⟨t.toArray⟩,.string ⟨h1.toArray⟩,.string ⟨h2.toArray⟩,.string ⟨h3.toArray⟩,.string ⟨h4.toArray⟩,.string ⟨d.toArray⟩,.string ⟨tx.toArray⟩] 82 (0,0))):=by
  show _=_
  rw [<-hW]
  exact heap_alloc_new _ _
 clear hW
 have hz0:w.heap.size < W.heap.size:=(Array.getElem?_eq_some_iff.1 HR0.out).1
 have HL0:Hid (LInv B p frs rus (LgP lgs) (pes lgs) (pfs lgs) L n W):=HH.out.next HB0.out
 have HTW:Hid (Tabs W):=hT.next HB0.out
 have hBW:Hid (B<=W.heap.size):=show B<=W.heap.size by have:=HH.out.le;have:=HH.out.lt;omega
 obtain ⟨g4,cap4,g5,cap5,c4,s4,c5,s5,hf0,hr0⟩:=HL0.out.fresh.logAt HX.out
 unfold ptrV at s4 s5
 obtain ⟨y0,y3,y4,y7,y8,y9,y10,y11,y12,y13,y14,y15⟩:=ocells16 HR0.out
 have PU:Hid (∀ w':World,Below W.heap.size W w'->Calls Tryz.prog 36 #[.pointer (some ⟨x.p,0,none⟩)] w' fun e w1=>∃ v,e=.returned v/\FInv v B p frs rus (LgP lgs) (pes lgs) (pfs lgs) L n w1/\w1.ownsRow W.heap.size 9 1 v x.g.waiting.length (x.g.waiting.map strV)/\Below W.heap.size W w1):=fun w' hb'=>by
  refine (Waiting_in x.p x.g x.rv x.wv w' (hf0.below hb') (by have:=HWL.out;omega)).mono ?_
  rintro e w1 ⟨v,rfl,ho,hb⟩
  exact ⟨v,rfl,(HL0.out.next hb').newList hb ho,own_base ho hb'.size,Below.next hb' (Nat.le_refl _) hb⟩
 have RP:Hid (∀ w':World,Below W.heap.size W w'->Calls Tryz.prog 121 #[.pointer (some ⟨x.q,0,none⟩)] w' fun e w1=>∃ v,e=.returned v/\Hw.ownsFrom w1 0 9 v (x.g.waiting.map strV)/\Below w'.heap.size w' w1):=fun w' hb'=>by
  have:=rWaiting_any x.q x.h x.ls x.lv w' (hr0.next hb')
  rw [HFX.out.eq] at this
  exact this
 have SM:Hid (∀ (w:World) (va vb:Value) (ba bb:Nat),Hw.ownsFrom w ba 9 va (x.g.waiting.map strV)->Hw.ownsFrom w bb 9 vb (x.g.waiting.map strV)->Calls Tryz.prog 116 #[va,vb] w fun e w'=>e=.returned (.bool true)/\Below w.heap.size w w'):=fun w va vb ba bb ha hb=>by
  have:=lsame_from _ _ va vb ba bb w ha hb (by have:=HWL.out;omega) (by have:=HWL.out;omega)
  simpa using this
 clear hf0 hr0
 go_quiet ((go_at_call 114;exact Calls.quiet_of_same (PK.out _)))
 go_wp2_with fail
 refine (PU.out _ (drew_below ⟨_,rfl⟩)).mono ?_
 rintro e w1 ⟨v1,rfl,hF1,ho1,hb1⟩
 have HF1:Hid (FInv v1 B p frs rus (LgP lgs) (pes lgs) (pfs lgs) L n w1):=hF1
 have HO1:Hid (w1.ownsRow W.heap.size 9 1 v1 x.g.waiting.length (x.g.waiting.map strV)):=ho1
 have HB1:Hid (Below W.heap.size W w1):=hb1
 clear hF1 ho1 hb1 y0 y3 y4 y7 y8 y9 y10 y11 y12 y13 y14 y15 c4 s4 c5 s5
 go_wp2_with fail
 refine (RP.out _ HB1.out).mono ?_
 rintro e w2 ⟨v2,rfl,ho2,hb2⟩
 have HM2:Hid (Hw.ownsFrom w2 0 9 v2 (x.g.waiting.map strV)):=ho2
 have HF2:Hid (FInv v1 B p frs rus (LgP lgs) (pes lgs) (pfs lgs) L n w2):=HF1.out.next hb2
 have HO2:Hid (w2.ownsRow W.heap.size 9 1 v1 x.g.waiting.length (x.g.waiting.map strV)):=Hw.ownsRow_keptS (S:=fun _=>False) HO1.out (Hw.Kept.of_below hb2) (fun _ _ f=>f)
 have HB2:Hid (Below W.heap.size W w2):=Below.next HB1.out (Nat.le_refl _) hb2
 clear ho2 hb2
 go_wp2_with fail
 refine (SM.out _ _ _ _ _ (Hw.ownsFrom_row HO2.out) HM2.out).mono ?_
 rintro e w3 ⟨rfl,hb3⟩
 have HF3:Hid (FInv v1 B p frs rus (LgP lgs) (pes lgs) (pfs lgs) L n w3):=HF2.out.next hb3
 have HO3:Hid (w3.ownsRow 0 9 1 v1 x.g.waiting.length (x.g.waiting.map strV)):=own_base (Hw.ownsRow_keptS (S:=fun _=>False) HO2.out (Hw.Kept.of_below hb3) (fun _ _ f=>f)) (Nat.zero_le _)
 have HB3:Hid (Below B w w3):=(HB0.out.mono (by have:=HH.out.le;have:=HH.out.lt;omega)).trans ((Below.next HB2.out (Nat.le_refl _) hb3).mono hBW.out)
 clear hb3 SM
 go_wp2_with fail
 refine (HF3.out.keep HO3.out hn (by have:=HWL.out;omega) hL).mono ?_
 rintro e w4 ⟨⟨u,rfl⟩,hb4,hl4⟩
 have HB4:Hid (Below B w w4):=HB3.out.trans hb4
 have HL4:Hid (LInv B p frs rus (LgP lgs) (pes lgs) (pfs lgs) (L+9) (n+1) w4):=hl4
 clear hb4 hl4
 go_wp2
 go_ret
 exact ⟨rfl,HB4.out,HL4.out⟩
set_option maxRecDepth 20000 in
set_option maxHeartbeats 8000000 in
theorem logged_bytes {B p:Nat} {frs:List LFr} {rus:List LRu} {lgs:List LLg} {L n R:Nat} {w:World} (h:LInv B p frs rus (LgP lgs) (pes lgs) (pfs lgs) L n w) (hT:Tabs w)
  (o:OpV) (hk:o.kind=11) (hou:-9223372036854775808<=o.u/\o.u<=9223372036854775807) (hpos:0 < lgs.length) (hlen:lgs.length<=4000000000) (hF:∀ y ∈ lgs,LFine R y) (hR:R<=800000000000) :
  Calls Tryz.prog 73 #[.pointer (some ⟨p,0,none⟩),.agg (opCells o)] w fun e w'=>e=.returned (.bool true)/\Below B w w'/\LInv B p frs rus (LgP lgs) (pes lgs) (pfs lgs) L n w':=by
 have PK:Hid (∀ w,Calls Tryz.prog 114 #[.int .i64 o.u,.int .i64 lgs.length] w fun e w'=>e=.returned (.int .i64 (Hm.pick o.u lgs.length))/\w'=w):=fun w=>lpick_any o.u lgs.length hpos hlen hou.1 hou.2 w
 have hilt:=Hm.pick_lt o.u hpos
 generalize Hm.pick o.u lgs.length=i at PK hilt
 obtain ⟨x,hx⟩:∃ x,lgs[i]?=some x:=⟨_,List.getElem?_eq_getElem hilt⟩
 have hfx:=hF x (List.mem_of_getElem? hx)
 have HF:Hid (∀ y ∈ lgs,LFine R y):=hF
 have HX:Hid (lgs[i]?=some x):=hx
 have HFX:Hid (LFine R x):=hfx
 have HR:Hid (R<=800000000000):=hR
 clear hF hou hfx hR
 have HH:Hid (LInv B p frs rus (LgP lgs) (pes lgs) (pfs lgs) L n w):=h
 clear h
 obtain ⟨kd,a,b,c,mm,q,s,⟨f,sv,t,h1,h2,h3,h4,d,tx⟩⟩:=o
 dsimp only at hk PK
 subst hk
 unfold opCells
 dsimp only
 have hii:(i:Int) < (lgs.length:Int):=by omega
 go_enter Tryz.func73,Tryz.ntmps73
 go_wp2_with fail
 generalize hW:w.alloc _=W
 have HB0:Hid (Below w.heap.size w W):=by
  show Below _ _ _
  rw [<-hW]
  exact (Below.refl _ _).alloc (Nat.le_refl _) _
 have HR0:Hid (W.heap[w.heap.size]?=some (.cells #[.int .i64 11,.int .i64 a,.int .i64 b,.int .i64 c,.int .i64 mm,.int .i64 q,.string ⟨s.toArray⟩,.int .i64 f,.int .i64 sv,.string ⟨t.toArray⟩,.string ⟨h1.toArray⟩,.string ⟨h2.toArray⟩,.string ⟨h3.toArray⟩,.string ⟨h4.toArray⟩,.string ⟨d.toArray⟩,.string ⟨tx.toArray⟩] 82 (0,0))):=by
  show _=_
  rw [<-hW]
  exact heap_alloc_new _ _
 clear hW
 have hz0:w.heap.size < W.heap.size:=(Array.getElem?_eq_some_iff.1 HR0.out).1
 have HL0:Hid (LInv B p frs rus (LgP lgs) (pes lgs) (pfs lgs) L n W):=HH.out.next HB0.out
 have HTW:Hid (Tabs W):=hT.next HB0.out
 have hBW:Hid (B<=W.heap.size):=show B<=W.heap.size by have:=HH.out.le;have:=HH.out.lt;omega
 obtain ⟨g4,cap4,g5,cap5,c4,s4,c5,s5,hf0,hr0⟩:=HL0.out.fresh.logAt HX.out
 unfold ptrV at s4 s5
 obtain ⟨y0,y3,y4,y7,y8,y9,y10,y11,y12,y13,y14,y15⟩:=ocells16 HR0.out
 have hr1:=hr0
 rw [HFX.out.eq] at hr1
 obtain ⟨_,k1,_,_⟩:=hr1.cells
 have PU:Hid (∀ w':World,Below W.heap.size W w'->Calls Tryz.prog 37 #[.pointer (some ⟨x.p,0,none⟩)] w' fun e w1=>e=.returned (.string ⟨x.g.records.toArray⟩)/\w1=w'):=fun w' hb'=>Bytes_in x.p x.g x.rv x.wv w' (hf0.below hb')
 clear hf0 hr0 hr1
 go_quiet ((go_at_call 114;exact Calls.quiet_of_same (PK.out _)))
 go_wp2_with fail
 refine (PU.out _ (drew_below ⟨_,rfl⟩)).mono ?_
 rintro e w1 ⟨rfl,hw1⟩
 subst hw1
 go_wp2
 go_ret
 exact ⟨rfl,(HB0.out.mono (by have:=HH.out.le;have:=HH.out.lt;omega)).trans ((drew_below ⟨_,rfl⟩).mono hBW.out),HL0.out.next (drew_below ⟨_,rfl⟩)⟩
end Go.Proofs.YtdlhbmncbmconaaGreatDoor

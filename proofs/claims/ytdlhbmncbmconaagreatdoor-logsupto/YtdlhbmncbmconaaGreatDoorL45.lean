/- Pressed by program out of Fm. -/
import Derived.Test.YtdlhbmncbmconaaGreatDoorL37
import Derived.Test.YtdlhbmncbmconaaGreatDoorL36
import Derived.Test.YtdlhbmncbmconaaGreatDoorL44
namespace Go.Proofs.YtdlhbmncbmconaaGreatDoor
open Go.RowKit Go.Sort
theorem LInv.startX {w:World} {p:Nat} {X:World->(Nat->Nat × Nat)->Prop} (h:w.heap[p]?=some (.cells worldZero 142 (0,0))) (hX:∀ ρ,X w ρ) (sX:Stable 3 X):LInv p p [] [] X [] [] 0 0 w:=by
 refine ⟨fun _=>.slice none 0 0,fun _=>[],[],fun k=>if k=p then (9,0) else (0,0),⟨h,if_pos rfl,fun j _=>⟨World.ownsRow_nil _ _ _ _,fun k e=>(by cases e)⟩,fun i x hx=>(by simp at hx),fun x hx=>(by cases hx),hX _,FrP.stable _,RuP.stable _,sX,fun x hx=>(by cases hx),fun k hk=>?_⟩,rfl,rfl,rfl,rfl,rfl,rfl,rfl,rfl,rfl⟩
 show (if k=p then _ else _:Nat × Nat).1=0
 rw [if_neg (by omega)]
def opL:OpV:=⟨7,0,0,0,4,0,[],⟨0,0,[],[],[],[],[],[],[]⟩⟩
theorem opL_cells:opCells opL=#[.int .i64 7,.int .i64 0,.int .i64 0,.int .i64 0,.int .i64 4,.int .i64 0,.string ⟨#[]⟩,.int .i64 0,.int .i64 0,.string ⟨#[]⟩,.string ⟨#[]⟩,.string ⟨#[]⟩,.string ⟨#[]⟩,.string ⟨#[]⟩,.string ⟨#[]⟩,.string ⟨#[]⟩]:=rfl
theorem made_opFX {P:Nat} (w:World) (hw:11<=w.heap.size) (h:LInv P P [] [] (LgP []) [] [] 0 0 w):Calls Tryz.prog 70 #[.pointer (some ⟨P,0,none⟩),.agg #[.int .i64 3,.int .i64 0,.int .i64 0,.int .i64 0,.int .i64 100,.int .i64 0,.string ⟨#[]⟩,.int .i64 0,.int .i64 0,.string ⟨#[]⟩,.string ⟨#[]⟩,.string ⟨#[]⟩,.string ⟨#[]⟩,.string ⟨#[]⟩,.string ⟨#[]⟩,.string ⟨#[]⟩]] w fun e w'=>e=.returned (.bool true)/\Below P w w'/\∃ x:LFr,x.A=[]/\x.C=[]/\LInv P P [x] [] (LgP []) [] [] 0 0 w':=by
 have h1:=made_frames h hw (by simp) opF rfl 100 rfl (by omega) (by omega)
 rw [opF_cells] at h1
 exact h1
theorem made_opRX {P:Nat} (w:World) (x:LFr) (hT:Tabs w) (h:LInv P P [x] [] (LgP []) [] [] 0 0 w):Calls Tryz.prog 70 #[.pointer (some ⟨P,0,none⟩),.agg #[.int .i64 5,.int .i64 0,.int .i64 0,.int .i64 0,.int .i64 0,.int .i64 0,.string ⟨#[42,46,100,101,98,117,103,32,100,114,111,112,10]⟩,.int .i64 0,.int .i64 0,.string ⟨#[]⟩,.string ⟨#[]⟩,.string ⟨#[]⟩,.string ⟨#[]⟩,.string ⟨#[]⟩,.string ⟨#[]⟩,.string ⟨#[]⟩]] w fun e w'=>e=.returned (.bool true)/\Below P w w'/\∃ y:LRu,LInv P P [x] [y] (LgP []) [] [] 0 0 w':=by
 have h1:=made_rules h hT (by simp) opR rfl (by decide) _ Hm.exRu_rules
 rw [opR_cells] at h1
 exact h1
theorem made_opL {P:Nat} (w:World) (x:LFr) (y:LRu) (hT:Tabs w) (h:LInv P P [x] [y] (LgP []) [] [] 0 0 w):Calls Tryz.prog 70 #[.pointer (some ⟨P,0,none⟩),.agg #[.int .i64 7,.int .i64 0,.int .i64 0,.int .i64 0,.int .i64 4,.int .i64 0,.string ⟨#[]⟩,.int .i64 0,.int .i64 0,.string ⟨#[]⟩,.string ⟨#[]⟩,.string ⟨#[]⟩,.string ⟨#[]⟩,.string ⟨#[]⟩,.string ⟨#[]⟩,.string ⟨#[]⟩]] w fun e w'=>e=.returned (.bool true)/\Below P w w'/\∃ z:LLg,z.g=Hm.opens [] 4/\z.h=z.g/\LInv P P [x] [y] (LgP [z]) (pes [z]) (pfs [z]) 0 0 w':=by
 have h1:=made_logs (lgs:=[]) h hT (by simp) opL rfl (by decide) 4 rfl (by omega) (by omega)
 rw [opL_cells] at h1
 exact h1
set_option maxRecDepth 20000 in
set_option maxHeartbeats 1000000 in
theorem begun_logs (lo hi:Int) (hhi:8<=hi) (w:World) (hT:Tabs w) (h11:11<=w.heap.size):Calls Tryz.prog 40 #[.int .i64 lo,.int .i64 hi] w fun e w'=>e=.returned (.pointer (some ⟨w.heap.size,0,none⟩))/\Below w.heap.size w w'/\∃ (x:LFr) (y:LRu) (z:LLg),x.A=[]/\x.C=[]/\z.g=Hm.opens [] 4/\z.h=z.g/\LInv w.heap.size w.heap.size [x] [y] (LgP [z]) (pes [z]) (pfs [z]) 0 0 w':=by
 have i4:(4:Int)<=hi:=by omega
 have i6:(6:Int)<=hi:=by omega
 have i8:(8:Int)<=hi:=hhi
 clear hhi
 have RD:Hid (∀ w,Tabs w->Calls Tryz.prog 21 #[.string ⟨Hm.exL1.toArray⟩,.int .i64 1] w fun e w'=>e=.returned (.tuple #[.agg (msgCells Hm.exM),.int .i64 0,.int .i64 0])/\Below w.heap.size w w'):=begun_read
 have LN:Hid (∀ w,Tabs w->Calls Tryz.prog 20 #[.agg (msgCells Hm.exM)] w fun e w'=>e=.returned (.tuple #[.string ⟨Hm.exL1.toArray⟩,.int .i64 0])/\Below w.heap.size w w'):=begun_line
 unfold Hm.exL1 at RD LN
 obtain ⟨P,hP⟩:∃ P,w.heap.size=P:=⟨_,rfl⟩
 have MF:Hid (∀ w:World,11<=w.heap.size->LInv P P [] [] (LgP []) [] [] 0 0 w->Calls Tryz.prog 70 #[.pointer (some ⟨P,0,none⟩),.agg #[.int .i64 3,.int .i64 0,.int .i64 0,.int .i64 0,.int .i64 100,.int .i64 0,.string ⟨#[]⟩,.int .i64 0,.int .i64 0,.string ⟨#[]⟩,.string ⟨#[]⟩,.string ⟨#[]⟩,.string ⟨#[]⟩,.string ⟨#[]⟩,.string ⟨#[]⟩,.string ⟨#[]⟩]] w fun e w'=>e=.returned (.bool true)/\Below P w w'/\∃ x:LFr,x.A=[]/\x.C=[]/\LInv P P [x] [] (LgP []) [] [] 0 0 w'):=fun w hw h=>made_opFX w hw h
 have MR:Hid (∀ (w:World) (x:LFr),Tabs w->LInv P P [x] [] (LgP []) [] [] 0 0 w->Calls Tryz.prog 70 #[.pointer (some ⟨P,0,none⟩),.agg #[.int .i64 5,.int .i64 0,.int .i64 0,.int .i64 0,.int .i64 0,.int .i64 0,.string ⟨#[42,46,100,101,98,117,103,32,100,114,111,112,10]⟩,.int .i64 0,.int .i64 0,.string ⟨#[]⟩,.string ⟨#[]⟩,.string ⟨#[]⟩,.string ⟨#[]⟩,.string ⟨#[]⟩,.string ⟨#[]⟩,.string ⟨#[]⟩]] w fun e w'=>e=.returned (.bool true)/\Below P w w'/\∃ y:LRu,LInv P P [x] [y] (LgP []) [] [] 0 0 w'):=fun w x hT h=>made_opRX w x hT h
 have MO:Hid (∀ (w:World) (x:LFr) (y:LRu),Tabs w->LInv P P [x] [y] (LgP []) [] [] 0 0 w->Calls Tryz.prog 70 #[.pointer (some ⟨P,0,none⟩),.agg #[.int .i64 7,.int .i64 0,.int .i64 0,.int .i64 0,.int .i64 4,.int .i64 0,.string ⟨#[]⟩,.int .i64 0,.int .i64 0,.string ⟨#[]⟩,.string ⟨#[]⟩,.string ⟨#[]⟩,.string ⟨#[]⟩,.string ⟨#[]⟩,.string ⟨#[]⟩,.string ⟨#[]⟩]] w fun e w'=>e=.returned (.bool true)/\Below P w w'/\∃ z:LLg,z.g=Hm.opens [] 4/\z.h=z.g/\LInv P P [x] [y] (LgP [z]) (pes [z]) (pfs [z]) 0 0 w'):=fun w x y hT h=>made_opL w x y hT h
 have HP:Hid (w.heap.size=P):=hP
 clear hP
 go_enter Tryz.func40,Tryz.ntmps40
 go_wp2_with fail
 refine (RD.out _ (hT.alloc _)).mono ?_
 rintro e w1 ⟨rfl,hb1⟩
 have HB1:Hid (Below w.heap.size w w1):=((Below.refl _ _).alloc (Nat.le_refl _) _).trans (hb1.mono (by simp))
 have hz1:w.heap.size < w1.heap.size:=by have:=hb1.size;simp at this;omega
 have HR1:=show Hid (w1.heap[w.heap.size]?=some (.cells worldZero 142 (0,0))) from (hb1.block w.heap.size (by simp)).trans (heap_alloc_new _ _)
 clear hb1
 go_wp2_with (first
  | (refine Hw.wpList_store_rowP rfl _ _ _ rfl rfl w1.heap.size (msgCells Hm.exM) rfl rfl _ _ (heap_alloc_new _ _) size_msg rfl rfl ?_;intro w2 p2;have P2:Hid (Hw.Put (w1.alloc _) _ _ _ w2):=p2;clear p2)
  | (refine wpList_load_row rfl _ _ rfl w1.heap.size rfl _ _ _ _ P2.out.row Tryz.underlying29 rfl size_msg ?_)
  | fail)
 have HB2:Hid (Below w.heap.size w w2):=(HB1.out.alloc (by omega) _).trans (P2.out.below (by omega))
 have HR2:Hid (w2.heap[w.heap.size]?=some (.cells worldZero 142 (0,0))):=(P2.out.other _ (by omega)).trans ((heap_alloc_old _ _ hz1).trans HR1.out)
 refine (LN.out _ (hT.next HB2.out)).mono ?_
 rintro e w3 ⟨rfl,hb3⟩
 have HB3:Hid (Below w.heap.size w w3):=Below.next HB2.out (by have:=P2.out.size;simp at this;omega) hb3
 have HR3:Hid (w3.heap[w.heap.size]?=some (.cells worldZero 142 (0,0))):=(hb3.block _ (by have:=P2.out.size;simp at this;omega)).trans HR2.out
 clear hb3 P2 HB2 HR2 HB1 HR1 hz1
 have HL3:Hid (LInv P P [] [] (LgP []) [] [] 0 0 w3):=LInv.startX (by rw [<-HP.out];exact HR3.out) (fun _ i x hx=>by simp at hx) (LgP.stable [])
 go_wp2_with fail
 have hz3:=HB3.out.size
 have MF4:=MF.out w3 (by omega) HL3.out
 rw [<-HP.out] at MF4
 refine MF4.mono ?_
 rintro e w4 ⟨rfl,hb4,x,hxA,hxC,hl4⟩
 have HL4:Hid (LInv P P [x] [] (LgP []) [] [] 0 0 w4):=by rw [<-HP.out];exact hl4
 have HB4:Hid (Below w.heap.size w w4):=HB3.out.trans hb4
 have HXA:Hid (x.A=[]/\x.C=[]):=⟨hxA,hxC⟩
 obtain ⟨g0,cap0,_,_,c0,_⟩:=HL4.out.fresh.frameAt (i:=0) (x:=x) rfl
 rw [<-HP.out] at c0
 replace c0:w4.cell? ⟨w.heap.size,0,none⟩=some (.slice (some ⟨g0,0,none⟩) 1 cap0):=c0
 clear hb4 hxA hxC hl4 MF4
 go_wp2_with fail
 have MR5:=MR.out w4 x (hT.next HB4.out) HL4.out
 rw [<-HP.out] at MR5
 refine MR5.mono ?_
 rintro e w5 ⟨rfl,hb5,y,hl5⟩
 have HL5:Hid (LInv P P [x] [y] (LgP []) [] [] 0 0 w5):=by rw [<-HP.out];exact hl5
 have HB5:Hid (Below w.heap.size w w5):=HB4.out.trans hb5
 obtain ⟨g2,cap2,_,_,c2,_⟩:=HL5.out.fresh.ruleAt (i:=0) (x:=y) rfl
 rw [<-HP.out] at c2
 replace c2:w5.cell? ⟨w.heap.size,2,none⟩=some (.slice (some ⟨g2,0,none⟩) 1 cap2):=c2
 clear hb5 hl5 MR5 c0
 go_wp2_with fail
 have MO6:=MO.out w5 x y (hT.next HB5.out) HL5.out
 rw [<-HP.out] at MO6
 refine MO6.mono ?_
 rintro e w6 ⟨rfl,hb6,z,hz1,hz2,hl6⟩
 have HL6:Hid (LInv P P [x] [y] (LgP [z]) (pes [z]) (pfs [z]) 0 0 w6):=by rw [<-HP.out];exact hl6
 have HB6:Hid (Below w.heap.size w w6):=HB5.out.trans hb6
 have HZ:Hid (z.g=Hm.opens [] 4/\z.h=z.g):=⟨hz1,hz2⟩
 obtain ⟨g4,cap4,_,_,c4,_⟩:=HL6.out.fresh.logAt (i:=0) (x:=z) rfl
 rw [<-HP.out] at c4
 replace c4:w6.cell? ⟨w.heap.size,4,none⟩=some (.slice (some ⟨g4,0,none⟩) 1 cap4):=c4
 clear hb6 hl6 MO6 c2 hz1 hz2
 go_wp2
 go_ret
 exact ⟨rfl,HB6.out,x,y,z,HXA.out.1,HXA.out.2,HZ.out.1,HZ.out.2,by rw [HP.out];exact HL6.out⟩
def API (w0:World) (ops:List OpV) (k:Nat) (w:World):Prop:=
 ∃ frs rus lgs L n,LInv w0.heap.size w0.heap.size frs rus (LgP lgs) (pes lgs) (pfs lgs) L n w/\(0 < frs.length/\frs.length<=k+1)/\(0 < rus.length/\rus.length<=k+1)/\(0 < lgs.length/\lgs.length<=k+1)/\(∀ x ∈ frs,x.C=x.A/\x.A.length<=sumS ops k)/\(∀ y ∈ lgs,LFine (3000000+300 * (k+sumS ops k)) y)/\n<=k/\L<=9 * k/\Below w0.heap.size w0 w
theorem API.more {w0:World} {ops:List OpV} {k:Nat} {w:World} (h:API w0 ops k w) (hk:k < ops.length):API w0 ops (k+1) w:=by
 obtain ⟨frs,rus,lgs,L,n,hL,hf,hr,hg,hA,hF,hn,hl,hb⟩:=h
 obtain ⟨o,ho⟩:∃ o,ops[k]?=some o:=⟨_,List.getElem?_eq_getElem hk⟩
 have:=sumS_next ho
 exact ⟨frs,rus,lgs,L,n,hL,by omega,by omega,by omega,fun x hx=>⟨(hA x hx).1,by have:=(hA x hx).2;omega⟩,fun y hy=>(hF y hy).mono (by omega),by omega,by omega,hb⟩
theorem API.next {w0:World} {ops:List OpV} {k:Nat} {w w':World} (h:API w0 ops k w) (hb':Below w.heap.size w w'):API w0 ops k w':=by
 obtain ⟨frs,rus,lgs,L,n,hL,hf,hr,hg,hA,hF,hn,hl,hb⟩:=h
 exact ⟨frs,rus,lgs,L,n,hL.next hb',hf,hr,hg,hA,hF,hn,hl,Below.next hb (Nat.le_refl _) hb'⟩
theorem API.kept {w0:World} {ops:List OpV} {k:Nat} {w:World} (h:API w0 ops k w):Calls Tryz.prog 42 #[.pointer (some ⟨w0.heap.size,0,none⟩)] w fun r w2=>r=.returned (.bool true)/\API w0 ops k w2:=by
 have h':=h
 obtain ⟨frs,rus,lgs,L,n,hL,_⟩:=h'
 refine hL.kept.mono ?_
 rintro e w' ⟨rfl,hb⟩
 exact ⟨rfl,h.next hb⟩
theorem API.logs {w0:World} (hT0:Tabs w0) {ad:Option Addr} {ops:List OpV} (hO:OpsAt 1048576 w0 ad ops) {k:Nat} {w:World} {o:OpV} (ho:ops[k]?=some o) (h7:7<=o.kind) (h11:o.kind<=11) (h:API w0 ops k w) :
  Calls Tryz.prog 41 #[.pointer (some ⟨w0.heap.size,0,none⟩),.agg (opCells o)] w fun r w2=>r=.returned (.bool true)/\API w0 ops (k+1) w2:=by
 have hk:k < ops.length:=(List.getElem?_eq_some_iff.1 ho).1
 have hmost:=hO.most
 have hsm:=hO.small o (List.mem_of_getElem? ho)
 have hsum:=sumS_next ho
 have htot:=Nat.le_trans (sumS_le ops (k+1)) hO.sum
 obtain ⟨W,hW⟩:∃ W,w.alloc (.cells (opCells o) 82)=W:=⟨_,rfl⟩
 have hbW:Below w.heap.size w W:=by rw [<-hW];exact (Below.refl _ _).alloc (Nat.le_refl _) _
 have h':=(h.next hbW).more hk
 have hN:=h.next hbW
 obtain ⟨frs,rus,lgs,L,n,hL,hf,hr,hg,hA,hF,hn,hl,hb⟩:=hN
 have hT:Tabs W:=hT0.next hb
 have hA':∀ x ∈ frs,x.C=x.A/\x.A.length<=sumS ops (k+1):=fun x hx=>⟨(hA x hx).1,by have:=(hA x hx).2;omega⟩
 rcases (by omega:o.kind=7∨o.kind=8∨o.kind=9∨o.kind=10∨o.kind=11) with hkd | hkd | hkd | hkd | hkd
 ·refine step_7 _ o hkd w _ ?_
  rw [hW]
  by_cases hr7:o.n < 1∨8 < o.n
  ·refine (made_logs_no _ o hkd hr7 W).mono ?_
   rintro e w' ⟨rfl,hb⟩
   exact ⟨rfl,h'.next hb⟩
  ·refine (made_logs hL hT (by omega) o hkd hsm.s o.n.toNat (by omega) (by omega) (by omega)).mono ?_
   rintro e w' ⟨rfl,hb2,x,hx1,hx2,hL2⟩
   refine ⟨rfl,frs,rus,_,L,n,hL2,by omega,by omega,by simp;omega,hA',fun y hy=>?_,by omega,by omega,hb.trans hb2⟩
   rcases List.mem_append.1 hy with hy | hy
   ·exact (hF y hy).mono (by omega)
   ·simp at hy
    subst hy
    have h1:=Hm.opens_fine o.s o.n.toNat
    rw [<-hx1] at h1
    have hs:=hsm.s
    exact ⟨hx2,h1.2.1,by rw [h1.2.2];omega,by omega⟩
 ·refine step_8 _ o hkd w _ ?_
  rw [hW]
  refine (logged_put hL hT o hkd hsm.iu hg.1 (by omega) hF (by omega) hsm).mono ?_
  rintro e w' ⟨rfl,hb2,lgs',hl2,hF2,hL2⟩
  exact ⟨rfl,frs,rus,lgs',L,n,hL2,by omega,by omega,by omega,hA',fun y hy=>(hF2 y hy).mono (by omega),by omega,by omega,hb.trans hb2⟩
 ·refine step_9 _ o hkd w _ ?_
  rw [hW]
  refine (logged_ack hL hT o hkd hsm.iu hg.1 (by omega) hF (by omega) hsm.inn).mono ?_
  rintro e w' ⟨rfl,hb2,lgs',hl2,hF2,hL2⟩
  exact ⟨rfl,frs,rus,lgs',L,n,hL2,by omega,by omega,by omega,hA',fun y hy=>(hF2 y hy).mono (by omega),by omega,by omega,hb.trans hb2⟩
 ·refine step_10 _ o hkd w _ ?_
  rw [hW]
  refine (logged_waiting hL hT o hkd hsm.iu hg.1 (by omega) hF (by omega) (by omega) (by omega)).mono ?_
  rintro e w' ⟨rfl,hb2,hL2⟩
  exact ⟨rfl,frs,rus,lgs,_,_,hL2,by omega,by omega,by omega,hA',fun y hy=>(hF y hy).mono (by omega),by omega,by omega,hb.trans hb2⟩
 ·refine step_11 _ o hkd w _ ?_
  rw [hW]
  refine (logged_bytes hL hT o hkd hsm.iu hg.1 (by omega) hF (by omega)).mono ?_
  rintro e w' ⟨rfl,hb2,hL2⟩
  exact ⟨rfl,frs,rus,lgs,L,n,hL2,by omega,by omega,by omega,hA',fun y hy=>(hF y hy).mono (by omega),by omega,by omega,hb.trans hb2⟩
theorem API.start (lo hi:Int) (hhi:8<=hi) (ops:List OpV) (w:World) (hT:Tabs w) (h11:11<=w.heap.size):Calls Tryz.prog 40 #[.int .i64 lo,.int .i64 hi] w fun e w'=>e=.returned (.pointer (some ⟨w.heap.size,0,none⟩))/\API w ops 0 w':=by
 refine (begun_logs lo hi hhi w hT h11).mono ?_
 rintro e w' ⟨rfl,hb,x,y,z,hxA,hxC,hz1,hz2,hL⟩
 refine ⟨rfl,_,_,_,_,_,hL,by simp,by simp,by simp,fun u hu=>?_,fun u hu=>?_,by omega,by omega,hb⟩
 ·simp at hu;subst hu;rw [hxA,hxC];exact ⟨rfl,Nat.zero_le _⟩
 ·simp at hu;subst hu
  have h1:=Hm.opens_fine [] 4
  rw [<-hz1] at h1
  exact ⟨hz2,h1.2.1,by rw [h1.2.2];omega,by have:=h1.1;simp at this;rw [this];simp⟩
theorem API.bel {w0:World} {ops:List OpV} {k:Nat} {w:World} (h:API w0 ops k w):Below w0.heap.size w0 w:=by
 obtain ⟨_,_,_,_,_,_,_,_,_,_,_,_,_,hb⟩:=h
 exact hb
theorem Logs_any (ad:Option Addr) (ops:List OpV) (cap:Nat) (w:World) (hT:Tabs w) (h11:11<=w.heap.size) (hO:OpsAt 1048576 w ad ops):Calls Tryz.prog 5 #[.slice ad ops.length cap] w fun e w'=>e=.returned (.bool true)/\Below w.heap.size w w':=by
 have PL:Hid (Calls Tryz.prog 17 #[.slice ad ops.length cap,.int .i64 7,.int .i64 11] w fun e w'=>e=.returned (.bool true)/\Below w.heap.size w w'):=plays_any 7 11 ad ops cap w (hO.mono (by omega)) (API w ops) (API.start 7 11 (by omega) ops w hT h11)
  (fun k o w' ho h3 h6 h=>API.logs hT hO ho h3 h6 h) (fun k w' hk h=>h.more hk) (fun k w' h=>h.kept) (fun k w' h=>h.bel)
 clear hO
 go_enter Tryz.func5,Tryz.ntmps5
 go_wp2_with fail
 refine PL.out.mono ?_
 rintro e w1 ⟨rfl,hb1⟩
 have HB1:Hid (Below w.heap.size w w1):=hb1
 clear hb1
 go_wp2
 go_ret
 exact ⟨rfl,HB1.out⟩
end Go.Proofs.YtdlhbmncbmconaaGreatDoor

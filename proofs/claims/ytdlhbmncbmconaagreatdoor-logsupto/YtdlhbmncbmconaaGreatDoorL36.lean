/- Pressed by program out of Eo. -/
import Derived.Test.YtdlhbmncbmconaaGreatDoorL34
import Derived.Test.YtdlhbmncbmconaaGreatDoorL09
namespace Go.Proofs.YtdlhbmncbmconaaGreatDoor
open Go.RowKit Go.Sort
theorem lsize_op:(Tryz.prog.info? 82).map (·.size)=some 16:=by kernel_rfl
theorem lop_row {W wr:World} {b off k:Nat} {o:OpV} (hc:W.rangeAt b (off+k * 16) (opCells o).toList) (hb:Below W.heap.size W wr) :
  wr.cell? ⟨b,off+k * 16,none⟩=some (.int .i64 o.kind)/\wr.cell? ⟨b,off+k * 16+1,none⟩=some (.int .i64 o.w)/\wr.cell? ⟨b,off+k * 16+2,none⟩=some (.int .i64 o.v)/\wr.cell? ⟨b,off+k * 16+3,none⟩=some (.int .i64 o.u)/\wr.cell? ⟨b,off+k * 16+4,none⟩=some (.int .i64 o.n)/\wr.cell? ⟨b,off+k * 16+5,none⟩=some (.int .i64 o.m)/\wr.cell? ⟨b,off+k * 16+6,none⟩=some (.string ⟨o.s.toArray⟩)/\wr.cell? ⟨b,off+k * 16+7,none⟩=some (.int .i64 o.msg.fac)/\wr.cell? ⟨b,off+k * 16+8,none⟩=some (.int .i64 o.msg.sev)/\wr.cell? ⟨b,off+k * 16+9,none⟩=some (.string ⟨o.msg.time.toArray⟩)/\wr.cell? ⟨b,off+k * 16+10,none⟩=some (.string ⟨o.msg.host.toArray⟩)/\wr.cell? ⟨b,off+k * 16+11,none⟩=some (.string ⟨o.msg.app.toArray⟩)/\wr.cell? ⟨b,off+k * 16+12,none⟩=some (.string ⟨o.msg.proc.toArray⟩)/\wr.cell? ⟨b,off+k * 16+13,none⟩=some (.string ⟨o.msg.id.toArray⟩)/\wr.cell? ⟨b,off+k * 16+14,none⟩=some (.string ⟨o.msg.data.toArray⟩)/\wr.cell? ⟨b,off+k * 16+15,none⟩=some (.string ⟨o.msg.text.toArray⟩):=by
 have h0:=hc 0 _ rfl
 have hl:b < W.heap.size:=block_lt_of_cell h0
 have key:∀ j v,(opCells o).toList[j]?=some v->wr.cell? ⟨b,off+k * 16+j,none⟩=some v:=fun j v h=>(hb.cell (p:=⟨b,off+k * 16+j,none⟩) hl).trans (hc j v h)
 exact ⟨key 0 _ rfl,key 1 _ rfl,key 2 _ rfl,key 3 _ rfl,key 4 _ rfl,key 5 _ rfl,key 6 _ rfl,key 7 _ rfl,key 8 _ rfl,key 9 _ rfl,key 10 _ rfl,key 11 _ rfl,key 12 _ rfl,key 13 _ rfl,key 14 _ rfl,key 15 _ rfl⟩
set_option maxRecDepth 20000 in
set_option maxHeartbeats 4000000 in
theorem step_7 (p:Nat) (o:OpV) (hk:o.kind=7) (w:World) (Q:World->Prop) (h:Calls Tryz.prog 70 #[.pointer (some ⟨p,0,none⟩),.agg (opCells o)] (w.alloc (.cells (opCells o) 82)) fun r w'=>r=.returned (.bool true)/\Q w') :
  Calls Tryz.prog 41 #[.pointer (some ⟨p,0,none⟩),.agg (opCells o)] w fun r w'=>r=.returned (.bool true)/\Q w':=by
 have MS:Hid (Calls Tryz.prog 70 #[.pointer (some ⟨p,0,none⟩),.agg (opCells o)] (w.alloc (.cells (opCells o) 82)) fun r w'=>r=.returned (.bool true)/\Q w'):=h
 clear h
 obtain ⟨kd,a,b,c,n,q,s,⟨f,sv,t,h1,h2,h3,h4,d,x⟩⟩:=o
 unfold opCells at MS ⊢
 dsimp only at hk MS ⊢
 subst hk
 go_enter Tryz.func41,Tryz.ntmps41
 go_wp2_with (first
  | (refine wpList_load_row rfl _ _ rfl w.heap.size rfl _ _ _ _ (heap_alloc_new _ _) Tryz.underlying82 rfl lsize_op ?_)
  | fail)
 refine MS.out.mono ?_
 rintro e w1 ⟨rfl,hq⟩
 have HQ:Hid (Q w1):=hq
 clear hq
 go_wp2
 go_ret
 exact ⟨rfl,HQ.out⟩
set_option maxRecDepth 20000 in
set_option maxHeartbeats 4000000 in
theorem step_8 (p:Nat) (o:OpV) (hk:o.kind=8) (w:World) (Q:World->Prop) (h:Calls Tryz.prog 73 #[.pointer (some ⟨p,0,none⟩),.agg (opCells o)] (w.alloc (.cells (opCells o) 82)) fun r w'=>r=.returned (.bool true)/\Q w') :
  Calls Tryz.prog 41 #[.pointer (some ⟨p,0,none⟩),.agg (opCells o)] w fun r w'=>r=.returned (.bool true)/\Q w':=by
 have MS:Hid (Calls Tryz.prog 73 #[.pointer (some ⟨p,0,none⟩),.agg (opCells o)] (w.alloc (.cells (opCells o) 82)) fun r w'=>r=.returned (.bool true)/\Q w'):=h
 clear h
 obtain ⟨kd,a,b,c,n,q,s,⟨f,sv,t,h1,h2,h3,h4,d,x⟩⟩:=o
 unfold opCells at MS ⊢
 dsimp only at hk MS ⊢
 subst hk
 go_enter Tryz.func41,Tryz.ntmps41
 go_wp2_with (first
  | (refine wpList_load_row rfl _ _ rfl w.heap.size rfl _ _ _ _ (heap_alloc_new _ _) Tryz.underlying82 rfl lsize_op ?_)
  | fail)
 refine MS.out.mono ?_
 rintro e w1 ⟨rfl,hq⟩
 have HQ:Hid (Q w1):=hq
 clear hq
 go_wp2
 go_ret
 exact ⟨rfl,HQ.out⟩
set_option maxRecDepth 20000 in
set_option maxHeartbeats 4000000 in
theorem step_9 (p:Nat) (o:OpV) (hk:o.kind=9) (w:World) (Q:World->Prop) (h:Calls Tryz.prog 73 #[.pointer (some ⟨p,0,none⟩),.agg (opCells o)] (w.alloc (.cells (opCells o) 82)) fun r w'=>r=.returned (.bool true)/\Q w') :
  Calls Tryz.prog 41 #[.pointer (some ⟨p,0,none⟩),.agg (opCells o)] w fun r w'=>r=.returned (.bool true)/\Q w':=by
 have MS:Hid (Calls Tryz.prog 73 #[.pointer (some ⟨p,0,none⟩),.agg (opCells o)] (w.alloc (.cells (opCells o) 82)) fun r w'=>r=.returned (.bool true)/\Q w'):=h
 clear h
 obtain ⟨kd,a,b,c,n,q,s,⟨f,sv,t,h1,h2,h3,h4,d,x⟩⟩:=o
 unfold opCells at MS ⊢
 dsimp only at hk MS ⊢
 subst hk
 go_enter Tryz.func41,Tryz.ntmps41
 go_wp2_with (first
  | (refine wpList_load_row rfl _ _ rfl w.heap.size rfl _ _ _ _ (heap_alloc_new _ _) Tryz.underlying82 rfl lsize_op ?_)
  | fail)
 refine MS.out.mono ?_
 rintro e w1 ⟨rfl,hq⟩
 have HQ:Hid (Q w1):=hq
 clear hq
 go_wp2
 go_ret
 exact ⟨rfl,HQ.out⟩
set_option maxRecDepth 20000 in
set_option maxHeartbeats 4000000 in
theorem step_10 (p:Nat) (o:OpV) (hk:o.kind=10) (w:World) (Q:World->Prop) (h:Calls Tryz.prog 73 #[.pointer (some ⟨p,0,none⟩),.agg (opCells o)] (w.alloc (.cells (opCells o) 82)) fun r w'=>r=.returned (.bool true)/\Q w') :
  Calls Tryz.prog 41 #[.pointer (some ⟨p,0,none⟩),.agg (opCells o)] w fun r w'=>r=.returned (.bool true)/\Q w':=by
 have MS:Hid (Calls Tryz.prog 73 #[.pointer (some ⟨p,0,none⟩),.agg (opCells o)] (w.alloc (.cells (opCells o) 82)) fun r w'=>r=.returned (.bool true)/\Q w'):=h
 clear h
 obtain ⟨kd,a,b,c,n,q,s,⟨f,sv,t,h1,h2,h3,h4,d,x⟩⟩:=o
 unfold opCells at MS ⊢
 dsimp only at hk MS ⊢
 subst hk
 go_enter Tryz.func41,Tryz.ntmps41
 go_wp2_with (first
  | (refine wpList_load_row rfl _ _ rfl w.heap.size rfl _ _ _ _ (heap_alloc_new _ _) Tryz.underlying82 rfl lsize_op ?_)
  | fail)
 refine MS.out.mono ?_
 rintro e w1 ⟨rfl,hq⟩
 have HQ:Hid (Q w1):=hq
 clear hq
 go_wp2
 go_ret
 exact ⟨rfl,HQ.out⟩
set_option maxRecDepth 20000 in
set_option maxHeartbeats 4000000 in
theorem step_11 (p:Nat) (o:OpV) (hk:o.kind=11) (w:World) (Q:World->Prop) (h:Calls Tryz.prog 73 #[.pointer (some ⟨p,0,none⟩),.agg (opCells o)] (w.alloc (.cells (opCells o) 82)) fun r w'=>r=.returned (.bool true)/\Q w') :
  Calls Tryz.prog 41 #[.pointer (some ⟨p,0,none⟩),.agg (opCells o)] w fun r w'=>r=.returned (.bool true)/\Q w':=by
 have MS:Hid (Calls Tryz.prog 73 #[.pointer (some ⟨p,0,none⟩),.agg (opCells o)] (w.alloc (.cells (opCells o) 82)) fun r w'=>r=.returned (.bool true)/\Q w'):=h
 clear h
 obtain ⟨kd,a,b,c,n,q,s,⟨f,sv,t,h1,h2,h3,h4,d,x⟩⟩:=o
 unfold opCells at MS ⊢
 dsimp only at hk MS ⊢
 subst hk
 go_enter Tryz.func41,Tryz.ntmps41
 go_wp2_with (first
  | (refine wpList_load_row rfl _ _ rfl w.heap.size rfl _ _ _ _ (heap_alloc_new _ _) Tryz.underlying82 rfl lsize_op ?_)
  | fail)
 refine MS.out.mono ?_
 rintro e w1 ⟨rfl,hq⟩
 have HQ:Hid (Q w1):=hq
 clear hq
 go_wp2
 go_ret
 exact ⟨rfl,HQ.out⟩
set_option maxRecDepth 20000 in
set_option maxHeartbeats 8000000 in
theorem plays_any (lo hi:Int) (ad:Option Addr) (ops:List OpV) (cap:Nat) (w:World) (hO:OpsAt 4000000000 w ad ops) (PI:Nat->World->Prop)
  (hbeg:Calls Tryz.prog 40 #[.int .i64 lo,.int .i64 hi] w fun e w'=>e=.returned (.pointer (some ⟨w.heap.size,0,none⟩))/\PI 0 w')
  (hstep:∀ k o w',ops[k]?=some o->lo<=o.kind->o.kind<=hi->PI k w'->Calls Tryz.prog 41 #[.pointer (some ⟨w.heap.size,0,none⟩),.agg (opCells o)] w' fun r w2=>r=.returned (.bool true)/\PI (k+1) w2)
  (hskip:∀ k w',k < ops.length->PI k w'->PI (k+1) w')
  (hkept:∀ k w',PI k w'->Calls Tryz.prog 42 #[.pointer (some ⟨w.heap.size,0,none⟩)] w' fun r w2=>r=.returned (.bool true)/\PI k w2)
  (hbel:∀ k w',PI k w'->Below w.heap.size w w') :
  Calls Tryz.prog 17 #[.slice ad ops.length cap,.int .i64 lo,.int .i64 hi] w fun e w'=>e=.returned (.bool true)/\Below w.heap.size w w':=by
 have BG:Hid (Calls Tryz.prog 40 #[.int .i64 lo,.int .i64 hi] w fun e w'=>e=.returned (.pointer (some ⟨w.heap.size,0,none⟩))/\PI 0 w'):=hbeg
 have KP:=show Hid _ from hkept
 have SK:=show Hid _ from hskip
 have BL:=show Hid _ from hbel
 have STP:=show Hid _ from hstep
 have HO:=show Hid _ from hO
 have hmost:=hO.most
 clear hO hbeg hkept hskip hbel hstep
 go_enter Tryz.func17,Tryz.ntmps17
 go_wp2_with fail
 refine BG.out.mono ?_
 rintro e w1 ⟨rfl,hp1⟩
 have HP1:Hid (PI 0 w1):=hp1
 clear hp1
 go_wp2
 go_loopw [8,9,10,11] (fun s8 _ _ _ wr=>∃ k:Nat,k<=ops.length/\s8=.int .i64 k/\PI k wr) (fun s8 _ _ _ _=>ops.length - (intOf s8).toNat)
 case atStart=>exact ⟨0,Nat.zero_le _,rfl,HP1.out⟩
 case round=>
  obtain ⟨k,hk,rfl,hpk⟩:=hrel
  have HPk:Hid (PI k wr):=hpk
  clear hpk
  by_cases hlt:k < ops.length
  case neg=>
   have hki:¬ (k:Int) < (ops.length:Int):=by omega
   go_wp2
   go_ret
   exact ⟨rfl,BL.out _ _ HPk.out⟩
  have hki:(k:Int) < (ops.length:Int):=by omega
  obtain ⟨o,ho⟩:∃ o,ops[k]?=some o:=⟨_,List.getElem?_eq_getElem hlt⟩
  obtain ⟨b,off,rfl,hcs⟩:=HO.out.cells k o ho
  have HSK:Hid (PI (k+1) wr):=SK.out k wr hlt HPk.out
  obtain ⟨d0,d1,d2,d3,d4,d5,d6,d7,d8,d9,d10,d11,d12,d13,d14,d15⟩:=lop_row hcs (BL.out _ _ HPk.out)
  clear hcs
  by_cases h1:lo<=o.kind
  case neg=>
   clear ho
   go_wp2
   go_roundw
   case rel=>exact ⟨k+1,by omega,int_eq (by simp),HSK.out⟩
   case measure=>simp [intOf];omega
  by_cases h2:o.kind<=hi
  case neg=>
   clear ho
   go_wp2
   go_roundw
   case rel=>exact ⟨k+1,by omega,int_eq (by simp),HSK.out⟩
   case measure=>simp [intOf];omega
  have ST:Hid (Calls Tryz.prog 41 #[.pointer (some ⟨w.heap.size,0,none⟩),.agg (opCells o)] wr fun r w2=>r=.returned (.bool true)/\PI (k+1) w2):=STP.out k o wr ho h1 h2 HPk.out
  unfold opCells at ST
  clear ho HPk HSK
  go_wp2_with fail
  refine ST.out.mono ?_
  rintro e w2 ⟨rfl,hp2⟩
  have HP2:Hid (PI (k+1) w2):=hp2
  clear hp2 d0 d1 d2 d3 d4 d5 d6 d7 d8 d9 d10 d11 d12 d13 d14 d15
  go_wp2_with fail
  refine (KP.out _ _ HP2.out).mono ?_
  rintro e w3 ⟨rfl,hp3⟩
  have HP3:Hid (PI (k+1) w3):=hp3
  clear hp3
  go_wp2
  go_roundw
  case rel=>exact ⟨k+1,by omega,int_eq (by simp),HP3.out⟩
  case measure=>simp [intOf];omega
end Go.Proofs.YtdlhbmncbmconaaGreatDoor

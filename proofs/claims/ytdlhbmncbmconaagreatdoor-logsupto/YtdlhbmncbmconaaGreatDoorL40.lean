/- Pressed by program out of Fd Fe. -/
import Derived.Test.YtdlhbmncbmconaaGreatDoorL39
import Derived.Test.YtdlhbmncbmconaaGreatDoorL09
namespace Go.Proofs.YtdlhbmncbmconaaGreatDoor
open Go.RowKit Go.Sort
attribute [local go_sem] alloc_drewN setCell_drewN app_mk rcut rbyte
theorem RLogAt.drewN {w:World} {q:Nat} {g:Hm.Lg} {ls:List (List UInt8)} {lv:Value} (h:RLogAt w q g ls lv) (n:Nat):RLogAt (w.drewN n) q g ls lv:=h.next (drew_below ⟨_,rfl⟩)
theorem numB_facts (a b:UInt8):wrap64 (a.toNat:Int)=a.toNat/\wrap64 (b.toNat:Int)=b.toNat/\(256 * (a.toNat:Int)+(b.toNat:Int))=(Hm.numB [a,b]:Int)/\Hm.numB [a,b] < 65536:=by
 have ha:a.toNat < 256:=UInt8.toNat_lt _
 have hb:b.toNat < 256:=UInt8.toNat_lt _
 refine ⟨by unfold wrap64;omega,by unfold wrap64;omega,?_,?_⟩
 ·show _=(((256 * a.toNat+b.toNat:Nat)):Int)
  omega
 ·show 256 * a.toNat+b.toNat < 65536
  omega
set_option maxRecDepth 20000 in
set_option maxHeartbeats 8000000 in
theorem radd_ackno (q:Nat) (a b:UInt8) (g:Hm.Lg) (ls:List (List UInt8)) (lv:Value) (w:World) (hr:RLogAt w q g ls lv) (h:Hm.numB [a,b]<=g.had∨ls.length < Hm.numB [a,b]) :
  Calls Tryz.prog 154 #[.pointer (some ⟨q,0,none⟩),.int .u8 65,.string ⟨[a,b].toArray⟩] w fun e w'=>e=.returned (.bool false)/\Below w.heap.size w w':=by
 obtain ⟨c0,c1,c2,c3⟩:=hr.cells
 obtain ⟨al,cl,rfl⟩:=own_form hr.own
 clear hr
 have ha:a.toNat < 256:=UInt8.toNat_lt _
 have hb:b.toNat < 256:=UInt8.toNat_lt _
 obtain ⟨hwa,hwb,hN,hNl⟩:=numB_facts a b
 generalize Hm.numB [a,b]=N at h hN hNl
 by_cases h1:N<=g.had
 ·have hi:(N:Int)<=(g.had:Int):=by omega
  clear h h1 hNl
  go_enter Tryz.func154,Tryz.ntmps154
  go_wp2_with fail
  go_quiet (fail)
  go_wp2
  go_ret
  exact ⟨rfl,drew_below ⟨_,rfl⟩⟩
 ·have hi:¬ (N:Int)<=(g.had:Int):=by omega
  have hj:(ls.length:Int) < (N:Int):=by omega
  clear h h1 hNl
  go_enter Tryz.func154,Tryz.ntmps154
  go_wp2_with fail
  go_quiet (fail)
  go_wp2
  go_ret
  exact ⟨rfl,drew_below ⟨_,rfl⟩⟩
set_option maxRecDepth 20000 in
set_option maxHeartbeats 8000000 in
theorem radd_ack (q:Nat) (a b:UInt8) (g:Hm.Lg) (ls:List (List UInt8)) (lv:Value) (w:World) (hr:RLogAt w q g ls lv) (h1:g.had < Hm.numB [a,b]) (h2:Hm.numB [a,b]<=ls.length) (hrec:g.records.length<=1000000000000) :
  Calls Tryz.prog 154 #[.pointer (some ⟨q,0,none⟩),.int .u8 65,.string ⟨[a,b].toArray⟩] w fun e w'=>e=.returned (.bool true)/\RLogAt w' q (g.ackTo (Hm.numB [a,b])) ls lv/\StepR q lv w lv w':=by
 have HR:Hid (RLogAt w q g ls lv):=hr
 obtain ⟨c0,c1,c2,c3⟩:=hr.cells
 obtain ⟨al,cl,rfl⟩:=own_form hr.own
 have hlm:=hr.len
 have HLM:Hid (ls.length=g.messages):=hlm
 clear hr hlm
 have ha:a.toNat < 256:=UInt8.toNat_lt _
 have hb:b.toNat < 256:=UInt8.toNat_lt _
 obtain ⟨hwa,hwb,hN,hNl⟩:=numB_facts a b
 have HTW:=show Hid _ from Hm.twoB_numB a b
 have hrl:Hid ((Hm.writeRec 65 [a,b]).length<=300):=show _<=_ by rw [Hm.writeRec_length];simp
 have REC:Hid (∀ w,Calls Tryz.prog 153 #[.int .u8 65,.string ⟨[a,b].toArray⟩] w fun e w'=>e=.returned (.string ⟨(Hm.writeRec 65 [a,b]).toArray⟩)/\Below w.heap.size w w'):=fun w=>rRecord_any 65 [a,b] (by simp) w
 generalize Hm.numB [a,b]=N at h1 h2 hN hNl HTW
 have hi:¬ (N:Int)<=(g.had:Int):=by omega
 have hj:¬ (ls.length:Int) < (N:Int):=by omega
 have H12:Hid (g.had<=N/\N<=g.messages):=show _/\_ from ⟨by omega,by have:=HLM.out;omega⟩
 clear h1 h2 hNl
 go_enter Tryz.func154,Tryz.ntmps154
 go_wp2_with fail
 go_quiet (fail)
 go_wp2_with (first
  | (refine Hw.wpList_store_fieldP rfl _ _ _ rfl rfl q 3 (.int .i64 (N:Int)) rfl rfl _ _ (rlgV ⟨g.room,g.records,N,g.waiting.drop (N - g.had)⟩ (.slice al ls.length cl)) (HR.out.drewN _).row rsize_had (by simp [rlgV]) rfl rfl ?_;intro w6 p6;have P6:Hid (Hw.Put (w.drewN _) _ _ _ w6):=p6;clear p6)
  | fail)
 have RT:Hid (RLogAt w6 q ⟨g.room,g.records,N,g.waiting.drop (N - g.had)⟩ ls (.slice al ls.length cl)):=(HR.out.drewN _).had H12.out.1 H12.out.2 P6.out
 have ST:Hid (StepR q (.slice al ls.length cl) w (.slice al ls.length cl) w6):=(StepR.refl.next (drew_below ⟨_,rfl⟩)).trans (StepR.of_put P6.out)
 have hlim:¬ 9223372036854775807 < g.records.length+(Hm.writeRec 65 [a,b]).length:=by have:=hrl.out;omega
 clear P6 c0 c1 c2 c3 hi hj hN hwa hwb ha hb
 go_wp2_with fail
 refine wp_region_any mixed ?_
 change wpAny _ _ _ _ _ _ _ (World.drew _)
 refine wpAny_take (i:=0) (v:=.pointer (some ⟨q,0,none⟩)) rfl (by kernel_rfl) (by kernel_rfl) (by kernel_rfl) (fun _ _ _ h=>h) (Or.inl ⟨by rfl,?_⟩) ?_
 ·intro w;go_simp
 refine wpAny_take (i:=1) (v:=.pointer (some ⟨q,0,none⟩)) rfl (by kernel_rfl) (by kernel_rfl) (by kernel_rfl) (fun _ _ _ h=>h) (Or.inl ⟨by rfl,?_⟩) ?_
 ·intro w;go_simp
 refine wpAny_take (i:=2) (v:=.pointer (some ⟨q,0,none⟩)) rfl (by kernel_rfl) (by kernel_rfl) (by kernel_rfl) (fun _ _ _ h=>h) (Or.inl ⟨by rfl,?_⟩) ?_
 ·intro w;go_simp
 refine wpAny_take (i:=3) (v:=.pointer (some ⟨q,1,none⟩)) rfl (by kernel_rfl) (by kernel_rfl) (by kernel_rfl) (fun _ _ _ h=>h) (Or.inl ⟨by rfl,?_⟩) ?_
 ·intro w;go_simp
 refine wpAny_take (i:=5) (v:=.int .u8 65) rfl (by kernel_rfl) (by kernel_rfl) (by kernel_rfl) (fun _ _ _ h=>h) (Or.inl ⟨by rfl,?_⟩) ?_
 ·intro w;go_simp
 refine wpAny_take (i:=6) (v:=.string ⟨[a,b].toArray⟩) rfl (by kernel_rfl) (by kernel_rfl) (by kernel_rfl) (fun _ _ _ h=>h) (Or.inl ⟨by rfl,?_⟩) ?_
 ·intro w;go_simp
 obtain ⟨t0,t1,t2,t3⟩:=RT.out.cells
 refine wpAny_ready (rs:=[4,7]) (by kernel_rfl) (by simp) ?_
 refine AllReady.cons rfl (fun K hK=>?_) (AllReady.cons rfl (fun K hK=>?_) AllReady.nil)
 ·go_simp
  refine hK _ _ ?_
  clear hK K
  refine wpAny_ready (rs:=[7]) (by kernel_rfl) (by simp) ?_
  refine AllReady.cons rfl (fun K hK=>?_) AllReady.nil
  go_wp2_with fail
  refine (REC.out _).mono ?_
  rintro e w7 ⟨rfl,hb7⟩
  have RT7:Hid (RLogAt w7 q ⟨g.room,g.records,N,g.waiting.drop (N - g.had)⟩ ls (.slice al ls.length cl)):=(RT.out.next (drew_below ⟨1,rfl⟩)).next hb7
  have ST7:Hid (StepR q (.slice al ls.length cl) w (.slice al ls.length cl) w7):=(ST.out.next (drew_below ⟨1,rfl⟩)).next hb7
  clear hb7 t0 t1 t2 t3
  go_wp2_with fail
  refine Hw.wpAny_tail 8 rfl (by kernel_rfl) ?_
  simp only [List.drop_succ_cons,List.drop_zero]
  go_wp2_with (refine Hw.wpList_store_fieldP rfl _ _ _ rfl rfl q 1 (.string ⟨(g.records ++ Hm.writeRec 65 [a,b]).toArray⟩) rfl rfl _ _ (rlgV ⟨g.room,g.records ++ Hm.writeRec 65 [a,b],N,g.waiting.drop (N - g.had)⟩ (.slice al ls.length cl)) RT7.out.row size_str (by simp [rlgV]) rfl rfl ?_;intro w8 p8;have P8:Hid (Hw.Put _ _ _ _ w8):=p8;clear p8)
  go_ret
  refine ⟨rfl,?_,ST7.out.trans (StepR.of_put P8.out)⟩
  have hfin:=RT7.out.text (r:=g.records ++ Hm.writeRec 65 [a,b]) P8.out
  unfold Hm.Lg.ackTo
  rw [HTW.out]
  exact hfin
 ·go_wp2_with fail
  refine (REC.out _).mono ?_
  rintro e w7 ⟨rfl,hb7⟩
  have RT7:Hid (RLogAt w7 q ⟨g.room,g.records,N,g.waiting.drop (N - g.had)⟩ ls (.slice al ls.length cl)):=(RT.out.next (drew_below ⟨1,rfl⟩)).next hb7
  have ST7:Hid (StepR q (.slice al ls.length cl) w (.slice al ls.length cl) w7):=(ST.out.next (drew_below ⟨1,rfl⟩)).next hb7
  clear hb7 t0 t1 t2 t3
  obtain ⟨t0,t1,t2,t3⟩:=RT7.out.cells
  go_wp2_with fail
  refine wpAny_ready (rs:=[4]) (by kernel_rfl) (by simp) ?_
  refine AllReady.cons rfl (fun K hK=>?_) AllReady.nil
  go_simp
  refine hK _ _ ?_
  clear hK K
  refine Hw.wpAny_tail 8 rfl (by kernel_rfl) ?_
  simp only [List.drop_succ_cons,List.drop_zero]
  go_wp2_with (refine Hw.wpList_store_fieldP rfl _ _ _ rfl rfl q 1 (.string ⟨(g.records ++ Hm.writeRec 65 [a,b]).toArray⟩) rfl rfl _ _ (rlgV ⟨g.room,g.records ++ Hm.writeRec 65 [a,b],N,g.waiting.drop (N - g.had)⟩ (.slice al ls.length cl)) RT7.out.row size_str (by simp [rlgV]) rfl rfl ?_;intro w8 p8;have P8:Hid (Hw.Put _ _ _ _ w8):=p8;clear p8)
  go_ret
  refine ⟨rfl,?_,ST7.out.trans (StepR.of_put P8.out)⟩
  have hfin:=RT7.out.text (r:=g.records ++ Hm.writeRec 65 [a,b]) P8.out
  unfold Hm.Lg.ackTo
  rw [HTW.out]
  exact hfin
end Go.Proofs.YtdlhbmncbmconaaGreatDoor
namespace Go.Hm
theorem list_two {l:List UInt8} (h:l.length=2):∃ a b,l=[a,b]:=by
 match l,h with
 | [a,b],_=>exact ⟨a,b,rfl⟩
theorem toNat_eq {k:UInt8} {n:Nat} (hn:n < 256):k.toNat=n ↔ k=UInt8.ofNat n:=by
 constructor
 ·intro h
  apply UInt8.toNat_inj.1
  simp
  omega
 ·intro h
  rw [h]
  simp
  omega
end Go.Hm
namespace Go.Proofs.YtdlhbmncbmconaaGreatDoor
open Go.RowKit Go.Sort
attribute [local go_sem] alloc_drewN setCell_drewN app_mk rcut rbyte
theorem radd_any (q:Nat) (k:UInt8) (l:List UInt8) (g:Hm.Lg) (ls:List (List UInt8)) (lv:Value) (w:World) (hr:RLogAt w q g ls lv) (hl:l.length < 65536) (hls:ls.length<=1000000) (hrec:g.records.length<=1000000000000) :
  Calls Tryz.prog 154 #[.pointer (some ⟨q,0,none⟩),.int .u8 k.toNat,.string ⟨l.toArray⟩] w fun e w'=>e=.returned (.bool (g.back (k,l)).2)/\∃ ls' lv',RLogAt w' q (g.back (k,l)).1 ls' lv'/\StepR q lv w lv' w':=by
 have hm:=hr.len
 by_cases h80:k=80
 ·subst h80
  unfold Hm.Lg.back
  rw [if_pos rfl]
  by_cases hbad:200 < l.length∨65535<=ls.length
  ·rw [if_neg (by
    rintro ⟨h1,h2⟩
    rcases hbad with h | h
    ·rw [Hm.again_long h] at h1;cases h1
    ·omega)]
   refine (radd_many q l g ls lv w hr (by omega) hbad).mono ?_
   rintro e w' ⟨rfl,rfl⟩
   exact ⟨rfl,ls,lv,hr,StepR.refl⟩
  ·cases ha:Hm.again l with
   | false=>
    rw [if_neg (by rintro ⟨h1,_⟩;cases h1)]
    refine (radd_not q l g ls lv w hr (by omega) (by omega) ha).mono ?_
    rintro e w' ⟨rfl,hb⟩
    exact ⟨rfl,ls,lv,hr.next hb,StepR.refl.next hb⟩
   | true=>
    rw [if_pos ⟨rfl,by omega⟩]
    refine (radd_line q l g ls lv w hr (by omega) (by omega) hrec ha).mono ?_
    rintro e w' ⟨rfl,lv',h1,h2⟩
    exact ⟨rfl,_,lv',h1,h2⟩
 ·have k80:¬ k.toNat=80:=fun e=>h80 ((Hm.toNat_eq (n:=80) (by omega)).1 e)
  unfold Hm.Lg.back
  rw [if_neg h80]
  by_cases h65:k=65
  ·subst h65
   rw [if_pos rfl]
   by_cases h2:l.length=2
   ·obtain ⟨a,b,rfl⟩:=Hm.list_two h2
    show Calls _ _ _ _ fun e w'=>e=.returned (.bool (if ([a,b]:List UInt8).length=2/\(g.ack (Hm.numB [a,b])).2=0 then ((g.ack (Hm.numB [a,b])).1,true) else (g,false)).2)/\∃ ls' lv',RLogAt w' q (if ([a,b]:List UInt8).length=2/\(g.ack (Hm.numB [a,b])).2=0 then ((g.ack (Hm.numB [a,b])).1,true) else (g,false)).1 ls' lv'/\StepR q lv w lv' w'
    unfold Hm.Lg.ack
    by_cases hno:Hm.numB [a,b]<=g.had∨ls.length < Hm.numB [a,b]
    ·rw [if_pos (show ((Hm.numB [a,b]:Nat):Int)<=(g.had:Int)∨(g.messages:Int) < ((Hm.numB [a,b]:Nat):Int) by omega),if_neg (by rintro ⟨_,h⟩;cases h)]
     refine (radd_ackno q a b g ls lv w hr hno).mono ?_
     rintro e w' ⟨rfl,hb⟩
     exact ⟨rfl,ls,lv,hr.next hb,StepR.refl.next hb⟩
    ·rw [if_neg (show ¬ (((Hm.numB [a,b]:Nat):Int)<=(g.had:Int)∨(g.messages:Int) < ((Hm.numB [a,b]:Nat):Int)) by omega),if_pos ⟨rfl,rfl⟩]
     refine (radd_ack q a b g ls lv w hr (by omega) (by omega) hrec).mono ?_
     rintro e w' ⟨rfl,h1,h2⟩
     exact ⟨rfl,ls,lv,h1,h2⟩
   ·rw [if_neg (by rintro ⟨h,_⟩;exact h2 h)]
    refine (radd_kind q 65 l (by decide) (.inr h2) w).mono ?_
    rintro e w' ⟨rfl,rfl⟩
    exact ⟨rfl,ls,lv,hr,StepR.refl⟩
  ·rw [if_neg h65]
   refine (radd_kind q k l k80 (.inl fun e=>h65 ((Hm.toNat_eq (n:=65) (by omega)).1 e)) w).mono ?_
   rintro e w' ⟨rfl,rfl⟩
   exact ⟨rfl,ls,lv,hr,StepR.refl⟩
theorem rfew_no {q:Nat} (h:Hid (q < 65535)):((65535:Int)<=(q:Int))=False:=by
 have:=h.out
 simp
 omega
theorem rfew_no2 {q:Nat} (h:Hid (q < 65535)):(65535<=q)=False:=by
 have:=h.out
 simp
 omega
set_option maxRecDepth 20000 in
set_option maxHeartbeats 4000000 in
theorem rPut_bad (q:Nat) (m:Hm.Msg) (w:World) (h:¬ (Hm.line m).2=0) (lt:m.time.length<=4000000000) (lh:m.host.length<=4000000000) (la:m.app.length<=4000000000) (lp:m.proc.length<=4000000000) (li:m.id.length<=4000000000) (ld:m.data.length<=4000000000) (lx:m.text.length<=4000000000) :
  Calls Tryz.prog 119 #[.pointer (some ⟨q,0,none⟩),.agg (msgCells m)] w fun e w'=>e=.returned (.tuple #[.int .i64 0,.int .i64 (Hm.line m).2])/\Below w.heap.size w w':=by
 have LN:Hid (∀ w,Calls Tryz.prog 113 #[.agg (msgCells m)] w fun e w'=>e=.returned (.tuple #[.string ⟨(Hm.line m).1.toArray⟩,.int .i64 (Hm.line m).2])/\Below w.heap.size w w'):=fun w=>rLine_any m w lt lh la lp li ld lx
 generalize Hm.line m=SF at LN h ⊢
 obtain ⟨S,F⟩:=SF
 dsimp only at LN h ⊢
 have e1:((F:Int) == 0)=false:=beq_eq_false_iff_ne.2 (by omega)
 have e2:¬ (F:Int)=0:=by omega
 clear h lt lh la lp li ld lx
 go_enter Tryz.func119,Tryz.ntmps119
 go_wp2_with (first
  | (refine wpList_load_row rfl _ _ rfl w.heap.size rfl _ _ _ _ (heap_alloc_new _ _) Tryz.underlying80 rfl size_rmsg ?_)
  | fail)
 refine (LN.out _).mono ?_
 rintro e w1 ⟨rfl,hb1⟩
 have HB1:Hid (Below w.heap.size w w1):=((Below.refl _ _).alloc (Nat.le_refl _) _).trans (hb1.mono (by simp))
 clear hb1
 go_wp2
 go_ret2
 exact ⟨rfl,HB1.out⟩
attribute [local go_sem] rfew_no rfew_no2
set_option maxRecDepth 20000 in
set_option maxHeartbeats 4000000 in
theorem rPut_good (q:Nat) (m:Hm.Msg) (g:Hm.Lg) (ls:List (List UInt8)) (lv:Value) (w:World) (hr:RLogAt w q g ls lv) (h:(Hm.line m).2=0) (lt:m.time.length<=4000000000) (lh:m.host.length<=4000000000) (la:m.app.length<=4000000000) (lp:m.proc.length<=4000000000) (li:m.id.length<=4000000000) (ld:m.data.length<=4000000000) (lx:m.text.length<=4000000000)
  (hrec:g.records.length<=1000000000000) (hroom:g.waiting.length < g.room) (hmany:g.messages < 65535) :
  Calls Tryz.prog 119 #[.pointer (some ⟨q,0,none⟩),.agg (msgCells m)] w fun e w'=>e=.returned (.tuple #[.int .i64 (g.messages+1:Nat),.int .i64 0])/\∃ ls' lv',RLogAt w' q (g.add (Hm.line m).1) ls' lv'/\StepR q lv w lv' w':=by
 have hlen:=Hm.line_lenL h
 have hag:=Hm.again_line h
 have hml:=hr.len
 have LN:Hid (∀ w,Calls Tryz.prog 113 #[.agg (msgCells m)] w fun e w'=>e=.returned (.tuple #[.string ⟨(Hm.line m).1.toArray⟩,.int .i64 0])/\Below w.heap.size w w'):=fun w=>by
  have:=rLine_any m w lt lh la lp li ld lx
  rw [h] at this
  exact this
 generalize (Hm.line m).1=S at LN hlen hag ⊢
 have AD:Hid (∀ w,RLogAt w q g ls lv->Calls Tryz.prog 154 #[.pointer (some ⟨q,0,none⟩),.int .u8 80,.string ⟨S.toArray⟩] w fun e w'=>e=.returned (.bool true)/\∃ lv',RLogAt w' q (g.add S) (ls ++ [S]) lv'/\StepR q lv w lv' w'):=fun w hr=>radd_line q S g ls lv w hr hlen (by omega) hrec hag
 have HR:Hid (RLogAt w q g ls lv):=hr
 have hwl:ls.length=g.had+g.waiting.length:=by rw [hml];rfl
 have d1:¬ (g.room:Int)<=(g.waiting.length:Int):=by omega
 have d5:¬ g.room<=g.waiting.length:=by omega
 have hm2:Hid (g.messages+1=ls.length+1):=show _=_ by omega
 have HM:Hid (ls.length < 65535):=show _ < _ by omega
 have d4:IntKind.i64.wrap ((ls.length:Int) - (g.had:Int))=(g.waiting.length:Int):=by rw [IntKind.wrap_i64];omega
 clear h lt lh la lp li ld lx hr hlen hag hml hwl hroom hmany hrec
 go_enter Tryz.func119,Tryz.ntmps119
 go_wp2_with (first
  | (refine wpList_load_row rfl _ _ rfl w.heap.size rfl _ _ _ _ (heap_alloc_new _ _) Tryz.underlying80 rfl size_rmsg ?_)
  | fail)
 refine (LN.out _).mono ?_
 rintro e w1 ⟨rfl,hb1⟩
 have HB1:Hid (Below w.heap.size w w1):=((Below.refl _ _).alloc (Nat.le_refl _) _).trans (hb1.mono (by simp))
 have HR1:Hid (RLogAt w1 q g ls lv):=HR.out.next HB1.out
 clear hb1
 obtain ⟨c0,c1,c2,c3⟩:=HR1.out.cells
 obtain ⟨al,cl,rfl⟩:=own_form HR1.out.own
 go_wp2_with fail
 go_quiet (fail)
 clear d1 d4 d5
 go_wp2_with fail
 refine (AD.out _ (HR1.out.drewN _)).mono ?_
 rintro e w2 ⟨rfl,lv2,hr2,hs2⟩
 have HR2:Hid (RLogAt w2 q (g.add S) (ls ++ [S]) lv2):=hr2
 have HS2:Hid (StepR q (.slice al ls.length cl) w lv2 w2):=(StepR.refl.next (Below.next HB1.out (Nat.le_refl _) (drew_below ⟨_,rfl⟩))).trans hs2
 clear hr2 hs2 c0 c1 c2 c3
 obtain ⟨c0,c1,c2,c3⟩:=HR2.out.cells
 obtain ⟨a2,cl2,rfl⟩:=own_form HR2.out.own
 have hl2:(ls ++ [S]).length=ls.length+1:=by simp
 rw [hl2] at c2
 go_wp2
 go_ret2
 exact ⟨by rw [hm2.out];rfl,_,_,HR2.out,HS2.out⟩
end Go.Proofs.YtdlhbmncbmconaaGreatDoor

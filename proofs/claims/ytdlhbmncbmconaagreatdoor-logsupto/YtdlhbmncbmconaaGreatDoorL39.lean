/- Pressed by program out of Fc. -/
import Derived.Test.YtdlhbmncbmconaaGreatDoorL38
import Derived.Test.YtdlhbmncbmconaaGreatDoorL28
import Derived.Test.YtdlhbmncbmconaaGreatDoorL29
namespace Go.Proofs.YtdlhbmncbmconaaGreatDoor
open Go.RowKit Go.Sort
attribute [local go_sem] alloc_drewN setCell_drewN app_mk rcut rbyte
theorem rsize_had:(Tryz.prog.info? 3).map (·.size)=some 1:=by kernel_rfl
theorem rsize_lines:(Tryz.prog.info? 42).map (·.size)=some 1:=by kernel_rfl
set_option maxRecDepth 20000 in
set_option maxHeartbeats 4000000 in
theorem radd_kind (q:Nat) (k:UInt8) (l:List UInt8) (hk:¬ k.toNat=80) (h:¬ k.toNat=65∨¬ l.length=2) (w:World):Calls Tryz.prog 154 #[.pointer (some ⟨q,0,none⟩),.int .u8 k.toNat,.string ⟨l.toArray⟩] w fun e w'=>e=.returned (.bool false)/\w'=w:=by
 have k80:((k.toNat:Int) == 80)=false:=beq_eq_false_iff_ne.2 (by omega)
 have k80':¬ (k.toNat:Int)=80:=by omega
 clear hk
 by_cases h1:k.toNat=65
 ·have hl:¬ (l.length:Int)=2:=by omega
  have hlb:((l.length:Int) == 2)=false:=beq_eq_false_iff_ne.2 hl
  have k65:((k.toNat:Int) == 65)=true:=beq_iff_eq.2 (by omega)
  have k65':(k.toNat:Int)=65:=by omega
  clear h h1
  go_enter Tryz.func154,Tryz.ntmps154
  go_wp2
  go_ret
  exact ⟨rfl,rfl⟩
 ·have k65:((k.toNat:Int) == 65)=false:=beq_eq_false_iff_ne.2 (by omega)
  have k65':¬ (k.toNat:Int)=65:=by omega
  clear h h1
  go_enter Tryz.func154,Tryz.ntmps154
  go_wp2
  go_ret
  exact ⟨rfl,rfl⟩
set_option maxRecDepth 20000 in
set_option maxHeartbeats 4000000 in
theorem radd_many (q:Nat) (l:List UInt8) (g:Hm.Lg) (ls:List (List UInt8)) (lv:Value) (w:World) (hr:RLogAt w q g ls lv) (hl:l.length<=1000000000) (h:200 < l.length∨65535<=ls.length):Calls Tryz.prog 154 #[.pointer (some ⟨q,0,none⟩),.int .u8 80,.string ⟨l.toArray⟩] w fun e w'=>e=.returned (.bool false)/\w'=w:=by
 obtain ⟨c0,c1,c2,c3⟩:=hr.cells
 obtain ⟨al,cl,rfl⟩:=own_form hr.own
 clear hr
 by_cases h1:200 < l.length
 ·have hi:(200:Int) < (l.length:Int):=by omega
  clear h h1
  go_enter Tryz.func154,Tryz.ntmps154
  go_wp2
  go_ret
  exact ⟨rfl,rfl⟩
 ·have hi:¬ (200:Int) < (l.length:Int):=by omega
  have hj:(65535:Int)<=(ls.length:Int):=by omega
  clear h h1
  go_enter Tryz.func154,Tryz.ntmps154
  go_wp2
  go_ret
  exact ⟨rfl,rfl⟩
set_option maxRecDepth 20000 in
set_option maxHeartbeats 8000000 in
theorem radd_not (q:Nat) (l:List UInt8) (g:Hm.Lg) (ls:List (List UInt8)) (lv:Value) (w:World) (hr:RLogAt w q g ls lv) (hl:l.length<=200) (hls:ls.length < 65535) (ha:Hm.again l=false):Calls Tryz.prog 154 #[.pointer (some ⟨q,0,none⟩),.int .u8 80,.string ⟨l.toArray⟩] w fun e w'=>e=.returned (.bool false)/\Below w.heap.size w w':=by
 obtain ⟨c0,c1,c2,c3⟩:=hr.cells
 obtain ⟨al,cl,rfl⟩:=own_form hr.own
 clear hr
 have hi:¬ (200:Int) < (l.length:Int):=by omega
 have hj:¬ (65535:Int)<=(ls.length:Int):=by omega
 have hno:=Hm.again_no ha
 have hsm:=Hm.read_small l 2000
 have RD:Hid (∀ w,Calls Tryz.prog 110 #[.string ⟨l.toArray⟩,.int .i64 2000] w fun e w'=>e=.returned (.tuple #[.agg (msgCells (Hm.read l 2000).1),.int .i64 (Hm.read l 2000).2.1,.int .i64 (Hm.read l 2000).2.2])/\Below w.heap.size w w'):=fun w=>rRead_any l (by omega) 2000 w
 have LN:Hid (∀ w,Calls Tryz.prog 113 #[.agg (msgCells (Hm.read l 2000).1)] w fun e w'=>e=.returned (.tuple #[.string ⟨(Hm.line (Hm.read l 2000).1).1.toArray⟩,.int .i64 (Hm.line (Hm.read l 2000).1).2])/\Below w.heap.size w w'):=fun w=>by
  obtain ⟨a1,a2,a3,a4,a5,a6,a7⟩:=hsm
  exact rLine_any _ w (by omega) (by omega) (by omega) (by omega) (by omega) (by omega) (by omega)
 clear ha hsm
 generalize Hm.read l 2000=R at RD LN hno
 obtain ⟨M,E,A⟩:=R
 dsimp only at RD LN hno
 generalize Hm.line M=SF at LN hno
 obtain ⟨S,F⟩:=SF
 dsimp only at LN
 have hc:¬ E=0∨(E=0/\¬ F=0)∨(E=0/\F=0/\¬ S=l):=by
  by_cases h1:E=0
  ·by_cases h2:F=0
   ·refine .inr (.inr ⟨h1,h2,fun h3=>hno ⟨h1,by rw [h2,h3]⟩⟩)
   ·exact .inr (.inl ⟨h1,h2⟩)
  ·exact .inl h1
 clear hno
 rcases hc with h | ⟨h0,h⟩ | ⟨h0,hf,h⟩
 ·have e1:((E:Int) == 0)=false:=beq_eq_false_iff_ne.2 (by omega)
  have e2:¬ (E:Int)=0:=by omega
  clear h
  go_enter Tryz.func154,Tryz.ntmps154
  go_wp2_with fail
  clear hi hj hls hl
  refine (RD.out _).mono ?_
  rintro e w1 ⟨rfl,hb1⟩
  have HB1:Hid (Below w.heap.size w w1):=hb1
  clear hb1
  go_wp2_with (first
   | (refine Hw.wpList_store_rowP rfl _ _ _ rfl rfl w1.heap.size (msgCells M) rfl rfl _ _ (heap_alloc_new _ _) size_rmsg rfl rfl ?_;intro w2 p2;have P2:Hid (Hw.Put (w1.alloc _) _ _ _ w2):=p2;clear p2)
   | (refine wpList_load_row rfl _ _ rfl w1.heap.size rfl _ _ _ _ P2.out.row Tryz.underlying80 rfl size_rmsg ?_)
   | fail)
  have HB2:Hid (Below w.heap.size w w2):=(HB1.out.alloc HB1.out.size _).trans (P2.out.below HB1.out.size)
  refine (LN.out _).mono ?_
  rintro e w3 ⟨rfl,hb3⟩
  have HB3:Hid (Below w.heap.size w w3):=Below.next HB2.out (Nat.le_refl _) hb3
  clear hb3
  go_wp2
  go_ret
  exact ⟨rfl,HB3.out⟩
 ·have e1:((F:Int) == 0)=false:=beq_eq_false_iff_ne.2 (by omega)
  have e2:¬ (F:Int)=0:=by omega
  subst h0
  clear h
  go_enter Tryz.func154,Tryz.ntmps154
  go_wp2_with fail
  clear hi hj hls hl
  refine (RD.out _).mono ?_
  rintro e w1 ⟨rfl,hb1⟩
  have HB1:Hid (Below w.heap.size w w1):=hb1
  clear hb1
  go_wp2_with (first
   | (refine Hw.wpList_store_rowP rfl _ _ _ rfl rfl w1.heap.size (msgCells M) rfl rfl _ _ (heap_alloc_new _ _) size_rmsg rfl rfl ?_;intro w2 p2;have P2:Hid (Hw.Put (w1.alloc _) _ _ _ w2):=p2;clear p2)
   | (refine wpList_load_row rfl _ _ rfl w1.heap.size rfl _ _ _ _ P2.out.row Tryz.underlying80 rfl size_rmsg ?_)
   | fail)
  have HB2:Hid (Below w.heap.size w w2):=(HB1.out.alloc HB1.out.size _).trans (P2.out.below HB1.out.size)
  refine (LN.out _).mono ?_
  rintro e w3 ⟨rfl,hb3⟩
  have HB3:Hid (Below w.heap.size w w3):=Below.next HB2.out (Nat.le_refl _) hb3
  clear hb3
  go_wp2
  go_ret
  exact ⟨rfl,HB3.out⟩
 ·have e1:(S == l)=false:=beq_eq_false_iff_ne.2 h
  subst h0 hf
  go_enter Tryz.func154,Tryz.ntmps154
  go_wp2_with fail
  clear hi hj hls hl
  refine (RD.out _).mono ?_
  rintro e w1 ⟨rfl,hb1⟩
  have HB1:Hid (Below w.heap.size w w1):=hb1
  clear hb1
  go_wp2_with (first
   | (refine Hw.wpList_store_rowP rfl _ _ _ rfl rfl w1.heap.size (msgCells M) rfl rfl _ _ (heap_alloc_new _ _) size_rmsg rfl rfl ?_;intro w2 p2;have P2:Hid (Hw.Put (w1.alloc _) _ _ _ w2):=p2;clear p2)
   | (refine wpList_load_row rfl _ _ rfl w1.heap.size rfl _ _ _ _ P2.out.row Tryz.underlying80 rfl size_rmsg ?_)
   | fail)
  have HB2:Hid (Below w.heap.size w w2):=(HB1.out.alloc HB1.out.size _).trans (P2.out.below HB1.out.size)
  refine (LN.out _).mono ?_
  rintro e w3 ⟨rfl,hb3⟩
  have HB3:Hid (Below w.heap.size w w3):=Below.next HB2.out (Nat.le_refl _) hb3
  clear hb3
  go_wp2
  go_ret
  exact ⟨rfl,HB3.out⟩
set_option maxRecDepth 20000 in
set_option maxHeartbeats 8000000 in
theorem radd_line (q:Nat) (l:List UInt8) (g:Hm.Lg) (ls:List (List UInt8)) (lv:Value) (w:World) (hr:RLogAt w q g ls lv) (hl:l.length<=200) (hls:ls.length < 65535) (hrec:g.records.length<=1000000000000) (ha:Hm.again l=true) :
  Calls Tryz.prog 154 #[.pointer (some ⟨q,0,none⟩),.int .u8 80,.string ⟨l.toArray⟩] w fun e w'=>e=.returned (.bool true)/\∃ lv',RLogAt w' q (g.add l) (ls ++ [l]) lv'/\StepR q lv w lv' w':=by
 obtain ⟨i7,hi7,hz70,hz71,hz72⟩:=info_parts info_str
 have HR:Hid (RLogAt w q g ls lv):=hr
 obtain ⟨c0,c1,c2,c3⟩:=hr.cells
 obtain ⟨al,cl,hal⟩:=own_form hr.own
 rw [hal] at c2
 have HAL:Hid (lv=.slice al ls.length cl):=hal
 clear hr hal
 have hi:¬ (200:Int) < (l.length:Int):=by omega
 have hj:¬ (65535:Int)<=(ls.length:Int):=by omega
 obtain ⟨y1,y2⟩:=Hm.again_yes ha
 have hsm:=Hm.read_small l 2000
 have hrl:Hid ((Hm.writeRec 80 l).length<=300):=show _<=_ by rw [Hm.writeRec_length];omega
 have REC:Hid (∀ w,Calls Tryz.prog 153 #[.int .u8 80,.string ⟨l.toArray⟩] w fun e w'=>e=.returned (.string ⟨(Hm.writeRec 80 l).toArray⟩)/\Below w.heap.size w w'):=fun w=>rRecord_any 80 l (by omega) w
 have RD:Hid (∀ w,Calls Tryz.prog 110 #[.string ⟨l.toArray⟩,.int .i64 2000] w fun e w'=>e=.returned (.tuple #[.agg (msgCells (Hm.read l 2000).1),.int .i64 0,.int .i64 (Hm.read l 2000).2.2])/\Below w.heap.size w w'):=fun w=>by
  have:=rRead_any l (by omega) 2000 w
  rw [y1] at this
  exact this
 have LN:Hid (∀ w,Calls Tryz.prog 113 #[.agg (msgCells (Hm.read l 2000).1)] w fun e w'=>e=.returned (.tuple #[.string ⟨l.toArray⟩,.int .i64 0])/\Below w.heap.size w w'):=fun w=>by
  obtain ⟨a1,a2,a3,a4,a5,a6,a7⟩:=hsm
  have:=rLine_any (Hm.read l 2000).1 w (by omega) (by omega) (by omega) (by omega) (by omega) (by omega) (by omega)
  rw [y2] at this
  exact this
 clear ha hsm y1 y2
 generalize (Hm.read l 2000).1=M at RD LN
 generalize (Hm.read l 2000).2.2=A at RD
 have HLS:Hid (ls.length < 65535):=hls
 go_enter Tryz.func154,Tryz.ntmps154
 go_wp2_with fail
 clear hi hj hls hl
 refine (RD.out _).mono ?_
 rintro e w1 ⟨rfl,hb1⟩
 have HB1:Hid (Below w.heap.size w w1):=hb1
 clear hb1
 go_wp2_with (first
  | (refine Hw.wpList_store_rowP rfl _ _ _ rfl rfl w1.heap.size (msgCells M) rfl rfl _ _ (heap_alloc_new _ _) size_rmsg rfl rfl ?_;intro w2 p2;have P2:Hid (Hw.Put (w1.alloc _) _ _ _ w2):=p2;clear p2)
  | (refine wpList_load_row rfl _ _ rfl w1.heap.size rfl _ _ _ _ P2.out.row Tryz.underlying80 rfl size_rmsg ?_)
  | fail)
 have HB2:Hid (Below w.heap.size w w2):=(HB1.out.alloc HB1.out.size _).trans (P2.out.below HB1.out.size)
 refine (LN.out _).mono ?_
 rintro e w3 ⟨rfl,hb3⟩
 have HB3:Hid (Below w.heap.size w w3):=Below.next HB2.out (Nat.le_refl _) hb3
 have HR3:Hid (RLogAt w3 q g ls lv):=HR.out.next HB3.out
 clear hb3 c0 c1 c2 c3
 obtain ⟨c0,c1,c2,c3⟩:=HR3.out.cells
 rw [HAL.out] at c2
 have O3:Hid (w3.ownsRow 0 9 1 (.slice al ls.length cl) ls.length (ls.map strV)):=by
  show World.ownsRow _ _ _ _ _ _ _
  rw [<-HAL.out]
  exact HR3.out.own
 go_wp2_with (first
  | (at_builtin;refine Hw.wpList_append_item rfl _ _ 42 rfl 9 i7 (.string ByteArray.empty) 16 Tryz.underlying42 hi7 hz70 hz71 hz72 rfl _ _ (ls.map strV) rfl (O3.out.alloc _) ⟨_,0,none⟩ (.string ⟨l.toArray⟩) rfl (cell_one_new _ _ _) rfl (by have:=HLS.out;unfold maxLen;omega) (by have:=HLS.out;omega) ?_;intro v5 w5 hown5 hg5 hat5 _;rw [<-HAL.out] at hg5 hat5;have HO5:Hid (w5.ownsRow 0 9 1 v5 (ls.length+1) (ls.map strV ++ [strV l])):=hown5;have HG5:=show Hid _ from hg5;have HA5:=show Hid _ from hat5;have HR5:=show Hid _ from HR3.out.row5 hg5;obtain ⟨a5,cap5,hv5⟩:=own_form hown5;subst hv5;clear hown5 hg5 hat5)
  | (refine Hw.wpList_store_fieldP rfl _ _ _ rfl rfl q 2 (.slice a5 _ cap5) rfl rfl _ _ (rlgV g (.slice a5 (ls.length+1) cap5)) HR5.out rsize_lines (by simp [rlgV]) rfl rfl ?_;intro w6 p6;have RT2:Hid (_/\_):=HR3.out.line HO5.out HG5.out HA5.out p6;clear p6 c0 c1 c2 c3)
  | fail)
 have RT:Hid (RLogAt w6 q ⟨g.room,g.records,g.had,g.waiting ++ [l]⟩ (ls ++ [l]) (.slice a5 (ls.length+1) cap5)):=RT2.out.1
 have ST:Hid (StepR q lv w (.slice a5 (ls.length+1) cap5) w6):=(StepR.refl.next HB3.out).trans RT2.out.2
 have hlim:¬ 9223372036854775807 < g.records.length+(Hm.writeRec 80 l).length:=by have:=hrl.out;omega
 clear HO5 HG5 HA5 HR5 RT2 HR3 HB3 HB2 HB1 P2 O3
 go_wp2_with fail
 refine wp_region_any mixed ?_
 change wpAny _ _ _ _ _ _ _ (World.drew _)
 refine wpAny_take (i:=0) (v:=.pointer (some ⟨q,0,none⟩)) rfl (by kernel_rfl) (by kernel_rfl) (by kernel_rfl) (fun _ _ _ h=>h) (Or.inl ⟨by rfl,?_⟩) ?_
 ·intro w;go_simp
 refine wpAny_take (i:=1) (v:=.pointer (some ⟨q,0,none⟩)) rfl (by kernel_rfl) (by kernel_rfl) (by kernel_rfl) (fun _ _ _ h=>h) (Or.inl ⟨by rfl,?_⟩) ?_
 ·intro w;go_simp
 refine wpAny_take (i:=2) (v:=.pointer (some ⟨q,0,none⟩)) rfl (by kernel_rfl) (by kernel_rfl) (by kernel_rfl) (fun _ _ _ h=>h) (Or.inl ⟨by rfl,?_⟩) ?_
 ·intro w;go_simp
 refine wpAny_take (i:=3) (v:=.pointer (some ⟨q,1,none⟩)) rfl (by kernel_rfl) (by kernel_rfl) (by kernel_rfl) (fun _ _ _ h=>h) (Or.inl ⟨by rfl,?_⟩) ?_
 ·intro w;go_simp
 refine wpAny_take (i:=5) (v:=.int .u8 80) rfl (by kernel_rfl) (by kernel_rfl) (by kernel_rfl) (fun _ _ _ h=>h) (Or.inl ⟨by rfl,?_⟩) ?_
 ·intro w;go_simp
 refine wpAny_take (i:=6) (v:=.string ⟨l.toArray⟩) rfl (by kernel_rfl) (by kernel_rfl) (by kernel_rfl) (fun _ _ _ h=>h) (Or.inl ⟨by rfl,?_⟩) ?_
 ·intro w;go_simp
 obtain ⟨t0,t1,t2,t3⟩:=RT.out.cells
 refine wpAny_ready (rs:=[4,7]) (by kernel_rfl) (by simp) ?_
 refine AllReady.cons rfl (fun K hK=>?_) (AllReady.cons rfl (fun K hK=>?_) AllReady.nil)
 ·go_simp
  refine hK _ _ ?_
  clear hK K
  refine wpAny_ready (rs:=[7]) (by kernel_rfl) (by simp) ?_
  refine AllReady.cons rfl (fun K hK=>?_) AllReady.nil
  go_wp2_with fail
  refine (REC.out _).mono ?_
  rintro e w7 ⟨rfl,hb7⟩
  have RT7:Hid (RLogAt w7 q ⟨g.room,g.records,g.had,g.waiting ++ [l]⟩ (ls ++ [l]) (.slice a5 (ls.length+1) cap5)):=(RT.out.next (drew_below ⟨1,rfl⟩)).next hb7
  have ST7:Hid (StepR q lv w (.slice a5 (ls.length+1) cap5) w7):=(ST.out.next (drew_below ⟨1,rfl⟩)).next hb7
  clear hb7 t0 t1 t2 t3
  go_wp2_with fail
  refine Hw.wpAny_tail 8 rfl (by kernel_rfl) ?_
  simp only [List.drop_succ_cons,List.drop_zero]
  go_wp2_with (refine Hw.wpList_store_fieldP rfl _ _ _ rfl rfl q 1 (.string ⟨(g.records ++ Hm.writeRec 80 l).toArray⟩) rfl rfl _ _ (rlgV ⟨g.room,g.records ++ Hm.writeRec 80 l,g.had,g.waiting ++ [l]⟩ (.slice a5 (ls.length+1) cap5)) RT7.out.row size_str (by simp [rlgV]) rfl rfl ?_;intro w8 p8;have P8:Hid (Hw.Put _ _ _ _ w8):=p8;clear p8)
  go_ret
  exact ⟨rfl,_,RT7.out.text (r:=g.records ++ Hm.writeRec 80 l) P8.out,ST7.out.trans (StepR.of_put P8.out)⟩
 ·go_wp2_with fail
  refine (REC.out _).mono ?_
  rintro e w7 ⟨rfl,hb7⟩
  have RT7:Hid (RLogAt w7 q ⟨g.room,g.records,g.had,g.waiting ++ [l]⟩ (ls ++ [l]) (.slice a5 (ls.length+1) cap5)):=(RT.out.next (drew_below ⟨1,rfl⟩)).next hb7
  have ST7:Hid (StepR q lv w (.slice a5 (ls.length+1) cap5) w7):=(ST.out.next (drew_below ⟨1,rfl⟩)).next hb7
  clear hb7 t0 t1 t2 t3
  obtain ⟨t0,t1,t2,t3⟩:=RT7.out.cells
  go_wp2_with fail
  refine wpAny_ready (rs:=[4]) (by kernel_rfl) (by simp) ?_
  refine AllReady.cons rfl (fun K hK=>?_) AllReady.nil
  go_simp
  refine hK _ _ ?_
  clear hK K
  refine Hw.wpAny_tail 8 rfl (by kernel_rfl) ?_
  simp only [List.drop_succ_cons,List.drop_zero]
  go_wp2_with (refine Hw.wpList_store_fieldP rfl _ _ _ rfl rfl q 1 (.string ⟨(g.records ++ Hm.writeRec 80 l).toArray⟩) rfl rfl _ _ (rlgV ⟨g.room,g.records ++ Hm.writeRec 80 l,g.had,g.waiting ++ [l]⟩ (.slice a5 (ls.length+1) cap5)) RT7.out.row size_str (by simp [rlgV]) rfl rfl ?_;intro w8 p8;have P8:Hid (Hw.Put _ _ _ _ w8):=p8;clear p8)
  go_ret
  exact ⟨rfl,_,RT7.out.text (r:=g.records ++ Hm.writeRec 80 l) P8.out,ST7.out.trans (StepR.of_put P8.out)⟩
end Go.Proofs.YtdlhbmncbmconaaGreatDoor

/- Pressed by program out of Bl. -/
import Derived.Test.YtdlhbmncbmconaaGreatDoorL12
import Derived.Test.YtdlhbmncbmconaaGreatDoorL02
namespace Go.Proofs.YtdlhbmncbmconaaGreatDoor
open Go.RowKit Go.Sort
attribute [local go_sem] alloc_drewN setCell_drewN
structure LogIn (w:World) (p:Nat) (g:Hm.Lg) (rv wv:Value):Prop where
 row:w.heap[p]?=some (.cells (LgV g rv wv) 116 (0,0))
 recs:w.ownsRow 11 5 1 rv g.records.length (g.records.map fun b=>Value.int .u8 b.toNat)
 wai:Hw.ownsFrom w 11 9 wv (g.waiting.map strV)
 lo:11<=p
theorem LogIn.form {w:World} {p:Nat} {g:Hm.Lg} {rv wv:Value} (h:LogIn w p g rv wv):∃ ad cap,wv=.slice ad g.waiting.length cap:=by
 obtain ⟨ad,cap,e⟩:=Hw.ownsFrom_form h.wai
 exact ⟨ad,cap,by rw [e,List.length_map]⟩
theorem LogIn.cells {w:World} {p:Nat} {g:Hm.Lg} {rv wv:Value} (h:LogIn w p g rv wv) :
  w.cell? ⟨p,0,none⟩=some (.int .i64 g.room)/\w.cell? ⟨p,1,none⟩=some rv/\w.cell? ⟨p,2,none⟩=some (.int .i64 g.had)/\w.cell? ⟨p,3,none⟩=some wv:=by
 have hr:=h.row
 unfold LgV at hr
 refine ⟨?_,?_,?_,?_⟩<;>simp [World.cell?,hr]
theorem messages_in (p:Nat) (g:Hm.Lg) (rv wv:Value) (w:World) (h:LogIn w p g rv wv) (h1:g.had<=1000000) (h2:g.waiting.length<=1000000) :
  Calls Tryz.prog 75 #[.pointer (some ⟨p,0,none⟩)] w fun e w'=>e=.returned (.int .i64 g.messages)/\∃ n,w'=w.drewN n:=by
 obtain ⟨c0,c1,c2,c3⟩:=h.cells
 obtain ⟨ad,cap,rfl⟩:=h.form
 clear h
 go_enter Tryz.func75,Tryz.ntmps75
 go_wp2_with fail
 go_quiet (fail)
 go_wp2
 go_ret
 refine ⟨?_,⟨_,rfl⟩⟩
 show Ending.returned (.int .i64 ((g.had:Int)+(g.waiting.length:Int)))=Ending.returned (.int .i64 ((g.had+g.waiting.length:Nat):Int))
 rw [Int.natCast_add]
theorem LogIn.keep {p:Nat} {g:Hm.Lg} {rv wv:Value} {A B:World} {S:Nat->Prop} (h:LogIn A p g rv wv) (hk:Hw.Kept S A B) (h1:¬ S p) (h2:∀ k,rv.ownBlock=some k->¬ S k) (h3:∀ k,wv.ownBlock=some k->¬ S k):LogIn B p g rv wv:=
 ⟨(hk.block _ (Array.getElem?_eq_some_iff.1 h.row).1 h1).trans h.row,Hw.ownsRow_keptS h.recs hk h2,Hw.ownsFrom_keptS h.wai hk h3,h.lo⟩
theorem LogIn.below {p:Nat} {g:Hm.Lg} {rv wv:Value} {A B:World} (h:LogIn A p g rv wv) (hb:Below A.heap.size A B):LogIn B p g rv wv:=
 h.keep (S:=fun _=>False) (Hw.Kept.of_below hb) (fun e=>e) (fun _ _ e=>e) (fun _ _ e=>e)
theorem LogIn.apart {w:World} {p:Nat} {g:Hm.Lg} {rv wv:Value} (h:LogIn w p g rv wv):rv.ownBlock ≠ some p/\wv.ownBlock ≠ some p/\∀ k,rv.ownBlock=some k->wv.ownBlock ≠ some k:=by
 refine ⟨fun e=>?_,fun e=>?_,fun k e e'=>?_⟩
 ·obtain ⟨c,hc⟩:=Hw.ownsRow_cells h.recs e
  exact ne_types hc h.row (by decide) rfl
 ·obtain ⟨_,c,hc⟩:=Hw.ownsFrom_cells h.wai e
  exact ne_types hc h.row (by decide) rfl
 ·obtain ⟨c,hc⟩:=Hw.ownsRow_cells h.recs e
  obtain ⟨_,c',hc'⟩:=Hw.ownsFrom_cells h.wai e'
  exact ne_types hc hc' (by decide) rfl
theorem LogIn.grownR {w w5:World} {p:Nat} {g:Hm.Lg} {rv wv:Value} (h:LogIn w p g rv wv) (hgrow:w.grownBy w5 rv.ownBlock):w5.heap[p]?=some (.cells (LgV g rv wv) 116 (0,0)):=
 (hgrow.block p (Array.getElem?_eq_some_iff.1 h.row).1 (fun e=>h.apart.1 e.symm)).trans h.row
theorem LogIn.putR {w w5 w6:World} {p:Nat} {g:Hm.Lg} {rv rv' wv:Value} {l:List UInt8} (h:LogIn w p g rv wv) (hown':w5.ownsRow 11 5 1 rv' (g.records.length+l.length) ((g.records.map fun b=>Value.int .u8 b.toNat) ++ Lib.strCells ⟨l.toArray⟩))
  (hgrow:w.grownBy w5 rv.ownBlock) (hat:∀ k,rv'.ownBlock=some k->rv.ownBlock=some k∨w.heap.size<=k) (P:Hw.Put w5 p 116 (LgV g rv' wv) w6) :
  LogIn w6 p ⟨g.room,g.records ++ l,g.had,g.waiting⟩ rv' wv/\StepL p rv wv w rv' wv w6:=by
 have k1:Hw.Kept (fun k=>some k=rv.ownBlock) w w5:=Hw.Kept.of_grown hgrow
 have hp:p < w.heap.size:=(Array.getElem?_eq_some_iff.1 h.row).1
 have hne:rv'.ownBlock ≠ some p:=fun e=>by
  rcases hat p e with e | e
  ·exact h.apart.1 e
  ·omega
 refine ⟨⟨P.row,?_,?_,h.lo⟩,(k1.mono (fun _ _ e=>.inr (.inl e.symm))).trans P.kept (fun _ _ e=>.inl e),hat,fun _ e=>.inl e⟩
 ·have:=Hw.ownsRow_keptS hown' P.kept (fun k e h=>hne (by rw [e,h]))
  rw [strCells_list] at this
  simpa using this
 ·have:=Hw.ownsFrom_keptS h.wai k1 (fun k e e'=>h.apart.2.2 k e'.symm e)
  exact Hw.ownsFrom_keptS this P.kept (fun k e h'=>h.apart.2.1 (by rw [e,h']))
theorem LogIn.grownW {w w5:World} {p:Nat} {g:Hm.Lg} {rv wv:Value} {o:Obj} (h:LogIn w p g rv wv) (hgrow:(w.alloc o).grownBy w5 wv.ownBlock):w5.heap[p]?=some (.cells (LgV g rv wv) 116 (0,0)):=by
 have hp:p < w.heap.size:=(Array.getElem?_eq_some_iff.1 h.row).1
 exact (hgrow.block p (by simp;omega) (fun e=>h.apart.2.1 e.symm)).trans ((heap_alloc_old w o hp).trans h.row)
theorem LogIn.putW {w w5 w6:World} {p:Nat} {g:Hm.Lg} {rv wv wv':Value} {x:List UInt8} {o:Obj} (h:LogIn w p g rv wv) (hown':Hw.ownsFrom w5 11 9 wv' (g.waiting.map strV ++ [.string ⟨x.toArray⟩]))
  (hgrow:(w.alloc o).grownBy w5 wv.ownBlock) (hat:wv'.ownBlock=wv.ownBlock∨wv'.ownBlock=some (w.alloc o).heap.size) (P:Hw.Put w5 p 116 (LgV g rv wv') w6) :
  LogIn w6 p ⟨g.room,g.records,g.had,g.waiting ++ [x]⟩ rv wv'/\StepL p rv wv w rv wv' w6:=by
 have k0:Hw.Kept (fun k=>some k=wv.ownBlock) w (w.alloc o):=(Hw.Kept.refl _ _).alloc o
 have k1:Hw.Kept (fun k=>some k=wv.ownBlock) w w5:=k0.trans (Hw.Kept.of_grown hgrow) (fun _ _ e=>e)
 have hp:p < w.heap.size:=(Array.getElem?_eq_some_iff.1 h.row).1
 have hat':∀ k,wv'.ownBlock=some k->wv.ownBlock=some k∨w.heap.size<=k:=fun k e=>by
  rcases hat with h | h
  ·exact .inl (by rw [<-h];exact e)
  ·rw [h] at e;cases e;right;simp
 have hne:wv'.ownBlock ≠ some p:=fun e=>by
  rcases hat' p e with e | e
  ·exact h.apart.2.1 e
  ·omega
 refine ⟨⟨P.row,?_,?_,h.lo⟩,(k1.mono (fun _ _ e=>.inr (.inr e.symm))).trans P.kept (fun _ _ e=>.inl e),fun _ e=>.inl e,hat'⟩
 ·have:=Hw.ownsRow_keptS h.recs k1 (fun k e e'=>h.apart.2.2 k e e'.symm)
  exact Hw.ownsRow_keptS this P.kept (fun k e h'=>h.apart.1 (by rw [e,h']))
 ·have:=Hw.ownsFrom_keptS hown' P.kept (fun k e h=>hne (by rw [e,h]))
  simpa [strV] using this
set_option maxRecDepth 20000 in
set_option maxHeartbeats 800000 in
theorem addMessage_in (p:Nat) (g:Hm.Lg) (rv wv:Value) (w:World) (h:LogIn w p g rv wv) (l:List UInt8) (hl:l.length<=4000) (h1:g.records.length<=1000000000000) (h2:g.waiting.length<=1000000) :
  Calls Tryz.prog 76 #[.pointer (some ⟨p,0,none⟩),.string ⟨l.toArray⟩] w fun e w'=>(∃ u,e=.returned u)/\∃ rv' wv',LogIn w' p (g.add l) rv' wv'/\StepL p rv wv w rv' wv' w':=by
 obtain ⟨c0,c1,c2,c3⟩:=h.cells
 have HH:Hid (LogIn w p g rv wv):=h
 clear h
 have HW:Hid (∀ w,Calls Tryz.prog 123 #[.agg #[.int .u8 80,.string ⟨l.toArray⟩]] w fun e w'=>e=.returned (.string ⟨(Hm.writeRec 80 l).toArray⟩)/\Below w.heap.size w w'):=fun w=>writeRecord_any 80 l (by omega) w
 have hwl:(Hm.writeRec 80 l).length<=5000:=by rw [Hm.writeRec_length];omega
 have hwp:0 < (Hm.writeRec 80 l).length:=by rw [Hm.writeRec_length];omega
 have hsz:(⟨(Hm.writeRec 80 l).toArray⟩:ByteArray).size=(Hm.writeRec 80 l).length:=by show Array.size _=_;simp
 obtain ⟨i0,hi,hz0,hz1,hz2⟩:=info_parts info_u8
 obtain ⟨j0,hj,hy0,hy1,hy2⟩:=info_parts info_str
 go_enter Tryz.func76,Tryz.ntmps76
 go_wp2_with fail
 refine wp_region_any mixed ?_
 change wpAny _ _ _ _ _ _ _ (World.drew _)
 refine wpAny_take (i:=0) (v:=.pointer (some ⟨p,0,none⟩)) rfl (by kernel_rfl) (by kernel_rfl) (by kernel_rfl) (fun _ _ _ h=>h) (Or.inl ⟨by rfl,?_⟩) ?_
 ·intro w;go_simp
 refine wpAny_take (i:=1) (v:=.pointer (some ⟨p,0,none⟩)) rfl (by kernel_rfl) (by kernel_rfl) (by kernel_rfl) (fun _ _ _ h=>h) (Or.inl ⟨by rfl,?_⟩) ?_
 ·intro w;go_simp
 refine wpAny_take (i:=2) (v:=.pointer (some ⟨p,0,none⟩)) rfl (by kernel_rfl) (by kernel_rfl) (by kernel_rfl) (fun _ _ _ h=>h) (Or.inl ⟨by rfl,?_⟩) ?_
 ·intro w;go_simp
 refine wpAny_take (i:=3) (v:=.pointer (some ⟨p,1,none⟩)) rfl (by kernel_rfl) (by kernel_rfl) (by kernel_rfl) (fun _ _ _ h=>h) (Or.inl ⟨by rfl,?_⟩) ?_
 ·intro w;go_simp
 refine wpAny_take (i:=5) (v:=.string ⟨l.toArray⟩) rfl (by kernel_rfl) (by kernel_rfl) (by kernel_rfl) (fun _ _ _ h=>h) (Or.inl ⟨by rfl,?_⟩) ?_
 ·intro w;go_simp
 refine wpAny_take (i:=6) (v:=.agg #[.int .u8 80,.string ⟨l.toArray⟩]) rfl (by kernel_rfl) (by kernel_rfl) (by kernel_rfl) (fun _ _ _ h=>h) (Or.inl ⟨by rfl,?_⟩) ?_
 ·intro w;go_simp
 refine wpAny_ready (rs:=[4,7]) (by kernel_rfl) (by simp) ?_
 refine AllReady.cons rfl (fun K hK=>?_) (AllReady.cons rfl (fun K hK=>?_) AllReady.nil)
 ·go_simp
  refine hK _ _ ?_
  clear hK K
  refine wpAny_ready (rs:=[7]) (by kernel_rfl) (by simp) ?_
  refine AllReady.cons rfl (fun K hK=>?_) AllReady.nil
  go_wp2_with fail
  refine (HW.out _).mono ?_
  rintro e w2 ⟨rfl,hb2⟩
  have HH2:Hid (LogIn w2 p g rv wv):=(HH.out.below (drew_below ⟨1,rfl⟩)).below hb2
  have HS2:Hid (StepL p rv wv w rv wv w2):=(StepL.refl.next (drew_below ⟨1,rfl⟩)).next hb2
  clear hb2
  go_wp2_with fail
  refine Hw.wpAny_tail 8 rfl (by kernel_rfl) ?_
  simp only [List.drop_succ_cons,List.drop_zero]
  have hlo2:11<=w2.heap.size:=by have:=HH2.out.lo;have:=(Array.getElem?_eq_some_iff.1 HH2.out.row).1;omega
  go_wp2_with (first
   | (at_builtin;refine Hw.wpList_append_string_at _ rfl _ _ 72 9 rfl 11 5 i0 Tryz.underlying72 Tryz.underlying9 hi hz0 hz1 hz2 _ _ _ rfl HH2.out.recs ⟨(Hm.writeRec 80 l).toArray⟩ rfl (by unfold maxLen;rw [hsz];omega) (by rw [hsz];omega) hlo2 ?_;intro rv5 w5 hown' hgrow hat;have HO5:Hid (w5.ownsRow 11 5 1 rv5 (g.records.length+(Hm.writeRec 80 l).length) ((g.records.map fun b=>Value.int .u8 b.toNat) ++ Lib.strCells ⟨(Hm.writeRec 80 l).toArray⟩)):=(by rw [<-hsz];exact hown');have HG5:Hid (w2.grownBy w5 rv.ownBlock):=hgrow;have HA5:Hid (∀ k,rv5.ownBlock=some k->rv.ownBlock=some k∨w2.heap.size<=k):=hat;obtain ⟨g5,cap5,cur5,hv5,_⟩:=own_slice HO5.out (by omega);subst hv5;clear hown' hgrow hat)
   | (refine Hw.wpList_store_fieldP rfl _ _ _ rfl rfl p 1 (.slice (some ⟨g5,0,none⟩) (g.records.length+(Hm.writeRec 80 l).length) cap5) rfl rfl _ _ (LgV g (.slice (some ⟨g5,0,none⟩) (g.records.length+(Hm.writeRec 80 l).length) cap5) wv) (HH2.out.grownR HG5.out) size_bytes (by simp [LgV]) rfl rfl ?_;intro w6 p6;have HL6:Hid (_/\_):=HH2.out.putR (l:=Hm.writeRec 80 l) HO5.out HG5.out HA5.out p6;clear p6;obtain ⟨d0,d1,d2,d3⟩:=HL6.out.1.cells;dsimp only at d0 d1 d2 d3)
   | (at_builtin;refine Hw.wpList_append_from rfl _ _ 42 rfl 11 9 j0 (.string ByteArray.empty) 16 Tryz.underlying42 hj hy0 hy1 hy2 rfl _ _ rfl (Hw.ownsFrom_keptS (S:=fun _=>False) HL6.out.1.wai ((Hw.Kept.refl _ _).alloc _) (fun _ _ e=>e)) ⟨w6.heap.size,0,none⟩ 1 1 [.string ⟨l.toArray⟩] rfl rfl (cell_one_new _ _ _) (fun x hx=>by simp at hx;subst hx;rfl) (by decide) (by unfold maxLen;rw [List.length_map];dsimp only;omega) (by rw [List.length_map];dsimp only;omega) (by have:=HL6.out.1.lo;have:=(Array.getElem?_eq_some_iff.1 HL6.out.1.row).1;simp;omega) ?_;intro ad7 cap7 w7 hown' hgrow hat;rw [List.length_map] at hown';rw [List.length_map];dsimp only at hown' ⊢;have HO7:=show Hid _ from hown';have HG7:=show Hid _ from hgrow;have HA7:Hid (_∨_):=hat;clear hown' hgrow hat)
   | (refine Hw.wpList_store_fieldP rfl _ _ _ rfl rfl p 3 (.slice (some ad7) (g.waiting.length+1) cap7) rfl rfl _ _ _ (HL6.out.1.grownW HG7.out) size_sl42 (by simp [LgV]) rfl rfl ?_;intro w8 p8;have HL8:Hid (_/\_):=HL6.out.1.putW HO7.out HG7.out (HA7.out.imp (fun e=>e.symm) (fun e=>congrArg some e.symm)) p8;clear p8))
  refine bodyPost_end (results_none rfl _ _ _) rfl ?_
  exact ⟨⟨_,rfl⟩,_,_,HL8.out.1,(HS2.out.trans HL6.out.2).trans HL8.out.2⟩
 ·go_wp2_with fail
  refine (HW.out _).mono ?_
  rintro e w2 ⟨rfl,hb2⟩
  have HH2:Hid (LogIn w2 p g rv wv):=(HH.out.below (drew_below ⟨1,rfl⟩)).below hb2
  have HS2:Hid (StepL p rv wv w rv wv w2):=(StepL.refl.next (drew_below ⟨1,rfl⟩)).next hb2
  clear hb2
  obtain ⟨b0,b1,b2,b3⟩:=HH2.out.cells
  go_wp2_with fail
  refine wpAny_ready (rs:=[4]) (by kernel_rfl) (by simp) ?_
  refine AllReady.cons rfl (fun K hK=>?_) AllReady.nil
  go_simp
  refine hK _ _ ?_
  clear hK K
  refine Hw.wpAny_tail 8 rfl (by kernel_rfl) ?_
  simp only [List.drop_succ_cons,List.drop_zero]
  have hlo2:11<=w2.heap.size:=by have:=HH2.out.lo;have:=(Array.getElem?_eq_some_iff.1 HH2.out.row).1;omega
  go_wp2_with (first
   | (at_builtin;refine Hw.wpList_append_string_at _ rfl _ _ 72 9 rfl 11 5 i0 Tryz.underlying72 Tryz.underlying9 hi hz0 hz1 hz2 _ _ _ rfl HH2.out.recs ⟨(Hm.writeRec 80 l).toArray⟩ rfl (by unfold maxLen;rw [hsz];omega) (by rw [hsz];omega) hlo2 ?_;intro rv5 w5 hown' hgrow hat;have HO5:Hid (w5.ownsRow 11 5 1 rv5 (g.records.length+(Hm.writeRec 80 l).length) ((g.records.map fun b=>Value.int .u8 b.toNat) ++ Lib.strCells ⟨(Hm.writeRec 80 l).toArray⟩)):=(by rw [<-hsz];exact hown');have HG5:Hid (w2.grownBy w5 rv.ownBlock):=hgrow;have HA5:Hid (∀ k,rv5.ownBlock=some k->rv.ownBlock=some k∨w2.heap.size<=k):=hat;obtain ⟨g5,cap5,cur5,hv5,_⟩:=own_slice HO5.out (by omega);subst hv5;clear hown' hgrow hat)
   | (refine Hw.wpList_store_fieldP rfl _ _ _ rfl rfl p 1 (.slice (some ⟨g5,0,none⟩) (g.records.length+(Hm.writeRec 80 l).length) cap5) rfl rfl _ _ (LgV g (.slice (some ⟨g5,0,none⟩) (g.records.length+(Hm.writeRec 80 l).length) cap5) wv) (HH2.out.grownR HG5.out) size_bytes (by simp [LgV]) rfl rfl ?_;intro w6 p6;have HL6:Hid (_/\_):=HH2.out.putR (l:=Hm.writeRec 80 l) HO5.out HG5.out HA5.out p6;clear p6;obtain ⟨d0,d1,d2,d3⟩:=HL6.out.1.cells;dsimp only at d0 d1 d2 d3)
   | (at_builtin;refine Hw.wpList_append_from rfl _ _ 42 rfl 11 9 j0 (.string ByteArray.empty) 16 Tryz.underlying42 hj hy0 hy1 hy2 rfl _ _ rfl (Hw.ownsFrom_keptS (S:=fun _=>False) HL6.out.1.wai ((Hw.Kept.refl _ _).alloc _) (fun _ _ e=>e)) ⟨w6.heap.size,0,none⟩ 1 1 [.string ⟨l.toArray⟩] rfl rfl (cell_one_new _ _ _) (fun x hx=>by simp at hx;subst hx;rfl) (by decide) (by unfold maxLen;rw [List.length_map];dsimp only;omega) (by rw [List.length_map];dsimp only;omega) (by have:=HL6.out.1.lo;have:=(Array.getElem?_eq_some_iff.1 HL6.out.1.row).1;simp;omega) ?_;intro ad7 cap7 w7 hown' hgrow hat;rw [List.length_map] at hown';rw [List.length_map];dsimp only at hown' ⊢;have HO7:=show Hid _ from hown';have HG7:=show Hid _ from hgrow;have HA7:Hid (_∨_):=hat;clear hown' hgrow hat)
   | (refine Hw.wpList_store_fieldP rfl _ _ _ rfl rfl p 3 (.slice (some ad7) (g.waiting.length+1) cap7) rfl rfl _ _ _ (HL6.out.1.grownW HG7.out) size_sl42 (by simp [LgV]) rfl rfl ?_;intro w8 p8;have HL8:Hid (_/\_):=HL6.out.1.putW HO7.out HG7.out (HA7.out.imp (fun e=>e.symm) (fun e=>congrArg some e.symm)) p8;clear p8))
  refine bodyPost_end (results_none rfl _ _ _) rfl ?_
  exact ⟨⟨_,rfl⟩,_,_,HL8.out.1,(HS2.out.trans HL6.out.2).trans HL8.out.2⟩
set_option maxRecDepth 20000 in
set_option maxHeartbeats 800000 in
theorem Put_in (p:Nat) (g:Hm.Lg) (rv wv:Value) (w:World) (hT:Tabs w) (h:LogIn w p g rv wv) (hg:LgSmall g) (m:Hm.Msg) (lt:m.time.length<=4000000000) (lh:m.host.length<=4000000000) (la:m.app.length<=4000000000) (lp:m.proc.length<=4000000000) (li:m.id.length<=4000000000) (ld:m.data.length<=4000000000) (lx:m.text.length<=4000000000) :
  Calls Tryz.prog 43 #[.pointer (some ⟨p,0,none⟩),.agg (msgCells m)] w fun e w'=>e=.returned (.tuple #[.int .i64 (g.put m).2.1,.int .i64 (g.put m).2.2])/\∃ rv' wv',LogIn w' p (g.put m).1 rv' wv'/\StepL p rv wv w rv' wv' w':=by
 obtain ⟨hg1,hg2,hg3,hg4⟩:=hg
 have HL:Hid (∀ w,Tabs w->Calls Tryz.prog 20 #[.agg (msgCells m)] w fun r w'=>r=.returned (.tuple #[.string ⟨(Hm.line m).1.toArray⟩,.int .i64 (Hm.line m).2])/\Below w.heap.size w w'):=fun w hT=>Line_any m w hT lt lh la lp li ld lx
 have hln:=@Hm.line_len m
 clear lt lh la lp li ld lx
 unfold msgCells at HL ⊢
 unfold Hm.Lg.put
 generalize Hm.line m=r at HL hln ⊢
 obtain ⟨l,er⟩:=r
 dsimp only at HL hln ⊢
 have HH:Hid (LogIn w p g rv wv):=h
 clear h
 by_cases he:er=0
 ·have hl:l.length<=200:=hln he
  subst he
  rw [if_neg (by simp)]
  clear hln
  by_cases hr:g.room<=g.waiting.length
  ·rw [if_pos (.inl hr)]
   have ir:(g.room:Int)<=(g.waiting.length:Int):=by omega
   go_enter Tryz.func43,Tryz.ntmps43
   go_wp2_with fail
   refine (HL.out _ (hT.next ((Below.refl _ _).alloc (Nat.le_refl _) _))).mono ?_
   rintro e w1 ⟨rfl,hb0⟩
   have hb1:Below w.heap.size w w1:=Below.next ((Below.refl _ _).alloc (Nat.le_refl _) _) (Nat.le_refl _) hb0
   clear hb0
   have HH1:Hid (LogIn w1 p g rv wv):=HH.out.below hb1
   have HS1:Hid (StepL p rv wv w rv wv w1):=StepL.refl.next hb1
   clear hb1
   obtain ⟨c0,c1,c2,c3⟩:=HH1.out.cells
   obtain ⟨ad,cap,hwv⟩:=HH1.out.form
   subst hwv
   go_wp2_with fail
   go_quiet ((go_at_call 75;exact Calls.quiet_of (messages_in p g rv _ _ (HH1.out.below (drew_below ⟨_,rfl⟩)) (by omega) (by omega))))
   have HH2:Hid (LogIn (w1.drewN nq) p g rv (.slice ad g.waiting.length cap)):=HH1.out.below (drew_below ⟨_,rfl⟩)
   have HS2:Hid (StepL p rv (.slice ad g.waiting.length cap) w rv (.slice ad g.waiting.length cap) (w1.drewN nq)):=HS1.out.next (drew_below ⟨_,rfl⟩)
   generalize w1.drewN nq=w2 at HH2 HS2 ⊢
   go_wp2
   refine bodyPost_ret (results_tmp2 rfl _ _ _) rfl ?_
   exact ⟨rfl,_,_,HH2.out,HS2.out⟩
  ·have ir:¬ (g.room:Int)<=(g.waiting.length:Int):=by omega
   by_cases hm:65535<=g.messages
   ·rw [if_pos (.inr hm)]
    have im:(65535:Int)<=(g.messages:Int):=by omega
    go_enter Tryz.func43,Tryz.ntmps43
    go_wp2_with fail
    refine (HL.out _ (hT.next ((Below.refl _ _).alloc (Nat.le_refl _) _))).mono ?_
    rintro e w1 ⟨rfl,hb0⟩
    have hb1:Below w.heap.size w w1:=Below.next ((Below.refl _ _).alloc (Nat.le_refl _) _) (Nat.le_refl _) hb0
    clear hb0
    have HH1:Hid (LogIn w1 p g rv wv):=HH.out.below hb1
    have HS1:Hid (StepL p rv wv w rv wv w1):=StepL.refl.next hb1
    clear hb1
    obtain ⟨c0,c1,c2,c3⟩:=HH1.out.cells
    obtain ⟨ad,cap,hwv⟩:=HH1.out.form
    subst hwv
    go_wp2_with fail
    go_quiet ((go_at_call 75;exact Calls.quiet_of (messages_in p g rv _ _ (HH1.out.below (drew_below ⟨_,rfl⟩)) (by omega) (by omega))))
    have HH2:Hid (LogIn (w1.drewN nq) p g rv (.slice ad g.waiting.length cap)):=HH1.out.below (drew_below ⟨_,rfl⟩)
    have HS2:Hid (StepL p rv (.slice ad g.waiting.length cap) w rv (.slice ad g.waiting.length cap) (w1.drewN nq)):=HS1.out.next (drew_below ⟨_,rfl⟩)
    generalize w1.drewN nq=w2 at HH2 HS2 ⊢
    go_wp2
    refine bodyPost_ret (results_tmp2 rfl _ _ _) rfl ?_
    exact ⟨rfl,_,_,HH2.out,HS2.out⟩
   ·rw [if_neg (by simp;omega)]
    have im:¬ (65535:Int)<=(g.messages:Int):=by omega
    have im':(g.messages:Int) < 65535:=by omega
    have HMB:Hid (decide ((65535:Int)<=(g.messages:Int))=false):=decide_eq_false (by omega)
    clear hm im im'
    go_enter Tryz.func43,Tryz.ntmps43
    go_wp2_with fail
    refine (HL.out _ (hT.next ((Below.refl _ _).alloc (Nat.le_refl _) _))).mono ?_
    rintro e w1 ⟨rfl,hb0⟩
    have hb1:Below w.heap.size w w1:=Below.next ((Below.refl _ _).alloc (Nat.le_refl _) _) (Nat.le_refl _) hb0
    clear hb0
    have HH1:Hid (LogIn w1 p g rv wv):=HH.out.below hb1
    have HS1:Hid (StepL p rv wv w rv wv w1):=StepL.refl.next hb1
    clear hb1
    obtain ⟨c0,c1,c2,c3⟩:=HH1.out.cells
    obtain ⟨ad,cap,hwv⟩:=HH1.out.form
    subst hwv
    go_wp2_with fail
    go_quiet ((go_at_call 75;exact Calls.quiet_of (messages_in p g rv _ _ (HH1.out.below (drew_below ⟨_,rfl⟩)) (by omega) (by omega))))
    have HH2:Hid (LogIn (w1.drewN nq) p g rv (.slice ad g.waiting.length cap)):=HH1.out.below (drew_below ⟨_,rfl⟩)
    have HS2:Hid (StepL p rv (.slice ad g.waiting.length cap) w rv (.slice ad g.waiting.length cap) (w1.drewN nq)):=HS1.out.next (drew_below ⟨_,rfl⟩)
    generalize w1.drewN nq=w2 at HH2 HS2 ⊢
    rw [HMB.out]
    go_wp2_with fail
    refine (addMessage_in p g rv _ w2 HH2.out l (by omega) (by omega) (by omega)).mono ?_
    rintro e w3 ⟨⟨u,rfl⟩,rv3,wv3,hl3,hs3⟩
    have HL3:Hid (LogIn w3 p (g.add l) rv3 wv3):=hl3
    have HS4:Hid (StepL p rv (.slice ad g.waiting.length cap) w rv3 wv3 w3):=HS2.out.trans hs3
    clear hl3 hs3
    go_wp2_with fail
    refine (messages_in p (g.add l) rv3 wv3 w3 HL3.out (by show g.had<=_;omega) (by show (g.waiting ++ [l]).length<=_;simp;omega)).mono ?_
    rintro e w4 ⟨rfl,hw4⟩
    have hb4:=drew_below hw4
    go_wp2
    refine bodyPost_ret (results_tmp2 rfl _ _ _) rfl ?_
    refine ⟨?_,rv3,wv3,HL3.out.below hb4,HS4.out.next hb4⟩
    have hmm:(g.add l).messages=g.messages+1:=by simp [Hm.Lg.add,Hm.Lg.messages];omega
    rw [hmm]
    rfl
 ·rw [if_pos (by simpa using he)]
  have f1:((er:Int) == 0)=false:=beq_eq_false_iff_ne.2 (by omega)
  have f2:¬ (er:Int)=0:=by omega
  go_enter Tryz.func43,Tryz.ntmps43
  go_wp2_with fail
  refine (HL.out _ (hT.next ((Below.refl _ _).alloc (Nat.le_refl _) _))).mono ?_
  rintro e w1 ⟨rfl,hb0⟩
  have hb1:Below w.heap.size w w1:=Below.next ((Below.refl _ _).alloc (Nat.le_refl _) _) (Nat.le_refl _) hb0
  clear hb0
  go_wp2
  refine bodyPost_ret (results_tmp2 rfl _ _ _) rfl ?_
  exact ⟨rfl,rv,wv,HH.out.below hb1,StepL.refl.next hb1⟩
set_option maxRecDepth 20000 in
theorem Bytes_in (p:Nat) (g:Hm.Lg) (rv wv:Value) (w:World) (h:LogIn w p g rv wv) :
  Calls Tryz.prog 37 #[.pointer (some ⟨p,0,none⟩)] w fun e w'=>e=.returned (.string ⟨g.records.toArray⟩)/\w'=w:=by
 obtain ⟨c0,c1,c2,c3⟩:=h.cells
 rcases h.recs.2 with ⟨rfl,h0⟩ | ⟨b,cap,cur,rfl,_⟩
 ·have he:g.records=[]:=List.eq_nil_of_length_eq_zero h0
  rw [he]
  clear h he h0
  have hback:=nil_string w
  go_enter Tryz.func37,Tryz.ntmps37
  go_wp2
  go_ret
  exact ⟨rfl,rfl⟩
 ·have hback:=own_string h.recs
  clear h
  go_enter Tryz.func37,Tryz.ntmps37
  go_wp2
  go_ret
  exact ⟨rfl,rfl⟩
end Go.Proofs.YtdlhbmncbmconaaGreatDoor

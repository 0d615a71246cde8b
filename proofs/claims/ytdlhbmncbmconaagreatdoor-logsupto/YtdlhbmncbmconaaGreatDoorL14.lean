/- Pressed by program out of Bm. -/
import Derived.Test.YtdlhbmncbmconaaGreatDoorL13
import Derived.Deep.DeepCutAuto
namespace Go.Hw
open Go.RowKit
section
variable {P:Program}
theorem wpList_clear {ops:Array Oper} {rest:List Oper} {o:Oper} {a:Act} {w:World} {Q:Exit->Act->World->Prop} (hgd:o.guard=none) (s:Operand) (t:TypeId)
  (ho:o.op=.call { callee:=.builtin .clear,args:=#[s],argTypes:=#[t] }) (hd:o.dst=none)
  (e:TypeId) (z:Value) (ht:P.underlying t=some (.slice e)) (hv:∀ w,(zeroValue e).run P w=.ok z w) (hz:z.cells=#[z]) (h1:z.oneCell'=true)
  (g off n c:Nat) (hs:a.eval s=.slice (some ⟨g,off,none⟩) n c) (hn:0 < n) (cur:Array Value) (hg:w.heap[g]?=some (.cells cur e (0,0))) (hsz:off+n<=cur.size)
  (h:∀ cur' w',Put w g e cur' w'->cur'.toList=cur.toList.take off ++ List.replicate n z ++ cur.toList.drop (off+n)->wpList P ops Q rest a w'):wpList P ops Q (o :: rest) a w:=by
 refine wpList_plain hgd fun K hK=>?_
 have hr:=Lib.run_clear_slice (P:=P) w t e o.type z ht hv hz h1 g off n c hn (fun j hj=>by simp [World.cell?,hg,show off+j < cur.size by omega]) (fun j _=>by simp [World.frozen?,hg])
 obtain ⟨cur',p,ec⟩:=put_setCells (List.replicate n z) off w cur hg (by simpa using hsz)
 unfold Oper.wp execOp
 simp only [ho,resolve,invoke,builtin,Sem.run_bind,Sem.run_pure,Result.andThen_ok,List.map_toArray,List.map_cons,List.map_nil,hs,hr]
 exact hK (a.put o.dst (.tuple #[])) _ (by rw [hd];exact h cur' _ p (by rw [ec,List.length_replicate]))
end
end Go.Hw
namespace Go.Proofs.YtdlhbmncbmconaaGreatDoor
open Go.RowKit Go.Sort
attribute [local go_sem] alloc_drewN setCell_drewN
theorem LogIn.wait {w:World} {p:Nat} {g:Hm.Lg} {rv:Value} {gb o n cap:Nat} (h:LogIn w p g rv (.slice (some ⟨gb,o,none⟩) n cap)) :
  n=g.waiting.length/\∃ cur,w.heap[gb]?=some (.cells cur 9 (0,0))/\11<=gb/\g.waiting.length<=cap/\cap<=maxLen/\o+cap<=cur.size/\(cur.toList.drop o).take g.waiting.length=g.waiting.map strV:=by
 rcases h.wai with ⟨hv,_⟩ | ⟨g',o',cap',cur,hv,hb,hg,h1,h2,h3,h4⟩
 ·cases hv
 ·cases hv
  rw [List.length_map] at h1 h4 ⊢
  exact ⟨rfl,cur,hg,hb,h1,h2,h3,h4⟩
theorem cleared {l xs:List Value} {o d n:Nat} (h:(l.drop o).take n=xs) (hn:o+n<=l.length) (r:List Value) (hr:r.length=d):((l.take o ++ r ++ l.drop (o+d)).drop (o+d)).take (n - d)=xs.drop d:=by
 have hl:(l.take o ++ r).length=o+d:=by simp;omega
 rw [List.drop_append_of_le_length (by omega),List.drop_of_length_le (by omega),List.nil_append,<-h,List.drop_take,List.drop_drop]
theorem LogIn.acked {w w7 w8 w9:World} {p:Nat} {g:Hm.Lg} {rv:Value} {gb o cap d n o' c' L n':Nat} {cur':Array Value} {cur:Array Value} {z:Value} (h:LogIn w p g rv (.slice (some ⟨gb,o,none⟩) L cap)) (hg:w.heap[gb]?=some (.cells cur 9 (0,0)))
  (hd:d<=L) (hn':n'=L - d) (ho:(o'=o+d/\c'=cap - d)∨(o'=o/\c'=0/\L=d)) (hc:cur'.toList=cur.toList.take o ++ List.replicate d z ++ cur.toList.drop (o+d)) (p7:Hw.Put w gb 9 cur' w7)
  (p8:Hw.Put w7 p 116 #[.int .i64 g.room,rv,.int .i64 g.had,.slice (some ⟨gb,o',none⟩) n' c'] w8)
  (p9:Hw.Put w8 p 116 #[.int .i64 g.room,rv,.int .i64 n,.slice (some ⟨gb,o',none⟩) n' c'] w9) :
  LogIn w9 p ⟨g.room,g.records,n,g.waiting.drop d⟩ rv (.slice (some ⟨gb,o',none⟩) n' c')/\StepL p rv (.slice (some ⟨gb,o,none⟩) L cap) w rv (.slice (some ⟨gb,o',none⟩) n' c') w9:=by
 obtain ⟨hL,cur0,hg0,hlo,h1,h2,h3,h4⟩:=h.wait
 subst hn'
 rw [hg] at hg0
 cases hg0
 have ha:=h.apart
 have hne:gb ≠ p:=fun e=>ha.2.1 (by rw [<-e];rfl)
 have hsz:o+cap<=cur'.size:=by
  have:=congrArg List.length hc
  simp at this
  omega
 have k9:Hw.Kept (fun k=>k=p) w7 w9:=p8.kept.trans p9.kept (fun _ _ e=>e)
 have k7:Hw.Kept (fun k=>k=gb) w w7:=p7.kept
 have hrow:w9.heap[gb]?=some (.cells cur' 9 (0,0)):=(p9.other _ hne).trans ((p8.other _ hne).trans p7.row)
 have hwai:(cur'.toList.drop o').take (L - d)=(g.waiting.drop d).map strV:=by
  rcases ho with ⟨rfl,_⟩ | ⟨_,_,e⟩
  ·rw [hc,List.map_drop,hL]
   exact cleared (d:=d) (n:=g.waiting.length) h4 (by simp;omega) (List.replicate d z) (by simp)
  ·rw [e,Nat.sub_self,List.take_zero,List.drop_of_length_le (l:=g.waiting) (by omega)]
   rfl
 refine ⟨⟨p9.row,?_,.inr ⟨gb,o',c',cur',by simp [hL],hlo,hrow,by simp;omega,by omega,by omega,?_⟩,h.lo⟩,?_,fun _ e=>.inl e,fun _ e=>.inl e⟩
 ·have:=Hw.ownsRow_keptS h.recs k7 (fun k e e'=>ha.2.2 k e (by rw [e'];rfl))
  exact Hw.ownsRow_keptS this k9 (fun k e e'=>ha.1 (by rw [e,e']))
 ·rw [List.length_map,List.length_drop,<-hL]
  exact hwai
 ·exact (k7.mono (fun _ _ e=>.inr (.inr (by rw [e];rfl)))).trans k9 (fun _ _ e=>.inl e)
set_option maxRecDepth 20000 in
set_option maxHeartbeats 1600000 in
theorem addAck_in (p:Nat) (g:Hm.Lg) (rv:Value) (gb o cap L:Nat) (w:World) (h:LogIn w p g rv (.slice (some ⟨gb,o,none⟩) L cap)) (n d:Nat) (hn:n=g.had+d) (hd0:0 < d) (hd:d<=L) (h1:g.records.length<=1000000000000) (h2:L<=1000000) (_h3:g.had<=1000000) :
  Calls Tryz.prog 102 #[.pointer (some ⟨p,0,none⟩),.int .i64 n] w fun e w'=>(∃ u,e=.returned u)/\∃ rv' wv',LogIn w' p (g.ackTo n) rv' wv'/\StepL p rv (.slice (some ⟨gb,o,none⟩) L cap) w rv' wv' w':=by
 obtain ⟨c0,c1,c2,c3⟩:=h.cells
 have HH:Hid (LogIn w p g rv (.slice (some ⟨gb,o,none⟩) L cap)):=h
 obtain ⟨hLg,_,_,_,hlc,_⟩:=h.wait
 have hlc:L<=cap:=by omega
 clear h
 have HT:Hid (∀ w,Calls Tryz.prog 148 #[.int .i64 n] w fun e w'=>e=.returned (.string ⟨(Hm.twoB n).toArray⟩)/\Below w.heap.size w w'):=fun w=>twoBytes_any n w
 have htl:(Hm.twoB n).length=2:=rfl
 have HA:Hid (g.ackTo n=⟨g.room,g.records ++ Hm.writeRec 65 (Hm.twoB n),n,g.waiting.drop d⟩):=by
  show _=_
  unfold Hm.Lg.ackTo
  rw [hn,Nat.add_sub_cancel_left]
 generalize Hm.twoB n=l at HT htl HA
 have HW:Hid (∀ w,Calls Tryz.prog 123 #[.agg #[.int .u8 65,.string ⟨l.toArray⟩]] w fun e w'=>e=.returned (.string ⟨(Hm.writeRec 65 l).toArray⟩)/\Below w.heap.size w w'):=fun w=>writeRecord_any 65 l (by omega) w
 have hwl:(Hm.writeRec 65 l).length<=5000:=by rw [Hm.writeRec_length];omega
 have hwp:0 < (Hm.writeRec 65 l).length:=by rw [Hm.writeRec_length];omega
 have hsz:(⟨(Hm.writeRec 65 l).toArray⟩:ByteArray).size=(Hm.writeRec 65 l).length:=by show Array.size _=_;simp
 have hpd:(n:Int) - (g.had:Int)=(d:Int):=by omega
 clear hn hLg
 obtain ⟨i0,hi,hz0,hz1,hz2⟩:=info_parts info_u8
 go_enter Tryz.func102,Tryz.ntmps102
 go_upto_region 0 with fail
 go_cut [] (fun wc=>∃ rv5,LogIn wc p ⟨g.room,g.records ++ Hm.writeRec 65 l,g.had,g.waiting⟩ rv5 (.slice (some ⟨gb,o,none⟩) L cap)/\StepL p rv (.slice (some ⟨gb,o,none⟩) L cap) w rv5 (.slice (some ⟨gb,o,none⟩) L cap) wc)
 case first=>
  refine wp_region_any mixed ?_
  change wpAny _ _ _ _ _ _ _ (World.drew _)
  refine wpAny_take (i:=0) (v:=.pointer (some ⟨p,0,none⟩)) rfl (by kernel_rfl) (by kernel_rfl) (by kernel_rfl) (fun _ _ _ h=>h) (Or.inl ⟨by rfl,?_⟩) ?_
  ·intro w;go_simp
  refine wpAny_take (i:=1) (v:=.pointer (some ⟨p,0,none⟩)) rfl (by kernel_rfl) (by kernel_rfl) (by kernel_rfl) (fun _ _ _ h=>h) (Or.inl ⟨by rfl,?_⟩) ?_
  ·intro w;go_simp
  refine wpAny_take (i:=2) (v:=.pointer (some ⟨p,0,none⟩)) rfl (by kernel_rfl) (by kernel_rfl) (by kernel_rfl) (fun _ _ _ h=>h) (Or.inl ⟨by rfl,?_⟩) ?_
  ·intro w;go_simp
  refine wpAny_take (i:=3) (v:=.pointer (some ⟨p,1,none⟩)) rfl (by kernel_rfl) (by kernel_rfl) (by kernel_rfl) (fun _ _ _ h=>h) (Or.inl ⟨by rfl,?_⟩) ?_
  ·intro w;go_simp
  refine wpAny_take (i:=5) (v:=.int .i64 n) rfl (by kernel_rfl) (by kernel_rfl) (by kernel_rfl) (fun _ _ _ h=>h) (Or.inl ⟨by rfl,?_⟩) ?_
  ·intro w;go_simp
  refine wpAny_ready (rs:=[4,6]) (by kernel_rfl) (by simp) ?_
  refine AllReady.cons rfl (fun K hK=>?_) (AllReady.cons rfl (fun K hK=>?_) AllReady.nil)
  ·go_simp
   refine hK _ _ ?_
   clear hK K
   refine Hw.wpAny_tail 6 rfl (by kernel_rfl) ?_
   simp only [List.drop_succ_cons,List.drop_zero]
   go_wp2_with fail
   refine (HT.out _).mono ?_
   rintro e w1 ⟨rfl,hb1⟩
   have HH1:Hid (LogIn w1 p g rv (.slice (some ⟨gb,o,none⟩) L cap)):=(HH.out.below (drew_below ⟨1,rfl⟩)).below hb1
   have HS1:Hid (StepL p rv (.slice (some ⟨gb,o,none⟩) L cap) w rv (.slice (some ⟨gb,o,none⟩) L cap) w1):=(StepL.refl.next (drew_below ⟨1,rfl⟩)).next hb1
   clear hb1
   go_wp2_with fail
   refine (HW.out _).mono ?_
   rintro e w2 ⟨rfl,hb2⟩
   have HH2:Hid (LogIn w2 p g rv (.slice (some ⟨gb,o,none⟩) L cap)):=HH1.out.below hb2
   have HS2:Hid (StepL p rv (.slice (some ⟨gb,o,none⟩) L cap) w rv (.slice (some ⟨gb,o,none⟩) L cap) w2):=HS1.out.next hb2
   clear hb2
   have hlo2:11<=w2.heap.size:=by have:=HH2.out.lo;have:=(Array.getElem?_eq_some_iff.1 HH2.out.row).1;omega
   go_wp2_with (first
    | (at_builtin;refine Hw.wpList_append_string_at _ rfl _ _ 72 9 rfl 11 5 i0 Tryz.underlying72 Tryz.underlying9 hi hz0 hz1 hz2 _ _ _ rfl HH2.out.recs ⟨(Hm.writeRec 65 l).toArray⟩ rfl (by unfold maxLen;rw [hsz];omega) (by rw [hsz];omega) hlo2 ?_;intro rv5 w5 hown' hgrow hat;have HO5:Hid (w5.ownsRow 11 5 1 rv5 (g.records.length+(Hm.writeRec 65 l).length) ((g.records.map fun b=>Value.int .u8 b.toNat) ++ Lib.strCells ⟨(Hm.writeRec 65 l).toArray⟩)):=(by rw [<-hsz];exact hown');have HG5:Hid (w2.grownBy w5 rv.ownBlock):=hgrow;have HA5:Hid (∀ k,rv5.ownBlock=some k->rv.ownBlock=some k∨w2.heap.size<=k):=hat;obtain ⟨g5,cap5,cur5,hv5,_⟩:=own_slice HO5.out (by omega);subst hv5;clear hown' hgrow hat)
    | (refine Hw.wpList_store_fieldP rfl _ _ _ rfl rfl p 1 (.slice (some ⟨g5,0,none⟩) (g.records.length+(Hm.writeRec 65 l).length) cap5) rfl rfl _ _ (LgV g (.slice (some ⟨g5,0,none⟩) (g.records.length+(Hm.writeRec 65 l).length) cap5) (.slice (some ⟨gb,o,none⟩) L cap)) (HH2.out.grownR HG5.out) size_bytes (by simp [LgV]) rfl rfl ?_;intro w6 p6;have HL6:Hid (_/\_):=HH2.out.putR (l:=Hm.writeRec 65 l) HO5.out HG5.out HA5.out p6;clear p6))
   go_meet
   case rel=>exact ⟨_,HL6.out.1,HS2.out.trans HL6.out.2⟩
  ·go_wp2_with fail
   refine (HT.out _).mono ?_
   rintro e w1 ⟨rfl,hb1⟩
   have HH1:Hid (LogIn w1 p g rv (.slice (some ⟨gb,o,none⟩) L cap)):=(HH.out.below (drew_below ⟨1,rfl⟩)).below hb1
   have HS1:Hid (StepL p rv (.slice (some ⟨gb,o,none⟩) L cap) w rv (.slice (some ⟨gb,o,none⟩) L cap) w1):=(StepL.refl.next (drew_below ⟨1,rfl⟩)).next hb1
   clear hb1
   obtain ⟨b0,b1,b2,b3⟩:=HH1.out.cells
   go_wp2_with fail
   refine wpAny_ready (rs:=[4,7]) (by kernel_rfl) (by simp) ?_
   refine AllReady.cons rfl (fun K hK=>?_) (AllReady.cons rfl (fun K hK=>?_) AllReady.nil)
   ·go_simp
    refine hK _ _ ?_
    clear hK K
    refine Hw.wpAny_tail 7 rfl (by kernel_rfl) ?_
    simp only [List.drop_succ_cons,List.drop_zero]
    go_wp2_with fail
    refine (HW.out _).mono ?_
    rintro e w2 ⟨rfl,hb2⟩
    have HH2:Hid (LogIn w2 p g rv (.slice (some ⟨gb,o,none⟩) L cap)):=HH1.out.below hb2
    have HS2:Hid (StepL p rv (.slice (some ⟨gb,o,none⟩) L cap) w rv (.slice (some ⟨gb,o,none⟩) L cap) w2):=HS1.out.next hb2
    clear hb2
    have hlo2:11<=w2.heap.size:=by have:=HH2.out.lo;have:=(Array.getElem?_eq_some_iff.1 HH2.out.row).1;omega
    go_wp2_with (first
     | (at_builtin;refine Hw.wpList_append_string_at _ rfl _ _ 72 9 rfl 11 5 i0 Tryz.underlying72 Tryz.underlying9 hi hz0 hz1 hz2 _ _ _ rfl HH2.out.recs ⟨(Hm.writeRec 65 l).toArray⟩ rfl (by unfold maxLen;rw [hsz];omega) (by rw [hsz];omega) hlo2 ?_;intro rv5 w5 hown' hgrow hat;have HO5:Hid (w5.ownsRow 11 5 1 rv5 (g.records.length+(Hm.writeRec 65 l).length) ((g.records.map fun b=>Value.int .u8 b.toNat) ++ Lib.strCells ⟨(Hm.writeRec 65 l).toArray⟩)):=(by rw [<-hsz];exact hown');have HG5:Hid (w2.grownBy w5 rv.ownBlock):=hgrow;have HA5:Hid (∀ k,rv5.ownBlock=some k->rv.ownBlock=some k∨w2.heap.size<=k):=hat;obtain ⟨g5,cap5,cur5,hv5,_⟩:=own_slice HO5.out (by omega);subst hv5;clear hown' hgrow hat)
     | (refine Hw.wpList_store_fieldP rfl _ _ _ rfl rfl p 1 (.slice (some ⟨g5,0,none⟩) (g.records.length+(Hm.writeRec 65 l).length) cap5) rfl rfl _ _ (LgV g (.slice (some ⟨g5,0,none⟩) (g.records.length+(Hm.writeRec 65 l).length) cap5) (.slice (some ⟨gb,o,none⟩) L cap)) (HH2.out.grownR HG5.out) size_bytes (by simp [LgV]) rfl rfl ?_;intro w6 p6;have HL6:Hid (_/\_):=HH2.out.putR (l:=Hm.writeRec 65 l) HO5.out HG5.out HA5.out p6;clear p6))
    go_meet
    case rel=>exact ⟨_,HL6.out.1,HS2.out.trans HL6.out.2⟩
   ·go_simp
    refine hK _ _ ?_
    clear hK K
    refine wpAny_ready (rs:=[4,8]) (by kernel_rfl) (by simp) ?_
    refine AllReady.cons rfl (fun K hK=>?_) (AllReady.cons rfl (fun K hK=>?_) AllReady.nil)
    ·go_simp
     refine hK _ _ ?_
     clear hK K
     refine Hw.wpAny_tail 8 rfl (by kernel_rfl) ?_
     simp only [List.drop_succ_cons,List.drop_zero]
     go_wp2_with fail
     refine (HW.out _).mono ?_
     rintro e w2 ⟨rfl,hb2⟩
     have HH2:Hid (LogIn w2 p g rv (.slice (some ⟨gb,o,none⟩) L cap)):=HH1.out.below hb2
     have HS2:Hid (StepL p rv (.slice (some ⟨gb,o,none⟩) L cap) w rv (.slice (some ⟨gb,o,none⟩) L cap) w2):=HS1.out.next hb2
     clear hb2
     have hlo2:11<=w2.heap.size:=by have:=HH2.out.lo;have:=(Array.getElem?_eq_some_iff.1 HH2.out.row).1;omega
     go_wp2_with (first
      | (at_builtin;refine Hw.wpList_append_string_at _ rfl _ _ 72 9 rfl 11 5 i0 Tryz.underlying72 Tryz.underlying9 hi hz0 hz1 hz2 _ _ _ rfl HH2.out.recs ⟨(Hm.writeRec 65 l).toArray⟩ rfl (by unfold maxLen;rw [hsz];omega) (by rw [hsz];omega) hlo2 ?_;intro rv5 w5 hown' hgrow hat;have HO5:Hid (w5.ownsRow 11 5 1 rv5 (g.records.length+(Hm.writeRec 65 l).length) ((g.records.map fun b=>Value.int .u8 b.toNat) ++ Lib.strCells ⟨(Hm.writeRec 65 l).toArray⟩)):=(by rw [<-hsz];exact hown');have HG5:Hid (w2.grownBy w5 rv.ownBlock):=hgrow;have HA5:Hid (∀ k,rv5.ownBlock=some k->rv.ownBlock=some k∨w2.heap.size<=k):=hat;obtain ⟨g5,cap5,cur5,hv5,_⟩:=own_slice HO5.out (by omega);subst hv5;clear hown' hgrow hat)
      | (refine Hw.wpList_store_fieldP rfl _ _ _ rfl rfl p 1 (.slice (some ⟨g5,0,none⟩) (g.records.length+(Hm.writeRec 65 l).length) cap5) rfl rfl _ _ (LgV g (.slice (some ⟨g5,0,none⟩) (g.records.length+(Hm.writeRec 65 l).length) cap5) (.slice (some ⟨gb,o,none⟩) L cap)) (HH2.out.grownR HG5.out) size_bytes (by simp [LgV]) rfl rfl ?_;intro w6 p6;have HL6:Hid (_/\_):=HH2.out.putR (l:=Hm.writeRec 65 l) HO5.out HG5.out HA5.out p6;clear p6))
     go_meet
     case rel=>exact ⟨_,HL6.out.1,HS2.out.trans HL6.out.2⟩
    ·go_wp2_with fail
     refine (HW.out _).mono ?_
     rintro e w2 ⟨rfl,hb2⟩
     have HH2:Hid (LogIn w2 p g rv (.slice (some ⟨gb,o,none⟩) L cap)):=HH1.out.below hb2
     have HS2:Hid (StepL p rv (.slice (some ⟨gb,o,none⟩) L cap) w rv (.slice (some ⟨gb,o,none⟩) L cap) w2):=HS1.out.next hb2
     clear hb2
     obtain ⟨b0,b1,b2,b3⟩:=HH2.out.cells
     go_wp2_with fail
     refine wpAny_ready (rs:=[4]) (by kernel_rfl) (by simp) ?_
     refine AllReady.cons rfl (fun K hK=>?_) AllReady.nil
     go_simp
     refine hK _ _ ?_
     clear hK K
     refine Hw.wpAny_tail 9 rfl (by kernel_rfl) ?_
     simp only [List.drop_succ_cons,List.drop_zero]
     have hlo2:11<=w2.heap.size:=by have:=HH2.out.lo;have:=(Array.getElem?_eq_some_iff.1 HH2.out.row).1;omega
     go_wp2_with (first
      | (at_builtin;refine Hw.wpList_append_string_at _ rfl _ _ 72 9 rfl 11 5 i0 Tryz.underlying72 Tryz.underlying9 hi hz0 hz1 hz2 _ _ _ rfl HH2.out.recs ⟨(Hm.writeRec 65 l).toArray⟩ rfl (by unfold maxLen;rw [hsz];omega) (by rw [hsz];omega) hlo2 ?_;intro rv5 w5 hown' hgrow hat;have HO5:Hid (w5.ownsRow 11 5 1 rv5 (g.records.length+(Hm.writeRec 65 l).length) ((g.records.map fun b=>Value.int .u8 b.toNat) ++ Lib.strCells ⟨(Hm.writeRec 65 l).toArray⟩)):=(by rw [<-hsz];exact hown');have HG5:Hid (w2.grownBy w5 rv.ownBlock):=hgrow;have HA5:Hid (∀ k,rv5.ownBlock=some k->rv.ownBlock=some k∨w2.heap.size<=k):=hat;obtain ⟨g5,cap5,cur5,hv5,_⟩:=own_slice HO5.out (by omega);subst hv5;clear hown' hgrow hat)
      | (refine Hw.wpList_store_fieldP rfl _ _ _ rfl rfl p 1 (.slice (some ⟨g5,0,none⟩) (g.records.length+(Hm.writeRec 65 l).length) cap5) rfl rfl _ _ (LgV g (.slice (some ⟨g5,0,none⟩) (g.records.length+(Hm.writeRec 65 l).length) cap5) (.slice (some ⟨gb,o,none⟩) L cap)) (HH2.out.grownR HG5.out) size_bytes (by simp [LgV]) rfl rfl ?_;intro w6 p6;have HL6:Hid (_/\_):=HH2.out.putR (l:=Hm.writeRec 65 l) HO5.out HG5.out HA5.out p6;clear p6))
     go_meet
     case rel=>exact ⟨_,HL6.out.1,HS2.out.trans HL6.out.2⟩
 case rest=>
  obtain ⟨rv5,hl6,hs6⟩:=hcut
  have HL6:Hid (_/\_):=⟨hl6,hs6⟩
  clear hl6 hs6 HH HT HW c0 c1 c2 c3
  rcases (by omega:(cap=d/\L=d)∨d < cap) with ⟨rfl,rfl⟩ | hcd
  ·obtain ⟨d0,d1,d2,d3⟩:=HL6.out.1.cells
   obtain ⟨hLg,cur6,hg6,_,_,_,hs6,_⟩:=HL6.out.1.wait
   clear hLg
   have HG6:=show Hid _ from hg6
   have HS6:=show Hid _ from hs6
   clear hg6 hs6
   dsimp only at d0 d1 d2 d3
   go_wp2_with (first
    | (refine Hw.wpList_clear rfl _ 42 rfl rfl 9 (.string ByteArray.empty) Tryz.underlying42 Tryz.zeroValue9 rfl rfl gb o L _ rfl hd0 cur6 HG6.out (by have:=HS6.out;omega) ?_;intro cur7 w7 p7 e7;have P7:=show Hid _ from p7;have E7:=show Hid _ from e7;have hne:gb ≠ p:=(fun e=>HL6.out.1.apart.2.1 (by rw [<-e];rfl));have HR7:Hid (w7.heap[p]?=_):=(p7.other p (fun e=>hne e.symm)).trans HL6.out.1.row;clear p7 e7;have k3:w7.cell? ⟨p,3,none⟩=some (.slice (some ⟨gb,o,none⟩) L L):=(by simp [World.cell?,HR7.out,LgV]))
    | (refine Hw.wpList_store_fieldP rfl _ _ _ rfl rfl p 3 (.slice (some ⟨gb,o,none⟩) (0) (0)) rfl rfl _ _ _ HR7.out size_sl42 (by simp [LgV]) rfl rfl ?_;intro w8 p8;have P8:=show Hid _ from p8;clear p8)
    | (refine Hw.wpList_store_fieldP rfl _ _ _ rfl rfl p 2 (.int .i64 n) rfl rfl _ _ _ P8.out.row size_int (by simp [LgV]) rfl rfl ?_;intro w9 p9;have P9:=show Hid _ from p9;clear p9))
   have fin:=HL6.out.1.acked (d:=L) (n:=n) HG6.out hd (by omega) (.inr ⟨rfl,rfl,rfl⟩) E7.out P7.out P8.out P9.out
   refine bodyPost_end (results_none rfl _ _ _) rfl ?_
   rw [HA.out]
   exact ⟨⟨_,rfl⟩,_,_,fin.1,HL6.out.2.trans fin.2⟩
  ·have hcd0:¬ cap=d:=by omega
   obtain ⟨d0,d1,d2,d3⟩:=HL6.out.1.cells
   obtain ⟨hLg,cur6,hg6,_,_,_,hs6,_⟩:=HL6.out.1.wait
   clear hLg
   have HG6:=show Hid _ from hg6
   have HS6:=show Hid _ from hs6
   clear hg6 hs6
   dsimp only at d0 d1 d2 d3
   go_wp2_with (first
    | (refine Hw.wpList_clear rfl _ 42 rfl rfl 9 (.string ByteArray.empty) Tryz.underlying42 Tryz.zeroValue9 rfl rfl gb o d _ rfl hd0 cur6 HG6.out (by have:=HS6.out;omega) ?_;intro cur7 w7 p7 e7;have P7:=show Hid _ from p7;have E7:=show Hid _ from e7;have hne:gb ≠ p:=(fun e=>HL6.out.1.apart.2.1 (by rw [<-e];rfl));have HR7:Hid (w7.heap[p]?=_):=(p7.other p (fun e=>hne e.symm)).trans HL6.out.1.row;clear p7 e7;have k3:w7.cell? ⟨p,3,none⟩=some (.slice (some ⟨gb,o,none⟩) L cap):=(by simp [World.cell?,HR7.out,LgV]))
    | (refine Hw.wpList_store_fieldP rfl _ _ _ rfl rfl p 3 (.slice (some ⟨gb,o+d,none⟩) (L - d) (cap - d)) rfl rfl _ _ _ HR7.out size_sl42 (by simp [LgV]) rfl rfl ?_;intro w8 p8;have P8:=show Hid _ from p8;clear p8)
    | (refine Hw.wpList_store_fieldP rfl _ _ _ rfl rfl p 2 (.int .i64 n) rfl rfl _ _ _ P8.out.row size_int (by simp [LgV]) rfl rfl ?_;intro w9 p9;have P9:=show Hid _ from p9;clear p9))
   have fin:=HL6.out.1.acked (d:=d) (n:=n) HG6.out hd (by omega) (.inl ⟨rfl,rfl⟩) E7.out P7.out P8.out P9.out
   refine bodyPost_end (results_none rfl _ _ _) rfl ?_
   rw [HA.out]
   exact ⟨⟨_,rfl⟩,_,_,fin.1,HL6.out.2.trans fin.2⟩
end Go.Proofs.YtdlhbmncbmconaaGreatDoor

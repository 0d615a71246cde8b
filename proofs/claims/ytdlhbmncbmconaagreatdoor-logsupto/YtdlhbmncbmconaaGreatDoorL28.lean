/- Pressed by program out of Cr. -/
import Derived.Test.YtdlhbmncbmconaaGreatDoorL27
import Derived.Test.YtdlhbmncbmconaaGreatDoorL21
namespace Go.Hm
theorem dataText_fs (f s:Int) (tm w0 w1 w2 w3 l:List UInt8) (a:Nat) :
  (dataText ⟨f,s,tm,w0,w1,w2,w3,[],[]⟩ l a).2=(dataText ⟨0,0,tm,w0,w1,w2,w3,[],[]⟩ l a).2 /\
  ((dataText ⟨0,0,tm,w0,w1,w2,w3,[],[]⟩ l a).2.1=0->(dataText ⟨f,s,tm,w0,w1,w2,w3,[],[]⟩ l a).1={ (dataText ⟨0,0,tm,w0,w1,w2,w3,[],[]⟩ l a).1 with fac:=f,sev:=s }) /\
  (¬ (dataText ⟨0,0,tm,w0,w1,w2,w3,[],[]⟩ l a).2.1=0->(dataText ⟨f,s,tm,w0,w1,w2,w3,[],[]⟩ l a).1=Msg.none):=by
 unfold dataText
 split
 ·exact ⟨rfl,(fun h=>by cases h),fun _=>rfl⟩
 ·split
  ·split<;>exact ⟨rfl,fun _=>rfl,fun h=>absurd rfl h⟩
  ·split
   ·exact ⟨rfl,(fun h=>by cases h),fun _=>rfl⟩
   ·split<;>exact ⟨rfl,fun _=>rfl,fun h=>absurd rfl h⟩
theorem kinds_pos (l:List UInt8):∀ (ks:List (Nat × Nat)) (n:Nat),(∀ k ∈ ks,¬ k.2=0)->∀ e,(wordsFrom l ks n).1=some e->¬ e.1=0
 | [],n,_,e,h=>by cases h
 | k :: ks,n,hk,e,h=>by
  unfold wordsFrom at h
  split at h
  ·exact kinds_pos l ks _ (fun x hx=>hk x (List.mem_cons_of_mem _ hx)) e h
  ·split at h
   ·cases h;exact hk k List.mem_cons_self
   ·exact kinds_pos l ks _ (fun x hx=>hk x (List.mem_cons_of_mem _ hx)) e h
theorem readNew_fs (f s:Int) (l:List UInt8) (a:Nat) :
  (readNew f s l a).2=(readNew 0 0 l a).2/\((readNew 0 0 l a).2.1=0->(readNew f s l a).1={ (readNew 0 0 l a).1 with fac:=f,sev:=s })/\(¬ (readNew 0 0 l a).2.1=0->(readNew f s l a).1=Msg.none):=by
 unfold readNew
 split
 ·exact ⟨rfl,(fun h=>by cases h),fun _=>rfl⟩
 ·unfold afterTime
  split
  ·next e he=>
   have:=kinds_pos l kinds _ (by decide) e he
   exact ⟨rfl,fun h=>absurd h this,fun _=>rfl⟩
  ·exact dataText_fs f s _ _ _ _ _ l _
theorem dataText_i0 (m:Msg) (l:List UInt8) (a:Nat):(dataText m l a).2.1=0->(dataText m l a).2.2=0:=by
 unfold dataText
 split
 ·intro h;cases h
 ·split
  ·intro _;rfl
  ·split
   ·intro h;cases h
   ·intro _;rfl
theorem readNew_i0 (f s:Int) (l:List UInt8) (a:Nat):(readNew f s l a).2.1=0->(readNew f s l a).2.2=0:=by
 unfold readNew
 split
 ·intro h;cases h
 ·unfold afterTime
  split
  ·next e he=>exact fun h=>absurd h (kinds_pos l kinds _ (by decide) e he)
  ·exact dataText_i0 _ l _
theorem source_none {l:List UInt8} (h:(source l).2=0):(source l).1=13:=by
 unfold source at h ⊢
 split
 ·rfl
 ·next h1=>
  rw [if_neg h1] at h
  split
  ·rfl
  ·next h2=>
   rw [if_neg h2] at h
   split
   ·rfl
   ·next h3=>
    rw [if_neg h3] at h
    simp at h
theorem readOld_fs (f s:Int) (l:List UInt8) (y:Nat):readOld (Msg.of f s) l y={ readOld (Msg.of 0 0) l y with fac:=f,sev:=s }:=by
 rw [readOld_eq,readOld_eq]
theorem two_pre {l:List UInt8} {a:Nat}:Lib.hasPrefix (l.drop a) [49,32]=true ↔ ∃ h:a+1 < l.length,l[a].toNat=49/\l[a+1].toNat=32:=by
 constructor
 ·intro h
  have hl:=prefix_len h
  simp only [List.length_drop,List.length_cons,List.length_nil] at hl
  refine ⟨by omega,?_⟩
  rw [List.drop_eq_getElem_cons (by omega:a < l.length),List.drop_eq_getElem_cons (by omega:a+1 < l.length)] at h
  simp [Lib.hasPrefix,List.isPrefixOf] at h
  rw [<-h.1,<-h.2]
  decide
 ·rintro ⟨h,h1,h2⟩
  rw [List.drop_eq_getElem_cons (by omega:a < l.length),List.drop_eq_getElem_cons (by omega:a+1 < l.length)]
  have e1:l[a]=49:=UInt8.toNat_inj.1 h1
  have e2:l[a+1]=32:=UInt8.toNat_inj.1 h2
  rw [e1,e2]
  simp [Lib.hasPrefix,List.isPrefixOf]
end Go.Hm
namespace Go.Proofs.YtdlhbmncbmconaaGreatDoor
open Go.RowKit Go.Sort
attribute [local go_sem] app_mk rcut rbyte
theorem rread_long (l:List UInt8) (hl:l.length<=1000000000000000) (y:Int) (w:World) (h:200 < l.length) :
  Calls Tryz.prog 110 #[.string ⟨l.toArray⟩,.int .i64 y] w fun e w'=>
   e=.returned (.tuple #[.agg (msgCells Hm.Msg.none),.int .i64 1,.int .i64 0])/\Below w.heap.size w w':=by
 have hi:(200:Int) < (l.length:Int):=by omega
 clear h hl
 go_enter Tryz.func110,Tryz.ntmps110
 go_wp2_with (first
  | (refine Hw.wpList_store_rowP rfl _ _ _ rfl rfl w.heap.size (msgCells Hm.Msg.none) rfl rfl _ _ (heap_alloc_new _ _) size_rmsg rfl rfl ?_;intro w8 p8;have P8:Hid (Hw.Put _ _ _ _ w8):=p8;clear p8))
 refine bodyPost_ret (Hw.results_row3 Tryz.results110 _ _ _ _ _ _ _ rfl P8.out.row Tryz.underlying80 rfl size_rmsg) rfl ⟨?_,((Below.refl _ _).alloc (Nat.le_refl _) _).trans (P8.out.below (Nat.le_refl _))⟩
 exact ret_msg3 rfl rfl rfl
theorem rread_year (l:List UInt8) (y:Int) (w:World) (h:l.length<=200) (hy:Hm.isYear y=false) :
  Calls Tryz.prog 110 #[.string ⟨l.toArray⟩,.int .i64 y] w fun e w'=>
   e=.returned (.tuple #[.agg (msgCells Hm.Msg.none),.int .i64 10,.int .i64 0])/\Below w.heap.size w w':=by
 have hi:¬ (200:Int) < (l.length:Int):=by omega
 clear h
 by_cases hy1:y < 1
 ·clear hy
  go_enter Tryz.func110,Tryz.ntmps110
  go_wp2_with (first
   | (refine Hw.wpList_store_rowP rfl _ _ _ rfl rfl w.heap.size (msgCells Hm.Msg.none) rfl rfl _ _ (heap_alloc_new _ _) size_rmsg rfl rfl ?_;intro w8 p8;have P8:Hid (Hw.Put _ _ _ _ w8):=p8;clear p8))
  refine bodyPost_ret (Hw.results_row3 Tryz.results110 _ _ _ _ _ _ _ rfl P8.out.row Tryz.underlying80 rfl size_rmsg) rfl ⟨?_,((Below.refl _ _).alloc (Nat.le_refl _) _).trans (P8.out.below (Nat.le_refl _))⟩
  exact ret_msg3 rfl rfl rfl
 ·have hy2:9999 < y:=by
   unfold Hm.isYear at hy
   simp at hy
   omega
  clear hy
  go_enter Tryz.func110,Tryz.ntmps110
  go_wp2_with (first
   | (refine Hw.wpList_store_rowP rfl _ _ _ rfl rfl w.heap.size (msgCells Hm.Msg.none) rfl rfl _ _ (heap_alloc_new _ _) size_rmsg rfl rfl ?_;intro w8 p8;have P8:Hid (Hw.Put _ _ _ _ w8):=p8;clear p8))
  refine bodyPost_ret (Hw.results_row3 Tryz.results110 _ _ _ _ _ _ _ rfl P8.out.row Tryz.underlying80 rfl size_rmsg) rfl ⟨?_,((Below.refl _ _).alloc (Nat.le_refl _) _).trans (P8.out.below (Nat.le_refl _))⟩
  exact ret_msg3 rfl rfl rfl
set_option maxRecDepth 20000 in
set_option maxHeartbeats 4000000 in
theorem rread_old (l:List UInt8) (y:Int) (w:World) (h:l.length<=200) (hy1:1<=y) (hy2:y<=9999) (src a:Nat) (hsa:Hm.source l=(src,a)) (hno:¬ (0 < a/\Lib.hasPrefix (l.drop a) [49,32]=true)) :
  Calls Tryz.prog 110 #[.string ⟨l.toArray⟩,.int .i64 y] w fun e w'=>
   e=.returned (if Hm.plain (l.drop a)=false then .tuple #[.agg (msgCells Hm.Msg.none),.int .i64 9,.int .i64 a] else .tuple #[.agg (msgCells (Hm.readOld (Hm.Msg.of ((src:Int) / 8) ((src:Int) % 8)) (l.drop a) y.toNat)),.int .i64 0,.int .i64 0])/\Below w.heap.size w w':=by
 have hi:¬ (200:Int) < (l.length:Int):=by omega
 have hyn:y=((y.toNat:Nat):Int):=by omega
 have hy1':¬ y < 1:=by omega
 have hy2':¬ 9999 < y:=by omega
 have hsl:=Hm.source_le l
 have hs0:=@Hm.source_none l
 have SO:Hid (∀ w,Calls Tryz.prog 155 #[.string ⟨l.toArray⟩] w fun e w'=>e=.returned (rsrcV l)/\w'=w):=fun w=>rsource_any l (by omega) w
 unfold rsrcV at SO
 rw [hsa] at hsl hs0 SO
 dsimp only at hsl hs0 SO
 clear hsa
 have CL:Hid (∀ w,Calls Tryz.prog 157 #[.string ⟨(l.drop a).toArray⟩] w fun e w'=>e=.returned (.bool (Hm.plain (l.drop a)))/\w'=w):=fun w=>rClean_any (l.drop a) (by rw [List.length_drop];omega) w
 have RO:Hid (∀ w,Calls Tryz.prog 158 #[.string ⟨(l.drop a).toArray⟩,.int .i64 y] w fun e w'=>e=.returned (.agg (msgCells (Hm.readOld (Hm.Msg.of 0 0) (l.drop a) y.toNat)))/\Below w.heap.size w w'):=fun w=>by
  have:=rreadOld_any (l.drop a) (by rw [List.length_drop];omega) y.toNat (by omega) (by omega) w
  rwa [<-hyn] at this
 rw [Hm.readOld_fs]
 generalize Hm.plain (l.drop a)=pl at CL ⊢
 obtain ⟨M,hM⟩:∃ M,Hm.readOld (Hm.Msg.of 0 0) (l.drop a) y.toNat=M:=⟨_,rfl⟩
 rw [hM] at RO ⊢
 clear hM hyn
 have hwr:wrap64 ((src:Int) / 8)=(src:Int) / 8:=by unfold wrap64;omega
 have hai:(a:Int)<=(l.length:Int):=by omega
 have hrest:(l.drop a).take (l.length - a)=l.drop a:=List.take_of_length_le (by rw [List.length_drop];omega)
 rcases (by
  by_cases h0:a=0
  ·exact .inl h0
  ·refine .inr ⟨h0,?_⟩
   by_cases h1:a+1 < l.length
   ·refine .inr ⟨h1,?_⟩
    by_cases h2:l[a].toNat=49
    ·refine .inr ⟨h2,?_⟩
     intro h3
     exact hno ⟨by omega,Hm.two_pre.2 ⟨h1,h2,h3⟩⟩
    ·exact .inl h2
   ·exact .inl h1:a=0∨(¬ a=0/\(¬ a+1 < l.length∨∃ h1:a+1 < l.length,(¬ l[a].toNat=49∨(l[a].toNat=49/\¬ l[a+1].toNat=32))))) with h0 | ⟨h0,h1 | ⟨h1,h2 | ⟨h2,h3⟩⟩⟩
 ·subst h0
  have h13:=hs0 rfl
  subst h13
  rw [if_pos rfl] at SO
  clear hno hs0 hwr hai hrest hsl
  rw [List.drop_zero] at CL RO
  have a0:((0:Nat):Int)=0:=rfl
  cases pl with
  | false=>
   rw [if_pos rfl]
   go_enter Tryz.func110,Tryz.ntmps110
   go_wp2_with fail
   refine (SO.out _).mono ?_
   rintro e w1 ⟨rfl,hw1⟩
   have hw1:=hw1.symm
   subst hw1
   go_wp2_with fail
   refine (CL.out _).mono ?_
   rintro e w1 ⟨rfl,hw1⟩
   have hw1:=hw1.symm
   subst hw1
   go_wp2_with (first
    | (refine Hw.wpList_store_rowP rfl _ _ _ rfl rfl w.heap.size (msgCells Hm.Msg.none) rfl rfl _ _ (heap_alloc_new _ _) size_rmsg rfl rfl ?_;intro w8 p8;have P8:Hid (Hw.Put _ _ _ _ w8):=p8;clear p8))
   refine bodyPost_ret (Hw.results_row3 Tryz.results110 _ _ _ _ _ _ _ rfl P8.out.row Tryz.underlying80 rfl size_rmsg) rfl ⟨?_,((Below.refl _ _).alloc (Nat.le_refl _) _).trans (P8.out.below (Nat.le_refl _))⟩
   exact ret_msg3 rfl rfl rfl
  | true=>
   rw [if_neg (by decide)]
   go_enter Tryz.func110,Tryz.ntmps110
   go_wp2_with fail
   refine (SO.out _).mono ?_
   rintro e w1 ⟨rfl,hw1⟩
   have hw1:=hw1.symm
   subst hw1
   go_wp2_with fail
   refine (CL.out _).mono ?_
   rintro e w1 ⟨rfl,hw1⟩
   have hw1:=hw1.symm
   subst hw1
   go_wp2_with fail
   refine (RO.out _).mono ?_
   rintro e w3 ⟨rfl,hb3⟩
   have HB3:Hid (Below w.heap.size w w3):=((Below.refl _ _).alloc (Nat.le_refl _) _).trans (hb3.mono (by simp))
   have HR3:Hid (w3.heap[w.heap.size]?=some (.cells (msgCells Hm.Msg.none) 80 (0,0))):=(hb3.block _ (by simp)).trans (heap_alloc_new _ _)
   have hz3:w.heap.size < w3.heap.size:=(Array.getElem?_eq_some_iff.1 HR3.out).1
   clear hb3
   go_wp2_with (first
    | (refine Hw.wpList_store_rowP rfl _ _ _ rfl rfl w3.heap.size (msgCells M) rfl rfl _ _ (heap_alloc_new _ _) size_rmsg rfl rfl ?_;intro w4 p4;have P4:Hid (Hw.Put (w3.alloc _) _ _ _ w4):=p4;clear p4)
    | (refine Hw.wpList_store_fieldP rfl _ _ _ rfl rfl w3.heap.size 0 _ rfl rfl _ _ _ P4.out.row size_int (by simp [msgCells]) rfl rfl ?_;intro w5 p5;have P5:Hid (Hw.Put w4 _ _ _ w5):=p5;clear p5)
    | (refine Hw.wpList_store_fieldP rfl _ _ _ rfl rfl w3.heap.size 1 _ rfl rfl _ _ _ P5.out.row size_int (by simp [msgCells]) rfl rfl ?_;intro w6 p6;have P6:Hid (Hw.Put w5 _ _ _ w6):=p6;clear p6)
    | (refine wpList_load_row rfl _ _ rfl w3.heap.size rfl _ _ _ _ P6.out.row Tryz.underlying80 rfl size_rmsg ?_)
    | (refine Hw.wpList_store_rowP rfl _ _ _ rfl rfl w.heap.size _ rfl rfl _ _ ((P6.out.other _ (by omega)).trans ((P5.out.other _ (by omega)).trans ((P4.out.other _ (by omega)).trans ((heap_alloc_old _ _ hz3).trans HR3.out)))) size_rmsg rfl rfl ?_;intro w7 p7;have P7:Hid (Hw.Put w6 _ _ _ w7):=p7;clear p7))
   refine bodyPost_ret (Hw.results_row3 Tryz.results110 _ _ _ _ _ _ _ rfl P7.out.row Tryz.underlying80 rfl size_rmsg) rfl ⟨?_,((((((HB3.out.alloc (by omega) _).trans (P4.out.below (by omega))).trans (P5.out.below (by omega))).trans (P6.out.below (by omega))).trans (P7.out.below (by omega))))⟩
   exact ret_msg3 rfl rfl rfl
 ·rw [if_neg h0] at SO
  clear hno hs0
  have t1:¬ (a:Int)+1 < (l.length:Int):=by omega
  have t0:¬ (a:Int) < 0:=by omega
  clear h0 h1
  cases pl with
  | false=>
   rw [if_pos rfl]
   go_enter Tryz.func110,Tryz.ntmps110
   go_wp2_with fail
   refine (SO.out _).mono ?_
   rintro e w1 ⟨rfl,hw1⟩
   have hw1:=hw1.symm
   subst hw1
   go_wp2_with fail
   refine (CL.out _).mono ?_
   rintro e w1 ⟨rfl,hw1⟩
   have hw1:=hw1.symm
   subst hw1
   go_wp2_with (first
    | (refine Hw.wpList_store_rowP rfl _ _ _ rfl rfl w.heap.size (msgCells Hm.Msg.none) rfl rfl _ _ (heap_alloc_new _ _) size_rmsg rfl rfl ?_;intro w8 p8;have P8:Hid (Hw.Put _ _ _ _ w8):=p8;clear p8))
   refine bodyPost_ret (Hw.results_row3 Tryz.results110 _ _ _ _ _ _ _ rfl P8.out.row Tryz.underlying80 rfl size_rmsg) rfl ⟨?_,((Below.refl _ _).alloc (Nat.le_refl _) _).trans (P8.out.below (Nat.le_refl _))⟩
   exact ret_msg3 rfl rfl rfl
  | true=>
   rw [if_neg (by decide)]
   go_enter Tryz.func110,Tryz.ntmps110
   go_wp2_with fail
   refine (SO.out _).mono ?_
   rintro e w1 ⟨rfl,hw1⟩
   have hw1:=hw1.symm
   subst hw1
   go_wp2_with fail
   refine (CL.out _).mono ?_
   rintro e w1 ⟨rfl,hw1⟩
   have hw1:=hw1.symm
   subst hw1
   go_wp2_with fail
   refine (RO.out _).mono ?_
   rintro e w3 ⟨rfl,hb3⟩
   have HB3:Hid (Below w.heap.size w w3):=((Below.refl _ _).alloc (Nat.le_refl _) _).trans (hb3.mono (by simp))
   have HR3:Hid (w3.heap[w.heap.size]?=some (.cells (msgCells Hm.Msg.none) 80 (0,0))):=(hb3.block _ (by simp)).trans (heap_alloc_new _ _)
   have hz3:w.heap.size < w3.heap.size:=(Array.getElem?_eq_some_iff.1 HR3.out).1
   clear hb3
   go_wp2_with (first
    | (refine Hw.wpList_store_rowP rfl _ _ _ rfl rfl w3.heap.size (msgCells M) rfl rfl _ _ (heap_alloc_new _ _) size_rmsg rfl rfl ?_;intro w4 p4;have P4:Hid (Hw.Put (w3.alloc _) _ _ _ w4):=p4;clear p4)
    | (refine Hw.wpList_store_fieldP rfl _ _ _ rfl rfl w3.heap.size 0 _ rfl rfl _ _ _ P4.out.row size_int (by simp [msgCells]) rfl rfl ?_;intro w5 p5;have P5:Hid (Hw.Put w4 _ _ _ w5):=p5;clear p5)
    | (refine Hw.wpList_store_fieldP rfl _ _ _ rfl rfl w3.heap.size 1 _ rfl rfl _ _ _ P5.out.row size_int (by simp [msgCells]) rfl rfl ?_;intro w6 p6;have P6:Hid (Hw.Put w5 _ _ _ w6):=p6;clear p6)
    | (refine wpList_load_row rfl _ _ rfl w3.heap.size rfl _ _ _ _ P6.out.row Tryz.underlying80 rfl size_rmsg ?_)
    | (refine Hw.wpList_store_rowP rfl _ _ _ rfl rfl w.heap.size _ rfl rfl _ _ ((P6.out.other _ (by omega)).trans ((P5.out.other _ (by omega)).trans ((P4.out.other _ (by omega)).trans ((heap_alloc_old _ _ hz3).trans HR3.out)))) size_rmsg rfl rfl ?_;intro w7 p7;have P7:Hid (Hw.Put w6 _ _ _ w7):=p7;clear p7))
   refine bodyPost_ret (Hw.results_row3 Tryz.results110 _ _ _ _ _ _ _ rfl P7.out.row Tryz.underlying80 rfl size_rmsg) rfl ⟨?_,((((((HB3.out.alloc (by omega) _).trans (P4.out.below (by omega))).trans (P5.out.below (by omega))).trans (P6.out.below (by omega))).trans (P7.out.below (by omega))))⟩
   exact ret_msg3 rfl rfl rfl
 ·rw [if_neg h0] at SO
  clear hno hs0
  have t1:(a:Int)+1 < (l.length:Int):=by omega
  have t0:¬ (a:Int) < 0:=by omega
  have t2:((l[a].toNat:Int) == 49)=false:=beq_eq_false_iff_ne.2 (by omega)
  have ha:a < l.length:=by omega
  clear h0 h2
  cases pl with
  | false=>
   rw [if_pos rfl]
   go_enter Tryz.func110,Tryz.ntmps110
   go_wp2_with fail
   refine (SO.out _).mono ?_
   rintro e w1 ⟨rfl,hw1⟩
   have hw1:=hw1.symm
   subst hw1
   go_wp2_with fail
   refine (CL.out _).mono ?_
   rintro e w1 ⟨rfl,hw1⟩
   have hw1:=hw1.symm
   subst hw1
   go_wp2_with (first
    | (refine Hw.wpList_store_rowP rfl _ _ _ rfl rfl w.heap.size (msgCells Hm.Msg.none) rfl rfl _ _ (heap_alloc_new _ _) size_rmsg rfl rfl ?_;intro w8 p8;have P8:Hid (Hw.Put _ _ _ _ w8):=p8;clear p8))
   refine bodyPost_ret (Hw.results_row3 Tryz.results110 _ _ _ _ _ _ _ rfl P8.out.row Tryz.underlying80 rfl size_rmsg) rfl ⟨?_,((Below.refl _ _).alloc (Nat.le_refl _) _).trans (P8.out.below (Nat.le_refl _))⟩
   exact ret_msg3 rfl rfl rfl
  | true=>
   rw [if_neg (by decide)]
   go_enter Tryz.func110,Tryz.ntmps110
   go_wp2_with fail
   refine (SO.out _).mono ?_
   rintro e w1 ⟨rfl,hw1⟩
   have hw1:=hw1.symm
   subst hw1
   go_wp2_with fail
   refine (CL.out _).mono ?_
   rintro e w1 ⟨rfl,hw1⟩
   have hw1:=hw1.symm
   subst hw1
   go_wp2_with fail
   refine (RO.out _).mono ?_
   rintro e w3 ⟨rfl,hb3⟩
   have HB3:Hid (Below w.heap.size w w3):=((Below.refl _ _).alloc (Nat.le_refl _) _).trans (hb3.mono (by simp))
   have HR3:Hid (w3.heap[w.heap.size]?=some (.cells (msgCells Hm.Msg.none) 80 (0,0))):=(hb3.block _ (by simp)).trans (heap_alloc_new _ _)
   have hz3:w.heap.size < w3.heap.size:=(Array.getElem?_eq_some_iff.1 HR3.out).1
   clear hb3
   go_wp2_with (first
    | (refine Hw.wpList_store_rowP rfl _ _ _ rfl rfl w3.heap.size (msgCells M) rfl rfl _ _ (heap_alloc_new _ _) size_rmsg rfl rfl ?_;intro w4 p4;have P4:Hid (Hw.Put (w3.alloc _) _ _ _ w4):=p4;clear p4)
    | (refine Hw.wpList_store_fieldP rfl _ _ _ rfl rfl w3.heap.size 0 _ rfl rfl _ _ _ P4.out.row size_int (by simp [msgCells]) rfl rfl ?_;intro w5 p5;have P5:Hid (Hw.Put w4 _ _ _ w5):=p5;clear p5)
    | (refine Hw.wpList_store_fieldP rfl _ _ _ rfl rfl w3.heap.size 1 _ rfl rfl _ _ _ P5.out.row size_int (by simp [msgCells]) rfl rfl ?_;intro w6 p6;have P6:Hid (Hw.Put w5 _ _ _ w6):=p6;clear p6)
    | (refine wpList_load_row rfl _ _ rfl w3.heap.size rfl _ _ _ _ P6.out.row Tryz.underlying80 rfl size_rmsg ?_)
    | (refine Hw.wpList_store_rowP rfl _ _ _ rfl rfl w.heap.size _ rfl rfl _ _ ((P6.out.other _ (by omega)).trans ((P5.out.other _ (by omega)).trans ((P4.out.other _ (by omega)).trans ((heap_alloc_old _ _ hz3).trans HR3.out)))) size_rmsg rfl rfl ?_;intro w7 p7;have P7:Hid (Hw.Put w6 _ _ _ w7):=p7;clear p7))
   refine bodyPost_ret (Hw.results_row3 Tryz.results110 _ _ _ _ _ _ _ rfl P7.out.row Tryz.underlying80 rfl size_rmsg) rfl ⟨?_,((((((HB3.out.alloc (by omega) _).trans (P4.out.below (by omega))).trans (P5.out.below (by omega))).trans (P6.out.below (by omega))).trans (P7.out.below (by omega))))⟩
   exact ret_msg3 rfl rfl rfl
 ·rw [if_neg h0] at SO
  clear hno hs0
  have t1:(a:Int)+1 < (l.length:Int):=by omega
  have t0:¬ (a:Int) < 0:=by omega
  have t2:((l[a].toNat:Int) == 49)=true:=beq_iff_eq.2 (by omega)
  have t3:((l[a+1].toNat:Int) == 32)=false:=beq_eq_false_iff_ne.2 (by omega)
  have t4:((a:Int)+1).toNat=a+1:=by omega
  have ha:a < l.length:=by omega
  clear h0 h2 h3
  cases pl with
  | false=>
   rw [if_pos rfl]
   go_enter Tryz.func110,Tryz.ntmps110
   go_wp2_with fail
   refine (SO.out _).mono ?_
   rintro e w1 ⟨rfl,hw1⟩
   have hw1:=hw1.symm
   subst hw1
   go_wp2_with fail
   refine (CL.out _).mono ?_
   rintro e w1 ⟨rfl,hw1⟩
   have hw1:=hw1.symm
   subst hw1
   go_wp2_with (first
    | (refine Hw.wpList_store_rowP rfl _ _ _ rfl rfl w.heap.size (msgCells Hm.Msg.none) rfl rfl _ _ (heap_alloc_new _ _) size_rmsg rfl rfl ?_;intro w8 p8;have P8:Hid (Hw.Put _ _ _ _ w8):=p8;clear p8))
   refine bodyPost_ret (Hw.results_row3 Tryz.results110 _ _ _ _ _ _ _ rfl P8.out.row Tryz.underlying80 rfl size_rmsg) rfl ⟨?_,((Below.refl _ _).alloc (Nat.le_refl _) _).trans (P8.out.below (Nat.le_refl _))⟩
   exact ret_msg3 rfl rfl rfl
  | true=>
   rw [if_neg (by decide)]
   go_enter Tryz.func110,Tryz.ntmps110
   go_wp2_with fail
   refine (SO.out _).mono ?_
   rintro e w1 ⟨rfl,hw1⟩
   have hw1:=hw1.symm
   subst hw1
   go_wp2_with fail
   refine (CL.out _).mono ?_
   rintro e w1 ⟨rfl,hw1⟩
   have hw1:=hw1.symm
   subst hw1
   go_wp2_with fail
   refine (RO.out _).mono ?_
   rintro e w3 ⟨rfl,hb3⟩
   have HB3:Hid (Below w.heap.size w w3):=((Below.refl _ _).alloc (Nat.le_refl _) _).trans (hb3.mono (by simp))
   have HR3:Hid (w3.heap[w.heap.size]?=some (.cells (msgCells Hm.Msg.none) 80 (0,0))):=(hb3.block _ (by simp)).trans (heap_alloc_new _ _)
   have hz3:w.heap.size < w3.heap.size:=(Array.getElem?_eq_some_iff.1 HR3.out).1
   clear hb3
   go_wp2_with (first
    | (refine Hw.wpList_store_rowP rfl _ _ _ rfl rfl w3.heap.size (msgCells M) rfl rfl _ _ (heap_alloc_new _ _) size_rmsg rfl rfl ?_;intro w4 p4;have P4:Hid (Hw.Put (w3.alloc _) _ _ _ w4):=p4;clear p4)
    | (refine Hw.wpList_store_fieldP rfl _ _ _ rfl rfl w3.heap.size 0 _ rfl rfl _ _ _ P4.out.row size_int (by simp [msgCells]) rfl rfl ?_;intro w5 p5;have P5:Hid (Hw.Put w4 _ _ _ w5):=p5;clear p5)
    | (refine Hw.wpList_store_fieldP rfl _ _ _ rfl rfl w3.heap.size 1 _ rfl rfl _ _ _ P5.out.row size_int (by simp [msgCells]) rfl rfl ?_;intro w6 p6;have P6:Hid (Hw.Put w5 _ _ _ w6):=p6;clear p6)
    | (refine wpList_load_row rfl _ _ rfl w3.heap.size rfl _ _ _ _ P6.out.row Tryz.underlying80 rfl size_rmsg ?_)
    | (refine Hw.wpList_store_rowP rfl _ _ _ rfl rfl w.heap.size _ rfl rfl _ _ ((P6.out.other _ (by omega)).trans ((P5.out.other _ (by omega)).trans ((P4.out.other _ (by omega)).trans ((heap_alloc_old _ _ hz3).trans HR3.out)))) size_rmsg rfl rfl ?_;intro w7 p7;have P7:Hid (Hw.Put w6 _ _ _ w7):=p7;clear p7))
   refine bodyPost_ret (Hw.results_row3 Tryz.results110 _ _ _ _ _ _ _ rfl P7.out.row Tryz.underlying80 rfl size_rmsg) rfl ⟨?_,((((((HB3.out.alloc (by omega) _).trans (P4.out.below (by omega))).trans (P5.out.below (by omega))).trans (P6.out.below (by omega))).trans (P7.out.below (by omega))))⟩
   exact ret_msg3 rfl rfl rfl
set_option maxRecDepth 20000 in
set_option maxHeartbeats 4000000 in
theorem rread_new (l:List UInt8) (y:Int) (w:World) (h:l.length<=200) (hy1:1<=y) (hy2:y<=9999) (src a:Nat) (hsa:Hm.source l=(src,a)) (ha:0 < a) (hp:Lib.hasPrefix (l.drop a) [49,32]=true) :
  Calls Tryz.prog 110 #[.string ⟨l.toArray⟩,.int .i64 y] w fun e w'=>
   e=.returned (.tuple #[.agg (msgCells (Hm.readNew ((src:Int) / 8) ((src:Int) % 8) l (a+2)).1),.int .i64 (Hm.readNew ((src:Int) / 8) ((src:Int) % 8) l (a+2)).2.1,.int .i64 (Hm.readNew ((src:Int) / 8) ((src:Int) % 8) l (a+2)).2.2])/\Below w.heap.size w w':=by
 have hi:¬ (200:Int) < (l.length:Int):=by omega
 have hy1':¬ y < 1:=by omega
 have hy2':¬ 9999 < y:=by omega
 have hsl:=Hm.source_le l
 have SO:Hid (∀ w,Calls Tryz.prog 155 #[.string ⟨l.toArray⟩] w fun e w'=>e=.returned (rsrcV l)/\w'=w):=fun w=>rsource_any l (by omega) w
 unfold rsrcV at SO
 rw [hsa] at hsl SO
 dsimp only at hsl SO
 rw [if_neg (by omega)] at SO
 clear hsa
 obtain ⟨hl2,c1,c2⟩:=Hm.two_pre.1 hp
 clear hp
 have RN:Hid (∀ w,Calls Tryz.prog 156 #[.string ⟨l.toArray⟩,.int .i64 ((a:Int)+2)] w fun e w'=>(∃ m:Hm.Msg,e=.returned (.tuple #[.agg (msgCells m),.int .i64 (Hm.readNew 0 0 l (a+2)).2.1,.int .i64 (Hm.readNew 0 0 l (a+2)).2.2])/\((Hm.readNew 0 0 l (a+2)).2.1=0->m=(Hm.readNew 0 0 l (a+2)).1))/\Below w.heap.size w w'):=fun w=>by
  have:=rreadNew_any l h (a+2) (by omega) w
  rwa [show ((a+2:Nat):Int)=(a:Int)+2 by omega] at this
 obtain ⟨f1,f2,f3⟩:=Hm.readNew_fs ((src:Int) / 8) ((src:Int) % 8) l (a+2)
 have f4:=Hm.readNew_i0 0 0 l (a+2)
 obtain ⟨N,hN⟩:∃ N,Hm.readNew 0 0 l (a+2)=N:=⟨_,rfl⟩
 rw [hN] at RN f1 f2 f3 f4
 generalize Hm.readNew ((src:Int) / 8) ((src:Int) % 8) l (a+2)=R at f1 f2 f3 ⊢
 obtain ⟨R1,R2⟩:=R
 dsimp only at f1 f2 f3 ⊢
 subst f1
 obtain ⟨N1,E,I⟩:=N
 dsimp only at f2 f3 f4 RN ⊢
 clear hN
 have HF2:=show Hid _ from f2
 have HF3:=show Hid _ from f3
 have HF4:=show Hid _ from f4
 clear f2 f3 f4
 have hwr:wrap64 ((src:Int) / 8)=(src:Int) / 8:=by unfold wrap64;omega
 have t0:¬ (a:Int) < 0:=by omega
 have t1:(a:Int)+1 < (l.length:Int):=by omega
 have hal:a < l.length:=by omega
 have t2:((l[a].toNat:Int) == 49)=true:=beq_iff_eq.2 (by omega)
 have t3:((l[a+1].toNat:Int) == 32)=true:=beq_iff_eq.2 (by omega)
 have t4:((a:Int)+1).toNat=a+1:=by omega
 clear ha c1 c2
 by_cases hE:E=0
 ·have hEb:((E:Int) != 0)=false:=by simp;omega
  have HR1:=show Hid _ from HF2.out hE
  have HI:=show Hid _ from HF4.out hE
  clear HF2 HF3 HF4
  go_enter Tryz.func110,Tryz.ntmps110
  go_wp2_with fail
  refine (SO.out _).mono ?_
  rintro e w1 ⟨rfl,hw1⟩
  have hw1:=hw1.symm
  subst hw1
  go_wp2_with fail
  refine (RN.out _).mono ?_
  rintro e w3 ⟨⟨M,rfl,hM⟩,hb3⟩
  have HM:=show Hid _ from hM hE
  have HE0:=show Hid _ from hE
  clear hM hE
  have HB3:Hid (Below w.heap.size w w3):=((Below.refl _ _).alloc (Nat.le_refl _) _).trans (hb3.mono (by simp))
  have HR3:Hid (w3.heap[w.heap.size]?=some (.cells (msgCells Hm.Msg.none) 80 (0,0))):=(hb3.block _ (by simp)).trans (heap_alloc_new _ _)
  have hz3:w.heap.size < w3.heap.size:=(Array.getElem?_eq_some_iff.1 HR3.out).1
  clear hb3
  go_wp2_with (first
   | (refine Hw.wpList_store_rowP rfl _ _ _ rfl rfl w3.heap.size (msgCells M) rfl rfl _ _ (heap_alloc_new _ _) size_rmsg rfl rfl ?_;intro w4 p4;have P4:Hid (Hw.Put (w3.alloc _) _ _ _ w4):=p4;clear p4)
   | (refine Hw.wpList_store_fieldP rfl _ _ _ rfl rfl w3.heap.size 0 _ rfl rfl _ _ _ P4.out.row size_int (by simp [msgCells]) rfl rfl ?_;intro w5 p5;have P5:Hid (Hw.Put w4 _ _ _ w5):=p5;clear p5)
   | (refine Hw.wpList_store_fieldP rfl _ _ _ rfl rfl w3.heap.size 1 _ rfl rfl _ _ _ P5.out.row size_int (by simp [msgCells]) rfl rfl ?_;intro w6 p6;have P6:Hid (Hw.Put w5 _ _ _ w6):=p6;clear p6)
   | (refine wpList_load_row rfl _ _ rfl w3.heap.size rfl _ _ _ _ P6.out.row Tryz.underlying80 rfl size_rmsg ?_)
   | (refine Hw.wpList_store_rowP rfl _ _ _ rfl rfl w.heap.size _ rfl rfl _ _ ((P6.out.other _ (by omega)).trans ((P5.out.other _ (by omega)).trans ((P4.out.other _ (by omega)).trans ((heap_alloc_old _ _ hz3).trans HR3.out)))) size_rmsg rfl rfl ?_;intro w7 p7;have P7:Hid (Hw.Put w6 _ _ _ w7):=p7;clear p7))
  refine bodyPost_ret (Hw.results_row3 Tryz.results110 _ _ _ _ _ _ _ rfl P7.out.row Tryz.underlying80 rfl size_rmsg) rfl ⟨?_,((((((HB3.out.alloc (by omega) _).trans (P4.out.below (by omega))).trans (P5.out.below (by omega))).trans (P6.out.below (by omega))).trans (P7.out.below (by omega))))⟩
  rw [HR1.out,<-HM.out]
  exact ret_msg3 rfl (by rw [HE0.out];rfl) (by rw [HI.out];rfl)
 ·have hEb:((E:Int) != 0)=true:=by simp;omega
  have HR1:=show Hid _ from HF3.out hE
  clear HF2 HF3 HF4 hE
  go_enter Tryz.func110,Tryz.ntmps110
  go_wp2_with fail
  refine (SO.out _).mono ?_
  rintro e w1 ⟨rfl,hw1⟩
  have hw1:=hw1.symm
  subst hw1
  go_wp2_with fail
  refine (RN.out _).mono ?_
  rintro e w3 ⟨⟨M,rfl,_⟩,hb3⟩
  have HB3:Hid (Below w.heap.size w w3):=((Below.refl _ _).alloc (Nat.le_refl _) _).trans (hb3.mono (by simp))
  have HR3:Hid (w3.heap[w.heap.size]?=some (.cells (msgCells Hm.Msg.none) 80 (0,0))):=(hb3.block _ (by simp)).trans (heap_alloc_new _ _)
  have hz3:w.heap.size < w3.heap.size:=(Array.getElem?_eq_some_iff.1 HR3.out).1
  clear hb3
  go_wp2_with (first
   | (refine Hw.wpList_store_rowP rfl _ _ _ rfl rfl w3.heap.size (msgCells M) rfl rfl _ _ (heap_alloc_new _ _) size_rmsg rfl rfl ?_;intro w4 p4;have P4:Hid (Hw.Put (w3.alloc _) _ _ _ w4):=p4;clear p4)
   | (refine Hw.wpList_store_rowP rfl _ _ _ rfl rfl w.heap.size (msgCells Hm.Msg.none) rfl rfl _ _ ((P4.out.other _ (by omega)).trans ((heap_alloc_old _ _ hz3).trans HR3.out)) size_rmsg rfl rfl ?_;intro w7 p7;have P7:Hid (Hw.Put w4 _ _ _ w7):=p7;clear p7))
  refine bodyPost_ret (Hw.results_row3 Tryz.results110 _ _ _ _ _ _ _ rfl P7.out.row Tryz.underlying80 rfl size_rmsg) rfl ⟨?_,((((HB3.out.alloc (by omega) _).trans (P4.out.below (by omega))).trans (P7.out.below (by omega))))⟩
  rw [HR1.out]
  exact ret_msg3 rfl rfl rfl
theorem rRead_any (l:List UInt8) (hl:l.length<=1000000000000000) (y:Int) (w:World) :
  Calls Tryz.prog 110 #[.string ⟨l.toArray⟩,.int .i64 y] w fun e w'=>
   e=.returned (.tuple #[.agg (msgCells (Hm.read l y).1),.int .i64 (Hm.read l y).2.1,.int .i64 (Hm.read l y).2.2])/\Below w.heap.size w w':=by
 unfold Hm.read
 by_cases h1:200 < l.length
 ·rw [if_pos h1];exact rread_long l hl y w h1
 rw [if_neg h1]
 by_cases h2:Hm.isYear y=false
 ·rw [if_pos h2];exact rread_year l y w (by omega) h2
 rw [if_neg h2]
 have hy:1<=y/\y<=9999:=by
  unfold Hm.isYear at h2
  simp at h2
  omega
 by_cases h3:0 < (Hm.source l).2/\Lib.hasPrefix (l.drop (Hm.source l).2) [49,32]=true
 ·rw [if_pos h3]
  exact rread_new l y w (by omega) hy.1 hy.2 (Hm.source l).1 (Hm.source l).2 rfl h3.1 h3.2
 rw [if_neg h3]
 refine (rread_old l y w (by omega) hy.1 hy.2 (Hm.source l).1 (Hm.source l).2 rfl h3).mono ?_
 rintro e w' ⟨rfl,hb⟩
 refine ⟨?_,hb⟩
 by_cases hp:Hm.plain (l.drop (Hm.source l).2)=false
 ·rw [if_pos hp,if_pos hp];rfl
 ·rw [if_neg hp,if_neg hp];rfl
end Go.Proofs.YtdlhbmncbmconaaGreatDoor

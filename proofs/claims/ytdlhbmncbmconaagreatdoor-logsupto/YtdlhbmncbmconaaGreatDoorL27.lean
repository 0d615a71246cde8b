/- Pressed by program out of Cq. -/
import Derived.Test.YtdlhbmncbmconaaGreatDoorL26
import Derived.Test.YtdlhbmncbmconaaGreatDoorL25
import Derived.Test.YtdlhbmncbmconaaGreatDoorL23
import Derived.Test.YtdlhbmncbmconaaGreatDoorL19
namespace Go.Proofs.YtdlhbmncbmconaaGreatDoor
open Go.RowKit Go.Sort
attribute [local go_sem] app_mk rcut rbyte
def newM (T:List UInt8) (ws:List (List UInt8)) (D X:List UInt8):Hm.Msg:=⟨0,0,T,ws.getD 0 [],ws.getD 1 [],ws.getD 2 [],ws.getD 3 [],D,X⟩
theorem newM_dash (T:List UInt8) (ws:List (List UInt8)) (h:ws.length < 4) (D X:List UInt8):newM T (ws ++ [[]]) D X=newM T ws D X:=by
 match ws,h with
 | [],_=>rfl
 | [a],_=>rfl
 | [a,b],_=>rfl
 | [a,b,c],_=>rfl
theorem newM_word (T:List UInt8) (ws:List (List UInt8)) (h:ws.length < 4) (D X x:List UInt8):(msgCells (newM T ws D X)).setIfInBounds (3+ws.length) (.string ⟨x.toArray⟩)=msgCells (newM T (ws ++ [x]) D X):=by
 match ws,h with
 | [],_=>rfl
 | [a],_=>rfl
 | [a,b],_=>rfl
 | [a,b,c],_=>rfl
theorem kinds_two {k:Nat} (h:k < 4):(Hm.kinds.getD k (0,0)).2=4+k/\((Hm.kinds.getD k (0,0)).1:Int)=(if k=0 then 32 else if k=3 then 12 else 16)/\(Hm.kinds.getD k (0,0)).1<=100:=by
 rcases (by omega:k=0∨k=1∨k=2∨k=3) with h | h | h | h<;>subst h<;>decide
set_option maxRecDepth 20000 in
set_option maxHeartbeats 4000000 in
theorem rreadNew_any (l:List UInt8) (hl:l.length<=200) (a:Nat) (ha:a<=l.length) (w:World) :
  Calls Tryz.prog 156 #[.string ⟨l.toArray⟩,.int .i64 a] w fun e w'=>(∃ m:Hm.Msg,e=.returned (.tuple #[.agg (msgCells m),.int .i64 (Hm.readNew 0 0 l a).2.1,.int .i64 (Hm.readNew 0 0 l a).2.2])/\((Hm.readNew 0 0 l a).2.1=0->m=(Hm.readNew 0 0 l a).1))/\Below w.heap.size w w':=by
 obtain ⟨R,hR⟩:∃ R,Hm.readNew 0 0 l a=R:=⟨_,rfl⟩
 rw [hR]
 have hpp:=Hm.part_pend l a ha
 have hpl:=Hm.pend_le l a ha
 have PA:Hid (∀ a,a<=l.length->∀ w,Calls Tryz.prog 191 #[.string ⟨l.toArray⟩,.int .i64 a] w fun e w'=>e=.returned (.int .i64 (Hm.pend l a))/\w'=w):=fun a ha w=>rpart_any l (by omega) a ha w
 have PA0:=show Hid _ from PA.out a ha
 obtain ⟨E,hE⟩:∃ E,Hm.pend l a=E:=⟨_,rfl⟩
 rw [hE] at hpp hpl PA0
 clear hE
 obtain ⟨p,hp⟩:∃ p,(l.drop a).take (E - a)=p:=⟨_,rfl⟩
 rw [hp] at hpp
 have TI:Hid (∀ w,Calls Tryz.prog 159 #[.string ⟨p.toArray⟩] w fun e w'=>e=.returned (strOpt (Hm.readTime p))/\w'=w):=fun w=>by
  have:=rTime_any p (by rw [<-hp,List.length_take,List.length_drop];omega) w
  rwa [Hm.rtime_eq] at this
 have e0:(a:Int)<=(E:Int):=by omega
 have e1:(E:Int)<=(l.length:Int):=by omega
 by_cases hbad:Hm.readTime p=none/\¬ p=[45]
 ·obtain ⟨hb1,hb2⟩:=hbad
  have HE:Hid (R=(Hm.Msg.none,3,a)):=by show _=_;rw [<-hR];exact Hm.readNew_none hpp (Hm.timeOf_none hb1 hb2)
  have hpb:(p == [45])=false:=beq_eq_false_iff_ne.2 hb2
  rw [hb1] at TI
  unfold strOpt at TI
  clear hb1 hb2 hpp hR PA
  go_enter Tryz.func156,Tryz.ntmps156
  go_wp2_with fail
  refine (PA0.out _).mono ?_
  rintro e w1 ⟨rfl,hw1⟩
  have hw1:=hw1.symm
  subst hw1
  go_wp2_with fail
  refine (TI.out _).mono ?_
  rintro e w1 ⟨rfl,hw1⟩
  have hw1:=hw1.symm
  subst hw1
  obtain ⟨W,hW⟩:∃ W,(w.alloc (.cells (msgCells Hm.Msg.none) 80)).alloc (.cells (msgCells Hm.Msg.none) 80)=W:=⟨_,rfl⟩
  have HB1:Hid (Below w.heap.size w W):=hW ▸ ((Below.refl _ _).alloc (Nat.le_refl _) _).alloc (by simp) _
  have HR1:Hid (W.heap[w.heap.size+1]?=some (.cells (msgCells Hm.Msg.none) 80 (0,0))):=hW ▸ alloc2_new _ _ _
  have HR0:Hid (W.heap[w.heap.size]?=some (.cells (msgCells Hm.Msg.none) 80 (0,0))):=hW ▸ (heap_alloc_old _ _ (by simp)).trans (heap_alloc_new _ _)
  unfold msgCells Hm.Msg.none at hW
  dsimp only at hW
  rw [hW]
  clear hW
  go_wp2_with (first
   | (refine wpList_load_row rfl _ _ rfl (w.heap.size+1) rfl _ _ _ _ HR1.out Tryz.underlying80 rfl size_rmsg ?_)
   | (refine Hw.wpList_store_rowP rfl _ _ _ rfl rfl w.heap.size (msgCells Hm.Msg.none) rfl rfl _ _ HR0.out size_rmsg rfl rfl ?_;intro w8 p8;have P8:Hid (Hw.Put W _ _ _ w8):=p8;clear p8))
  refine bodyPost_ret (Hw.results_row3 Tryz.results156 _ _ _ _ _ _ _ rfl P8.out.row Tryz.underlying80 rfl size_rmsg) rfl ⟨⟨Hm.Msg.none,?_,?_⟩,HB1.out.trans (P8.out.below (Nat.le_refl _))⟩
  ·rw [HE.out];exact ret_msg3 rfl rfl rfl
  ·rw [HE.out];intro h;cases h
 obtain ⟨T,ok,htv,htime,hjoin⟩:∃ T ok,strOpt (Hm.readTime p)=.tuple #[.string ⟨T.toArray⟩,.bool ok]/\Hm.timeOf p=some T/\(ok=false->p=[45]):=by
  cases ht:Hm.readTime p with
  | none=>
   have h45:p=[45]:=Classical.byContradiction fun h=>hbad ⟨ht,h⟩
   exact ⟨[],false,rfl,by rw [h45];rfl,fun _=>h45⟩
  | some t=>exact ⟨t,true,rfl,Hm.timeOf_some ht,fun h=>by cases h⟩
 rw [htv] at TI
 obtain ⟨n0,hn0⟩:∃ n,min (E+1) l.length=n:=⟨_,rfl⟩
 rw [hn0] at hpp
 have HRT:Hid (R=Hm.afterTime 0 0 T l n0):=by show _=_;rw [<-hR];exact Hm.readNew_some hpp htime
 have HN0:=show Hid _ from hn0
 clear hbad htv htime hpp hR hn0
 go_enter Tryz.func156,Tryz.ntmps156
 go_wp2_with fail
 refine (PA0.out _).mono ?_
 rintro e w1 ⟨rfl,hw1⟩
 have hw1:=hw1.symm
 subst hw1
 go_wp2_with fail
 refine (TI.out _).mono ?_
 rintro e w1 ⟨rfl,hw1⟩
 have hw1:=hw1.symm
 subst hw1
 obtain ⟨W,hW⟩:∃ W,(w.alloc (.cells (msgCells Hm.Msg.none) 80)).alloc (.cells (msgCells Hm.Msg.none) 80)=W:=⟨_,rfl⟩
 have HB1:Hid (Below w.heap.size w W):=hW ▸ ((Below.refl _ _).alloc (Nat.le_refl _) _).alloc (by simp) _
 have HR1:Hid (W.heap[w.heap.size+1]?=some (.cells (msgCells Hm.Msg.none) 80 (0,0))):=hW ▸ alloc2_new _ _ _
 have HR0:Hid (W.heap[w.heap.size]?=some (.cells (msgCells Hm.Msg.none) 80 (0,0))):=hW ▸ (heap_alloc_old _ _ (by simp)).trans (heap_alloc_new _ _)
 unfold msgCells Hm.Msg.none at hW
 dsimp only at hW
 rw [hW]
 clear hW
 go_upto_region 4 with fail
 go_cut [33] (fun s33 wc=>s33=.bool false/\wc=W)
 case first=>
  cases ok with
  | true=>
   go_wp2
   go_meet
   case rel=>exact ⟨rfl,rfl⟩
  | false=>
   have h45:=hjoin rfl
   rw [h45] at hp
   go_wp2
   go_meet
   case rel=>exact ⟨rfl,rfl⟩
 case rest=>
  obtain ⟨rfl,hwc⟩:=hcut
  have hwc:=hwc.symm
  subst hwc
  clear hp TI PA0 hjoin
  go_wp2_with (first
   | (refine Hw.wpList_store_fieldP rfl _ _ _ rfl rfl (w.heap.size+1) 2 _ rfl rfl _ _ (msgCells (newM T [] [] [])) HR1.out size_str (by simp [msgCells]) rfl rfl ?_;intro w2 p2;have P2:Hid (Hw.Put W _ _ _ w2):=p2;clear p2)
   | fail)
  have HB2:Hid (Below w.heap.size w w2):=HB1.out.trans (P2.out.below (by omega))
  have HS0:Hid (w2.heap[w.heap.size]?=some (.cells (msgCells Hm.Msg.none) 80 (0,0))):=(P2.out.other _ (by omega)).trans HR0.out
  have HS1:Hid (w2.heap[w.heap.size+1]?=some (.cells (msgCells (newM T [] [] [])) 80 (0,0))):=P2.out.row
  clear HR0 HR1 P2 HB1
  go_loopw [1,8,10,11,12] (fun _ s8 _ s11 _ wr=>∃ (ws:List (List UInt8)) (E:Nat),ws.length<=4/\s11=.int .i64 ws.length/\s8=.int .i64 E/\E<=l.length/\Hm.WInv l n0 ws (min (E+1) l.length)/\wr.heap[w.heap.size]?=some (.cells (msgCells Hm.Msg.none) 80 (0,0))/\wr.heap[w.heap.size+1]?=some (.cells (msgCells (newM T ws [] [])) 80 (0,0))/\Below w.heap.size w wr) (fun _ _ _ s11 _ _=>4 - (intOf s11).toNat)
  case atStart=>exact ⟨[],E,by simp,rfl,rfl,by omega,by rw [HN0.out];exact Hm.WInv_start l n0,HS0.out,HS1.out,HB2.out⟩
  case round=>
   clear HS0 HS1 HB2 e0 e1 hpl HN0
   obtain ⟨ws,E,hw4,rfl,rfl,hEl,hWI,hS0,hS1,hB⟩:=hrel
   have HWI:=show Hid _ from hWI
   have HS0:=show Hid _ from hS0
   have HS1:=show Hid _ from hS1
   have HB:=show Hid _ from hB
   clear hWI hS0 hS1 hB
   obtain ⟨nx,hnx⟩:∃ n,min (E+1) l.length=n:=⟨_,rfl⟩
   rw [hnx] at HWI
   have hnl:nx<=l.length:=by omega
   have HN:=show Hid _ from hnx
   by_cases hk:ws.length < 4
   case neg=>
    have h4:ws.length=4:=by omega
    have hki:¬ ((ws.length:Nat):Int) < 4:=by omega
    obtain ⟨q1,q2⟩:=Hm.WInv_end h4 HWI.out
    have hRd:R=Hm.dataText ⟨0,0,T,ws.getD 0 [],ws.getD 1 [],ws.getD 2 [],ws.getD 3 [],[],[]⟩ l nx:=by
     rw [HRT.out,Hm.afterTime_ok q1,q2]
    have DA:Hid (∀ w,Calls Tryz.prog 164 #[.string ⟨(l.drop nx).toArray⟩] w fun e w'=>e=.returned (.int .i64 (Hm.rdata (l.drop nx)))/\Below w.heap.size w w'):=fun w=>rData_any (l.drop nx) (by rw [List.length_drop];omega) w
    have HB0:Hid ((Hm.rtold (l.drop nx)=0∨(nx+Hm.rtold (l.drop nx) < l.length/\¬ (l.getD (nx+Hm.rtold (l.drop nx)) 0).toNat=32))->R=(Hm.Msg.none,8,nx)):=fun h=>by rw [hRd];exact Hm.dt_bad hnl h _
    have HE0:Hid (¬ (Hm.rtold (l.drop nx)=0∨(nx+Hm.rtold (l.drop nx) < l.length/\¬ (l.getD (nx+Hm.rtold (l.drop nx)) 0).toNat=32))->l.length<=nx+Hm.rtold (l.drop nx)+1->R=(newM T ws (Hm.rdat (l.drop nx)) [],0,0)):=fun h he=>by rw [hRd];exact Hm.dt_end h hnl he _ _ _ _ _ _ _
    have HT0:Hid (¬ (Hm.rtold (l.drop nx)=0∨(nx+Hm.rtold (l.drop nx) < l.length/\¬ (l.getD (nx+Hm.rtold (l.drop nx)) 0).toNat=32))->nx+Hm.rtold (l.drop nx)+1 < l.length->R=if Hm.plain (l.drop (nx+Hm.rtold (l.drop nx)+1))=false then (Hm.Msg.none,9,nx+Hm.rtold (l.drop nx)+1) else (newM T ws (Hm.rdat (l.drop nx)) (l.drop (nx+Hm.rtold (l.drop nx)+1)),0,0)):=fun h he=>by rw [hRd];exact Hm.dt_text h he _ _ _ _ _ _ _
    have hNle:=Hm.rtold_le (l.drop nx)
    rw [List.length_drop] at hNle
    have HNT:Hid (Lib.hasPrefix (l.drop nx) [45]=true->Hm.rtold (l.drop nx)=1/\Hm.rdat (l.drop nx)=[]):=fun h=>by unfold Hm.rtold Hm.rdat;rw [if_pos h,if_pos h];exact ⟨rfl,rfl⟩
    have HNF:Hid (¬ Lib.hasPrefix (l.drop nx) [45]=true->Hm.rtold (l.drop nx)=Hm.rdata (l.drop nx)/\Hm.rdat (l.drop nx)=(l.drop nx).take (Hm.rtold (l.drop nx))):=fun h=>by unfold Hm.rtold Hm.rdat;rw [if_neg h,if_neg h];exact ⟨rfl,rfl⟩
    generalize Hm.rtold (l.drop nx)=N at HB0 HE0 HT0 hNle HNT HNF
    generalize Hm.rdat (l.drop nx)=D at HE0 HT0 HNT HNF
    clear hRd q1 q2 HWI HRT PA h4 hk hw4
    go_upto_if 81 with fail
    go_cut [1] (fun s1 wc=>s1=.int .i64 nx/\wc=wr)
    case first=>
     by_cases hE1:E < l.length
     ·have e0:¬ (l.length:Int) < (E:Int)+1:=by omega
      go_wp2
      go_meet
      case rel=>exact ⟨int_eq (by omega),rfl⟩
     ·have e0:(l.length:Int) < (E:Int)+1:=by omega
      go_wp2
      go_meet
      case rel=>exact ⟨int_eq (by omega),rfl⟩
    case rest=>
     obtain ⟨rfl,hwc⟩:=hcut
     have hwc:=hwc.symm
     subst hwc
     clear hnx hki
     have hai:(nx:Int)<=(l.length:Int):=by omega
     have hrest:(l.drop nx).take (l.length - nx)=l.drop nx:=List.take_of_length_le (by rw [List.length_drop];omega)
     by_cases hend:nx < l.length
     case neg=>
      have hci:¬ (nx:Int) < (l.length:Int):=by omega
      have hN0:N=0:=by omega
      have HE:Hid (R=(Hm.Msg.none,8,nx)):=HB0.out (.inl hN0)
      have hnp:¬ Lib.hasPrefix (l.drop nx) [45]=true:=fun h=>by obtain ⟨h1,_⟩:=Hm.pre_get (c:=45) h;omega
      obtain ⟨f1,f2⟩:=HNF.out hnp
      rw [<-f1,hN0] at DA
      subst hN0
      clear HB0 HE0 HT0 HNT HNF hnp f1
      have hcutD:(l.drop nx).take (nx+0 - nx)=D:=by rw [f2];simp
      have hcutE:(l.drop nx).take 0=D:=by rw [f2]
      clear f2
      go_wp2_with fail
      refine (DA.out _).mono ?_
      rintro e w3 ⟨rfl,hb3⟩
      have hzr:=(Array.getElem?_eq_some_iff.1 HS1.out).1
      have HB3:Hid (Below w.heap.size w w3):=Below.next HB.out (by omega) hb3
      have HZ3:Hid (w3.heap[w.heap.size]?=some (.cells (msgCells Hm.Msg.none) 80 (0,0))):=(hb3.block _ (by omega)).trans HS0.out
      have HM3:Hid (w3.heap[w.heap.size+1]?=some (.cells (msgCells (newM T ws [] [])) 80 (0,0))):=(hb3.block _ (by omega)).trans HS1.out
      clear hb3
      go_wp2_with (first
       | (refine Hw.wpList_store_fieldP rfl _ _ _ rfl rfl (w.heap.size+1) 7 _ rfl rfl _ _ (msgCells (newM T ws [] [])) HM3.out size_str (by simp [msgCells]) rfl rfl ?_;intro w4 p4;have P4:Hid (Hw.Put w3 _ _ _ w4):=p4;clear p4)
       | (refine wpList_load_row rfl _ _ rfl (w.heap.size+1) rfl _ _ _ _ P4.out.row Tryz.underlying80 rfl size_rmsg ?_)
       | (refine Hw.wpList_store_rowP rfl _ _ _ rfl rfl w.heap.size _ rfl rfl _ _ ((P4.out.other _ (by omega)).trans HZ3.out) size_rmsg rfl rfl ?_;intro w8 p8;have P8:Hid (Hw.Put _ _ _ _ w8):=p8;clear p8))
      refine bodyPost_ret (Hw.results_row3 Tryz.results156 _ _ _ _ _ _ _ rfl P8.out.row Tryz.underlying80 rfl size_rmsg) rfl ⟨⟨newM T ws [] [],?_,?_⟩,(HB3.out.trans (P4.out.below (by omega))).trans (P8.out.below (Nat.le_refl _))⟩
      ·rw [HE.out];exact ret_msg3 rfl rfl rfl
      ·rw [HE.out];intro h;cases h
     have hci:(nx:Int) < (l.length:Int):=by omega
     obtain ⟨b45,hb45⟩:∃ b,((l[nx].toNat:Int) == 45)=b:=⟨_,rfl⟩
     have HB45:Hid (b45=true ↔ Lib.hasPrefix (l.drop nx) [45]=true):=by
      show _ ↔ _
      rw [<-hb45]
      constructor
      ·intro h
       exact Hm.pre_yes (c:=45) ⟨hend,by have:=beq_iff_eq.1 h;show _=45;omega⟩
      ·intro h
       obtain ⟨_,h2⟩:=Hm.pre_get (c:=45) h
       have h2:l[nx].toNat=45:=h2
       exact beq_iff_eq.2 (by omega)
     go_upto_if 93 with fail
     go_cut [13] (fun s13 wc=>s13=.int .i64 N/\wc.heap[w.heap.size]?=some (.cells (msgCells Hm.Msg.none) 80 (0,0))/\wc.heap[w.heap.size+1]?=some (.cells (msgCells (newM T ws D [])) 80 (0,0))/\Below w.heap.size w wc)
     case first=>
      cases b45 with
      | true=>
       obtain ⟨f1,f2⟩:=HNT.out (HB45.out.1 rfl)
       clear HB45 HB0 HE0 HT0 HNT HNF
       go_wp2
       go_meet
       case rel=>exact ⟨by rw [f1];rfl,HS0.out,by rw [f2];exact HS1.out,HB.out⟩
      | false=>
       obtain ⟨f1,f2⟩:=HNF.out (fun h=>by have:=HB45.out.2 h;cases this)
       rw [<-f1] at DA
       have HF2:=show Hid _ from f2
       clear HB45 HB0 HE0 HT0 HNT HNF f1 f2
       go_wp2_with fail
       refine (DA.out _).mono ?_
       rintro e w3 ⟨rfl,hb3⟩
       have hzr:=(Array.getElem?_eq_some_iff.1 HS1.out).1
       have HB3:Hid (Below w.heap.size w w3):=Below.next HB.out (by omega) hb3
       have HZ3:Hid (w3.heap[w.heap.size]?=some (.cells (msgCells Hm.Msg.none) 80 (0,0))):=(hb3.block _ (by omega)).trans HS0.out
       have HM3:Hid (w3.heap[w.heap.size+1]?=some (.cells (msgCells (newM T ws [] [])) 80 (0,0))):=(hb3.block _ (by omega)).trans HS1.out
       clear hb3
       have g0:(nx:Int)+(N:Int)<=(l.length:Int):=by omega
       have g1:((nx:Int)+(N:Int)).toNat=nx+N:=by omega
       have hcutD:(l.drop nx).take (nx+N - nx)=D:=by rw [HF2.out,show nx+N - nx=N by omega]
       have hcutE:(l.drop nx).take N=D:=HF2.out.symm
       go_wp2_with (first
        | (refine Hw.wpList_store_fieldP rfl _ _ _ rfl rfl (w.heap.size+1) 7 _ rfl rfl _ _ (msgCells (newM T ws D [])) HM3.out size_str (by simp [msgCells]) rfl rfl ?_;intro w4 p4;have P4:Hid (Hw.Put w3 _ _ _ w4):=p4;clear p4)
        | fail)
       go_meet
       case rel=>exact ⟨rfl,(P4.out.other _ (by omega)).trans HZ3.out,P4.out.row,HB3.out.trans (P4.out.below (by omega))⟩
     case rest=>
      obtain ⟨rfl,hz5,hm5,hb5⟩:=hcut
      have HZ5:=show Hid _ from hz5
      have HM5:=show Hid _ from hm5
      have HB5:=show Hid _ from hb5
      clear hz5 hm5 hb5 HB45 hb45 HNT HNF DA HS0 HS1 HB
      have g0:((nx:Int)+(N:Int)).toNat=nx+N:=by omega
      have g2:((nx:Int)+(N:Int)+1).toNat=nx+N+1:=by omega
      by_cases hN0:N=0
      ·have HE:Hid (R=(Hm.Msg.none,8,nx)):=HB0.out (.inl hN0)
       have hNb:((N:Int) == 0)=true:=beq_iff_eq.2 (by omega)
       clear HB0 HE0 HT0 hN0
       go_wp2_with (first
        | (refine wpList_load_row rfl _ _ rfl (w.heap.size+1) rfl _ _ _ _ HM5.out Tryz.underlying80 rfl size_rmsg ?_)
        | (refine Hw.wpList_store_rowP rfl _ _ _ rfl rfl w.heap.size _ rfl rfl _ _ HZ5.out size_rmsg rfl rfl ?_;intro w8 p8;have P8:Hid (Hw.Put _ _ _ _ w8):=p8;clear p8))
       refine bodyPost_ret (Hw.results_row3 Tryz.results156 _ _ _ _ _ _ _ rfl P8.out.row Tryz.underlying80 rfl size_rmsg) rfl ⟨⟨newM T ws D [],?_,?_⟩,HB5.out.trans (P8.out.below (Nat.le_refl _))⟩
       ·rw [HE.out];exact ret_msg3 rfl rfl (rfl)
       ·rw [HE.out];intro h;cases h
      have hNb:((N:Int) == 0)=false:=beq_eq_false_iff_ne.2 (by omega)
      by_cases hlt:nx+N < l.length
      case neg=>
       have hli:¬ (nx:Int)+(N:Int) < (l.length:Int):=by omega
       have hl2:¬ (nx:Int)+(N:Int)+1 < (l.length:Int):=by omega
       have HE:Hid (R=(newM T ws D [],0,0)):=HE0.out (fun h=>by omega) (by omega)
       clear HB0 HE0 HT0 hN0
       go_wp2_with (first
        | (refine wpList_load_row rfl _ _ rfl (w.heap.size+1) rfl _ _ _ _ HM5.out Tryz.underlying80 rfl size_rmsg ?_)
        | (refine Hw.wpList_store_rowP rfl _ _ _ rfl rfl w.heap.size _ rfl rfl _ _ HZ5.out size_rmsg rfl rfl ?_;intro w8 p8;have P8:Hid (Hw.Put _ _ _ _ w8):=p8;clear p8))
       refine bodyPost_ret (Hw.results_row3 Tryz.results156 _ _ _ _ _ _ _ rfl P8.out.row Tryz.underlying80 rfl size_rmsg) rfl ⟨⟨newM T ws D [],?_,?_⟩,HB5.out.trans (P8.out.below (Nat.le_refl _))⟩
       ·rw [HE.out];exact ret_msg3 rfl rfl (rfl)
       ·rw [HE.out];intro _;rfl
      have hli:(nx:Int)+(N:Int) < (l.length:Int):=by omega
      have hgd:l.getD (nx+N) 0=l[nx+N]:=by simp [List.getD_eq_getElem?_getD,List.getElem?_eq_getElem hlt]
      by_cases h32:l[nx+N].toNat=32
      case neg=>
       have HE:Hid (R=(Hm.Msg.none,8,nx)):=HB0.out (.inr ⟨hlt,by rw [hgd];exact h32⟩)
       have h32b:((l[nx+N].toNat:Int) != 32)=true:=by simp;omega
       clear HB0 HE0 HT0 hN0 h32 hgd
       go_wp2_with (first
        | (refine wpList_load_row rfl _ _ rfl (w.heap.size+1) rfl _ _ _ _ HM5.out Tryz.underlying80 rfl size_rmsg ?_)
        | (refine Hw.wpList_store_rowP rfl _ _ _ rfl rfl w.heap.size _ rfl rfl _ _ HZ5.out size_rmsg rfl rfl ?_;intro w8 p8;have P8:Hid (Hw.Put _ _ _ _ w8):=p8;clear p8))
       refine bodyPost_ret (Hw.results_row3 Tryz.results156 _ _ _ _ _ _ _ rfl P8.out.row Tryz.underlying80 rfl size_rmsg) rfl ⟨⟨newM T ws D [],?_,?_⟩,HB5.out.trans (P8.out.below (Nat.le_refl _))⟩
       ·rw [HE.out];exact ret_msg3 rfl rfl (rfl)
       ·rw [HE.out];intro h;cases h
      have h32b:((l[nx+N].toNat:Int) != 32)=false:=by simp;omega
      have HNO:Hid (¬ (N=0∨(nx+N < l.length/\¬ (l.getD (nx+N) 0).toNat=32))):=by
       show ¬ _
       rw [hgd]
       rintro (h | ⟨_,h⟩)
       ·exact hN0 h
       ·exact h h32
      clear h32 hgd hN0
      by_cases hl2:nx+N+1 < l.length
      case neg=>
       have hl2i:¬ (nx:Int)+(N:Int)+1 < (l.length:Int):=by omega
       have HE:Hid (R=(newM T ws D [],0,0)):=HE0.out HNO.out (by omega)
       clear HB0 HE0 HT0
       go_wp2_with (first
        | (refine wpList_load_row rfl _ _ rfl (w.heap.size+1) rfl _ _ _ _ HM5.out Tryz.underlying80 rfl size_rmsg ?_)
        | (refine Hw.wpList_store_rowP rfl _ _ _ rfl rfl w.heap.size _ rfl rfl _ _ HZ5.out size_rmsg rfl rfl ?_;intro w8 p8;have P8:Hid (Hw.Put _ _ _ _ w8):=p8;clear p8))
       refine bodyPost_ret (Hw.results_row3 Tryz.results156 _ _ _ _ _ _ _ rfl P8.out.row Tryz.underlying80 rfl size_rmsg) rfl ⟨⟨newM T ws D [],?_,?_⟩,HB5.out.trans (P8.out.below (Nat.le_refl _))⟩
       ·rw [HE.out];exact ret_msg3 rfl rfl (rfl)
       ·rw [HE.out];intro _;rfl
      have hl2i:(nx:Int)+(N:Int)+1 < (l.length:Int):=by omega
      have hl2j:(nx:Int)+(N:Int)+1<=(l.length:Int):=by omega
      have HT1:=show Hid _ from HT0.out HNO.out hl2
      obtain ⟨X,hX⟩:∃ X,l.drop (nx+N+1)=X:=⟨_,rfl⟩
      rw [hX] at HT1
      have CL:Hid (∀ w,Calls Tryz.prog 157 #[.string ⟨X.toArray⟩] w fun e w'=>e=.returned (.bool (Hm.plain X))/\w'=w):=fun w=>rClean_any X (by rw [<-hX,List.length_drop];omega) w
      have hrest2:(l.drop (nx+N+1)).take (l.length - (nx+N+1))=X:=by rw [hX];exact List.take_of_length_le (by rw [<-hX,List.length_drop];omega)
      clear HB0 HE0 HT0 hX
      generalize Hm.plain X=pl at HT1 CL
      go_wp2_with (first
       | (refine Hw.wpList_store_fieldP rfl _ _ _ rfl rfl (w.heap.size+1) 8 _ rfl rfl _ _ (msgCells (newM T ws D X)) HM5.out size_str (by simp [msgCells]) rfl rfl ?_;intro w6 p6;have P6:Hid (Hw.Put _ _ _ _ w6):=p6;clear p6;have c8:w6.cell? ⟨w.heap.size+1,8,none⟩=some (.string ⟨X.toArray⟩):=cell_of_row _ _ _ _ _ _ P6.out.row)
       | fail)
      refine (CL.out _).mono ?_
      rintro e w7 ⟨rfl,hw7⟩
      have hw7:=hw7.symm
      subst hw7
      have HM6:=show Hid _ from P6.out.row
      have HZ6:=show Hid _ from (P6.out.other w.heap.size (by omega)).trans HZ5.out
      have HB6:Hid (Below w.heap.size w w6):=HB5.out.trans (P6.out.below (by omega))
      clear c8
      cases pl with
      | false=>
       have HE:=show Hid _ from HT1.out
       rw [if_pos rfl] at HE
       go_wp2_with (first
        | (refine wpList_load_row rfl _ _ rfl (w.heap.size+1) rfl _ _ _ _ HM6.out Tryz.underlying80 rfl size_rmsg ?_)
        | (refine Hw.wpList_store_rowP rfl _ _ _ rfl rfl w.heap.size _ rfl rfl _ _ HZ6.out size_rmsg rfl rfl ?_;intro w8 p8;have P8:Hid (Hw.Put _ _ _ _ w8):=p8;clear p8))
       refine bodyPost_ret (Hw.results_row3 Tryz.results156 _ _ _ _ _ _ _ rfl P8.out.row Tryz.underlying80 rfl size_rmsg) rfl ⟨⟨newM T ws D X,?_,?_⟩,HB6.out.trans (P8.out.below (Nat.le_refl _))⟩
       ·rw [HE.out];exact ret_msg3 rfl rfl (by show _=((nx+N+1:Nat):Int);omega)
       ·rw [HE.out];intro h;cases h
      | true=>
       have HE:=show Hid _ from HT1.out
       rw [if_neg (by decide)] at HE
       go_wp2_with (first
        | (refine wpList_load_row rfl _ _ rfl (w.heap.size+1) rfl _ _ _ _ HM6.out Tryz.underlying80 rfl size_rmsg ?_)
        | (refine Hw.wpList_store_rowP rfl _ _ _ rfl rfl w.heap.size _ rfl rfl _ _ HZ6.out size_rmsg rfl rfl ?_;intro w8 p8;have P8:Hid (Hw.Put _ _ _ _ w8):=p8;clear p8))
       refine bodyPost_ret (Hw.results_row3 Tryz.results156 _ _ _ _ _ _ _ rfl P8.out.row Tryz.underlying80 rfl size_rmsg) rfl ⟨⟨newM T ws D X,?_,?_⟩,HB6.out.trans (P8.out.below (Nat.le_refl _))⟩
       ·rw [HE.out];exact ret_msg3 rfl rfl (rfl)
       ·rw [HE.out];intro _;rfl
   have hki:((ws.length:Nat):Int) < 4:=by omega
   obtain ⟨hk2,hk1,hk0⟩:=kinds_two hk
   have hpp:=Hm.part_pend l nx hnl
   have hpl:=Hm.pend_le l nx hnl
   have PN:=show Hid _ from PA.out nx hnl
   obtain ⟨E2,hE2⟩:∃ E,Hm.pend l nx=E:=⟨_,rfl⟩
   rw [hE2] at hpp hpl PN
   clear hE2
   obtain ⟨x,hx⟩:∃ x,(l.drop nx).take (E2 - nx)=x:=⟨_,rfl⟩
   rw [hx] at hpp
   have hxl:x.length<=1000000000000000:=by rw [<-hx,List.length_take,List.length_drop];omega
   have HBAD:Hid (Hm.word x (Hm.kinds.getD ws.length (0,0)).1=false->¬ x=[45]->R=(Hm.Msg.none,4+ws.length,nx)):=fun h1 h2=>by
    have:=Hm.WInv_bad hk hpp h2 h1 HWI.out
    rw [HRT.out,Hm.afterTime_err this,hk2]
   have HDASH:Hid (x=[45]->Hm.WInv l n0 (ws ++ [[]]) (min (E2+1) l.length)):=fun h=>by
    rw [h] at hpp
    exact Hm.WInv_dash hk hpp HWI.out
   have HWORD:Hid (Hm.word x (Hm.kinds.getD ws.length (0,0)).1=true->Hm.WInv l n0 (ws ++ [x]) (min (E2+1) l.length)):=fun h=>by
    have hd:¬ x=[45]:=fun e=>by rw [Hm.word_dash _ e] at h;cases h
    exact Hm.WInv_word hk hpp hd h HWI.out
   have MO:Hid (∀ w,Calls Tryz.prog 163 #[.int .i64 (ws.length:Nat)] w fun e w'=>e=.returned (.int .i64 ((Hm.kinds.getD ws.length (0,0)).1:Nat))/\w'=w):=fun w=>by
    have:=rmost_any ws.length hk w
    rwa [<-hk1] at this
   have IP:Hid (∀ w,Calls Tryz.prog 162 #[.string ⟨x.toArray⟩,.int .i64 ((Hm.kinds.getD ws.length (0,0)).1:Nat)] w fun e w'=>e=.returned (.bool (Hm.word x (Hm.kinds.getD ws.length (0,0)).1))/\w'=w):=fun w=>rIsPlain_any x hxl _ hk0 w
   generalize Hm.word x (Hm.kinds.getD ws.length (0,0)).1=wd at HBAD HWORD IP
   generalize (Hm.kinds.getD ws.length (0,0)).1=K at MO IP
   clear hk1 hk2 hk0 hpp hxl HWI HRT PA
   go_upto_if 47 with fail
   go_cut [1] (fun s1 wc=>s1=.int .i64 nx/\wc=wr)
   case first=>
    by_cases hE1:E < l.length
    ·have e0:¬ (l.length:Int) < (E:Int)+1:=by omega
     go_wp2
     go_meet
     case rel=>exact ⟨int_eq (by omega),rfl⟩
    ·have e0:(l.length:Int) < (E:Int)+1:=by omega
     go_wp2
     go_meet
     case rel=>exact ⟨int_eq (by omega),rfl⟩
   case rest=>
    obtain ⟨rfl,hwc⟩:=hcut
    have hwc:=hwc.symm
    subst hwc
    clear hnx
    have e0:(nx:Int)<=(E2:Int):=by omega
    have e1:(E2:Int)<=(l.length:Int):=by omega
    go_wp2_with fail
    refine (PN.out _).mono ?_
    rintro e w1 ⟨rfl,hw1⟩
    have hw1:=hw1.symm
    subst hw1
    go_wp2_with fail
    refine (MO.out _).mono ?_
    rintro e w1 ⟨rfl,hw1⟩
    have hw1:=hw1.symm
    subst hw1
    go_wp2_with fail
    refine (IP.out _).mono ?_
    rintro e w1 ⟨rfl,hw1⟩
    have hw1:=hw1.symm
    subst hw1
    cases wd with
    | true=>
     have HW:=show Hid _ from HWORD.out rfl
     clear HBAD HDASH HWORD
     go_wp2_with (first
      | (refine Hw.wpList_store_fieldP rfl _ _ _ rfl rfl (w.heap.size+1) (3+ws.length) _ rfl rfl _ _ (msgCells (newM T (ws ++ [x]) [] [])) HS1.out size_str (by simp [msgCells];omega) rfl (newM_word T ws hk [] [] x) ?_;intro w6 p6;have P6:Hid (Hw.Put _ _ _ _ w6):=p6;clear p6)
      | fail)
     go_roundw
     case rel=>exact ⟨ws ++ [x],E2,by simp;omega,int_eq (by simp),rfl,by omega,HW.out,(P6.out.other _ (by omega)).trans HS0.out,P6.out.row,HB.out.trans (P6.out.below (by omega))⟩
     case measure=>simp [intOf];omega
    | false=>
     by_cases h45:x=[45]
     ·have HW:=show Hid _ from HDASH.out h45
      clear HBAD HDASH HWORD
      subst h45
      go_wp2
      go_roundw
      case rel=>exact ⟨ws ++ [[]],E2,by simp;omega,int_eq (by simp),rfl,by omega,HW.out,HS0.out,by rw [newM_dash T ws hk];exact HS1.out,HB.out⟩
      case measure=>simp [intOf];omega
     ·have HE:=show Hid _ from HBAD.out rfl h45
      have h45b:(x == [45])=false:=beq_eq_false_iff_ne.2 h45
      clear HBAD HDASH HWORD h45
      go_wp2_with (first
       | (refine wpList_load_row rfl _ _ rfl (w.heap.size+1) rfl _ _ _ _ HS1.out Tryz.underlying80 rfl size_rmsg ?_)
       | (refine Hw.wpList_store_rowP rfl _ _ _ rfl rfl w.heap.size _ rfl rfl _ _ HS0.out size_rmsg rfl rfl ?_;intro w8 p8;have P8:Hid (Hw.Put _ _ _ _ w8):=p8;clear p8))
      refine bodyPost_ret (Hw.results_row3 Tryz.results156 _ _ _ _ _ _ _ rfl P8.out.row Tryz.underlying80 rfl size_rmsg) rfl ⟨⟨newM T ws [] [],?_,?_⟩,HB.out.trans (P8.out.below (Nat.le_refl _))⟩
      ·rw [HE.out];exact ret_msg3 rfl (by show _=((4+ws.length:Nat):Int);omega) (rfl)
      ·rw [HE.out];intro h;exact absurd h (by show ¬ (4+ws.length=0);omega)
end Go.Proofs.YtdlhbmncbmconaaGreatDoor

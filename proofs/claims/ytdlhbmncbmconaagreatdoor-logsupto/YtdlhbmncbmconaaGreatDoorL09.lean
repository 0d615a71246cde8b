/- Pressed by program out of Bg Rb Rc Dc. -/
import Derived.Test.YtdlhbmncbmconaaGreatDoorL08
import Derived.Test.YtdlhbmncbmconaaGreatDoorL00
import Derived.Test.YtdlhbmncbmconaaGreatDoorL02
import Derived.Maps.AppendAt
namespace Go.Proofs.YtdlhbmncbmconaaGreatDoor
open Go.RowKit Go.Sort
attribute [local go_sem] alloc_drewN setCell_drewN
set_option maxRecDepth 20000 in
set_option maxHeartbeats 1000000 in
theorem fault_core (f sv:Int) (t h ap p i d x:List UInt8) (w:World) (hT:Tabs w)
  (lt:t.length<=4000000000) (lh:h.length<=4000000000) (la:ap.length<=4000000000) (lp:p.length<=4000000000) (li:i.length<=4000000000) (ld:d.length<=4000000000) (lx:x.length<=4000000000) :
  Calls Tryz.prog 47 #[.agg (msgCells ⟨f,sv,t,h,ap,p,i,d,x⟩)] w fun e w'=>
   e=.returned (.int .i64 (Hm.fault ⟨f,sv,t,h,ap,p,i,d,x⟩))/\Below w.heap.size w w':=by
 unfold msgCells
 dsimp only
 obtain ⟨C,hC⟩:∃ C,C=kindCells:=⟨_,rfl⟩
 have HI:Hid (∀ (k:Nat),k < 4->∀ w:World,(Instr.index 147 (.agg C) (.int .i64 k)).run Tryz.prog w=.ok (.agg #[.int .i64 ((Hm.kinds.getD k (0,0)).1:Nat),.int .i64 ((Hm.kinds.getD k (0,0)).2:Nat)]) w):=by
  show ∀ (k:Nat),_
  rw [hC];exact index_kind
 have HC8:Hid (C.size=8):=by show _=_;rw [hC];rfl
 have HK:Hid (∀ w,Tabs w->∃ t fr,w.heap[0]?=some (.cells C t fr)):=fun w hT=>by rw [hC];exact hT.wk
 clear hC
 have h4:Hm.isSource f sv=false∨(Hm.isSource f sv=true/\¬ t=[]/\Hm.isTime t=false)∨(Hm.isSource f sv=true/\¬ t=[]/\Hm.isTime t=true)∨(Hm.isSource f sv=true/\t=[]):=by
  cases Hm.isSource f sv
  ·exact .inl rfl
  ·by_cases h:t=[]
   ·exact .inr (.inr (.inr ⟨rfl,h⟩))
   ·cases Hm.isTime t
    ·exact .inr (.inl ⟨rfl,h,rfl⟩)
    ·exact .inr (.inr (.inl ⟨rfl,h,rfl⟩))
 rcases h4 with h1 | ⟨h1,ht,hm⟩ | ⟨h1,ht,hm⟩ | ⟨h1,ht⟩
 ·have HF:Hid (Hm.fault ⟨f,sv,t,h,ap,p,i,d,x⟩=2):=by show _=_;unfold Hm.fault;rw [if_pos h1]
  go_enter Tryz.func47,Tryz.ntmps47
  go_wp2_with fail
  refine (isSource_any f sv _).mono ?_
  rintro e w1 ⟨rfl,rfl⟩
  rw [h1]
  go_wp2
  go_ret
  exact ⟨by rw [HF.out];rfl,(Below.refl _ _).alloc (Nat.le_refl _) _⟩
 ·have HF:Hid (Hm.fault ⟨f,sv,t,h,ap,p,i,d,x⟩=3):=by show _=_;unfold Hm.fault;rw [if_neg (by rw [h1];decide),if_pos ⟨ht,hm⟩]
  have HTm:Hid (∀ w,Tabs w->Calls Tryz.prog 78 #[.string ⟨t.toArray⟩] w fun e w'=>e=.returned (.bool false)/\Below w.heap.size w w'):=fun w hT=>by
   have:=isTime_any ⟨t.toArray⟩ w hT (by rw [mk_size];omega)
   rwa [show (⟨t.toArray⟩:ByteArray).data.toList=t from rfl,hm] at this
  have bt:(t == [])=false:=by simpa using ht
  clear ht hm
  go_enter Tryz.func47,Tryz.ntmps47
  go_wp2_with fail
  refine (isSource_any f sv _).mono ?_
  rintro e w1 ⟨rfl,rfl⟩
  rw [h1]
  go_wp2_with fail
  refine (HTm.out _ (hT.alloc _)).mono ?_
  rintro e w1 ⟨rfl,hb⟩
  go_wp2
  go_ret
  exact ⟨by rw [HF.out];rfl,((Below.refl _ _).alloc (Nat.le_refl _) _).trans (hb.mono (by simp))⟩
 ·have HTm:Hid (∀ w,Tabs w->Calls Tryz.prog 78 #[.string ⟨t.toArray⟩] w fun e w'=>e=.returned (.bool true)/\Below w.heap.size w w'):=fun w hT=>by
   have:=isTime_any ⟨t.toArray⟩ w hT (by rw [mk_size];omega)
   rwa [show (⟨t.toArray⟩:ByteArray).data.toList=t from rfl,hm] at this
  have HF:Hid (Hm.fault ⟨f,sv,t,h,ap,p,i,d,x⟩=Hm.faultRest h ap p i d x):=by show _=_;unfold Hm.fault;rw [if_neg (by rw [h1];decide),if_neg (by rintro ⟨_,h⟩;rw [hm] at h;cases h)];rfl
  have bt:(t == [])=false:=by simpa using ht
  clear ht hm
  go_enter Tryz.func47,Tryz.ntmps47
  go_wp2_with fail
  refine (isSource_any f sv _).mono ?_
  rintro e w1 ⟨rfl,rfl⟩
  rw [h1]
  go_wp2_with fail
  refine (HTm.out _ (hT.alloc _)).mono ?_
  rintro e w1 ⟨rfl,hb⟩
  have HR0:Hid (w1.heap[w.heap.size]?=some (.cells #[.int .i64 f,.int .i64 sv,.string ⟨t.toArray⟩,.string ⟨h.toArray⟩,.string ⟨ap.toArray⟩,.string ⟨p.toArray⟩,.string ⟨i.toArray⟩,.string ⟨d.toArray⟩,.string ⟨x.toArray⟩] 29 (0,0))):=(hb.block _ (by simp)).trans (heap_alloc_new _ _)
  have HB1:Hid (Below w.heap.size w w1):=((Below.refl _ _).alloc (Nat.le_refl _) _).trans (hb.mono (by simp))
  clear hb
  have hz1:w.heap.size < w1.heap.size:=(Array.getElem?_eq_some_iff.1 HR0.out).1
  have c3:w1.cell? ⟨w.heap.size,3,none⟩=some (.string ⟨h.toArray⟩):=cell_of_row _ _ _ _ _ _ HR0.out
  have c4:w1.cell? ⟨w.heap.size,4,none⟩=some (.string ⟨ap.toArray⟩):=cell_of_row _ _ _ _ _ _ HR0.out
  have c5:w1.cell? ⟨w.heap.size,5,none⟩=some (.string ⟨p.toArray⟩):=cell_of_row _ _ _ _ _ _ HR0.out
  have c6:w1.cell? ⟨w.heap.size,6,none⟩=some (.string ⟨i.toArray⟩):=cell_of_row _ _ _ _ _ _ HR0.out
  obtain ⟨kt,kfr,hkr⟩:=HK.out _ ((hT.next HB1.out).alloc (Obj.cells #[.string ⟨h.toArray⟩,.string ⟨ap.toArray⟩,.string ⟨p.toArray⟩,.string ⟨i.toArray⟩] 78))
  have HKr:Hid ((w1.alloc (Obj.cells #[.string ⟨h.toArray⟩,.string ⟨ap.toArray⟩,.string ⟨p.toArray⟩,.string ⟨i.toArray⟩] 78)).heap[0]?=some (Obj.cells C kt kfr)):=hkr
  clear hkr
  go_wp2_with (refine wpList_load_row rfl _ _ rfl 0 rfl _ _ _ _ HKr.out Tryz.underlying147 rfl (by rw [HC8.out];exact size_kinds) ?_)
  clear c3 c4 c5 c6
  go_loopw [31] (fun ix wr=>∃ k:Nat,k<=4/\ix=.int .i64 k/\Hm.wordsFault (Hm.kinds.drop k) ([h,ap,p,i].drop k)=Hm.wordsFault Hm.kinds [h,ap,p,i]/\wr.heap[w.heap.size]?=some (.cells #[.int .i64 f,.int .i64 sv,.string ⟨t.toArray⟩,.string ⟨h.toArray⟩,.string ⟨ap.toArray⟩,.string ⟨p.toArray⟩,.string ⟨i.toArray⟩,.string ⟨d.toArray⟩,.string ⟨x.toArray⟩] 29 (0,0))/\wr.heap[w1.heap.size]?=some (.cells #[.string ⟨h.toArray⟩,.string ⟨ap.toArray⟩,.string ⟨p.toArray⟩,.string ⟨i.toArray⟩] 78 (0,0))/\Below w.heap.size w wr) (fun ix _=>4 - (intOf ix).toNat)
  case atStart=>
   exact ⟨0,by omega,rfl,rfl,(heap_alloc_old _ _ (by omega)).trans HR0.out,heap_alloc_new _ _,HB1.out.alloc HB1.out.size _⟩
  case round=>
   obtain ⟨k,hk4,rfl,hv,q0,qW,hBr⟩:=hrel
   have HV:Hid (Hm.wordsFault (Hm.kinds.drop k) ([h,ap,p,i].drop k)=Hm.wordsFault Hm.kinds [h,ap,p,i]):=hv
   have Q0:Hid (wr.heap[w.heap.size]?=some (.cells #[.int .i64 f,.int .i64 sv,.string ⟨t.toArray⟩,.string ⟨h.toArray⟩,.string ⟨ap.toArray⟩,.string ⟨p.toArray⟩,.string ⟨i.toArray⟩,.string ⟨d.toArray⟩,.string ⟨x.toArray⟩] 29 (0,0))):=q0
   have QW:Hid (wr.heap[w1.heap.size]?=some (.cells #[.string ⟨h.toArray⟩,.string ⟨ap.toArray⟩,.string ⟨p.toArray⟩,.string ⟨i.toArray⟩] 78 (0,0))):=qW
   have HBr:Hid (Below w.heap.size w wr):=hBr
   have hzW:w1.heap.size < wr.heap.size:=(Array.getElem?_eq_some_iff.1 qW).1
   clear hv q0 qW hBr
   by_cases hlt:k < 4
   ·have hix:=HI.out k hlt
    obtain ⟨most,er,hke⟩:∃ most er,Hm.kinds.getD k (0,0)=(most,er):=⟨_,_,rfl⟩
    have hmost:most<=32:=by rcases (by omega:k=0∨k=1∨k=2∨k=3) with h | h | h | h<;>rw [h] at hke<;>cases hke<;>omega
    rw [hke] at hix
    dsimp only at hix
    obtain ⟨y,hy⟩:∃ y,[h,ap,p,i].getD k []=y:=⟨_,rfl⟩
    have hyl:y.length<=4000000000:=by rw [<-hy];rcases (by omega:k=0∨k=1∨k=2∨k=3) with h | h | h | h<;>subst h<;>assumption
    have cw:∀ wq:World,Below wr.heap.size wr wq->wq.cell? ⟨w1.heap.size,k,none⟩=some (.string ⟨y.toArray⟩):=fun wq hq=>by
     have q:=(hq.block _ hzW).trans QW.out
     rw [<-hy]
     rcases (by omega:k=0∨k=1∨k=2∨k=3) with h | h | h | h<;>subst h<;>exact cell_of_row _ _ _ _ _ _ q
    have hst:=Hm.wordsFault_step hlt (show [h,ap,p,i].length=4 from rfl)
    rw [hy,hke,HV.out] at hst
    dsimp only at hst
    have HST:Hid (Hm.wordsFault Hm.kinds [h,ap,p,i]=if ¬ y=[]/\Hm.word y most=false then some er else Hm.wordsFault (Hm.kinds.drop (k+1)) ([h,ap,p,i].drop (k+1))):=hst
    clear hst hy hke
    have CW:Hid (∀ wq:World,Below wr.heap.size wr wq->wq.cell? ⟨w1.heap.size,k,none⟩=some (.string ⟨y.toArray⟩)):=cw
    clear cw
    by_cases hy0:y=[]
    ·have HV2:Hid (Hm.wordsFault (Hm.kinds.drop (k+1)) ([h,ap,p,i].drop (k+1))=Hm.wordsFault Hm.kinds [h,ap,p,i]):=by
      show _=_
      rw [HST.out,if_neg (by rintro ⟨h,_⟩;exact h hy0)]
     subst hy0
     go_wp2_with fail
     obtain ⟨W,hW⟩:∃ W,wr.alloc (Obj.cells #[.int .i64 most,.int .i64 er] 146)=W:=⟨_,rfl⟩
     have HbW:Hid (Below wr.heap.size wr W):=hW ▸ (Below.refl _ _).alloc (Nat.le_refl _) _
     obtain ⟨c0,c1⟩:=cells2 (show W.heap[wr.heap.size]?=some (.cells #[.int .i64 most,.int .i64 er] 146 (0,0)) from hW ▸ heap_alloc_new _ _)
     have cW:=CW.out _ HbW.out
     have HB5:Hid (Below w.heap.size w W):=Below.next HBr.out (Nat.le_refl _) HbW.out
     have Q05:Hid (W.heap[w.heap.size]?=some (.cells #[.int .i64 f,.int .i64 sv,.string ⟨t.toArray⟩,.string ⟨h.toArray⟩,.string ⟨ap.toArray⟩,.string ⟨p.toArray⟩,.string ⟨i.toArray⟩,.string ⟨d.toArray⟩,.string ⟨x.toArray⟩] 29 (0,0))):=(HbW.out.block _ (by omega)).trans Q0.out
     have QW5:Hid (W.heap[w1.heap.size]?=some (.cells #[.string ⟨h.toArray⟩,.string ⟨ap.toArray⟩,.string ⟨p.toArray⟩,.string ⟨i.toArray⟩] 78 (0,0))):=(HbW.out.block _ hzW).trans QW.out
     rw [hW]
     clear hW
     go_quiet (fail)
     go_wp2
     go_roundw
     case rel=>exact ⟨k+1,by omega,int_eq (by simp),HV2.out,Q05.out,QW5.out,Below.next HB5.out (Nat.le_refl _) (drew_below ⟨_,rfl⟩)⟩
     case measure=>simp [intOf];omega
    ·have by0:(y == [])=false:=by simpa using hy0
     have HWd:Hid (∀ w,Calls Tryz.prog 79 #[.string ⟨y.toArray⟩,.int .i64 most] w fun e w'=>e=.returned (.bool (Hm.word y most))/\w'=w):=fun w=>
      isWord_any ⟨y.toArray⟩ most w (by rw [mk_size];omega) (by omega)
     cases hwd:Hm.word y most
     ·have HE:Hid (Hm.faultRest h ap p i d x=er):=by
       show _=_
       rw [Hm.faultRest_some (by rw [HST.out,if_pos ⟨hy0,hwd⟩])]
      rw [hwd] at HWd
      clear hy0
      go_wp2_with fail
      obtain ⟨W,hW⟩:∃ W,wr.alloc (Obj.cells #[.int .i64 most,.int .i64 er] 146)=W:=⟨_,rfl⟩
      have HbW:Hid (Below wr.heap.size wr W):=hW ▸ (Below.refl _ _).alloc (Nat.le_refl _) _
      obtain ⟨c0,c1⟩:=cells2 (show W.heap[wr.heap.size]?=some (.cells #[.int .i64 most,.int .i64 er] 146 (0,0)) from hW ▸ heap_alloc_new _ _)
      have cW:=CW.out _ HbW.out
      have HB5:Hid (Below w.heap.size w W):=Below.next HBr.out (Nat.le_refl _) HbW.out
      have Q05:Hid (W.heap[w.heap.size]?=some (.cells #[.int .i64 f,.int .i64 sv,.string ⟨t.toArray⟩,.string ⟨h.toArray⟩,.string ⟨ap.toArray⟩,.string ⟨p.toArray⟩,.string ⟨i.toArray⟩,.string ⟨d.toArray⟩,.string ⟨x.toArray⟩] 29 (0,0))):=(HbW.out.block _ (by omega)).trans Q0.out
      have QW5:Hid (W.heap[w1.heap.size]?=some (.cells #[.string ⟨h.toArray⟩,.string ⟨ap.toArray⟩,.string ⟨p.toArray⟩,.string ⟨i.toArray⟩] 78 (0,0))):=(HbW.out.block _ hzW).trans QW.out
      rw [hW]
      clear hW
      go_quiet ((go_at_call 79;exact Calls.quiet_of_same (HWd.out _)))
      go_wp2
      go_ret
      exact ⟨by rw [HF.out,HE.out];rfl,Below.next HB5.out (Nat.le_refl _) (drew_below ⟨_,rfl⟩)⟩
     ·have HV2:Hid (Hm.wordsFault (Hm.kinds.drop (k+1)) ([h,ap,p,i].drop (k+1))=Hm.wordsFault Hm.kinds [h,ap,p,i]):=by
       show _=_
       rw [HST.out,if_neg (by rintro ⟨_,h⟩;rw [hwd] at h;cases h)]
      rw [hwd] at HWd
      clear hy0
      go_wp2_with fail
      obtain ⟨W,hW⟩:∃ W,wr.alloc (Obj.cells #[.int .i64 most,.int .i64 er] 146)=W:=⟨_,rfl⟩
      have HbW:Hid (Below wr.heap.size wr W):=hW ▸ (Below.refl _ _).alloc (Nat.le_refl _) _
      obtain ⟨c0,c1⟩:=cells2 (show W.heap[wr.heap.size]?=some (.cells #[.int .i64 most,.int .i64 er] 146 (0,0)) from hW ▸ heap_alloc_new _ _)
      have cW:=CW.out _ HbW.out
      have HB5:Hid (Below w.heap.size w W):=Below.next HBr.out (Nat.le_refl _) HbW.out
      have Q05:Hid (W.heap[w.heap.size]?=some (.cells #[.int .i64 f,.int .i64 sv,.string ⟨t.toArray⟩,.string ⟨h.toArray⟩,.string ⟨ap.toArray⟩,.string ⟨p.toArray⟩,.string ⟨i.toArray⟩,.string ⟨d.toArray⟩,.string ⟨x.toArray⟩] 29 (0,0))):=(HbW.out.block _ (by omega)).trans Q0.out
      have QW5:Hid (W.heap[w1.heap.size]?=some (.cells #[.string ⟨h.toArray⟩,.string ⟨ap.toArray⟩,.string ⟨p.toArray⟩,.string ⟨i.toArray⟩] 78 (0,0))):=(HbW.out.block _ hzW).trans QW.out
      rw [hW]
      clear hW
      go_quiet ((go_at_call 79;exact Calls.quiet_of_same (HWd.out _)))
      go_wp2
      go_roundw
      case rel=>exact ⟨k+1,by omega,int_eq (by simp),HV2.out,Q05.out,QW5.out,Below.next HB5.out (Nat.le_refl _) (drew_below ⟨_,rfl⟩)⟩
      case measure=>simp [intOf];omega
   ·have hk:k=4:=by omega
    subst hk
    have HE:Hid (Hm.faultRest h ap p i d x=if ¬ d=[]/\Hm.isData d=false then 8 else if Hm.plain x=false then 9 else 0):=Hm.faultRest_none (by rw [<-HV.out];rfl)
    have c7:wr.cell? ⟨w.heap.size,7,none⟩=some (.string ⟨d.toArray⟩):=cell_of_row _ _ _ _ _ _ Q0.out
    have c8:wr.cell? ⟨w.heap.size,8,none⟩=some (.string ⟨x.toArray⟩):=cell_of_row _ _ _ _ _ _ Q0.out
    have HPl:Hid (∀ w,Tabs w->Calls Tryz.prog 55 #[.string ⟨x.toArray⟩] w fun e w'=>e=.returned (.bool (Hm.plain x))/\Below w.heap.size w w'):=fun w hT=>
     isPlain_any ⟨x.toArray⟩ w hT (by rw [mk_size];omega)
    by_cases hd0:d=[]
    ·have HE2:Hid (Hm.faultRest h ap p i d x=if Hm.plain x=false then 9 else 0):=by show _=_;rw [HE.out,if_neg (by rintro ⟨h,_⟩;exact h hd0)]
     subst hd0
     go_wp2_with fail
     refine (HPl.out _ (hT.next HBr.out)).mono ?_
     rintro e w9 ⟨rfl,hb9⟩
     cases hpx:Hm.plain x
     ·go_wp2
      go_ret
      exact ⟨by rw [HF.out,HE2.out,if_pos hpx];rfl,Below.next HBr.out (Nat.le_refl _) hb9⟩
     ·go_wp2
      go_ret
      exact ⟨by rw [HF.out,HE2.out,if_neg (by rw [hpx];decide)];rfl,Below.next HBr.out (Nat.le_refl _) hb9⟩
    ·have bd0:(d == [])=false:=by simpa using hd0
     have HDa:Hid (∀ w,Tabs w->Calls Tryz.prog 80 #[.string ⟨d.toArray⟩] w fun e w'=>e=.returned (.bool (Hm.isData d))/\Below w.heap.size w w'):=fun w hT=>
      isData_any ⟨d.toArray⟩ (by rw [mk_size];omega) w hT
     cases hda:Hm.isData d
     ·rw [hda] at HDa
      have HE2:Hid (Hm.faultRest h ap p i d x=8):=by show _=_;rw [HE.out,if_pos ⟨hd0,hda⟩]
      clear hd0
      go_wp2_with fail
      refine (HDa.out _ (hT.next HBr.out)).mono ?_
      rintro e w8 ⟨rfl,hb8⟩
      go_wp2
      go_ret
      exact ⟨by rw [HF.out,HE2.out];rfl,Below.next HBr.out (Nat.le_refl _) hb8⟩
     ·rw [hda] at HDa
      have HE2:Hid (Hm.faultRest h ap p i d x=if Hm.plain x=false then 9 else 0):=by show _=_;rw [HE.out,if_neg (by rintro ⟨_,h⟩;rw [hda] at h;cases h)]
      clear hd0 c8
      go_wp2_with fail
      refine (HDa.out _ (hT.next HBr.out)).mono ?_
      rintro e w8 ⟨rfl,hb8⟩
      have HB8:Hid (Below w.heap.size w w8):=Below.next HBr.out (Nat.le_refl _) hb8
      have c8:w8.cell? ⟨w.heap.size,8,none⟩=some (.string ⟨x.toArray⟩):=cell_of_row _ _ _ _ _ _ ((hb8.block _ (by omega)).trans Q0.out)
      go_wp2_with fail
      refine (HPl.out _ (hT.next HB8.out)).mono ?_
      rintro e w9 ⟨rfl,hb9⟩
      cases hpx:Hm.plain x
      ·go_wp2
       go_ret
       exact ⟨by rw [HF.out,HE2.out,if_pos hpx];rfl,Below.next HB8.out (Nat.le_refl _) hb9⟩
      ·go_wp2
       go_ret
       exact ⟨by rw [HF.out,HE2.out,if_neg (by rw [hpx];decide)];rfl,Below.next HB8.out (Nat.le_refl _) hb9⟩
 ·have HF:Hid (Hm.fault ⟨f,sv,t,h,ap,p,i,d,x⟩=Hm.faultRest h ap p i d x):=by show _=_;unfold Hm.fault;rw [if_neg (by rw [h1];decide),if_neg (by rintro ⟨h,_⟩;exact h ht)];rfl
  have bt:(t == [])=true:=by simpa using ht
  clear ht
  go_enter Tryz.func47,Tryz.ntmps47
  go_wp2_with fail
  refine (isSource_any f sv _).mono ?_
  rintro e w1 ⟨rfl,rfl⟩
  rw [h1]
  obtain ⟨w1,hw1⟩:∃ w1,w.alloc (.cells #[.int .i64 f,.int .i64 sv,.string ⟨t.toArray⟩,.string ⟨h.toArray⟩,.string ⟨ap.toArray⟩,.string ⟨p.toArray⟩,.string ⟨i.toArray⟩,.string ⟨d.toArray⟩,.string ⟨x.toArray⟩] 29)=w1:=⟨_,rfl⟩
  have HR0:Hid (w1.heap[w.heap.size]?=some (.cells #[.int .i64 f,.int .i64 sv,.string ⟨t.toArray⟩,.string ⟨h.toArray⟩,.string ⟨ap.toArray⟩,.string ⟨p.toArray⟩,.string ⟨i.toArray⟩,.string ⟨d.toArray⟩,.string ⟨x.toArray⟩] 29 (0,0))):=hw1 ▸ heap_alloc_new _ _
  have HB1:Hid (Below w.heap.size w w1):=hw1 ▸ (Below.refl _ _).alloc (Nat.le_refl _) _
  have c2:w1.cell? ⟨w.heap.size,2,none⟩=some (.string ⟨t.toArray⟩):=cell_of_row _ _ _ _ _ _ HR0.out
  rw [hw1]
  clear hw1
  have hz1:w.heap.size < w1.heap.size:=(Array.getElem?_eq_some_iff.1 HR0.out).1
  have c3:w1.cell? ⟨w.heap.size,3,none⟩=some (.string ⟨h.toArray⟩):=cell_of_row _ _ _ _ _ _ HR0.out
  have c4:w1.cell? ⟨w.heap.size,4,none⟩=some (.string ⟨ap.toArray⟩):=cell_of_row _ _ _ _ _ _ HR0.out
  have c5:w1.cell? ⟨w.heap.size,5,none⟩=some (.string ⟨p.toArray⟩):=cell_of_row _ _ _ _ _ _ HR0.out
  have c6:w1.cell? ⟨w.heap.size,6,none⟩=some (.string ⟨i.toArray⟩):=cell_of_row _ _ _ _ _ _ HR0.out
  obtain ⟨kt,kfr,hkr⟩:=HK.out _ ((hT.next HB1.out).alloc (Obj.cells #[.string ⟨h.toArray⟩,.string ⟨ap.toArray⟩,.string ⟨p.toArray⟩,.string ⟨i.toArray⟩] 78))
  have HKr:Hid ((w1.alloc (Obj.cells #[.string ⟨h.toArray⟩,.string ⟨ap.toArray⟩,.string ⟨p.toArray⟩,.string ⟨i.toArray⟩] 78)).heap[0]?=some (Obj.cells C kt kfr)):=hkr
  clear hkr
  go_wp2_with (refine wpList_load_row rfl _ _ rfl 0 rfl _ _ _ _ HKr.out Tryz.underlying147 rfl (by rw [HC8.out];exact size_kinds) ?_)
  clear c3 c4 c5 c6
  go_loopw [31] (fun ix wr=>∃ k:Nat,k<=4/\ix=.int .i64 k/\Hm.wordsFault (Hm.kinds.drop k) ([h,ap,p,i].drop k)=Hm.wordsFault Hm.kinds [h,ap,p,i]/\wr.heap[w.heap.size]?=some (.cells #[.int .i64 f,.int .i64 sv,.string ⟨t.toArray⟩,.string ⟨h.toArray⟩,.string ⟨ap.toArray⟩,.string ⟨p.toArray⟩,.string ⟨i.toArray⟩,.string ⟨d.toArray⟩,.string ⟨x.toArray⟩] 29 (0,0))/\wr.heap[w1.heap.size]?=some (.cells #[.string ⟨h.toArray⟩,.string ⟨ap.toArray⟩,.string ⟨p.toArray⟩,.string ⟨i.toArray⟩] 78 (0,0))/\Below w.heap.size w wr) (fun ix _=>4 - (intOf ix).toNat)
  case atStart=>
   exact ⟨0,by omega,rfl,rfl,(heap_alloc_old _ _ (by omega)).trans HR0.out,heap_alloc_new _ _,HB1.out.alloc HB1.out.size _⟩
  case round=>
   obtain ⟨k,hk4,rfl,hv,q0,qW,hBr⟩:=hrel
   have HV:Hid (Hm.wordsFault (Hm.kinds.drop k) ([h,ap,p,i].drop k)=Hm.wordsFault Hm.kinds [h,ap,p,i]):=hv
   have Q0:Hid (wr.heap[w.heap.size]?=some (.cells #[.int .i64 f,.int .i64 sv,.string ⟨t.toArray⟩,.string ⟨h.toArray⟩,.string ⟨ap.toArray⟩,.string ⟨p.toArray⟩,.string ⟨i.toArray⟩,.string ⟨d.toArray⟩,.string ⟨x.toArray⟩] 29 (0,0))):=q0
   have QW:Hid (wr.heap[w1.heap.size]?=some (.cells #[.string ⟨h.toArray⟩,.string ⟨ap.toArray⟩,.string ⟨p.toArray⟩,.string ⟨i.toArray⟩] 78 (0,0))):=qW
   have HBr:Hid (Below w.heap.size w wr):=hBr
   have hzW:w1.heap.size < wr.heap.size:=(Array.getElem?_eq_some_iff.1 qW).1
   clear hv q0 qW hBr
   by_cases hlt:k < 4
   ·have hix:=HI.out k hlt
    obtain ⟨most,er,hke⟩:∃ most er,Hm.kinds.getD k (0,0)=(most,er):=⟨_,_,rfl⟩
    have hmost:most<=32:=by rcases (by omega:k=0∨k=1∨k=2∨k=3) with h | h | h | h<;>rw [h] at hke<;>cases hke<;>omega
    rw [hke] at hix
    dsimp only at hix
    obtain ⟨y,hy⟩:∃ y,[h,ap,p,i].getD k []=y:=⟨_,rfl⟩
    have hyl:y.length<=4000000000:=by rw [<-hy];rcases (by omega:k=0∨k=1∨k=2∨k=3) with h | h | h | h<;>subst h<;>assumption
    have cw:∀ wq:World,Below wr.heap.size wr wq->wq.cell? ⟨w1.heap.size,k,none⟩=some (.string ⟨y.toArray⟩):=fun wq hq=>by
     have q:=(hq.block _ hzW).trans QW.out
     rw [<-hy]
     rcases (by omega:k=0∨k=1∨k=2∨k=3) with h | h | h | h<;>subst h<;>exact cell_of_row _ _ _ _ _ _ q
    have hst:=Hm.wordsFault_step hlt (show [h,ap,p,i].length=4 from rfl)
    rw [hy,hke,HV.out] at hst
    dsimp only at hst
    have HST:Hid (Hm.wordsFault Hm.kinds [h,ap,p,i]=if ¬ y=[]/\Hm.word y most=false then some er else Hm.wordsFault (Hm.kinds.drop (k+1)) ([h,ap,p,i].drop (k+1))):=hst
    clear hst hy hke
    have CW:Hid (∀ wq:World,Below wr.heap.size wr wq->wq.cell? ⟨w1.heap.size,k,none⟩=some (.string ⟨y.toArray⟩)):=cw
    clear cw
    by_cases hy0:y=[]
    ·have HV2:Hid (Hm.wordsFault (Hm.kinds.drop (k+1)) ([h,ap,p,i].drop (k+1))=Hm.wordsFault Hm.kinds [h,ap,p,i]):=by
      show _=_
      rw [HST.out,if_neg (by rintro ⟨h,_⟩;exact h hy0)]
     subst hy0
     go_wp2_with fail
     obtain ⟨W,hW⟩:∃ W,wr.alloc (Obj.cells #[.int .i64 most,.int .i64 er] 146)=W:=⟨_,rfl⟩
     have HbW:Hid (Below wr.heap.size wr W):=hW ▸ (Below.refl _ _).alloc (Nat.le_refl _) _
     obtain ⟨c0,c1⟩:=cells2 (show W.heap[wr.heap.size]?=some (.cells #[.int .i64 most,.int .i64 er] 146 (0,0)) from hW ▸ heap_alloc_new _ _)
     have cW:=CW.out _ HbW.out
     have HB5:Hid (Below w.heap.size w W):=Below.next HBr.out (Nat.le_refl _) HbW.out
     have Q05:Hid (W.heap[w.heap.size]?=some (.cells #[.int .i64 f,.int .i64 sv,.string ⟨t.toArray⟩,.string ⟨h.toArray⟩,.string ⟨ap.toArray⟩,.string ⟨p.toArray⟩,.string ⟨i.toArray⟩,.string ⟨d.toArray⟩,.string ⟨x.toArray⟩] 29 (0,0))):=(HbW.out.block _ (by omega)).trans Q0.out
     have QW5:Hid (W.heap[w1.heap.size]?=some (.cells #[.string ⟨h.toArray⟩,.string ⟨ap.toArray⟩,.string ⟨p.toArray⟩,.string ⟨i.toArray⟩] 78 (0,0))):=(HbW.out.block _ hzW).trans QW.out
     rw [hW]
     clear hW
     go_quiet (fail)
     go_wp2
     go_roundw
     case rel=>exact ⟨k+1,by omega,int_eq (by simp),HV2.out,Q05.out,QW5.out,Below.next HB5.out (Nat.le_refl _) (drew_below ⟨_,rfl⟩)⟩
     case measure=>simp [intOf];omega
    ·have by0:(y == [])=false:=by simpa using hy0
     have HWd:Hid (∀ w,Calls Tryz.prog 79 #[.string ⟨y.toArray⟩,.int .i64 most] w fun e w'=>e=.returned (.bool (Hm.word y most))/\w'=w):=fun w=>
      isWord_any ⟨y.toArray⟩ most w (by rw [mk_size];omega) (by omega)
     cases hwd:Hm.word y most
     ·have HE:Hid (Hm.faultRest h ap p i d x=er):=by
       show _=_
       rw [Hm.faultRest_some (by rw [HST.out,if_pos ⟨hy0,hwd⟩])]
      rw [hwd] at HWd
      clear hy0
      go_wp2_with fail
      obtain ⟨W,hW⟩:∃ W,wr.alloc (Obj.cells #[.int .i64 most,.int .i64 er] 146)=W:=⟨_,rfl⟩
      have HbW:Hid (Below wr.heap.size wr W):=hW ▸ (Below.refl _ _).alloc (Nat.le_refl _) _
      obtain ⟨c0,c1⟩:=cells2 (show W.heap[wr.heap.size]?=some (.cells #[.int .i64 most,.int .i64 er] 146 (0,0)) from hW ▸ heap_alloc_new _ _)
      have cW:=CW.out _ HbW.out
      have HB5:Hid (Below w.heap.size w W):=Below.next HBr.out (Nat.le_refl _) HbW.out
      have Q05:Hid (W.heap[w.heap.size]?=some (.cells #[.int .i64 f,.int .i64 sv,.string ⟨t.toArray⟩,.string ⟨h.toArray⟩,.string ⟨ap.toArray⟩,.string ⟨p.toArray⟩,.string ⟨i.toArray⟩,.string ⟨d.toArray⟩,.string ⟨x.toArray⟩] 29 (0,0))):=(HbW.out.block _ (by omega)).trans Q0.out
      have QW5:Hid (W.heap[w1.heap.size]?=some (.cells #[.string ⟨h.toArray⟩,.string ⟨ap.toArray⟩,.string ⟨p.toArray⟩,.string ⟨i.toArray⟩] 78 (0,0))):=(HbW.out.block _ hzW).trans QW.out
      rw [hW]
      clear hW
      go_quiet ((go_at_call 79;exact Calls.quiet_of_same (HWd.out _)))
      go_wp2
      go_ret
      exact ⟨by rw [HF.out,HE.out];rfl,Below.next HB5.out (Nat.le_refl _) (drew_below ⟨_,rfl⟩)⟩
     ·have HV2:Hid (Hm.wordsFault (Hm.kinds.drop (k+1)) ([h,ap,p,i].drop (k+1))=Hm.wordsFault Hm.kinds [h,ap,p,i]):=by
       show _=_
       rw [HST.out,if_neg (by rintro ⟨_,h⟩;rw [hwd] at h;cases h)]
      rw [hwd] at HWd
      clear hy0
      go_wp2_with fail
      obtain ⟨W,hW⟩:∃ W,wr.alloc (Obj.cells #[.int .i64 most,.int .i64 er] 146)=W:=⟨_,rfl⟩
      have HbW:Hid (Below wr.heap.size wr W):=hW ▸ (Below.refl _ _).alloc (Nat.le_refl _) _
      obtain ⟨c0,c1⟩:=cells2 (show W.heap[wr.heap.size]?=some (.cells #[.int .i64 most,.int .i64 er] 146 (0,0)) from hW ▸ heap_alloc_new _ _)
      have cW:=CW.out _ HbW.out
      have HB5:Hid (Below w.heap.size w W):=Below.next HBr.out (Nat.le_refl _) HbW.out
      have Q05:Hid (W.heap[w.heap.size]?=some (.cells #[.int .i64 f,.int .i64 sv,.string ⟨t.toArray⟩,.string ⟨h.toArray⟩,.string ⟨ap.toArray⟩,.string ⟨p.toArray⟩,.string ⟨i.toArray⟩,.string ⟨d.toArray⟩,.string ⟨x.toArray⟩] 29 (0,0))):=(HbW.out.block _ (by omega)).trans Q0.out
      have QW5:Hid (W.heap[w1.heap.size]?=some (.cells #[.string ⟨h.toArray⟩,.string ⟨ap.toArray⟩,.string ⟨p.toArray⟩,.string ⟨i.toArray⟩] 78 (0,0))):=(HbW.out.block _ hzW).trans QW.out
      rw [hW]
      clear hW
      go_quiet ((go_at_call 79;exact Calls.quiet_of_same (HWd.out _)))
      go_wp2
      go_roundw
      case rel=>exact ⟨k+1,by omega,int_eq (by simp),HV2.out,Q05.out,QW5.out,Below.next HB5.out (Nat.le_refl _) (drew_below ⟨_,rfl⟩)⟩
      case measure=>simp [intOf];omega
   ·have hk:k=4:=by omega
    subst hk
    have HE:Hid (Hm.faultRest h ap p i d x=if ¬ d=[]/\Hm.isData d=false then 8 else if Hm.plain x=false then 9 else 0):=Hm.faultRest_none (by rw [<-HV.out];rfl)
    have c7:wr.cell? ⟨w.heap.size,7,none⟩=some (.string ⟨d.toArray⟩):=cell_of_row _ _ _ _ _ _ Q0.out
    have c8:wr.cell? ⟨w.heap.size,8,none⟩=some (.string ⟨x.toArray⟩):=cell_of_row _ _ _ _ _ _ Q0.out
    have HPl:Hid (∀ w,Tabs w->Calls Tryz.prog 55 #[.string ⟨x.toArray⟩] w fun e w'=>e=.returned (.bool (Hm.plain x))/\Below w.heap.size w w'):=fun w hT=>
     isPlain_any ⟨x.toArray⟩ w hT (by rw [mk_size];omega)
    by_cases hd0:d=[]
    ·have HE2:Hid (Hm.faultRest h ap p i d x=if Hm.plain x=false then 9 else 0):=by show _=_;rw [HE.out,if_neg (by rintro ⟨h,_⟩;exact h hd0)]
     subst hd0
     go_wp2_with fail
     refine (HPl.out _ (hT.next HBr.out)).mono ?_
     rintro e w9 ⟨rfl,hb9⟩
     cases hpx:Hm.plain x
     ·go_wp2
      go_ret
      exact ⟨by rw [HF.out,HE2.out,if_pos hpx];rfl,Below.next HBr.out (Nat.le_refl _) hb9⟩
     ·go_wp2
      go_ret
      exact ⟨by rw [HF.out,HE2.out,if_neg (by rw [hpx];decide)];rfl,Below.next HBr.out (Nat.le_refl _) hb9⟩
    ·have bd0:(d == [])=false:=by simpa using hd0
     have HDa:Hid (∀ w,Tabs w->Calls Tryz.prog 80 #[.string ⟨d.toArray⟩] w fun e w'=>e=.returned (.bool (Hm.isData d))/\Below w.heap.size w w'):=fun w hT=>
      isData_any ⟨d.toArray⟩ (by rw [mk_size];omega) w hT
     cases hda:Hm.isData d
     ·rw [hda] at HDa
      have HE2:Hid (Hm.faultRest h ap p i d x=8):=by show _=_;rw [HE.out,if_pos ⟨hd0,hda⟩]
      clear hd0
      go_wp2_with fail
      refine (HDa.out _ (hT.next HBr.out)).mono ?_
      rintro e w8 ⟨rfl,hb8⟩
      go_wp2
      go_ret
      exact ⟨by rw [HF.out,HE2.out];rfl,Below.next HBr.out (Nat.le_refl _) hb8⟩
     ·rw [hda] at HDa
      have HE2:Hid (Hm.faultRest h ap p i d x=if Hm.plain x=false then 9 else 0):=by show _=_;rw [HE.out,if_neg (by rintro ⟨_,h⟩;rw [hda] at h;cases h)]
      clear hd0 c8
      go_wp2_with fail
      refine (HDa.out _ (hT.next HBr.out)).mono ?_
      rintro e w8 ⟨rfl,hb8⟩
      have HB8:Hid (Below w.heap.size w w8):=Below.next HBr.out (Nat.le_refl _) hb8
      have c8:w8.cell? ⟨w.heap.size,8,none⟩=some (.string ⟨x.toArray⟩):=cell_of_row _ _ _ _ _ _ ((hb8.block _ (by omega)).trans Q0.out)
      go_wp2_with fail
      refine (HPl.out _ (hT.next HB8.out)).mono ?_
      rintro e w9 ⟨rfl,hb9⟩
      cases hpx:Hm.plain x
      ·go_wp2
       go_ret
       exact ⟨by rw [HF.out,HE2.out,if_pos hpx];rfl,Below.next HB8.out (Nat.le_refl _) hb9⟩
      ·go_wp2
       go_ret
       exact ⟨by rw [HF.out,HE2.out,if_neg (by rw [hpx];decide)];rfl,Below.next HB8.out (Nat.le_refl _) hb9⟩
end Go.Proofs.YtdlhbmncbmconaaGreatDoor
namespace Go.Proofs.YtdlhbmncbmconaaGreatDoor
open Go.RowKit Go.Sort
attribute [local go_sem] alloc_drewN setCell_drewN
def sumLen (xs:List ByteArray):Int:=(xs.map (fun x:ByteArray=>(x.size:Int))).sum
theorem sumLen_take (xs:List ByteArray) (k:Nat) (x:ByteArray) (h:xs[k]?=some x):sumLen (xs.take (k+1))=sumLen (xs.take k)+x.size:=by
 rw [List.take_add_one,h]
 simp [sumLen]
theorem sumLen_le (xs:List ByteArray) (hx:∀ x ∈ xs,x.size<=4000000000):0<=sumLen xs/\sumLen xs<=4000000000 * xs.length:=by
 induction xs with
 | nil=>exact ⟨by simp [sumLen],by simp [sumLen]⟩
 | cons a l ih=>
  have:=ih (fun x h=>hx x (List.mem_cons_of_mem _ h))
  have ha:=hx a List.mem_cons_self
  simp only [sumLen,List.map_cons,List.sum_cons,List.length_cons] at this ⊢
  omega
theorem joinedLength_any (bk c:Nat) (xs:List ByteArray) (w:World) (hc:∀ (j:Nat) x,xs[j]?=some x->w.cell? ⟨bk,j,none⟩=some (.string x)) (hN:xs.length<=100) (hx:∀ x ∈ xs,x.size<=4000000000) :
  Calls Tryz.prog 49 #[.slice (some ⟨bk,0,none⟩) xs.length c] w fun e w'=>e=.returned (.int .i64 (sumLen xs+xs.length - 1))/\w'=w:=by
 go_enter Tryz.func49,Tryz.ntmps49
 go_wp2_with fail
 go_loopw [3,11] (fun ln ix wr=>∃ k:Nat,k<=xs.length/\ix=.int .i64 k/\ln=.int .i64 ((xs.length:Int) - 1+sumLen (xs.take k))/\wr=w) (fun _ ix _=>xs.length - (intOf ix).toNat)
 case atStart=>exact ⟨0,by omega,rfl,int_eq (by simp [sumLen]),rfl⟩
 case round=>
  obtain ⟨k,hk,rfl,rfl,rfl⟩:=hrel
  by_cases hlt:k < xs.length
  ·obtain ⟨x,hxk⟩:∃ x,xs[k]?=some x:=⟨_,List.getElem?_eq_getElem hlt⟩
   have hcx:=hc k x hxk
   have hxs:x.size<=4000000000:=hx x (List.mem_of_getElem? hxk)
   have HS:Hid (sumLen (xs.take (k+1))=sumLen (xs.take k)+x.size):=sumLen_take xs k x hxk
   have hsl:=sumLen_le (xs.take k) (fun y hy=>hx y (List.mem_of_mem_take hy))
   have hl:((xs.take k).length:Int)<=100:=by rw [List.length_take];omega
   generalize sumLen (xs.take k)=S at HS hsl ⊢
   have hS:S<=400000000000:=by omega
   have hS0:=hsl.1
   have hki:(k:Int) < (xs.length:Int):=by omega
   clear hsl hl hc hx hxk
   go_wp2
   go_roundw
   case rel=>exact ⟨k+1,by omega,int_eq (by simp),int_eq (by rw [HS.out];omega),trivial⟩
   case measure=>simp [intOf];omega
  ·have hk2:k=xs.length:=by omega
   have hni:¬ (k:Int) < (xs.length:Int):=by omega
   have HS:Hid (sumLen (xs.take k)=sumLen xs):=by show _=_;rw [hk2,List.take_length]
   clear hk2
   go_wp2
   go_ret
   exact ⟨by rw [HS.out];exact ret_int (by omega),rfl⟩
end Go.Proofs.YtdlhbmncbmconaaGreatDoor
namespace Go.Proofs.YtdlhbmncbmconaaGreatDoor
open Go.RowKit Go.Sort
attribute [local go_sem] alloc_drewN setCell_drewN
theorem info_str:(Tryz.prog.info? 9).map (fun i=>(i.zero,i.size,i.bytes))=some (some (.string ByteArray.empty),1,16):=by kernel_rfl
def strV (l:List UInt8):Value:=.string ⟨l.toArray⟩
def pk (D:List UInt8) (six:List (List UInt8)) (k:Nat):List (List UInt8):=([60] ++ D ++ [62,49]) :: (six.take k).map Hm.told
theorem pk_next (D:List UInt8) (six:List (List UInt8)) (k:Nat) (h:k < six.length):pk D six (k+1)=pk D six k ++ [Hm.told (six.getD k [])]:=by
 unfold pk
 rw [List.take_add_one,List.getD_eq_getElem?_getD,List.getElem?_eq_getElem h,List.map_append]
 rfl
theorem pk_le (D:List UInt8) (six:List (List UInt8)) (hD:D.length<=3) (h:∀ l ∈ six,l.length<=4000000000):∀ l ∈ pk D six 6,l.length<=4000000000:=by
 intro l hl
 unfold pk at hl
 rcases List.mem_cons.1 hl with h1 | h1
 ·subst h1;simp;omega
 ·obtain ⟨y,hy,rfl⟩:=List.mem_map.1 h1
  have:=h y (List.mem_of_mem_take hy)
  unfold Hm.told
  split
  ·decide
  ·exact this
theorem first_part (D:List UInt8):(⟨#[60]⟩ ++ ⟨D.toArray⟩ ++ ⟨#[62,49]⟩:ByteArray)=⟨([60] ++ D ++ [62,49]).toArray⟩:=by
 rw [show (⟨#[60]⟩:ByteArray)=⟨[60].toArray⟩ from rfl,show (⟨#[62,49]⟩:ByteArray)=⟨[62,49].toArray⟩ from rfl,ByteArray.mk_append_mk,ByteArray.mk_append_mk]
theorem index_six (t h ap p i d:List UInt8) (k:Nat) (hk:k < 6) (w:World):(Instr.index 88 (.agg #[.string ⟨t.toArray⟩,.string ⟨h.toArray⟩,.string ⟨ap.toArray⟩,.string ⟨p.toArray⟩,.string ⟨i.toArray⟩,.string ⟨d.toArray⟩]) (.int .i64 k)).run Tryz.prog w=.ok (strV ([t,h,ap,p,i,d].getD k [])) w:=by
 rcases (by omega:k=0∨k=1∨k=2∨k=3∨k=4∨k=5) with h | h | h | h | h | h<;>subst h<;>kernel_rfl
theorem sumLen_map (L:List (List UInt8)):sumLen (L.map (fun l=>(⟨l.toArray⟩:ByteArray)))+((L.map (fun l=>(⟨l.toArray⟩:ByteArray))).length:Int) - 1=Hm.joinedLen L:=by
 unfold sumLen Hm.joinedLen
 rw [List.map_map,List.length_map]
 rfl
theorem join_map (L:List (List UInt8)):(L.map (fun l=>(⟨l.toArray⟩:ByteArray))).map (·.data.toList)=L:=by
 rw [List.map_map]
 exact List.map_id L
theorem own_cells {w:World} {b g n cv:Nat} {L:List (List UInt8)} (h:w.ownsRow b 9 1 (.slice (some ⟨g,0,none⟩) n cv) n (L.map strV)) (j:Nat) (s:ByteArray) (hj:(L.map (fun l=>(⟨l.toArray⟩:ByteArray)))[j]?=some s):w.cell? ⟨g,j,none⟩=some (.string s):=by
 have:=h.cells (g:=g) rfl j (.string s) (by
  rw [List.getElem?_map] at hj ⊢
  cases hl:L[j]? with
  | none=>rw [hl] at hj;cases hj
  | some l=>rw [hl] at hj;cases hj;rfl)
 have ha:(⟨g,0,none⟩:Addr).add j=⟨g,j,none⟩:=by unfold Addr.add;simp;omega
 rwa [ha] at this
theorem jl_any {w:World} {b g n cv:Nat} {L:List (List UInt8)} (h:w.ownsRow b 9 1 (.slice (some ⟨g,0,none⟩) n cv) n (L.map strV)) (hn:n<=100) (hx:∀ l ∈ L,l.length<=4000000000) :
  Calls Tryz.prog 49 #[.slice (some ⟨g,0,none⟩) n cv] w fun e w'=>e=.returned (.int .i64 (Hm.joinedLen L))/\w'=w:=by
 have hl:(L.map (fun l=>(⟨l.toArray⟩:ByteArray))).length=n:=by have:=h.1;rw [List.length_map] at this ⊢;omega
 have:=joinedLength_any g cv (L.map (fun l=>(⟨l.toArray⟩:ByteArray))) w (own_cells h) (by omega) (fun s hs=>by
  obtain ⟨l,hl,rfl⟩:=List.mem_map.1 hs
  rw [mk_size];exact hx l hl)
 rw [sumLen_map,hl] at this
 exact this
theorem join_any {w:World} {b g n cv:Nat} {a:List UInt8} {L:List (List UInt8)} (h:w.ownsRow b 9 1 (.slice (some ⟨g,0,none⟩) n cv) n ((a :: L).map strV)) (hn:n<=100) (hl:Hm.joinedLen (a :: L)<=200) :
  Calls Tryz.prog 50 #[.slice (some ⟨g,0,none⟩) n cv,.string ⟨#[32]⟩] w fun e w'=>e=.returned (.string ⟨(Lib.join (a :: L) [32]).toArray⟩)/\Below w.heap.size w w':=by
 have hlen:((a :: L).map (fun l=>(⟨l.toArray⟩:ByteArray))).length=n:=by have:=h.1;rw [List.length_map] at this ⊢;omega
 have hjl:=Hm.join_length a L
 have hg:=h.lt g rfl
 have hcv:n<=cv:=by
  rcases h.2 with ⟨h,_⟩ | ⟨_,_,_,h,_,_,h2,_⟩
  ·cases h
  ·cases h;exact h2
 have:=Tryz.strings_Join g 0 cv ((a :: L).map (fun l=>(⟨l.toArray⟩:ByteArray))) ⟨#[32]⟩ w (fun j s hj=>by rw [Nat.zero_add];exact own_cells h j s hj) hg.2 (by omega) (by omega) (by
  rw [join_map]
  show (Lib.join (a :: L) [32]).length<=_
  omega)
 rw [join_map,hlen] at this
 exact this
set_option maxRecDepth 20000 in
set_option maxHeartbeats 1000000 in
theorem line_core (f sv:Int) (t h ap p i d x:List UInt8) (w:World) (hT:Tabs w)
  (hf0:0<=f) (hf:f < 24) (hs0:0<=sv) (hs:sv < 8) (D:List UInt8) (hD:D.length<=3)
  (HFt:Hid (∀ w,Tabs w->Calls Tryz.prog 47 #[.agg (msgCells ⟨f,sv,t,h,ap,p,i,d,x⟩)] w fun e w'=>e=.returned (.int .i64 0)/\Below w.heap.size w w'))
  (HI:Hid (∀ w,Tabs w->Calls Tryz.prog 48 #[.int .i64 (8 * f+sv)] w fun e w'=>e=.returned (.string ⟨D.toArray⟩)/\Below w.heap.size w w'))
  (lt:t.length<=4000000000) (lh:h.length<=4000000000) (la:ap.length<=4000000000) (lp:p.length<=4000000000) (li:i.length<=4000000000) (ld:d.length<=4000000000) (lx:x.length<=4000000000)
  (R:List UInt8 × Nat) (hR:R=if 200 < Hm.joinedLen (pk D [t,h,ap,p,i,d] 6 ++ if x=[] then [] else [x]) then ([],1) else (Lib.join (pk D [t,h,ap,p,i,d] 6 ++ if x=[] then [] else [x]) [32],0)) :
  Calls Tryz.prog 20 #[.agg (msgCells ⟨f,sv,t,h,ap,p,i,d,x⟩)] w fun e w'=>
   e=.returned (.tuple #[.string ⟨R.1.toArray⟩,.int .i64 R.2])/\Below w.heap.size w w':=by
 unfold msgCells at HFt ⊢
 dsimp only at HFt ⊢
 go_enter Tryz.func20,Tryz.ntmps20
 go_wp2_with fail
 refine (HFt.out _ (hT.alloc _)).mono ?_
 rintro e w1 ⟨rfl,hb1⟩
 have r0:=(hb1.block _ (by simp)).trans (heap_alloc_new _ _)
 have c0:w1.cell? ⟨w.heap.size,0,none⟩=some (.int .i64 f):=cell_of_row _ _ _ _ _ _ r0
 have c1:w1.cell? ⟨w.heap.size,1,none⟩=some (.int .i64 sv):=cell_of_row _ _ _ _ _ _ r0
 have HB1:Hid (Below w.heap.size w w1):=((Below.refl _ _).alloc (Nat.le_refl _) _).trans (hb1.mono (by simp))
 have HR0:Hid (w1.heap[w.heap.size]?=_):=r0
 clear hb1 r0
 go_wp2_with fail
 refine (HI.out _ (hT.next HB1.out)).mono ?_
 rintro e w2 ⟨rfl,hb2⟩
 have HB2:Hid (Below w.heap.size w w2):=Below.next HB1.out (Nat.le_refl _) hb2
 have hz1:w.heap.size < w1.heap.size:=(Array.getElem?_eq_some_iff.1 HR0.out).1
 have hz2:w.heap.size < w2.heap.size:=by have:=hb2.size;omega
 have R0:=(heap_alloc_old w2 (Obj.cells #[.string (⟨#[60]⟩ ++ ⟨D.toArray⟩ ++ ⟨#[62,49]⟩)] 9) hz2).trans ((hb2.block _ hz1).trans HR0.out)
 have c2:(w2.alloc (Obj.cells #[.string (⟨#[60]⟩ ++ ⟨D.toArray⟩ ++ ⟨#[62,49]⟩)] 9)).cell? ⟨w.heap.size,2,none⟩=some (.string ⟨t.toArray⟩):=cell_of_row _ _ _ _ _ _ R0
 have c3:(w2.alloc (Obj.cells #[.string (⟨#[60]⟩ ++ ⟨D.toArray⟩ ++ ⟨#[62,49]⟩)] 9)).cell? ⟨w.heap.size,3,none⟩=some (.string ⟨h.toArray⟩):=cell_of_row _ _ _ _ _ _ R0
 have c4:(w2.alloc (Obj.cells #[.string (⟨#[60]⟩ ++ ⟨D.toArray⟩ ++ ⟨#[62,49]⟩)] 9)).cell? ⟨w.heap.size,4,none⟩=some (.string ⟨ap.toArray⟩):=cell_of_row _ _ _ _ _ _ R0
 have c5:(w2.alloc (Obj.cells #[.string (⟨#[60]⟩ ++ ⟨D.toArray⟩ ++ ⟨#[62,49]⟩)] 9)).cell? ⟨w.heap.size,5,none⟩=some (.string ⟨p.toArray⟩):=cell_of_row _ _ _ _ _ _ R0
 have c6:(w2.alloc (Obj.cells #[.string (⟨#[60]⟩ ++ ⟨D.toArray⟩ ++ ⟨#[62,49]⟩)] 9)).cell? ⟨w.heap.size,6,none⟩=some (.string ⟨i.toArray⟩):=cell_of_row _ _ _ _ _ _ R0
 have c7:(w2.alloc (Obj.cells #[.string (⟨#[60]⟩ ++ ⟨D.toArray⟩ ++ ⟨#[62,49]⟩)] 9)).cell? ⟨w.heap.size,7,none⟩=some (.string ⟨d.toArray⟩):=cell_of_row _ _ _ _ _ _ R0
 have HR2:Hid ((w2.alloc (Obj.cells #[.string (⟨#[60]⟩ ++ ⟨D.toArray⟩ ++ ⟨#[62,49]⟩)] 9)).heap[w.heap.size]?=some (.cells #[.int .i64 f,.int .i64 sv,.string ⟨t.toArray⟩,.string ⟨h.toArray⟩,.string ⟨ap.toArray⟩,.string ⟨p.toArray⟩,.string ⟨i.toArray⟩,.string ⟨d.toArray⟩,.string ⟨x.toArray⟩] 29 (0,0))):=R0
 clear hb2 R0 c0 c1
 obtain ⟨i0,hi,hz0,hz1,hz2'⟩:=info_parts info_str
 go_wp2_with fail
 obtain ⟨C,hC⟩:∃ C:Array Value,C=#[.string ⟨t.toArray⟩,.string ⟨h.toArray⟩,.string ⟨ap.toArray⟩,.string ⟨p.toArray⟩,.string ⟨i.toArray⟩,.string ⟨d.toArray⟩]:=⟨_,rfl⟩
 have HIx:Hid (∀ (k:Nat),k < 6->∀ w:World,(Instr.index 88 (.agg C) (.int .i64 k)).run Tryz.prog w=.ok (strV ([t,h,ap,p,i,d].getD k [])) w):=by
  show ∀ (k:Nat),_
  rw [hC];exact index_six t h ap p i d
 rw [<-hC]
 clear hC c2 c3 c4 c5 c6 c7
 go_loopw [6,38] (fun v ix wr=>∃ k g cv:Nat,k<=6/\ix=.int .i64 k/\v=.slice (some ⟨g,0,none⟩) (k+1) cv/\wr.ownsRow w2.heap.size 9 1 v (k+1) ((pk D [t,h,ap,p,i,d] k).map strV)/\wr.heap[w.heap.size]?=some (.cells #[.int .i64 f,.int .i64 sv,.string ⟨t.toArray⟩,.string ⟨h.toArray⟩,.string ⟨ap.toArray⟩,.string ⟨p.toArray⟩,.string ⟨i.toArray⟩,.string ⟨d.toArray⟩,.string ⟨x.toArray⟩] 29 (0,0))/\Below w.heap.size w wr/\w2.heap.size<=wr.heap.size) (fun _ ix _=>6 - (intOf ix).toNat)
 case atStart=>
  refine ⟨0,w2.heap.size,1,by omega,rfl,rfl,⟨rfl,.inr ⟨w2.heap.size,1,_,rfl,Nat.le_refl _,heap_alloc_new _ _,Nat.le_refl _,by decide,rfl,?_⟩⟩,HR2.out,HB2.out.alloc HB2.out.size _,by simp⟩
  rw [first_part];rfl
 case round=>
  obtain ⟨k,g,cv,hk,rfl,rfl,hown,q0,hBr,hzr⟩:=hrel
  have HO:Hid (wr.ownsRow w2.heap.size 9 1 (.slice (some ⟨g,0,none⟩) (k+1) cv) (k+1) ((pk D [t,h,ap,p,i,d] k).map strV)):=hown
  have Q0:Hid (wr.heap[w.heap.size]?=some (.cells #[.int .i64 f,.int .i64 sv,.string ⟨t.toArray⟩,.string ⟨h.toArray⟩,.string ⟨ap.toArray⟩,.string ⟨p.toArray⟩,.string ⟨i.toArray⟩,.string ⟨d.toArray⟩,.string ⟨x.toArray⟩] 29 (0,0))):=q0
  have HBr:Hid (Below w.heap.size w wr):=hBr
  clear hown q0 hBr
  by_cases hlt:k < 6
  ·obtain ⟨y,hy⟩:∃ y,[t,h,ap,p,i,d].getD k []=y:=⟨_,rfl⟩
   have hix:=HIx.out k hlt
   rw [hy] at hix
   unfold strV at hix
   have HPk:Hid (pk D [t,h,ap,p,i,d] (k+1)=pk D [t,h,ap,p,i,d] k ++ [Hm.told y]):=by show _=_;rw [pk_next _ _ _ hlt,hy]
   clear hy
   have hz2r:w.heap.size < wr.heap.size:=by omega
   by_cases hy0:y=[]
   ·have ht:Hm.told y=[45]:=by unfold Hm.told;rw [if_pos hy0]
    rw [ht] at HPk
    clear ht
    subst hy0
    go_wp2_with (at_builtin;refine wpList_append_own _ rfl _ _ 42 rfl w2.heap.size 9 i0 (.string ByteArray.empty) 1 16 Tryz.underlying42 hi hz0 hz1 hz2' rfl (by decide) _ _ _ rfl (HO.out.alloc _) ⟨wr.heap.size,0,none⟩ 1 1 [.string ⟨#[45]⟩] rfl rfl (cell_one_new _ _ _) (fun x hx=>by simp at hx;subst hx;rfl) (by unfold maxLen;omega) (by omega) (by simp;omega) ?_;intro v' w5 hown' hgrow hnil)
    go_roundw
    case rel=>
     obtain ⟨g5,cap5,hv5⟩:∃ g5 cap5,v'=.slice (some ⟨g5,0,none⟩) (k+1+1) cap5:=by
      rcases hown'.2 with ⟨_,h⟩ | ⟨g5,cap5,_,h,_⟩
      ·omega
      ·exact ⟨g5,cap5,h⟩
     refine ⟨k+1,g5,cap5,by omega,int_eq (by simp),hv5,?_,?_,?_,?_⟩
     ·rw [HPk.out,List.map_append];exact hown'
     ·exact (hgrow.block _ (by simp;omega) (fun h=>by have:=HO.out.lt _ h.symm;omega)).trans ((heap_alloc_old _ _ (by omega)).trans Q0.out)
     ·exact (HBr.out.alloc HBr.out.size _).grown hgrow (by simp;omega) (fun q hq=>by have:=HO.out.lt q hq;omega)
     ·exact Nat.le_trans hzr (Nat.le_trans (by simp) hgrow.size)
    case measure=>simp [intOf];omega
   ·have ht:Hm.told y=y:=by unfold Hm.told;rw [if_neg hy0]
    rw [ht] at HPk
    have by0:(y == [])=false:=by simpa using hy0
    clear ht hy0
    go_wp2_with (at_builtin;refine wpList_append_own _ rfl _ _ 42 rfl w2.heap.size 9 i0 (.string ByteArray.empty) 1 16 Tryz.underlying42 hi hz0 hz1 hz2' rfl (by decide) _ _ _ rfl (HO.out.alloc _) ⟨wr.heap.size,0,none⟩ 1 1 [.string ⟨y.toArray⟩] rfl rfl (cell_one_new _ _ _) (fun x hx=>by simp at hx;subst hx;rfl) (by unfold maxLen;omega) (by omega) (by simp;omega) ?_;intro v' w5 hown' hgrow hnil)
    go_roundw
    case rel=>
     obtain ⟨g5,cap5,hv5⟩:∃ g5 cap5,v'=.slice (some ⟨g5,0,none⟩) (k+1+1) cap5:=by
      rcases hown'.2 with ⟨_,h⟩ | ⟨g5,cap5,_,h,_⟩
      ·omega
      ·exact ⟨g5,cap5,h⟩
     refine ⟨k+1,g5,cap5,by omega,int_eq (by simp),hv5,?_,?_,?_,?_⟩
     ·rw [HPk.out,List.map_append];exact hown'
     ·exact (hgrow.block _ (by simp;omega) (fun h=>by have:=HO.out.lt _ h.symm;omega)).trans ((heap_alloc_old _ _ (by omega)).trans Q0.out)
     ·exact (HBr.out.alloc HBr.out.size _).grown hgrow (by simp;omega) (fun q hq=>by have:=HO.out.lt q hq;omega)
     ·exact Nat.le_trans hzr (Nat.le_trans (by simp) hgrow.size)
    case measure=>simp [intOf];omega
  ·have hk6:k=6:=by omega
   subst hk6
   have c8:wr.cell? ⟨w.heap.size,8,none⟩=some (.string ⟨x.toArray⟩):=cell_of_row _ _ _ _ _ _ Q0.out
   have HL6:Hid (∀ l ∈ pk D [t,h,ap,p,i,d] 6,l.length<=4000000000):=pk_le D _ hD (by
    intro l hl
    simp only [List.mem_cons,List.not_mem_nil,or_false] at hl
    rcases hl with h | h | h | h | h | h<;>subst h<;>assumption)
   obtain ⟨A,hA⟩:∃ A,pk D [t,h,ap,p,i,d] 6=([60] ++ D ++ [62,49]) :: A:=⟨_,rfl⟩
   obtain ⟨P0,hP0⟩:∃ P0,[60] ++ D ++ [62,49]=P0:=⟨_,rfl⟩
   rw [hP0] at hA
   rw [hA] at HL6 HO hR
   by_cases hx0:x=[]
   ·rw [if_pos hx0,List.append_nil] at hR
    have HJ:Hid (Calls Tryz.prog 49 #[.slice (some ⟨g,0,none⟩) 7 cv] wr fun e w'=>e=.returned (.int .i64 (Hm.joinedLen (P0 :: A)))/\w'=wr):=jl_any HO.out (by omega) HL6.out
    by_cases hj:200 < Hm.joinedLen (P0 :: A)
    ·have HF:Hid (R=([],1)):=by show _=_;rw [hR,if_pos hj]
     clear hR
     subst hx0
     go_wp2_with (go_at_call 49;refine HJ.out.mono ?_;rintro e w9 ⟨rfl,rfl⟩)
     go_ret2
     exact ⟨by rw [HF.out];rfl,HBr.out⟩
    ·have HF:Hid (R=(Lib.join (P0 :: A) [32],0)):=by show _=_;rw [hR,if_neg hj]
     clear hR
     subst hx0
     go_wp2_with (first | (go_at_call 49;refine HJ.out.mono ?_;rintro e w9 ⟨rfl,rfl⟩) | (go_at_call 50;refine (join_any HO.out (by omega) (by omega)).mono ?_;rintro e w9 ⟨rfl,hb9⟩))
     go_ret2
     exact ⟨by rw [HF.out];rfl,Below.next HBr.out (Nat.le_refl _) hb9⟩
   ·rw [if_neg hx0,List.cons_append] at hR
    have HL7:Hid (∀ l ∈ P0 :: (A ++ [x]),l.length<=4000000000):=by
     intro l hl
     rw [<-List.cons_append] at hl
     rcases List.mem_append.1 hl with h | h
     ·exact HL6.out l h
     ·obtain rfl:=List.mem_singleton.1 h;exact lx
    have bx0:(x == [])=false:=by simpa using hx0
    clear hx0
    by_cases hj:200 < Hm.joinedLen (P0 :: (A ++ [x]))
    ·have HF:Hid (R=([],1)):=by show _=_;rw [hR,if_pos hj]
     clear hR
     go_wp2_with (first | (at_builtin;refine wpList_append_own _ rfl _ _ 42 rfl w2.heap.size 9 i0 (.string ByteArray.empty) 1 16 Tryz.underlying42 hi hz0 hz1 hz2' rfl (by decide) _ _ _ rfl (HO.out.alloc _) ⟨wr.heap.size,0,none⟩ 1 1 [.string ⟨x.toArray⟩] rfl rfl (cell_one_new _ _ _) (fun x hx=>by simp at hx;subst hx;rfl) (by unfold maxLen;omega) (by omega) (by simp;omega) ?_;intro v' w5 hown' hgrow hnil;obtain ⟨g5,cap5,hv5⟩:∃ g5 cap5,v'=.slice (some ⟨g5,0,none⟩) (6+1+1) cap5:=(by rcases hown'.2 with ⟨_,h⟩ | ⟨g5,cap5,_,h,_⟩;omega;exact ⟨g5,cap5,h⟩);subst hv5;have HO5:Hid (w5.ownsRow w2.heap.size 9 1 (.slice (some ⟨g5,0,none⟩) 8 cap5) 8 ((P0 :: (A ++ [x])).map strV)):=(by rw [<-List.cons_append,List.map_append];exact hown');have HB5:Hid (Below w.heap.size w w5):=((HBr.out.alloc HBr.out.size _).grown hgrow (by simp;omega) (fun q hq=>by have:=HO.out.lt q hq;omega));clear hown' hgrow hnil) | (go_at_call 49;refine (jl_any HO5.out (by omega) HL7.out).mono ?_;rintro e w9 ⟨rfl,rfl⟩))
     go_ret2
     exact ⟨by rw [HF.out];rfl,HB5.out⟩
    ·have HF:Hid (R=(Lib.join (P0 :: (A ++ [x])) [32],0)):=by show _=_;rw [hR,if_neg hj]
     clear hR
     go_wp2_with (first | (at_builtin;refine wpList_append_own _ rfl _ _ 42 rfl w2.heap.size 9 i0 (.string ByteArray.empty) 1 16 Tryz.underlying42 hi hz0 hz1 hz2' rfl (by decide) _ _ _ rfl (HO.out.alloc _) ⟨wr.heap.size,0,none⟩ 1 1 [.string ⟨x.toArray⟩] rfl rfl (cell_one_new _ _ _) (fun x hx=>by simp at hx;subst hx;rfl) (by unfold maxLen;omega) (by omega) (by simp;omega) ?_;intro v' w5 hown' hgrow hnil;obtain ⟨g5,cap5,hv5⟩:∃ g5 cap5,v'=.slice (some ⟨g5,0,none⟩) (6+1+1) cap5:=(by rcases hown'.2 with ⟨_,h⟩ | ⟨g5,cap5,_,h,_⟩;omega;exact ⟨g5,cap5,h⟩);subst hv5;have HO5:Hid (w5.ownsRow w2.heap.size 9 1 (.slice (some ⟨g5,0,none⟩) 8 cap5) 8 ((P0 :: (A ++ [x])).map strV)):=(by rw [<-List.cons_append,List.map_append];exact hown');have HB5:Hid (Below w.heap.size w w5):=((HBr.out.alloc HBr.out.size _).grown hgrow (by simp;omega) (fun q hq=>by have:=HO.out.lt q hq;omega));clear hown' hgrow hnil) | (go_at_call 49;refine (jl_any HO5.out (by omega) HL7.out).mono ?_;rintro e w9 ⟨rfl,rfl⟩) | (go_at_call 50;refine (join_any HO5.out (by omega) (by omega)).mono ?_;rintro e w9 ⟨rfl,hb9⟩))
     go_ret2
     exact ⟨by rw [HF.out];rfl,Below.next HB5.out (Nat.le_refl _) hb9⟩
end Go.Proofs.YtdlhbmncbmconaaGreatDoor
namespace Go.Proofs.YtdlhbmncbmconaaGreatDoor
open Go.RowKit Go.Sort
attribute [local go_sem] alloc_drewN setCell_drewN
theorem dd_len3 {n:Nat} (h:n < 1000):(Lib.decDigits n).length<=3:=by
 by_cases h1:n < 10
 ·have:=Hm.dd_len2 (n:=n) (by omega);omega
 ·rw [Hm.dd2 h1,List.length_append]
  have:=Hm.dd_len2 (n:=n / 10) (by omega)
  simp
  omega
theorem line_fault (m:Hm.Msg) (w:World) (hT:Tabs w) (e:Nat) (he:0 < e) (he2:e < 100)
  (HFt:Hid (∀ w,Tabs w->Calls Tryz.prog 47 #[.agg (msgCells m)] w fun r w'=>r=.returned (.int .i64 e)/\Below w.heap.size w w')) :
  Calls Tryz.prog 20 #[.agg (msgCells m)] w fun r w'=>r=.returned (.tuple #[.string ⟨#[]⟩,.int .i64 e])/\Below w.heap.size w w':=by
 obtain ⟨f,sv,t,h,ap,p,i,d,x⟩:=m
 unfold msgCells at HFt ⊢
 dsimp only at HFt ⊢
 have be:((e:Int) == 0)=false:=beq_eq_false_iff_ne.2 (by omega)
 have be2:((e:Int) != 0)=true:=by simp;omega
 go_enter Tryz.func20,Tryz.ntmps20
 go_wp2_with fail
 refine (HFt.out _ (hT.alloc _)).mono ?_
 rintro r w1 ⟨rfl,hb1⟩
 go_wp2
 go_ret2
 exact ⟨rfl,((Below.refl _ _).alloc (Nat.le_refl _) _).trans (hb1.mono (by simp))⟩
theorem Line_any (m:Hm.Msg) (w:World) (hT:Tabs w) (lt:m.time.length<=4000000000) (lh:m.host.length<=4000000000) (la:m.app.length<=4000000000) (lp:m.proc.length<=4000000000) (li:m.id.length<=4000000000) (ld:m.data.length<=4000000000) (lx:m.text.length<=4000000000) :
  Calls Tryz.prog 20 #[.agg (msgCells m)] w fun r w'=>r=.returned (.tuple #[.string ⟨(Hm.line m).1.toArray⟩,.int .i64 (Hm.line m).2])/\Below w.heap.size w w':=by
 have HFt:Hid (∀ w,Tabs w->Calls Tryz.prog 47 #[.agg (msgCells m)] w fun r w'=>r=.returned (.int .i64 (Hm.fault m))/\Below w.heap.size w w'):=fun w hT=>
  fault_core m.fac m.sev m.time m.host m.app m.proc m.id m.data m.text w hT lt lh la lp li ld lx
 by_cases h0:Hm.fault m=0
 ·have hs:=Hm.fault_source h0
  rw [h0] at HFt
  have hn:(8 * m.fac+m.sev).toNat < 192:=by omega
  refine line_core m.fac m.sev m.time m.host m.app m.proc m.id m.data m.text w hT hs.1 hs.2.1 hs.2.2.1 hs.2.2.2 (Lib.decDigits (8 * m.fac+m.sev).toNat) (dd_len3 (by omega)) HFt (fun w hT=>itoa_any _ w (by omega) (by omega) hT) lt lh la lp li ld lx (Hm.line m) ?_
  unfold Hm.line
  rw [if_neg (by rw [h0];decide)]
  rfl
 ·have hl:Hm.line m=([],Hm.fault m):=by unfold Hm.line;rw [if_pos h0]
  rw [hl]
  exact line_fault m w hT (Hm.fault m) (by omega) (Hm.fault_lt m) HFt
end Go.Proofs.YtdlhbmncbmconaaGreatDoor
namespace Go.Proofs.YtdlhbmncbmconaaGreatDoor
open Go.RowKit Go.Sort
theorem rcut (l:List UInt8) (a b:Nat):(⟨l.toArray⟩:ByteArray).extract a b=⟨((l.drop a).take (b - a)).toArray⟩:=by
 apply ByteArray.ext
 simp
theorem rbyte (l:List UInt8) (j:Nat) (h:j < (⟨l.toArray⟩:ByteArray).size):(⟨l.toArray⟩:ByteArray)[j]=l[j]'(by simpa [ByteArray.size] using h):=rfl
end Go.Proofs.YtdlhbmncbmconaaGreatDoor
namespace Go.Proofs.YtdlhbmncbmconaaGreatDoor
open Go.RowKit Go.Sort
attribute [local go_sem] alloc_drewN setCell_drewN
theorem from_form {w:World} {base:Nat} {v:Value} {L:List (List UInt8)} (h:Hw.ownsFrom w base 9 v (L.map strV)):∃ ad cap,v=.slice ad L.length cap:=by
 obtain ⟨ad,cap,e⟩:=Hw.ownsFrom_form h
 exact ⟨ad,cap,by rw [e,List.length_map]⟩
theorem from_some {w:World} {base n cap:Nat} {ad:Option Addr} {L:List (List UInt8)} (h:Hw.ownsFrom w base 9 (.slice ad n cap) (L.map strV)) (hn:0 < L.length):∃ g o,ad=some ⟨g,o,none⟩:=by
 rcases h with ⟨_,hz⟩ | ⟨g,o,c,cur,hv,_⟩
 ·have:=congrArg List.length hz
  simp at this
  subst this
  simp at hn
 ·cases hv
  exact ⟨g,o,rfl⟩
def cutV (a:Option Addr) (l h m:Nat):Value:=sliced a l h m 1
theorem ownsFrom_cut {w:World} {base n cap:Nat} {ad:Option Addr} {e:TypeId} {xs:List Value} (h:Hw.ownsFrom w base e (.slice ad n cap) xs) {lo hi:Nat} (h1:lo<=hi) (h2:hi<=xs.length):Hw.ownsFrom w base e (cutV ad lo hi cap) ((xs.drop lo).take (hi - lo)):=by
 rcases h with ⟨hv,hx⟩ | ⟨g,o,cap',cur,hv,hb,hg,k1,k2,k3,k4⟩
 ·cases hv
  subst hx
  have e1:lo=0:=by simp at h2;omega
  have e2:hi=0:=by simpa using h2
  subst e1 e2
  exact .inl ⟨rfl,rfl⟩
 ·cases hv
  have hlen:((xs.drop lo).take (hi - lo)).length=hi - lo:=by rw [List.length_take,List.length_drop];omega
  by_cases hm:cap=lo
  ·subst hm
   have e1:hi=cap:=by omega
   subst e1
   refine .inr ⟨g,o,0,cur,by simp [cutV,sliced],hb,hg,by simp,by omega,by omega,by simp⟩
  ·refine .inr ⟨g,o+lo,cap - lo,cur,?_,hb,hg,by rw [hlen];omega,by omega,by omega,?_⟩
   ·rw [hlen]
    simp [cutV,sliced,hm,Addr.add]
   ·rw [hlen,<-List.drop_drop,<-k4,List.drop_take,List.take_take,Nat.min_eq_left (by omega)]
theorem run_cut_l (w:World) (a:Option Addr) (n c:Nat) (l:Int) (h0:0<=l) (h1:l<=n):(Instr.slice 42 (.slice a n c) (some (.int .i64 l)) none none).run Tryz.prog w=.ok (cutV a l.toNat n c) w:=by
 rw [run_slice_l w 42 a n c (by kernel_rfl) .i64 l h0 h1]
 go_simp
 simp [cutV,sliced]
end Go.Proofs.YtdlhbmncbmconaaGreatDoor
namespace Go.Hm
def exL1:List UInt8:=[60,51,52,62,49,32,50,48,48,51,45,49,48,45,49,49,84,50,50,58,49,52,58,49,53,46,48,48,51,90,32,109,121,109,97,99,104,105,110,101,32,115,117,32,45,32,73,68,52,55,32,45,32,105,116,32,102,97,105,108,101,100]
def exM:Msg:=⟨4,2,[50,48,48,51,45,49,48,45,49,49,84,50,50,58,49,52,58,49,53,46,48,48,51,90],[109,121,109,97,99,104,105,110,101],[115,117],[],[73,68,52,55],[],[105,116,32,102,97,105,108,101,100]⟩
theorem exM_read:read exL1 1=(exM,0,0):=by kernel_rfl
theorem exM_line:line exM=(exL1,0):=by kernel_rfl
end Go.Hm
namespace Go.Proofs.YtdlhbmncbmconaaGreatDoor
open Go.RowKit Go.Sort
def worldZero:Array Value:=#[.slice none 0 0,.slice none 0 0,.slice none 0 0,.slice none 0 0,.slice none 0 0,.slice none 0 0,.slice none 0 0,.slice none 0 0,.int .i64 0]
theorem begun_read (w:World) (hT:Tabs w):Calls Tryz.prog 21 #[.string ⟨Hm.exL1.toArray⟩,.int .i64 1] w fun e w'=>e=.returned (.tuple #[.agg (msgCells Hm.exM),.int .i64 0,.int .i64 0])/\Below w.heap.size w w':=by
 have h:=Read_any ⟨Hm.exL1.toArray⟩ 1 w hT (by decide)
 rw [show (⟨Hm.exL1.toArray⟩:ByteArray).data.toList=Hm.exL1 from rfl,Hm.exM_read] at h
 exact h
theorem begun_line (w:World) (hT:Tabs w):Calls Tryz.prog 20 #[.agg (msgCells Hm.exM)] w fun e w'=>e=.returned (.tuple #[.string ⟨Hm.exL1.toArray⟩,.int .i64 0])/\Below w.heap.size w w':=by
 have h:=Line_any Hm.exM w hT (by decide) (by decide) (by decide) (by decide) (by decide) (by decide) (by decide)
 rw [Hm.exM_line] at h
 exact h
end Go.Proofs.YtdlhbmncbmconaaGreatDoor

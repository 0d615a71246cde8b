/- Pressed by program out of Bf. -/
import Derived.Test.YtdlhbmncbmconaaGreatDoorL07
import Derived.Test.YtdlhbmncbmconaaGreatDoorL02
import Derived.Test.YtdlhbmncbmconaaGreatDoorL00
import Derived.BigRegion
namespace Go.Proofs.YtdlhbmncbmconaaGreatDoor
open Go.RowKit Go.Sort
attribute [local go_sem] alloc_drewN setCell_drewN
theorem ret_msg3 {c c':Array Value} {e e' a a':Int} (h:c=c') (h1:e=e') (h2:a=a'):Ending.returned (.tuple #[.agg c,.int .i64 e,.int .i64 a])=.returned (.tuple #[.agg c',.int .i64 e',.int .i64 a']):=by rw [h,h1,h2]
set_option maxRecDepth 20000 in
set_option maxHeartbeats 2000000 in
theorem dataText_core (f sv:Int) (t h ap p i:List UInt8) (s:ByteArray) (a:Nat) (w:World) (hT:Tabs w) (ha:a<=s.size) (hs:s.size<=4000000000)
  (k:Nat) (hk:a+k<=s.size) (HD:Hid (∀ w,Tabs w->Calls Tryz.prog 135 #[.string (s.extract a s.size)] w fun e w'=>e=.returned (.int .i64 k)/\Below w.heap.size w w'))
  (R:Hm.Msg × Nat × Nat)
  (hR1:k=0->R=(Hm.Msg.none,8,a)) (hR2:∀ hlt:a+k < s.size,¬ (s[a+k]'hlt).toNat=32->R=(Hm.Msg.none,8,a))
  (hR3:¬ k=0->a+k=s.size->R=((if (s.data.toList.drop a).take k=[45] then ⟨f,sv,t,h,ap,p,i,[],[]⟩ else ⟨f,sv,t,h,ap,p,i,(s.data.toList.drop a).take k,[]⟩),0,0))
  (hR4:¬ k=0->∀ hlt:a+k < s.size,(s[a+k]'hlt).toNat=32->R=if Hm.plain (s.data.toList.drop (a+k+1))=false then (Hm.Msg.none,9,a+k+1) else
   ((if (s.data.toList.drop a).take k=[45] then ⟨f,sv,t,h,ap,p,i,[],s.data.toList.drop (a+k+1)⟩ else ⟨f,sv,t,h,ap,p,i,(s.data.toList.drop a).take k,s.data.toList.drop (a+k+1)⟩),0,0)) :
  Calls Tryz.prog 89 #[.agg #[.int .i64 f,.int .i64 sv,.string ⟨t.toArray⟩,.string ⟨h.toArray⟩,.string ⟨ap.toArray⟩,.string ⟨p.toArray⟩,.string ⟨i.toArray⟩,.string ⟨#[]⟩,.string ⟨#[]⟩],.string s,.int .i64 a] w fun e w'=>
   e=.returned (.tuple #[.agg (msgCells R.1),.int .i64 R.2.1,.int .i64 R.2.2])/\Below w.heap.size w w':=by
 have ia:(a:Int)<=(s.size:Int):=by omega
 have iak:(a:Int)+(k:Int)<=(s.size:Int):=by omega
 have e1:(s.extract a (a+k)).data.toList=(s.data.toList.drop a).take k:=by rw [ex_take,Nat.add_sub_cancel_left]
 have E1:Hid ((s.extract a (a+k)).data.toList=(s.data.toList.drop a).take k):=e1
 by_cases hk0:k=0
 ·have HF:Hid (R=(Hm.Msg.none,8,a)):=hR1 hk0
  subst hk0
  clear hR1 hR2 hR3 hR4 e1
  go_enter Tryz.func89,Tryz.ntmps89
  go_wp2_with fail
  refine (HD.out _ ((hT.alloc _).alloc _)).mono ?_
  rintro e w1 ⟨rfl,hb⟩
  obtain ⟨r0,r1⟩:=two_blocks hb
  have HB1:Hid (Below w.heap.size w w1):=((((Below.refl _ _).alloc (Nat.le_refl _) _).alloc (by simp) _).trans (hb.mono (by simp;omega)))
  have hz1:w.heap.size+2<=w1.heap.size:=by have:=hb.size;simpa using this
  have HR0:Hid (w1.heap[w.heap.size]?=some (.cells #[.int .i64 f,.int .i64 sv,.string ⟨t.toArray⟩,.string ⟨h.toArray⟩,.string ⟨ap.toArray⟩,.string ⟨p.toArray⟩,.string ⟨i.toArray⟩,.string ⟨#[]⟩,.string ⟨#[]⟩] 29 (0,0))):=r0
  have HR1:Hid (w1.heap[w.heap.size+1]?=some (.cells #[.int .i64 0,.int .i64 0,.string ⟨#[]⟩,.string ⟨#[]⟩,.string ⟨#[]⟩,.string ⟨#[]⟩,.string ⟨#[]⟩,.string ⟨#[]⟩,.string ⟨#[]⟩] 29 (0,0))):=r1
  clear hb r0 r1
  go_wp2_with (first
   | (refine Hw.wpList_store_rowP rfl _ _ _ rfl rfl (w.heap.size+1) #[.int .i64 0,.int .i64 0,.string ⟨#[]⟩,.string ⟨#[]⟩,.string ⟨#[]⟩,.string ⟨#[]⟩,.string ⟨#[]⟩,.string ⟨#[]⟩,.string ⟨#[]⟩] rfl rfl _ _ HR1.out size_msg rfl rfl ?_;intro w8 p8;have P8:Hid (Hw.Put w1 _ _ _ w8):=p8;clear p8))
  refine bodyPost_ret (Hw.results_row3 Tryz.results89 _ _ _ _ _ _ _ rfl P8.out.row Tryz.underlying29 rfl size_msg) rfl ⟨?_,HB1.out.trans (P8.out.below (by omega))⟩
  rw [HF.out]
  exact ret_msg3 rfl rfl rfl
 ·have bk:((k:Int) == 0)=false:=beq_eq_false_iff_ne.2 (by omega)
  by_cases hend:a+k=s.size
  ·have bend:((a:Int)+(k:Int) == (s.size:Int))=true:=beq_iff_eq.2 (by omega)
   have nlt:¬ (a:Int)+(k:Int) < (s.size:Int):=by omega
   by_cases hd:(s.data.toList.drop a).take k=[45]
   ·have HF:Hid (R=(⟨f,sv,t,h,ap,p,i,[],[]⟩,0,0)):=by show _=_;rw [hR3 hk0 hend,if_pos hd]
    have bd:(s.extract a (a+k)).toList=[45]:=by rw [Lib.toList_data,e1];exact hd
    clear hR1 hR2 hR3 hR4 e1 hd hend hk0
    go_enter Tryz.func89,Tryz.ntmps89
    go_wp2_with fail
    refine (HD.out _ ((hT.alloc _).alloc _)).mono ?_
    rintro e w1 ⟨rfl,hb⟩
    obtain ⟨r0,r1⟩:=two_blocks hb
    have HB1:Hid (Below w.heap.size w w1):=((((Below.refl _ _).alloc (Nat.le_refl _) _).alloc (by simp) _).trans (hb.mono (by simp;omega)))
    have hz1:w.heap.size+2<=w1.heap.size:=by have:=hb.size;simpa using this
    have HR0:Hid (w1.heap[w.heap.size]?=some (.cells #[.int .i64 f,.int .i64 sv,.string ⟨t.toArray⟩,.string ⟨h.toArray⟩,.string ⟨ap.toArray⟩,.string ⟨p.toArray⟩,.string ⟨i.toArray⟩,.string ⟨#[]⟩,.string ⟨#[]⟩] 29 (0,0))):=r0
    have HR1:Hid (w1.heap[w.heap.size+1]?=some (.cells #[.int .i64 0,.int .i64 0,.string ⟨#[]⟩,.string ⟨#[]⟩,.string ⟨#[]⟩,.string ⟨#[]⟩,.string ⟨#[]⟩,.string ⟨#[]⟩,.string ⟨#[]⟩] 29 (0,0))):=r1
    clear hb r0 r1
    go_wp2_with (first
     | (refine wpList_load_row rfl _ _ rfl w.heap.size rfl _ _ _ _ HR0.out Tryz.underlying29 rfl size_msg ?_)
     | (refine Hw.wpList_store_rowP rfl _ _ _ rfl rfl (w.heap.size+1) _ rfl rfl _ _ HR1.out size_msg rfl rfl ?_;intro w8 p8;have P8:Hid (Hw.Put w1 _ _ _ w8):=p8;clear p8))
    refine bodyPost_ret (Hw.results_row3 Tryz.results89 _ _ _ _ _ _ _ rfl P8.out.row Tryz.underlying29 rfl size_msg) rfl ⟨?_,HB1.out.trans (P8.out.below (by omega))⟩
    rw [HF.out]
    exact ret_msg3 rfl rfl rfl
   ·have HF:Hid (R=(⟨f,sv,t,h,ap,p,i,(s.data.toList.drop a).take k,[]⟩,0,0)):=by show _=_;rw [hR3 hk0 hend,if_neg hd]
    have bd:((s.extract a (a+k)).toList == [45])=false:=by rw [Lib.toList_data,e1];simpa using hd
    have bd':¬ (s.extract a (a+k)).toList=[45]:=by rw [Lib.toList_data,e1];exact hd
    clear hR1 hR2 hR3 hR4 e1 hd hend hk0
    go_enter Tryz.func89,Tryz.ntmps89
    go_wp2_with fail
    refine (HD.out _ ((hT.alloc _).alloc _)).mono ?_
    rintro e w1 ⟨rfl,hb⟩
    obtain ⟨r0,r1⟩:=two_blocks hb
    have HB1:Hid (Below w.heap.size w w1):=((((Below.refl _ _).alloc (Nat.le_refl _) _).alloc (by simp) _).trans (hb.mono (by simp;omega)))
    have hz1:w.heap.size+2<=w1.heap.size:=by have:=hb.size;simpa using this
    have HR0:Hid (w1.heap[w.heap.size]?=some (.cells #[.int .i64 f,.int .i64 sv,.string ⟨t.toArray⟩,.string ⟨h.toArray⟩,.string ⟨ap.toArray⟩,.string ⟨p.toArray⟩,.string ⟨i.toArray⟩,.string ⟨#[]⟩,.string ⟨#[]⟩] 29 (0,0))):=r0
    have HR1:Hid (w1.heap[w.heap.size+1]?=some (.cells #[.int .i64 0,.int .i64 0,.string ⟨#[]⟩,.string ⟨#[]⟩,.string ⟨#[]⟩,.string ⟨#[]⟩,.string ⟨#[]⟩,.string ⟨#[]⟩,.string ⟨#[]⟩] 29 (0,0))):=r1
    clear hb r0 r1
    go_wp2_with (first
     | (refine Hw.wpList_store_fieldP rfl _ _ _ rfl rfl w.heap.size 7 _ rfl rfl _ _ #[.int .i64 f,.int .i64 sv,.string ⟨t.toArray⟩,.string ⟨h.toArray⟩,.string ⟨ap.toArray⟩,.string ⟨p.toArray⟩,.string ⟨i.toArray⟩,.string (s.extract a (a+k)),.string ⟨#[]⟩] HR0.out size_str (by simp) rfl rfl ?_;intro w3 p3;have HR03:Hid (w3.heap[w.heap.size]?=some (.cells #[.int .i64 f,.int .i64 sv,.string ⟨t.toArray⟩,.string ⟨h.toArray⟩,.string ⟨ap.toArray⟩,.string ⟨p.toArray⟩,.string ⟨i.toArray⟩,.string (s.extract a (a+k)),.string ⟨#[]⟩] 29 (0,0))):=p3.row;have HR13:Hid (w3.heap[w.heap.size+1]?=some (.cells #[.int .i64 0,.int .i64 0,.string ⟨#[]⟩,.string ⟨#[]⟩,.string ⟨#[]⟩,.string ⟨#[]⟩,.string ⟨#[]⟩,.string ⟨#[]⟩,.string ⟨#[]⟩] 29 (0,0))):=(p3.other _ (by omega)).trans HR1.out;have HB3:Hid (Below w.heap.size w w3):=HB1.out.trans (p3.below (Nat.le_refl _));have hz3:w.heap.size+2<=w3.heap.size:=(by rw [p3.size];exact hz1);clear p3)
     | (refine wpList_load_row rfl _ _ rfl w.heap.size rfl _ _ _ _ HR03.out Tryz.underlying29 rfl size_msg ?_)
     | (refine Hw.wpList_store_rowP rfl _ _ _ rfl rfl (w.heap.size+1) _ rfl rfl _ _ HR13.out size_msg rfl rfl ?_;intro w8 p8;have P8:Hid (Hw.Put w3 _ _ _ w8):=p8;clear p8))
    refine bodyPost_ret (Hw.results_row3 Tryz.results89 _ _ _ _ _ _ _ rfl P8.out.row Tryz.underlying29 rfl size_msg) rfl ⟨?_,HB3.out.trans (P8.out.below (by omega))⟩
    rw [HF.out]
    exact ret_msg3 (by simp only [msgCells];rw [<-mk_eq E1.out]) rfl rfl
  ·have hlt:a+k < s.size:=by omega
   have ilt:(a:Int)+(k:Int) < (s.size:Int):=by omega
   have bend:((a:Int)+(k:Int) == (s.size:Int))=false:=beq_eq_false_iff_ne.2 (by omega)
   by_cases hbl:(s[a+k]'hlt).toNat=32
   ·have bbl:(((s[a+k]'hlt).toNat:Int) != 32)=false:=by simp;omega
    have i1:(a:Int)+(k:Int)+1<=(s.size:Int):=by omega
    have HPl:Hid (∀ w,Tabs w->Calls Tryz.prog 55 #[.string (s.extract (a+k+1) s.size)] w fun e w'=>e=.returned (.bool (Hm.plain (s.data.toList.drop (a+k+1))))/\Below w.heap.size w w'):=fun w hT=>by
     have:=isPlain_any (s.extract (a+k+1) s.size) w hT (by simp;omega)
     rwa [Hm.drop_ex] at this
    have HG:=hR4 hk0 hlt hbl
    have E2:Hid ((s.extract (a+k+1) s.size).data.toList=s.data.toList.drop (a+k+1)):=Hm.drop_ex _ _
    obtain ⟨pl,hpl⟩:∃ pl,Hm.plain (s.data.toList.drop (a+k+1))=pl:=⟨_,rfl⟩
    rw [hpl] at HPl HG
    clear hpl
    cases pl
    ·have HF:Hid (R=(Hm.Msg.none,9,a+k+1)):=HG
     by_cases hd:(s.data.toList.drop a).take k=[45]
     ·have bd:(s.extract a (a+k)).toList=[45]:=by rw [Lib.toList_data,e1];exact hd
      clear hR1 hR2 hR3 hR4 e1 hd hend hk0 HG hbl
      go_enter Tryz.func89,Tryz.ntmps89
      go_wp2_with fail
      refine (HD.out _ ((hT.alloc _).alloc _)).mono ?_
      rintro e w1 ⟨rfl,hb⟩
      obtain ⟨r0,r1⟩:=two_blocks hb
      have HB1:Hid (Below w.heap.size w w1):=((((Below.refl _ _).alloc (Nat.le_refl _) _).alloc (by simp) _).trans (hb.mono (by simp;omega)))
      have hz1:w.heap.size+2<=w1.heap.size:=by have:=hb.size;simpa using this
      have HR0:Hid (w1.heap[w.heap.size]?=some (.cells #[.int .i64 f,.int .i64 sv,.string ⟨t.toArray⟩,.string ⟨h.toArray⟩,.string ⟨ap.toArray⟩,.string ⟨p.toArray⟩,.string ⟨i.toArray⟩,.string ⟨#[]⟩,.string ⟨#[]⟩] 29 (0,0))):=r0
      have HR1:Hid (w1.heap[w.heap.size+1]?=some (.cells #[.int .i64 0,.int .i64 0,.string ⟨#[]⟩,.string ⟨#[]⟩,.string ⟨#[]⟩,.string ⟨#[]⟩,.string ⟨#[]⟩,.string ⟨#[]⟩,.string ⟨#[]⟩] 29 (0,0))):=r1
      clear hb r0 r1
      go_wp2_with (first
       | (go_at_call 55;refine (HPl.out _ (hT.next HB1.out)).mono ?_;rintro e w4 ⟨rfl,hb4⟩;have HR04:Hid (w4.heap[w.heap.size]?=some (.cells #[.int .i64 f,.int .i64 sv,.string ⟨t.toArray⟩,.string ⟨h.toArray⟩,.string ⟨ap.toArray⟩,.string ⟨p.toArray⟩,.string ⟨i.toArray⟩,.string ⟨#[]⟩,.string ⟨#[]⟩] 29 (0,0))):=(hb4.block _ (by omega)).trans HR0.out;have HR14:Hid (w4.heap[w.heap.size+1]?=some (.cells #[.int .i64 0,.int .i64 0,.string ⟨#[]⟩,.string ⟨#[]⟩,.string ⟨#[]⟩,.string ⟨#[]⟩,.string ⟨#[]⟩,.string ⟨#[]⟩,.string ⟨#[]⟩] 29 (0,0))):=(hb4.block _ (by omega)).trans HR1.out;have HB4:Hid (Below w.heap.size w w4):=Below.next HB1.out (Nat.le_refl _) hb4;clear hb4)
       | (refine Hw.wpList_store_rowP rfl _ _ _ rfl rfl (w.heap.size+1) #[.int .i64 0,.int .i64 0,.string ⟨#[]⟩,.string ⟨#[]⟩,.string ⟨#[]⟩,.string ⟨#[]⟩,.string ⟨#[]⟩,.string ⟨#[]⟩,.string ⟨#[]⟩] rfl rfl _ _ HR14.out size_msg rfl rfl ?_;intro w8 p8;have P8:Hid (Hw.Put w4 _ _ _ w8):=p8;clear p8))
      refine bodyPost_ret (Hw.results_row3 Tryz.results89 _ _ _ _ _ _ _ rfl P8.out.row Tryz.underlying29 rfl size_msg) rfl ⟨?_,HB4.out.trans (P8.out.below (by omega))⟩
      rw [HF.out]
      exact ret_msg3 rfl rfl (by simp)
     ·have bd:((s.extract a (a+k)).toList == [45])=false:=by rw [Lib.toList_data,e1];simpa using hd
      have bd':¬ (s.extract a (a+k)).toList=[45]:=by rw [Lib.toList_data,e1];exact hd
      clear hR1 hR2 hR3 hR4 e1 hd hend hk0 HG hbl
      go_enter Tryz.func89,Tryz.ntmps89
      go_wp2_with fail
      refine (HD.out _ ((hT.alloc _).alloc _)).mono ?_
      rintro e w1 ⟨rfl,hb⟩
      obtain ⟨r0,r1⟩:=two_blocks hb
      have HB1:Hid (Below w.heap.size w w1):=((((Below.refl _ _).alloc (Nat.le_refl _) _).alloc (by simp) _).trans (hb.mono (by simp;omega)))
      have hz1:w.heap.size+2<=w1.heap.size:=by have:=hb.size;simpa using this
      have HR0:Hid (w1.heap[w.heap.size]?=some (.cells #[.int .i64 f,.int .i64 sv,.string ⟨t.toArray⟩,.string ⟨h.toArray⟩,.string ⟨ap.toArray⟩,.string ⟨p.toArray⟩,.string ⟨i.toArray⟩,.string ⟨#[]⟩,.string ⟨#[]⟩] 29 (0,0))):=r0
      have HR1:Hid (w1.heap[w.heap.size+1]?=some (.cells #[.int .i64 0,.int .i64 0,.string ⟨#[]⟩,.string ⟨#[]⟩,.string ⟨#[]⟩,.string ⟨#[]⟩,.string ⟨#[]⟩,.string ⟨#[]⟩,.string ⟨#[]⟩] 29 (0,0))):=r1
      clear hb r0 r1
      go_wp2_with (first
       | (refine Hw.wpList_store_fieldP rfl _ _ _ rfl rfl w.heap.size 7 _ rfl rfl _ _ #[.int .i64 f,.int .i64 sv,.string ⟨t.toArray⟩,.string ⟨h.toArray⟩,.string ⟨ap.toArray⟩,.string ⟨p.toArray⟩,.string ⟨i.toArray⟩,.string (s.extract a (a+k)),.string ⟨#[]⟩] HR0.out size_str (by simp) rfl rfl ?_;intro w3 p3;have HR03:Hid (w3.heap[w.heap.size]?=some (.cells #[.int .i64 f,.int .i64 sv,.string ⟨t.toArray⟩,.string ⟨h.toArray⟩,.string ⟨ap.toArray⟩,.string ⟨p.toArray⟩,.string ⟨i.toArray⟩,.string (s.extract a (a+k)),.string ⟨#[]⟩] 29 (0,0))):=p3.row;have HR13:Hid (w3.heap[w.heap.size+1]?=some (.cells #[.int .i64 0,.int .i64 0,.string ⟨#[]⟩,.string ⟨#[]⟩,.string ⟨#[]⟩,.string ⟨#[]⟩,.string ⟨#[]⟩,.string ⟨#[]⟩,.string ⟨#[]⟩] 29 (0,0))):=(p3.other _ (by omega)).trans HR1.out;have HB3:Hid (Below w.heap.size w w3):=HB1.out.trans (p3.below (Nat.le_refl _));have hz3:w.heap.size+2<=w3.heap.size:=(by rw [p3.size];exact hz1);clear p3)
       | (go_at_call 55;refine (HPl.out _ (hT.next HB3.out)).mono ?_;rintro e w4 ⟨rfl,hb4⟩;have HR04:Hid (w4.heap[w.heap.size]?=some (.cells #[.int .i64 f,.int .i64 sv,.string ⟨t.toArray⟩,.string ⟨h.toArray⟩,.string ⟨ap.toArray⟩,.string ⟨p.toArray⟩,.string ⟨i.toArray⟩,.string (s.extract a (a+k)),.string ⟨#[]⟩] 29 (0,0))):=(hb4.block _ (by omega)).trans HR03.out;have HR14:Hid (w4.heap[w.heap.size+1]?=some (.cells #[.int .i64 0,.int .i64 0,.string ⟨#[]⟩,.string ⟨#[]⟩,.string ⟨#[]⟩,.string ⟨#[]⟩,.string ⟨#[]⟩,.string ⟨#[]⟩,.string ⟨#[]⟩] 29 (0,0))):=(hb4.block _ (by omega)).trans HR13.out;have HB4:Hid (Below w.heap.size w w4):=Below.next HB3.out (Nat.le_refl _) hb4;clear hb4)
       | (refine Hw.wpList_store_rowP rfl _ _ _ rfl rfl (w.heap.size+1) #[.int .i64 0,.int .i64 0,.string ⟨#[]⟩,.string ⟨#[]⟩,.string ⟨#[]⟩,.string ⟨#[]⟩,.string ⟨#[]⟩,.string ⟨#[]⟩,.string ⟨#[]⟩] rfl rfl _ _ HR14.out size_msg rfl rfl ?_;intro w8 p8;have P8:Hid (Hw.Put w4 _ _ _ w8):=p8;clear p8))
      refine bodyPost_ret (Hw.results_row3 Tryz.results89 _ _ _ _ _ _ _ rfl P8.out.row Tryz.underlying29 rfl size_msg) rfl ⟨?_,HB4.out.trans (P8.out.below (by omega))⟩
      rw [HF.out]
      exact ret_msg3 rfl rfl (by simp)
    ·rw [if_neg (by decide)] at HG
     by_cases hd:(s.data.toList.drop a).take k=[45]
     ·have HF:Hid (R=(⟨f,sv,t,h,ap,p,i,[],s.data.toList.drop (a+k+1)⟩,0,0)):=by show _=_;rw [HG,if_pos hd]
      have bd:(s.extract a (a+k)).toList=[45]:=by rw [Lib.toList_data,e1];exact hd
      clear hR1 hR2 hR3 hR4 e1 hd hend hk0 HG hbl
      go_enter Tryz.func89,Tryz.ntmps89
      go_wp2_with fail
      refine (HD.out _ ((hT.alloc _).alloc _)).mono ?_
      rintro e w1 ⟨rfl,hb⟩
      obtain ⟨r0,r1⟩:=two_blocks hb
      have HB1:Hid (Below w.heap.size w w1):=((((Below.refl _ _).alloc (Nat.le_refl _) _).alloc (by simp) _).trans (hb.mono (by simp;omega)))
      have hz1:w.heap.size+2<=w1.heap.size:=by have:=hb.size;simpa using this
      have HR0:Hid (w1.heap[w.heap.size]?=some (.cells #[.int .i64 f,.int .i64 sv,.string ⟨t.toArray⟩,.string ⟨h.toArray⟩,.string ⟨ap.toArray⟩,.string ⟨p.toArray⟩,.string ⟨i.toArray⟩,.string ⟨#[]⟩,.string ⟨#[]⟩] 29 (0,0))):=r0
      have HR1:Hid (w1.heap[w.heap.size+1]?=some (.cells #[.int .i64 0,.int .i64 0,.string ⟨#[]⟩,.string ⟨#[]⟩,.string ⟨#[]⟩,.string ⟨#[]⟩,.string ⟨#[]⟩,.string ⟨#[]⟩,.string ⟨#[]⟩] 29 (0,0))):=r1
      clear hb r0 r1
      go_wp2_with (first
       | (go_at_call 55;refine (HPl.out _ (hT.next HB1.out)).mono ?_;rintro e w4 ⟨rfl,hb4⟩;have HR04:Hid (w4.heap[w.heap.size]?=some (.cells #[.int .i64 f,.int .i64 sv,.string ⟨t.toArray⟩,.string ⟨h.toArray⟩,.string ⟨ap.toArray⟩,.string ⟨p.toArray⟩,.string ⟨i.toArray⟩,.string ⟨#[]⟩,.string ⟨#[]⟩] 29 (0,0))):=(hb4.block _ (by omega)).trans HR0.out;have HR14:Hid (w4.heap[w.heap.size+1]?=some (.cells #[.int .i64 0,.int .i64 0,.string ⟨#[]⟩,.string ⟨#[]⟩,.string ⟨#[]⟩,.string ⟨#[]⟩,.string ⟨#[]⟩,.string ⟨#[]⟩,.string ⟨#[]⟩] 29 (0,0))):=(hb4.block _ (by omega)).trans HR1.out;have HB4:Hid (Below w.heap.size w w4):=Below.next HB1.out (Nat.le_refl _) hb4;clear hb4)
       | (refine Hw.wpList_store_fieldP rfl _ _ _ rfl rfl w.heap.size 8 _ rfl rfl _ _ #[.int .i64 f,.int .i64 sv,.string ⟨t.toArray⟩,.string ⟨h.toArray⟩,.string ⟨ap.toArray⟩,.string ⟨p.toArray⟩,.string ⟨i.toArray⟩,.string ⟨#[]⟩,.string (s.extract (a+k+1) s.size)] HR04.out size_str (by simp) rfl rfl ?_;intro w5 p5;have HR05:Hid (w5.heap[w.heap.size]?=some (.cells #[.int .i64 f,.int .i64 sv,.string ⟨t.toArray⟩,.string ⟨h.toArray⟩,.string ⟨ap.toArray⟩,.string ⟨p.toArray⟩,.string ⟨i.toArray⟩,.string ⟨#[]⟩,.string (s.extract (a+k+1) s.size)] 29 (0,0))):=p5.row;have HR15:Hid (w5.heap[w.heap.size+1]?=some (.cells #[.int .i64 0,.int .i64 0,.string ⟨#[]⟩,.string ⟨#[]⟩,.string ⟨#[]⟩,.string ⟨#[]⟩,.string ⟨#[]⟩,.string ⟨#[]⟩,.string ⟨#[]⟩] 29 (0,0))):=(p5.other _ (by omega)).trans HR14.out;have HB5:Hid (Below w.heap.size w w5):=HB4.out.trans (p5.below (Nat.le_refl _));clear p5)
       | (refine wpList_load_row rfl _ _ rfl w.heap.size rfl _ _ _ _ HR05.out Tryz.underlying29 rfl size_msg ?_)
       | (refine Hw.wpList_store_rowP rfl _ _ _ rfl rfl (w.heap.size+1) _ rfl rfl _ _ HR15.out size_msg rfl rfl ?_;intro w8 p8;have P8:Hid (Hw.Put w5 _ _ _ w8):=p8;clear p8))
      refine bodyPost_ret (Hw.results_row3 Tryz.results89 _ _ _ _ _ _ _ rfl P8.out.row Tryz.underlying29 rfl size_msg) rfl ⟨?_,HB5.out.trans (P8.out.below (by omega))⟩
      rw [HF.out]
      exact ret_msg3 (by simp only [msgCells];rw [<-mk_eq E2.out]) rfl rfl
     ·have HF:Hid (R=(⟨f,sv,t,h,ap,p,i,(s.data.toList.drop a).take k,s.data.toList.drop (a+k+1)⟩,0,0)):=by show _=_;rw [HG,if_neg hd]
      have bd:((s.extract a (a+k)).toList == [45])=false:=by rw [Lib.toList_data,e1];simpa using hd
      have bd':¬ (s.extract a (a+k)).toList=[45]:=by rw [Lib.toList_data,e1];exact hd
      clear hR1 hR2 hR3 hR4 e1 hd hend hk0 HG hbl
      go_enter Tryz.func89,Tryz.ntmps89
      go_wp2_with fail
      refine (HD.out _ ((hT.alloc _).alloc _)).mono ?_
      rintro e w1 ⟨rfl,hb⟩
      obtain ⟨r0,r1⟩:=two_blocks hb
      have HB1:Hid (Below w.heap.size w w1):=((((Below.refl _ _).alloc (Nat.le_refl _) _).alloc (by simp) _).trans (hb.mono (by simp;omega)))
      have hz1:w.heap.size+2<=w1.heap.size:=by have:=hb.size;simpa using this
      have HR0:Hid (w1.heap[w.heap.size]?=some (.cells #[.int .i64 f,.int .i64 sv,.string ⟨t.toArray⟩,.string ⟨h.toArray⟩,.string ⟨ap.toArray⟩,.string ⟨p.toArray⟩,.string ⟨i.toArray⟩,.string ⟨#[]⟩,.string ⟨#[]⟩] 29 (0,0))):=r0
      have HR1:Hid (w1.heap[w.heap.size+1]?=some (.cells #[.int .i64 0,.int .i64 0,.string ⟨#[]⟩,.string ⟨#[]⟩,.string ⟨#[]⟩,.string ⟨#[]⟩,.string ⟨#[]⟩,.string ⟨#[]⟩,.string ⟨#[]⟩] 29 (0,0))):=r1
      clear hb r0 r1
      go_wp2_with (first
       | (refine Hw.wpList_store_fieldP rfl _ _ _ rfl rfl w.heap.size 7 _ rfl rfl _ _ #[.int .i64 f,.int .i64 sv,.string ⟨t.toArray⟩,.string ⟨h.toArray⟩,.string ⟨ap.toArray⟩,.string ⟨p.toArray⟩,.string ⟨i.toArray⟩,.string (s.extract a (a+k)),.string ⟨#[]⟩] HR0.out size_str (by simp) rfl rfl ?_;intro w3 p3;have HR03:Hid (w3.heap[w.heap.size]?=some (.cells #[.int .i64 f,.int .i64 sv,.string ⟨t.toArray⟩,.string ⟨h.toArray⟩,.string ⟨ap.toArray⟩,.string ⟨p.toArray⟩,.string ⟨i.toArray⟩,.string (s.extract a (a+k)),.string ⟨#[]⟩] 29 (0,0))):=p3.row;have HR13:Hid (w3.heap[w.heap.size+1]?=some (.cells #[.int .i64 0,.int .i64 0,.string ⟨#[]⟩,.string ⟨#[]⟩,.string ⟨#[]⟩,.string ⟨#[]⟩,.string ⟨#[]⟩,.string ⟨#[]⟩,.string ⟨#[]⟩] 29 (0,0))):=(p3.other _ (by omega)).trans HR1.out;have HB3:Hid (Below w.heap.size w w3):=HB1.out.trans (p3.below (Nat.le_refl _));have hz3:w.heap.size+2<=w3.heap.size:=(by rw [p3.size];exact hz1);clear p3)
       | (go_at_call 55;refine (HPl.out _ (hT.next HB3.out)).mono ?_;rintro e w4 ⟨rfl,hb4⟩;have HR04:Hid (w4.heap[w.heap.size]?=some (.cells #[.int .i64 f,.int .i64 sv,.string ⟨t.toArray⟩,.string ⟨h.toArray⟩,.string ⟨ap.toArray⟩,.string ⟨p.toArray⟩,.string ⟨i.toArray⟩,.string (s.extract a (a+k)),.string ⟨#[]⟩] 29 (0,0))):=(hb4.block _ (by omega)).trans HR03.out;have HR14:Hid (w4.heap[w.heap.size+1]?=some (.cells #[.int .i64 0,.int .i64 0,.string ⟨#[]⟩,.string ⟨#[]⟩,.string ⟨#[]⟩,.string ⟨#[]⟩,.string ⟨#[]⟩,.string ⟨#[]⟩,.string ⟨#[]⟩] 29 (0,0))):=(hb4.block _ (by omega)).trans HR13.out;have HB4:Hid (Below w.heap.size w w4):=Below.next HB3.out (Nat.le_refl _) hb4;clear hb4)
       | (refine Hw.wpList_store_fieldP rfl _ _ _ rfl rfl w.heap.size 8 _ rfl rfl _ _ #[.int .i64 f,.int .i64 sv,.string ⟨t.toArray⟩,.string ⟨h.toArray⟩,.string ⟨ap.toArray⟩,.string ⟨p.toArray⟩,.string ⟨i.toArray⟩,.string (s.extract a (a+k)),.string (s.extract (a+k+1) s.size)] HR04.out size_str (by simp) rfl rfl ?_;intro w5 p5;have HR05:Hid (w5.heap[w.heap.size]?=some (.cells #[.int .i64 f,.int .i64 sv,.string ⟨t.toArray⟩,.string ⟨h.toArray⟩,.string ⟨ap.toArray⟩,.string ⟨p.toArray⟩,.string ⟨i.toArray⟩,.string (s.extract a (a+k)),.string (s.extract (a+k+1) s.size)] 29 (0,0))):=p5.row;have HR15:Hid (w5.heap[w.heap.size+1]?=some (.cells #[.int .i64 0,.int .i64 0,.string ⟨#[]⟩,.string ⟨#[]⟩,.string ⟨#[]⟩,.string ⟨#[]⟩,.string ⟨#[]⟩,.string ⟨#[]⟩,.string ⟨#[]⟩] 29 (0,0))):=(p5.other _ (by omega)).trans HR14.out;have HB5:Hid (Below w.heap.size w w5):=HB4.out.trans (p5.below (Nat.le_refl _));clear p5)
       | (refine wpList_load_row rfl _ _ rfl w.heap.size rfl _ _ _ _ HR05.out Tryz.underlying29 rfl size_msg ?_)
       | (refine Hw.wpList_store_rowP rfl _ _ _ rfl rfl (w.heap.size+1) _ rfl rfl _ _ HR15.out size_msg rfl rfl ?_;intro w8 p8;have P8:Hid (Hw.Put w5 _ _ _ w8):=p8;clear p8))
      refine bodyPost_ret (Hw.results_row3 Tryz.results89 _ _ _ _ _ _ _ rfl P8.out.row Tryz.underlying29 rfl size_msg) rfl ⟨?_,HB5.out.trans (P8.out.below (by omega))⟩
      rw [HF.out]
      exact ret_msg3 (by simp only [msgCells];rw [<-mk_eq E1.out,<-mk_eq E2.out]) rfl rfl
   ·have bbl:(((s[a+k]'hlt).toNat:Int) != 32)=true:=by simp;omega
    have HF:Hid (R=(Hm.Msg.none,8,a)):=hR2 hlt hbl
    clear hR1 hR2 hR3 hR4 e1 hend hk0 hbl
    go_enter Tryz.func89,Tryz.ntmps89
    go_wp2_with fail
    refine (HD.out _ ((hT.alloc _).alloc _)).mono ?_
    rintro e w1 ⟨rfl,hb⟩
    obtain ⟨r0,r1⟩:=two_blocks hb
    have HB1:Hid (Below w.heap.size w w1):=((((Below.refl _ _).alloc (Nat.le_refl _) _).alloc (by simp) _).trans (hb.mono (by simp;omega)))
    have hz1:w.heap.size+2<=w1.heap.size:=by have:=hb.size;simpa using this
    have HR0:Hid (w1.heap[w.heap.size]?=some (.cells #[.int .i64 f,.int .i64 sv,.string ⟨t.toArray⟩,.string ⟨h.toArray⟩,.string ⟨ap.toArray⟩,.string ⟨p.toArray⟩,.string ⟨i.toArray⟩,.string ⟨#[]⟩,.string ⟨#[]⟩] 29 (0,0))):=r0
    have HR1:Hid (w1.heap[w.heap.size+1]?=some (.cells #[.int .i64 0,.int .i64 0,.string ⟨#[]⟩,.string ⟨#[]⟩,.string ⟨#[]⟩,.string ⟨#[]⟩,.string ⟨#[]⟩,.string ⟨#[]⟩,.string ⟨#[]⟩] 29 (0,0))):=r1
    clear hb r0 r1
    go_wp2_with (first
     | (refine Hw.wpList_store_rowP rfl _ _ _ rfl rfl (w.heap.size+1) #[.int .i64 0,.int .i64 0,.string ⟨#[]⟩,.string ⟨#[]⟩,.string ⟨#[]⟩,.string ⟨#[]⟩,.string ⟨#[]⟩,.string ⟨#[]⟩,.string ⟨#[]⟩] rfl rfl _ _ HR1.out size_msg rfl rfl ?_;intro w8 p8;have P8:Hid (Hw.Put w1 _ _ _ w8):=p8;clear p8))
    refine bodyPost_ret (Hw.results_row3 Tryz.results89 _ _ _ _ _ _ _ rfl P8.out.row Tryz.underlying29 rfl size_msg) rfl ⟨?_,HB1.out.trans (P8.out.below (by omega))⟩
    rw [HF.out]
    exact ret_msg3 rfl rfl rfl
end Go.Proofs.YtdlhbmncbmconaaGreatDoor
namespace Go.Proofs.YtdlhbmncbmconaaGreatDoor
open Go.RowKit Go.Sort
theorem dataText_any (m:Hm.Msg) (hd:m.data=[]) (ht:m.text=[]) (s:ByteArray) (a:Nat) (w:World) (hT:Tabs w) (ha:a<=s.size) (hs:s.size<=4000000000) :
  Calls Tryz.prog 89 #[.agg (msgCells m),.string s,.int .i64 a] w fun e w'=>
   e=.returned (.tuple #[.agg (msgCells (Hm.dataText m s.data.toList a).1),.int .i64 (Hm.dataText m s.data.toList a).2.1,.int .i64 (Hm.dataText m s.data.toList a).2.2])/\Below w.heap.size w w':=by
 obtain ⟨f,sv,t,h,ap,p,i,d,x⟩:=m
 obtain rfl:d=[]:=hd
 obtain rfl:x=[]:=ht
 have hk:=Hm.toldOrData_le (s.data.toList.drop a)
 rw [List.length_drop,Hm.len] at hk
 have HD:Hid (∀ w,Tabs w->Calls Tryz.prog 135 #[.string (s.extract a s.size)] w fun e w'=>e=.returned (.int .i64 (Hm.toldOrData (s.data.toList.drop a)))/\Below w.heap.size w w'):=fun w hT=>by
  have:=toldOrData_any (s.extract a s.size) (by simp;omega) w hT
  rwa [Hm.drop_ex] at this
 refine dataText_core f sv t h ap p i s a w hT ha hs _ (by omega) HD (Hm.dataText ⟨f,sv,t,h,ap,p,i,[],[]⟩ s.data.toList a) ?_ ?_ ?_ ?_
 ·intro h0
  unfold Hm.dataText
  rw [if_pos (.inl h0)]
 ·intro hlt hb
  unfold Hm.dataText
  rw [if_pos (.inr ⟨by rw [Hm.len];exact hlt,by rw [getD_at s _ hlt];exact hb⟩)]
 ·intro h0 he
  unfold Hm.dataText
  rw [if_neg (by rw [Hm.len];rintro (h | h);exact h0 h;omega),if_pos (by rw [Hm.len];exact he)]
 ·intro h0 hlt hb
  unfold Hm.dataText
  rw [if_neg (by rw [Hm.len,getD_at s _ hlt];rintro (h | h);exact h0 h;exact h.2 hb),if_neg (by rw [Hm.len];omega)]
  split
  ·rfl
  ·split<;>rfl
def rowW (ws:List (List UInt8)):Array Value:=(ws.map (fun l:List UInt8=>Value.string ⟨l.toArray⟩) ++ List.replicate (4 - ws.length) (Value.string ⟨#[]⟩)).toArray
theorem rowW_nil:rowW []=#[.string ⟨#[]⟩,.string ⟨#[]⟩,.string ⟨#[]⟩,.string ⟨#[]⟩]:=rfl
theorem rowW_size (ws:List (List UInt8)) (h:ws.length<=4):(rowW ws).size=4:=by simp [rowW];omega
theorem rowW_dash (ws:List (List UInt8)) (h:ws.length < 4):rowW (ws ++ [[]])=rowW ws:=by
 unfold rowW
 rw [List.map_append,List.append_assoc,show 4 - ws.length=(4 - (ws ++ [[]]).length)+1 by simp;omega,List.replicate_succ]
 rfl
theorem rowW_set (ws:List (List UInt8)) (p:List UInt8) (h:ws.length < 4):(rowW ws).setIfInBounds ws.length (.string ⟨p.toArray⟩)=rowW (ws ++ [p]):=by
 unfold rowW
 rw [List.setIfInBounds_toArray,List.set_append,if_neg (by simp),List.map_append,List.append_assoc,show 4 - ws.length=(4 - (ws ++ [p]).length)+1 by simp;omega,List.replicate_succ]
 simp
def kindCells:Array Value:=#[.int .i64 32,.int .i64 4,.int .i64 16,.int .i64 5,.int .i64 16,.int .i64 6,.int .i64 12,.int .i64 7]
theorem size_kinds:(Tryz.prog.info? 147).map (·.size)=some 8:=by kernel_rfl
theorem index_kind (k:Nat) (hk:k < 4) (w:World):(Instr.index 147 (.agg kindCells) (.int .i64 k)).run Tryz.prog w=.ok (.agg #[.int .i64 ((Hm.kinds.getD k (0,0)).1:Nat),.int .i64 ((Hm.kinds.getD k (0,0)).2:Nat)]) w:=by
 rcases (by omega:k=0∨k=1∨k=2∨k=3) with h | h | h | h<;>subst h<;>kernel_rfl
end Go.Proofs.YtdlhbmncbmconaaGreatDoor
namespace Go.Proofs.YtdlhbmncbmconaaGreatDoor
open Go.RowKit Go.Sort
attribute [local go_sem] alloc_drewN setCell_drewN
theorem cells2 {w:World} {g:Nat} {t:TypeId} {fr:Nat × Nat} {a b:Value} (h:w.heap[g]?=some (.cells #[a,b] t fr)):w.cell? ⟨g,0,none⟩=some a/\w.cell? ⟨g,1,none⟩=some b:=by
 constructor<;>simp [World.cell?,h]
theorem four_sets {w2:World} {g:Nat} {old:Array Value} {t:TypeId} (h:w2.heap[g]?=some (.cells old t (0,0))) (u v x y:Value) :
  Hw.Put w2 g t ((((old.setIfInBounds 3 u).setIfInBounds 4 v).setIfInBounds 5 x).setIfInBounds 6 y) ((((w2.setCell ⟨g,3,none⟩ u).setCell ⟨g,4,none⟩ v).setCell ⟨g,5,none⟩ x).setCell ⟨g,6,none⟩ y).drew:=by
 have h1:=Hw.put_setRow h (old.setIfInBounds 3 u)
 rw [<-setCell_eq_setRow w2 g 3 old t (0,0) u h] at h1
 have h2:=Hw.put_setRow h1.row ((old.setIfInBounds 3 u).setIfInBounds 4 v)
 rw [<-setCell_eq_setRow _ g 4 _ t (0,0) v h1.row] at h2
 have h3:=two_sets h2.row 5 6 x y
 exact ⟨h3.row,fun k hk=>(h3.other k hk).trans ((h2.other k hk).trans (h1.other k hk)),h3.size.trans (h2.size.trans h1.size),h3.os.trans (h2.os.trans h1.os),h3.tape.trans (h2.tape.trans h1.tape),h3.output.trans (h2.output.trans h1.output)⟩
set_option maxRecDepth 20000 in
set_option maxHeartbeats 2000000 in
theorem readNew_core (f sv:Int) (s:ByteArray) (a:Nat) (w:World) (hT:Tabs w) (ha:a<=s.size) (hs:s.size<=4000000000)
  (R:Hm.Msg × Nat × Nat) (hR:R=Hm.readNew f sv s.data.toList a) :
  Calls Tryz.prog 54 #[.agg #[.int .i64 f,.int .i64 sv,.string ⟨#[]⟩,.string ⟨#[]⟩,.string ⟨#[]⟩,.string ⟨#[]⟩,.string ⟨#[]⟩,.string ⟨#[]⟩,.string ⟨#[]⟩],.string s,.int .i64 a] w fun e w'=>
   e=.returned (.tuple #[.agg (msgCells R.1),.int .i64 R.2.1,.int .i64 R.2.2])/\Below w.heap.size w w':=by
 obtain ⟨p0,n0,h0⟩:∃ p0 n0,Hm.part s.data.toList a=(p0,n0):=⟨_,_,rfl⟩
 have hp0:=Hm.part_le s.data.toList a (by rw [Hm.len];exact ha)
 rw [h0,Hm.len] at hp0
 dsimp only at hp0
 have HP0:Hid (∀ w,Tabs w->Calls Tryz.prog 87 #[.string s,.int .i64 a] w fun e w'=>e=.returned (.tuple #[.string ⟨p0.toArray⟩,.int .i64 n0])/\∃ n,w'=w.drewN n):=fun w hT=>by
  have:=partAt_any s a hs ha w hT
  rwa [h0] at this
 obtain ⟨C,hC⟩:∃ C,C=kindCells:=⟨_,rfl⟩
 have HI:Hid (∀ (k:Nat),k < 4->∀ w:World,(Instr.index 147 (.agg C) (.int .i64 k)).run Tryz.prog w=.ok (.agg #[.int .i64 ((Hm.kinds.getD k (0,0)).1:Nat),.int .i64 ((Hm.kinds.getD k (0,0)).2:Nat)]) w):=by
  show ∀ (k:Nat),_
  rw [hC];exact index_kind
 have HC8:Hid (C.size=8):=by show _=_;rw [hC];rfl
 have HK:Hid (∀ w,Tabs w->∃ t fr,w.heap[0]?=some (.cells C t fr)):=fun w hT=>by rw [hC];exact hT.wk
 clear hC
 have h3:p0=[45]∨(¬ p0=[45]/\Hm.readTime p0=none)∨(¬ p0=[45]/\∃ tm,Hm.readTime p0=some tm):=by
  by_cases h:p0=[45]
  ·exact .inl h
  ·cases h2:Hm.readTime p0
   ·exact .inr (.inl ⟨h,rfl⟩)
   ·exact .inr (.inr ⟨h,_,rfl⟩)
 rcases h3 with hd | ⟨hd,htt⟩ | ⟨hd,tm,htt⟩
 ·obtain ⟨tm,htm⟩:∃ tm:List UInt8,tm=[]:=⟨_,rfl⟩
  have HR2:Hid (R=Hm.afterTime f sv tm s.data.toList n0):=by
   show _=_
   rw [htm,hR,Hm.readNew_some h0 (show Hm.timeOf p0=some [] by rw [Hm.timeOf,if_pos hd])]
  clear hR h0
  subst hd
  go_enter Tryz.func54,Tryz.ntmps54
  go_wp2_with fail
  refine (HP0.out _ ((hT.alloc _).alloc _)).mono ?_
  rintro e w1 ⟨rfl,hw1⟩
  obtain ⟨r0,r1⟩:=two_blocks (drew_below hw1)
  have HB1:Hid (Below w.heap.size w w1):=((((Below.refl _ _).alloc (Nat.le_refl _) _).alloc (by simp) _).trans ((drew_below hw1).mono (by simp;omega)))
  have hz1:w.heap.size+2<=w1.heap.size:=by have:=(drew_below hw1).size;simpa using this
  have HR0:Hid (w1.heap[w.heap.size]?=some (.cells #[.int .i64 f,.int .i64 sv,.string ⟨tm.toArray⟩,.string ⟨#[]⟩,.string ⟨#[]⟩,.string ⟨#[]⟩,.string ⟨#[]⟩,.string ⟨#[]⟩,.string ⟨#[]⟩] 29 (0,0))):=by show _=_;rw [htm];exact r0
  have HR1:Hid (w1.heap[w.heap.size+1]?=some (.cells #[.int .i64 0,.int .i64 0,.string ⟨#[]⟩,.string ⟨#[]⟩,.string ⟨#[]⟩,.string ⟨#[]⟩,.string ⟨#[]⟩,.string ⟨#[]⟩,.string ⟨#[]⟩] 29 (0,0))):=r1
  clear hw1 r0 r1 htm
  obtain ⟨kt,kfr,hkr⟩:=HK.out _ ((hT.next HB1.out).alloc (Obj.cells #[.string ⟨#[]⟩,.string ⟨#[]⟩,.string ⟨#[]⟩,.string ⟨#[]⟩] 78))
  have HKr:Hid ((w1.alloc (Obj.cells #[.string ⟨#[]⟩,.string ⟨#[]⟩,.string ⟨#[]⟩,.string ⟨#[]⟩] 78)).heap[0]?=some (Obj.cells C kt kfr)):=hkr
  clear hkr
  go_wp2_with (refine wpList_load_row rfl _ _ rfl 0 rfl _ _ _ _ HKr.out Tryz.underlying147 rfl (by rw [HC8.out];exact size_kinds) ?_)
  go_loopw [10,36] (fun nx ix wr=>∃ (ws:List (List UInt8)) (n:Nat),ws.length<=4/\ix=.int .i64 ws.length/\nx=.int .i64 n/\n<=s.size/\Hm.WInv s.data.toList n0 ws n/\wr.heap[w.heap.size]?=some (.cells #[.int .i64 f,.int .i64 sv,.string ⟨tm.toArray⟩,.string ⟨#[]⟩,.string ⟨#[]⟩,.string ⟨#[]⟩,.string ⟨#[]⟩,.string ⟨#[]⟩,.string ⟨#[]⟩] 29 (0,0))/\wr.heap[w.heap.size+1]?=some (.cells #[.int .i64 0,.int .i64 0,.string ⟨#[]⟩,.string ⟨#[]⟩,.string ⟨#[]⟩,.string ⟨#[]⟩,.string ⟨#[]⟩,.string ⟨#[]⟩,.string ⟨#[]⟩] 29 (0,0))/\wr.heap[w1.heap.size]?=some (.cells (rowW ws) 78 (0,0))/\Below w.heap.size w wr) (fun _ ix _=>4 - (intOf ix).toNat)
  case atStart=>
   refine ⟨[],n0,by simp,rfl,rfl,hp0.1,Hm.WInv_start _ _,(heap_alloc_old _ _ (by omega)).trans HR0.out,(heap_alloc_old _ _ (by omega)).trans HR1.out,?_,HB1.out.alloc HB1.out.size _⟩
   rw [rowW_nil];exact heap_alloc_new _ _
  case round=>
   obtain ⟨ws,n,hwl,rfl,rfl,hn,hinv,q0,q1,qW,hBr⟩:=hrel
   have HV:Hid (Hm.WInv s.data.toList n0 ws n):=hinv
   have Q0:Hid (wr.heap[w.heap.size]?=some (.cells #[.int .i64 f,.int .i64 sv,.string ⟨tm.toArray⟩,.string ⟨#[]⟩,.string ⟨#[]⟩,.string ⟨#[]⟩,.string ⟨#[]⟩,.string ⟨#[]⟩,.string ⟨#[]⟩] 29 (0,0))):=q0
   have Q1:Hid (wr.heap[w.heap.size+1]?=some (.cells #[.int .i64 0,.int .i64 0,.string ⟨#[]⟩,.string ⟨#[]⟩,.string ⟨#[]⟩,.string ⟨#[]⟩,.string ⟨#[]⟩,.string ⟨#[]⟩,.string ⟨#[]⟩] 29 (0,0))):=q1
   have QW:Hid (wr.heap[w1.heap.size]?=some (.cells (rowW ws) 78 (0,0))):=qW
   have HBr:Hid (Below w.heap.size w wr):=hBr
   have hzW:w1.heap.size < wr.heap.size:=(Array.getElem?_eq_some_iff.1 qW).1
   clear hinv q0 q1 qW hBr
   by_cases hlt:ws.length < 4
   ·have hix:=HI.out ws.length hlt
    obtain ⟨most,er,hke⟩:∃ most er,Hm.kinds.getD ws.length (0,0)=(most,er):=⟨_,_,rfl⟩
    have hmost:most<=32:=by rcases (by omega:ws.length=0∨ws.length=1∨ws.length=2∨ws.length=3) with h | h | h | h<;>rw [h] at hke<;>cases hke<;>omega
    rw [hke] at hix
    dsimp only at hix
    obtain ⟨p,n2,hpe⟩:∃ p n2,Hm.part s.data.toList n=(p,n2):=⟨_,_,rfl⟩
    have hpl:=Hm.part_le s.data.toList n (by rw [Hm.len];exact hn)
    rw [hpe,Hm.len] at hpl
    dsimp only at hpl
    have HP:Hid (∀ w,Tabs w->Calls Tryz.prog 87 #[.string s,.int .i64 n] w fun e w'=>e=.returned (.tuple #[.string ⟨p.toArray⟩,.int .i64 n2])/\∃ n,w'=w.drewN n):=fun w hT=>by
     have:=partAt_any s n hs hn w hT
     rwa [hpe] at this
    have HPE:Hid (Hm.part s.data.toList n=(p,n2)):=hpe
    have HKE:Hid (Hm.kinds.getD ws.length (0,0)=(most,er)):=hke
    clear hpe hke
    by_cases hd:p=[45]
    ·subst hd
     go_wp2_with fail
     refine (HP.out _ ((hT.next HBr.out).alloc _)).mono ?_
     rintro e w5 ⟨rfl,hw5⟩
     have hB5:=drew_below hw5
     have HB5:Hid (Below w.heap.size w w5):=Below.next (HBr.out.alloc HBr.out.size _) (Nat.le_refl _) hB5
     have Q05:Hid (w5.heap[w.heap.size]?=some (.cells #[.int .i64 f,.int .i64 sv,.string ⟨tm.toArray⟩,.string ⟨#[]⟩,.string ⟨#[]⟩,.string ⟨#[]⟩,.string ⟨#[]⟩,.string ⟨#[]⟩,.string ⟨#[]⟩] 29 (0,0))):=(hB5.block _ (by simp;omega)).trans ((heap_alloc_old _ _ (by omega)).trans Q0.out)
     have Q15:Hid (w5.heap[w.heap.size+1]?=some (.cells #[.int .i64 0,.int .i64 0,.string ⟨#[]⟩,.string ⟨#[]⟩,.string ⟨#[]⟩,.string ⟨#[]⟩,.string ⟨#[]⟩,.string ⟨#[]⟩,.string ⟨#[]⟩] 29 (0,0))):=(hB5.block _ (by simp;omega)).trans ((heap_alloc_old _ _ (by omega)).trans Q1.out)
     have QW5:Hid (w5.heap[w1.heap.size]?=some (.cells (rowW ws) 78 (0,0))):=(hB5.block _ (by simp;omega)).trans ((heap_alloc_old _ _ (by omega)).trans QW.out)
     clear hw5 hB5
     go_wp2
     go_roundw
     case rel=>exact ⟨ws ++ [[]],n2,by simp;omega,int_eq (by simp),rfl,hpl.1,Hm.WInv_dash hlt HPE.out HV.out,Q05.out,Q15.out,by rw [rowW_dash ws hlt];exact QW5.out,HB5.out⟩
     case measure=>simp [intOf];omega
    ·have bd:(p == [45])=false:=by simpa using hd
     have HWd:Hid (∀ w,Calls Tryz.prog 79 #[.string ⟨p.toArray⟩,.int .i64 most] w fun e w'=>e=.returned (.bool (Hm.word p most))/\w'=w):=fun w=>
      isWord_any ⟨p.toArray⟩ most w (by rw [mk_size];omega) (by omega)
     have HWI:Hid (Hm.word p (Hm.kinds.getD ws.length (0,0)).1=Hm.word p most):=by show _=_;rw [HKE.out]
     cases hwd:Hm.word p most
     ·have HF:Hid (R=(Hm.Msg.none,er,n)):=by
       show _=_
       have:=Hm.WInv_bad hlt HPE.out hd (by rw [HWI.out];exact hwd) HV.out
       rw [HKE.out] at this
       rw [HR2.out,Hm.afterTime_err this]
      rw [hwd] at HWd
      clear hd hwd
      go_wp2_with fail
      refine (HP.out _ ((hT.next HBr.out).alloc _)).mono ?_
      rintro e w5 ⟨rfl,hw5⟩
      have hB5:=drew_below hw5
      have HB5:Hid (Below w.heap.size w w5):=Below.next (HBr.out.alloc HBr.out.size _) (Nat.le_refl _) hB5
      have Q15:Hid (w5.heap[w.heap.size+1]?=some (.cells #[.int .i64 0,.int .i64 0,.string ⟨#[]⟩,.string ⟨#[]⟩,.string ⟨#[]⟩,.string ⟨#[]⟩,.string ⟨#[]⟩,.string ⟨#[]⟩,.string ⟨#[]⟩] 29 (0,0))):=(hB5.block _ (by simp;omega)).trans ((heap_alloc_old _ _ (by omega)).trans Q1.out)
      obtain ⟨c0,c1⟩:=cells2 (show w5.heap[wr.heap.size]?=some (.cells #[.int .i64 most,.int .i64 er] 146 (0,0)) from (hB5.block _ (by simp)).trans (heap_alloc_new _ _))
      clear hw5 hB5
      go_wp2_with fail
      refine (HWd.out _).mono ?_
      rintro e w6 ⟨rfl,rfl⟩
      go_wp2_with fail
      refine region_class (fun w'=>w'=w6.drew) mixed (by kernel_rfl) rfl ?_
      refine q_step _ rfl (fun w' hw'=>by unfold Oper.quietAt;go_simp;rfl) ?_
      intro K hK;go_simp;refine hK _ ?_;clear hK K
      refine q_step _ rfl (fun w' hw'=>by unfold Oper.quietAt;go_simp;rfl) ?_
      intro K hK;go_simp;refine hK _ ?_;clear hK K
      refine q_step (.int .i64 er) rfl (fun w' hw'=>by unfold Oper.quietAt;have hc:w'.cell? ⟨wr.heap.size,1,none⟩=some (.int .i64 er):=(by rw [hw'];exact c1);go_simp) ?_
      intro K hK;go_simp;refine hK _ ?_;clear hK K
      refine q_step _ rfl (fun w' hw'=>by unfold Oper.quietAt;go_simp;rfl) ?_
      intro K hK;go_simp;refine hK _ ?_;clear hK K
      refine q_step undef rfl (fun w' hw'=>Hw.quiet_store_self _ _ _ rfl (w.heap.size+1) _ rfl rfl 29 (by rw [hw'];exact Q15.out) size_msg rfl) ?_
      intro K hK;go_simp;refine hK _ ?_;clear hK K
      refine q_step _ rfl (fun w' hw'=>by unfold Oper.quietAt;go_simp;rfl) ?_
      intro K hK;go_simp;refine hK _ ?_;clear hK K
      refine q_step _ rfl (fun w' hw'=>by unfold Oper.quietAt;go_simp;rfl) ?_
      intro K hK;go_simp;refine hK _ ?_;clear hK K
      refine wpQuiet_nil ?_
      rintro w7 rfl
      go_wp2
      refine bodyPost_ret (Hw.results_row3 Tryz.results54 _ _ _ _ _ _ _ rfl (show w6.drew.heap[w.heap.size+1]?=_ from Q15.out) Tryz.underlying29 rfl size_msg) rfl ⟨?_,HB5.out.drew⟩
      rw [HF.out]
      exact ret_msg3 rfl rfl rfl
     ·have HV2:Hid (Hm.WInv s.data.toList n0 (ws ++ [p]) n2):=Hm.WInv_word hlt HPE.out hd (by rw [HWI.out];exact hwd) HV.out
      rw [hwd] at HWd
      clear hd hwd
      go_wp2_with fail
      refine (HP.out _ ((hT.next HBr.out).alloc _)).mono ?_
      rintro e w5 ⟨rfl,hw5⟩
      have hB5:=drew_below hw5
      have HB5:Hid (Below w.heap.size w w5):=Below.next (HBr.out.alloc HBr.out.size _) (Nat.le_refl _) hB5
      have Q05:Hid (w5.heap[w.heap.size]?=some (.cells #[.int .i64 f,.int .i64 sv,.string ⟨tm.toArray⟩,.string ⟨#[]⟩,.string ⟨#[]⟩,.string ⟨#[]⟩,.string ⟨#[]⟩,.string ⟨#[]⟩,.string ⟨#[]⟩] 29 (0,0))):=(hB5.block _ (by simp;omega)).trans ((heap_alloc_old _ _ (by omega)).trans Q0.out)
      have Q15:Hid (w5.heap[w.heap.size+1]?=some (.cells #[.int .i64 0,.int .i64 0,.string ⟨#[]⟩,.string ⟨#[]⟩,.string ⟨#[]⟩,.string ⟨#[]⟩,.string ⟨#[]⟩,.string ⟨#[]⟩,.string ⟨#[]⟩] 29 (0,0))):=(hB5.block _ (by simp;omega)).trans ((heap_alloc_old _ _ (by omega)).trans Q1.out)
      have QW5:Hid (w5.heap[w1.heap.size]?=some (.cells (rowW ws) 78 (0,0))):=(hB5.block _ (by simp;omega)).trans ((heap_alloc_old _ _ (by omega)).trans QW.out)
      obtain ⟨c0,c1⟩:=cells2 (show w5.heap[wr.heap.size]?=some (.cells #[.int .i64 most,.int .i64 er] 146 (0,0)) from (hB5.block _ (by simp)).trans (heap_alloc_new _ _))
      clear hw5 hB5
      go_wp2_with fail
      refine (HWd.out _).mono ?_
      rintro e w6 ⟨rfl,rfl⟩
      go_wp2_with (refine Hw.wpList_store_fieldP rfl _ _ _ rfl rfl w1.heap.size ws.length _ rfl rfl _ _ (rowW (ws ++ [p])) QW5.out size_str (by rw [rowW_size ws hwl];exact hlt) rfl (rowW_set ws p hlt) ?_;intro w7 p7;have P7:Hid (Hw.Put w6 w1.heap.size _ _ w7):=p7;clear p7)
      go_roundw
      case rel=>exact ⟨ws ++ [p],n2,by simp;omega,int_eq (by simp),rfl,hpl.1,HV2.out,(P7.out.other _ (by omega)).trans Q05.out,(P7.out.other _ (by omega)).trans Q15.out,P7.out.row,HB5.out.trans (P7.out.below (by omega))⟩
      case measure=>simp [intOf];omega
   ·obtain ⟨hE1,hE2⟩:=Hm.WInv_end (by omega) HV.out
    obtain ⟨w0a,w1a,w2a,w3a,rfl⟩:∃ a b c d,ws=[a,b,c,d]:=by
     match ws,(by omega:ws.length=4) with
     | [a,b,c,d],_=>exact ⟨a,b,c,d,rfl⟩
    have HE:Hid (R=Hm.dataText ⟨f,sv,tm,w0a,w1a,w2a,w3a,[],[]⟩ s.data.toList n):=by
     show _=_
     rw [HR2.out,Hm.afterTime_ok hE1,hE2]
     rfl
    clear hE1 hE2
    have HDT:Hid (∀ w,Tabs w->Calls Tryz.prog 89 #[.agg (msgCells ⟨f,sv,tm,w0a,w1a,w2a,w3a,[],[]⟩),.string s,.int .i64 n] w fun e w'=>
      e=.returned (.tuple #[.agg (msgCells R.1),.int .i64 R.2.1,.int .i64 R.2.2])/\Below w.heap.size w w'):=fun w hT=>by
     rw [HE.out];exact dataText_any _ rfl rfl s n w hT hn hs
    go_wp2_with fail
    have bW:∀ k (h:k < 4),wr.cell? ⟨w1.heap.size,k,none⟩=some (.string ⟨([w0a,w1a,w2a,w3a][k]'h).toArray⟩):=fun k h=>by
     have q:wr.heap[w1.heap.size]?=some (.cells #[.string ⟨w0a.toArray⟩,.string ⟨w1a.toArray⟩,.string ⟨w2a.toArray⟩,.string ⟨w3a.toArray⟩] 78 (0,0)):=QW.out
     rcases (by omega:k=0∨k=1∨k=2∨k=3) with h | h | h | h<;>subst h<;>exact cell_of_row _ _ _ _ _ _ q
    have b0:=bW 0 (by omega)
    have b1:=bW 1 (by omega)
    have b2:=bW 2 (by omega)
    have b3:=bW 3 (by omega)
    dsimp only [List.getElem_cons_zero,List.getElem_cons_succ] at b0 b1 b2 b3
    clear bW
    have m3:wr.cell? ⟨w.heap.size,3,none⟩=some (.string ⟨#[]⟩):=cell_of_row _ _ _ _ _ _ Q0.out
    have m4:wr.cell? ⟨w.heap.size,4,none⟩=some (.string ⟨#[]⟩):=cell_of_row _ _ _ _ _ _ Q0.out
    have m5:wr.cell? ⟨w.heap.size,5,none⟩=some (.string ⟨#[]⟩):=cell_of_row _ _ _ _ _ _ Q0.out
    have m6:wr.cell? ⟨w.heap.size,6,none⟩=some (.string ⟨#[]⟩):=cell_of_row _ _ _ _ _ _ Q0.out
    have fz:∀ k,wr.frozen? ⟨w.heap.size,k,none⟩=false:=fun k=>frozen_of_row _ _ _ _ _ Q0.out
    have hne:¬ w1.heap.size=w.heap.size:=by omega
    have hne2:¬ w.heap.size=w1.heap.size:=by omega
    go_region
    have p6:=four_sets Q0.out (.string ⟨w0a.toArray⟩) (.string ⟨w1a.toArray⟩) (.string ⟨w2a.toArray⟩) (.string ⟨w3a.toArray⟩)
    simp only [List.setIfInBounds_toArray,List.set_cons_succ,List.set_cons_zero] at p6
    generalize ((((wr.setCell ⟨w.heap.size,3,none⟩ (.string ⟨w0a.toArray⟩)).setCell ⟨w.heap.size,4,none⟩ (.string ⟨w1a.toArray⟩)).setCell ⟨w.heap.size,5,none⟩ (.string ⟨w2a.toArray⟩)).setCell ⟨w.heap.size,6,none⟩ (.string ⟨w3a.toArray⟩)).drew=w6 at p6 ⊢
    have HR6:Hid (w6.heap[w.heap.size]?=some (.cells #[.int .i64 f,.int .i64 sv,.string ⟨tm.toArray⟩,.string ⟨w0a.toArray⟩,.string ⟨w1a.toArray⟩,.string ⟨w2a.toArray⟩,.string ⟨w3a.toArray⟩,.string ⟨#[]⟩,.string ⟨#[]⟩] 29 (0,0))):=p6.row
    have HR7:Hid (w6.heap[w.heap.size+1]?=some (.cells #[.int .i64 0,.int .i64 0,.string ⟨#[]⟩,.string ⟨#[]⟩,.string ⟨#[]⟩,.string ⟨#[]⟩,.string ⟨#[]⟩,.string ⟨#[]⟩,.string ⟨#[]⟩] 29 (0,0))):=(p6.other _ (by omega)).trans Q1.out
    have HB6:Hid (Below w.heap.size w w6):=HBr.out.trans (p6.below (Nat.le_refl _))
    have hz6:w.heap.size+1 < w6.heap.size:=(Array.getElem?_eq_some_iff.1 HR7.out).1
    clear p6 b0 b1 b2 b3 m3 m4 m5 m6 fz hne hne2
    go_wp2_with (first
     | (refine wpList_load_row rfl _ _ rfl w.heap.size rfl _ _ _ _ HR6.out Tryz.underlying29 rfl size_msg ?_)
     | (go_at_call 89;refine (HDT.out _ (hT.next HB6.out)).mono ?_;rintro e w7 ⟨rfl,hb7⟩;have HR8:Hid (w7.heap[w.heap.size+1]?=some (.cells #[.int .i64 0,.int .i64 0,.string ⟨#[]⟩,.string ⟨#[]⟩,.string ⟨#[]⟩,.string ⟨#[]⟩,.string ⟨#[]⟩,.string ⟨#[]⟩,.string ⟨#[]⟩] 29 (0,0))):=(hb7.block _ hz6).trans HR7.out;have HB7:Hid (Below w.heap.size w w7):=Below.next HB6.out (Nat.le_refl _) hb7;clear hb7)
     | (refine Hw.wpList_store_rowP rfl _ _ _ rfl rfl (w.heap.size+1) (msgCells R.1) rfl rfl _ _ HR8.out size_msg rfl rfl ?_;intro w8 p8;have P8:Hid (Hw.Put w7 _ _ _ w8):=p8;clear p8))
    refine bodyPost_ret (Hw.results_row3 Tryz.results54 _ _ _ _ _ _ _ rfl P8.out.row Tryz.underlying29 rfl size_msg) rfl ⟨?_,HB7.out.trans (P8.out.below (by omega))⟩
    exact ret_msg3 rfl rfl rfl
 ·have HF:Hid (R=(Hm.Msg.none,3,a)):=by
   show _=_
   rw [hR,Hm.readNew_none h0 (show Hm.timeOf p0=none by rw [Hm.timeOf,if_neg hd];exact htt)]
  have bd0:(p0 == [45])=false:=by simpa using hd
  have HTm:Hid (∀ w,Tabs w->Calls Tryz.prog 88 #[.string ⟨p0.toArray⟩] w fun e w'=>e=.returned (.tuple #[.string ⟨#[]⟩,.bool false])/\Below w.heap.size w w'):=fun w hT=>by
   have:=readTime_any ⟨p0.toArray⟩ w hT (by rw [mk_size];omega)
   rwa [show (⟨p0.toArray⟩:ByteArray).data.toList=p0 from rfl,htt] at this
  clear hR h0 hd htt
  go_enter Tryz.func54,Tryz.ntmps54
  go_wp2_with fail
  refine (HP0.out _ ((hT.alloc _).alloc _)).mono ?_
  rintro e w1 ⟨rfl,hw1⟩
  obtain ⟨r0,r1⟩:=two_blocks (drew_below hw1)
  have HBa:Hid (Below w.heap.size w w1):=((((Below.refl _ _).alloc (Nat.le_refl _) _).alloc (by simp) _).trans ((drew_below hw1).mono (by simp;omega)))
  have hza:w.heap.size+2<=w1.heap.size:=by have:=(drew_below hw1).size;simpa using this
  have HRa:Hid (w1.heap[w.heap.size]?=some (.cells #[.int .i64 f,.int .i64 sv,.string ⟨#[]⟩,.string ⟨#[]⟩,.string ⟨#[]⟩,.string ⟨#[]⟩,.string ⟨#[]⟩,.string ⟨#[]⟩,.string ⟨#[]⟩] 29 (0,0))):=r0
  have HRb:Hid (w1.heap[w.heap.size+1]?=some (.cells #[.int .i64 0,.int .i64 0,.string ⟨#[]⟩,.string ⟨#[]⟩,.string ⟨#[]⟩,.string ⟨#[]⟩,.string ⟨#[]⟩,.string ⟨#[]⟩,.string ⟨#[]⟩] 29 (0,0))):=r1
  clear hw1 r0 r1
  go_wp2_with fail
  refine (HTm.out _ (hT.next HBa.out)).mono ?_
  rintro e w2 ⟨rfl,hb2⟩
  have HBb:Hid (Below w.heap.size w w2):=Below.next HBa.out (Nat.le_refl _) hb2
  have HRc:Hid (w2.heap[w.heap.size+1]?=some (.cells #[.int .i64 0,.int .i64 0,.string ⟨#[]⟩,.string ⟨#[]⟩,.string ⟨#[]⟩,.string ⟨#[]⟩,.string ⟨#[]⟩,.string ⟨#[]⟩,.string ⟨#[]⟩] 29 (0,0))):=(hb2.block _ (by omega)).trans HRb.out
  clear hb2 HRa HRb
  go_wp2_with (refine Hw.wpList_store_rowP rfl _ _ _ rfl rfl (w.heap.size+1) #[.int .i64 0,.int .i64 0,.string ⟨#[]⟩,.string ⟨#[]⟩,.string ⟨#[]⟩,.string ⟨#[]⟩,.string ⟨#[]⟩,.string ⟨#[]⟩,.string ⟨#[]⟩] rfl rfl _ _ HRc.out size_msg rfl rfl ?_;intro w8 p8;have P8:Hid (Hw.Put w2 _ _ _ w8):=p8;clear p8)
  refine bodyPost_ret (Hw.results_row3 Tryz.results54 _ _ _ _ _ _ _ rfl P8.out.row Tryz.underlying29 rfl size_msg) rfl ⟨?_,HBb.out.trans (P8.out.below (by omega))⟩
  rw [HF.out]
  exact ret_msg3 rfl rfl rfl
 ·have HR2:Hid (R=Hm.afterTime f sv tm s.data.toList n0):=by
   show _=_
   rw [hR,Hm.readNew_some h0 (show Hm.timeOf p0=some tm by rw [Hm.timeOf,if_neg hd];exact htt)]
  have bd0:(p0 == [45])=false:=by simpa using hd
  have HTm:Hid (∀ w,Tabs w->Calls Tryz.prog 88 #[.string ⟨p0.toArray⟩] w fun e w'=>e=.returned (.tuple #[.string ⟨tm.toArray⟩,.bool true])/\Below w.heap.size w w'):=fun w hT=>by
   have:=readTime_any ⟨p0.toArray⟩ w hT (by rw [mk_size];omega)
   rwa [show (⟨p0.toArray⟩:ByteArray).data.toList=p0 from rfl,htt] at this
  clear hR h0 hd htt
  go_enter Tryz.func54,Tryz.ntmps54
  go_wp2_with fail
  refine (HP0.out _ ((hT.alloc _).alloc _)).mono ?_
  rintro e wa ⟨rfl,hw1⟩
  obtain ⟨r0,r1⟩:=two_blocks (drew_below hw1)
  have HBa:Hid (Below w.heap.size w wa):=((((Below.refl _ _).alloc (Nat.le_refl _) _).alloc (by simp) _).trans ((drew_below hw1).mono (by simp;omega)))
  have hza:w.heap.size+2<=wa.heap.size:=by have:=(drew_below hw1).size;simpa using this
  have HRa:Hid (wa.heap[w.heap.size]?=some (.cells #[.int .i64 f,.int .i64 sv,.string ⟨#[]⟩,.string ⟨#[]⟩,.string ⟨#[]⟩,.string ⟨#[]⟩,.string ⟨#[]⟩,.string ⟨#[]⟩,.string ⟨#[]⟩] 29 (0,0))):=r0
  have HRb:Hid (wa.heap[w.heap.size+1]?=some (.cells #[.int .i64 0,.int .i64 0,.string ⟨#[]⟩,.string ⟨#[]⟩,.string ⟨#[]⟩,.string ⟨#[]⟩,.string ⟨#[]⟩,.string ⟨#[]⟩,.string ⟨#[]⟩] 29 (0,0))):=r1
  clear hw1 r0 r1
  go_wp2_with fail
  refine (HTm.out _ (hT.next HBa.out)).mono ?_
  rintro e w2 ⟨rfl,hb2⟩
  have HBb:Hid (Below w.heap.size w w2):=Below.next HBa.out (Nat.le_refl _) hb2
  have HRc:Hid (w2.heap[w.heap.size]?=some (.cells #[.int .i64 f,.int .i64 sv,.string ⟨#[]⟩,.string ⟨#[]⟩,.string ⟨#[]⟩,.string ⟨#[]⟩,.string ⟨#[]⟩,.string ⟨#[]⟩,.string ⟨#[]⟩] 29 (0,0))):=(hb2.block _ (by omega)).trans HRa.out
  have HRd:Hid (w2.heap[w.heap.size+1]?=some (.cells #[.int .i64 0,.int .i64 0,.string ⟨#[]⟩,.string ⟨#[]⟩,.string ⟨#[]⟩,.string ⟨#[]⟩,.string ⟨#[]⟩,.string ⟨#[]⟩,.string ⟨#[]⟩] 29 (0,0))):=(hb2.block _ (by omega)).trans HRb.out
  have hzb:wa.heap.size<=w2.heap.size:=hb2.size
  clear hb2 HRa HRb HBa
  go_wp2_with (first
   | (refine Hw.wpList_store_fieldP rfl _ _ _ rfl rfl w.heap.size 2 _ rfl rfl _ _ #[.int .i64 f,.int .i64 sv,.string ⟨tm.toArray⟩,.string ⟨#[]⟩,.string ⟨#[]⟩,.string ⟨#[]⟩,.string ⟨#[]⟩,.string ⟨#[]⟩,.string ⟨#[]⟩] HRc.out size_str (by simp) rfl rfl ?_;intro w1 p3;have HR0:Hid (w1.heap[w.heap.size]?=some (.cells #[.int .i64 f,.int .i64 sv,.string ⟨tm.toArray⟩,.string ⟨#[]⟩,.string ⟨#[]⟩,.string ⟨#[]⟩,.string ⟨#[]⟩,.string ⟨#[]⟩,.string ⟨#[]⟩] 29 (0,0))):=p3.row;have HR1:Hid (w1.heap[w.heap.size+1]?=some (.cells #[.int .i64 0,.int .i64 0,.string ⟨#[]⟩,.string ⟨#[]⟩,.string ⟨#[]⟩,.string ⟨#[]⟩,.string ⟨#[]⟩,.string ⟨#[]⟩,.string ⟨#[]⟩] 29 (0,0))):=(p3.other _ (by omega)).trans HRd.out;have HB1:Hid (Below w.heap.size w w1):=HBb.out.trans (p3.below (Nat.le_refl _));have hz1:w.heap.size+2<=w1.heap.size:=(by have:=p3.size;omega);clear p3;obtain ⟨kt,kfr,hkr⟩:=HK.out _ ((hT.next HB1.out).alloc (Obj.cells #[.string ⟨#[]⟩,.string ⟨#[]⟩,.string ⟨#[]⟩,.string ⟨#[]⟩] 78));have HKr:Hid ((w1.alloc (Obj.cells #[.string ⟨#[]⟩,.string ⟨#[]⟩,.string ⟨#[]⟩,.string ⟨#[]⟩] 78)).heap[0]?=some (Obj.cells C kt kfr)):=hkr;clear hkr)
   | (refine wpList_load_row rfl _ _ rfl 0 rfl _ _ _ _ HKr.out Tryz.underlying147 rfl (by rw [HC8.out];exact size_kinds) ?_))
  go_loopw [10,36] (fun nx ix wr=>∃ (ws:List (List UInt8)) (n:Nat),ws.length<=4/\ix=.int .i64 ws.length/\nx=.int .i64 n/\n<=s.size/\Hm.WInv s.data.toList n0 ws n/\wr.heap[w.heap.size]?=some (.cells #[.int .i64 f,.int .i64 sv,.string ⟨tm.toArray⟩,.string ⟨#[]⟩,.string ⟨#[]⟩,.string ⟨#[]⟩,.string ⟨#[]⟩,.string ⟨#[]⟩,.string ⟨#[]⟩] 29 (0,0))/\wr.heap[w.heap.size+1]?=some (.cells #[.int .i64 0,.int .i64 0,.string ⟨#[]⟩,.string ⟨#[]⟩,.string ⟨#[]⟩,.string ⟨#[]⟩,.string ⟨#[]⟩,.string ⟨#[]⟩,.string ⟨#[]⟩] 29 (0,0))/\wr.heap[w1.heap.size]?=some (.cells (rowW ws) 78 (0,0))/\Below w.heap.size w wr) (fun _ ix _=>4 - (intOf ix).toNat)
  case atStart=>
   refine ⟨[],n0,by simp,rfl,rfl,hp0.1,Hm.WInv_start _ _,(heap_alloc_old _ _ (by omega)).trans HR0.out,(heap_alloc_old _ _ (by omega)).trans HR1.out,?_,HB1.out.alloc HB1.out.size _⟩
   rw [rowW_nil];exact heap_alloc_new _ _
  case round=>
   obtain ⟨ws,n,hwl,rfl,rfl,hn,hinv,q0,q1,qW,hBr⟩:=hrel
   have HV:Hid (Hm.WInv s.data.toList n0 ws n):=hinv
   have Q0:Hid (wr.heap[w.heap.size]?=some (.cells #[.int .i64 f,.int .i64 sv,.string ⟨tm.toArray⟩,.string ⟨#[]⟩,.string ⟨#[]⟩,.string ⟨#[]⟩,.string ⟨#[]⟩,.string ⟨#[]⟩,.string ⟨#[]⟩] 29 (0,0))):=q0
   have Q1:Hid (wr.heap[w.heap.size+1]?=some (.cells #[.int .i64 0,.int .i64 0,.string ⟨#[]⟩,.string ⟨#[]⟩,.string ⟨#[]⟩,.string ⟨#[]⟩,.string ⟨#[]⟩,.string ⟨#[]⟩,.string ⟨#[]⟩] 29 (0,0))):=q1
   have QW:Hid (wr.heap[w1.heap.size]?=some (.cells (rowW ws) 78 (0,0))):=qW
   have HBr:Hid (Below w.heap.size w wr):=hBr
   have hzW:w1.heap.size < wr.heap.size:=(Array.getElem?_eq_some_iff.1 qW).1
   clear hinv q0 q1 qW hBr
   by_cases hlt:ws.length < 4
   ·have hix:=HI.out ws.length hlt
    obtain ⟨most,er,hke⟩:∃ most er,Hm.kinds.getD ws.length (0,0)=(most,er):=⟨_,_,rfl⟩
    have hmost:most<=32:=by rcases (by omega:ws.length=0∨ws.length=1∨ws.length=2∨ws.length=3) with h | h | h | h<;>rw [h] at hke<;>cases hke<;>omega
    rw [hke] at hix
    dsimp only at hix
    obtain ⟨p,n2,hpe⟩:∃ p n2,Hm.part s.data.toList n=(p,n2):=⟨_,_,rfl⟩
    have hpl:=Hm.part_le s.data.toList n (by rw [Hm.len];exact hn)
    rw [hpe,Hm.len] at hpl
    dsimp only at hpl
    have HP:Hid (∀ w,Tabs w->Calls Tryz.prog 87 #[.string s,.int .i64 n] w fun e w'=>e=.returned (.tuple #[.string ⟨p.toArray⟩,.int .i64 n2])/\∃ n,w'=w.drewN n):=fun w hT=>by
     have:=partAt_any s n hs hn w hT
     rwa [hpe] at this
    have HPE:Hid (Hm.part s.data.toList n=(p,n2)):=hpe
    have HKE:Hid (Hm.kinds.getD ws.length (0,0)=(most,er)):=hke
    clear hpe hke
    by_cases hd:p=[45]
    ·subst hd
     go_wp2_with fail
     refine (HP.out _ ((hT.next HBr.out).alloc _)).mono ?_
     rintro e w5 ⟨rfl,hw5⟩
     have hB5:=drew_below hw5
     have HB5:Hid (Below w.heap.size w w5):=Below.next (HBr.out.alloc HBr.out.size _) (Nat.le_refl _) hB5
     have Q05:Hid (w5.heap[w.heap.size]?=some (.cells #[.int .i64 f,.int .i64 sv,.string ⟨tm.toArray⟩,.string ⟨#[]⟩,.string ⟨#[]⟩,.string ⟨#[]⟩,.string ⟨#[]⟩,.string ⟨#[]⟩,.string ⟨#[]⟩] 29 (0,0))):=(hB5.block _ (by simp;omega)).trans ((heap_alloc_old _ _ (by omega)).trans Q0.out)
     have Q15:Hid (w5.heap[w.heap.size+1]?=some (.cells #[.int .i64 0,.int .i64 0,.string ⟨#[]⟩,.string ⟨#[]⟩,.string ⟨#[]⟩,.string ⟨#[]⟩,.string ⟨#[]⟩,.string ⟨#[]⟩,.string ⟨#[]⟩] 29 (0,0))):=(hB5.block _ (by simp;omega)).trans ((heap_alloc_old _ _ (by omega)).trans Q1.out)
     have QW5:Hid (w5.heap[w1.heap.size]?=some (.cells (rowW ws) 78 (0,0))):=(hB5.block _ (by simp;omega)).trans ((heap_alloc_old _ _ (by omega)).trans QW.out)
     clear hw5 hB5
     go_wp2
     go_roundw
     case rel=>exact ⟨ws ++ [[]],n2,by simp;omega,int_eq (by simp),rfl,hpl.1,Hm.WInv_dash hlt HPE.out HV.out,Q05.out,Q15.out,by rw [rowW_dash ws hlt];exact QW5.out,HB5.out⟩
     case measure=>simp [intOf];omega
    ·have bd:(p == [45])=false:=by simpa using hd
     have HWd:Hid (∀ w,Calls Tryz.prog 79 #[.string ⟨p.toArray⟩,.int .i64 most] w fun e w'=>e=.returned (.bool (Hm.word p most))/\w'=w):=fun w=>
      isWord_any ⟨p.toArray⟩ most w (by rw [mk_size];omega) (by omega)
     have HWI:Hid (Hm.word p (Hm.kinds.getD ws.length (0,0)).1=Hm.word p most):=by show _=_;rw [HKE.out]
     cases hwd:Hm.word p most
     ·have HF:Hid (R=(Hm.Msg.none,er,n)):=by
       show _=_
       have:=Hm.WInv_bad hlt HPE.out hd (by rw [HWI.out];exact hwd) HV.out
       rw [HKE.out] at this
       rw [HR2.out,Hm.afterTime_err this]
      rw [hwd] at HWd
      clear hd hwd
      go_wp2_with fail
      refine (HP.out _ ((hT.next HBr.out).alloc _)).mono ?_
      rintro e w5 ⟨rfl,hw5⟩
      have hB5:=drew_below hw5
      have HB5:Hid (Below w.heap.size w w5):=Below.next (HBr.out.alloc HBr.out.size _) (Nat.le_refl _) hB5
      have Q15:Hid (w5.heap[w.heap.size+1]?=some (.cells #[.int .i64 0,.int .i64 0,.string ⟨#[]⟩,.string ⟨#[]⟩,.string ⟨#[]⟩,.string ⟨#[]⟩,.string ⟨#[]⟩,.string ⟨#[]⟩,.string ⟨#[]⟩] 29 (0,0))):=(hB5.block _ (by simp;omega)).trans ((heap_alloc_old _ _ (by omega)).trans Q1.out)
      obtain ⟨c0,c1⟩:=cells2 (show w5.heap[wr.heap.size]?=some (.cells #[.int .i64 most,.int .i64 er] 146 (0,0)) from (hB5.block _ (by simp)).trans (heap_alloc_new _ _))
      clear hw5 hB5
      go_wp2_with fail
      refine (HWd.out _).mono ?_
      rintro e w6 ⟨rfl,rfl⟩
      go_wp2_with fail
      refine region_class (fun w'=>w'=w6.drew) mixed (by kernel_rfl) rfl ?_
      refine q_step _ rfl (fun w' hw'=>by unfold Oper.quietAt;go_simp;rfl) ?_
      intro K hK;go_simp;refine hK _ ?_;clear hK K
      refine q_step _ rfl (fun w' hw'=>by unfold Oper.quietAt;go_simp;rfl) ?_
      intro K hK;go_simp;refine hK _ ?_;clear hK K
      refine q_step (.int .i64 er) rfl (fun w' hw'=>by unfold Oper.quietAt;have hc:w'.cell? ⟨wr.heap.size,1,none⟩=some (.int .i64 er):=(by rw [hw'];exact c1);go_simp) ?_
      intro K hK;go_simp;refine hK _ ?_;clear hK K
      refine q_step _ rfl (fun w' hw'=>by unfold Oper.quietAt;go_simp;rfl) ?_
      intro K hK;go_simp;refine hK _ ?_;clear hK K
      refine q_step undef rfl (fun w' hw'=>Hw.quiet_store_self _ _ _ rfl (w.heap.size+1) _ rfl rfl 29 (by rw [hw'];exact Q15.out) size_msg rfl) ?_
      intro K hK;go_simp;refine hK _ ?_;clear hK K
      refine q_step _ rfl (fun w' hw'=>by unfold Oper.quietAt;go_simp;rfl) ?_
      intro K hK;go_simp;refine hK _ ?_;clear hK K
      refine q_step _ rfl (fun w' hw'=>by unfold Oper.quietAt;go_simp;rfl) ?_
      intro K hK;go_simp;refine hK _ ?_;clear hK K
      refine wpQuiet_nil ?_
      rintro w7 rfl
      go_wp2
      refine bodyPost_ret (Hw.results_row3 Tryz.results54 _ _ _ _ _ _ _ rfl (show w6.drew.heap[w.heap.size+1]?=_ from Q15.out) Tryz.underlying29 rfl size_msg) rfl ⟨?_,HB5.out.drew⟩
      rw [HF.out]
      exact ret_msg3 rfl rfl rfl
     ·have HV2:Hid (Hm.WInv s.data.toList n0 (ws ++ [p]) n2):=Hm.WInv_word hlt HPE.out hd (by rw [HWI.out];exact hwd) HV.out
      rw [hwd] at HWd
      clear hd hwd
      go_wp2_with fail
      refine (HP.out _ ((hT.next HBr.out).alloc _)).mono ?_
      rintro e w5 ⟨rfl,hw5⟩
      have hB5:=drew_below hw5
      have HB5:Hid (Below w.heap.size w w5):=Below.next (HBr.out.alloc HBr.out.size _) (Nat.le_refl _) hB5
      have Q05:Hid (w5.heap[w.heap.size]?=some (.cells #[.int .i64 f,.int .i64 sv,.string ⟨tm.toArray⟩,.string ⟨#[]⟩,.string ⟨#[]⟩,.string ⟨#[]⟩,.string ⟨#[]⟩,.string ⟨#[]⟩,.string ⟨#[]⟩] 29 (0,0))):=(hB5.block _ (by simp;omega)).trans ((heap_alloc_old _ _ (by omega)).trans Q0.out)
      have Q15:Hid (w5.heap[w.heap.size+1]?=some (.cells #[.int .i64 0,.int .i64 0,.string ⟨#[]⟩,.string ⟨#[]⟩,.string ⟨#[]⟩,.string ⟨#[]⟩,.string ⟨#[]⟩,.string ⟨#[]⟩,.string ⟨#[]⟩] 29 (0,0))):=(hB5.block _ (by simp;omega)).trans ((heap_alloc_old _ _ (by omega)).trans Q1.out)
      have QW5:Hid (w5.heap[w1.heap.size]?=some (.cells (rowW ws) 78 (0,0))):=(hB5.block _ (by simp;omega)).trans ((heap_alloc_old _ _ (by omega)).trans QW.out)
      obtain ⟨c0,c1⟩:=cells2 (show w5.heap[wr.heap.size]?=some (.cells #[.int .i64 most,.int .i64 er] 146 (0,0)) from (hB5.block _ (by simp)).trans (heap_alloc_new _ _))
      clear hw5 hB5
      go_wp2_with fail
      refine (HWd.out _).mono ?_
      rintro e w6 ⟨rfl,rfl⟩
      go_wp2_with (refine Hw.wpList_store_fieldP rfl _ _ _ rfl rfl w1.heap.size ws.length _ rfl rfl _ _ (rowW (ws ++ [p])) QW5.out size_str (by rw [rowW_size ws hwl];exact hlt) rfl (rowW_set ws p hlt) ?_;intro w7 p7;have P7:Hid (Hw.Put w6 w1.heap.size _ _ w7):=p7;clear p7)
      go_roundw
      case rel=>exact ⟨ws ++ [p],n2,by simp;omega,int_eq (by simp),rfl,hpl.1,HV2.out,(P7.out.other _ (by omega)).trans Q05.out,(P7.out.other _ (by omega)).trans Q15.out,P7.out.row,HB5.out.trans (P7.out.below (by omega))⟩
      case measure=>simp [intOf];omega
   ·obtain ⟨hE1,hE2⟩:=Hm.WInv_end (by omega) HV.out
    obtain ⟨w0a,w1a,w2a,w3a,rfl⟩:∃ a b c d,ws=[a,b,c,d]:=by
     match ws,(by omega:ws.length=4) with
     | [a,b,c,d],_=>exact ⟨a,b,c,d,rfl⟩
    have HE:Hid (R=Hm.dataText ⟨f,sv,tm,w0a,w1a,w2a,w3a,[],[]⟩ s.data.toList n):=by
     show _=_
     rw [HR2.out,Hm.afterTime_ok hE1,hE2]
     rfl
    clear hE1 hE2
    have HDT:Hid (∀ w,Tabs w->Calls Tryz.prog 89 #[.agg (msgCells ⟨f,sv,tm,w0a,w1a,w2a,w3a,[],[]⟩),.string s,.int .i64 n] w fun e w'=>
      e=.returned (.tuple #[.agg (msgCells R.1),.int .i64 R.2.1,.int .i64 R.2.2])/\Below w.heap.size w w'):=fun w hT=>by
     rw [HE.out];exact dataText_any _ rfl rfl s n w hT hn hs
    go_wp2_with fail
    have bW:∀ k (h:k < 4),wr.cell? ⟨w1.heap.size,k,none⟩=some (.string ⟨([w0a,w1a,w2a,w3a][k]'h).toArray⟩):=fun k h=>by
     have q:wr.heap[w1.heap.size]?=some (.cells #[.string ⟨w0a.toArray⟩,.string ⟨w1a.toArray⟩,.string ⟨w2a.toArray⟩,.string ⟨w3a.toArray⟩] 78 (0,0)):=QW.out
     rcases (by omega:k=0∨k=1∨k=2∨k=3) with h | h | h | h<;>subst h<;>exact cell_of_row _ _ _ _ _ _ q
    have b0:=bW 0 (by omega)
    have b1:=bW 1 (by omega)
    have b2:=bW 2 (by omega)
    have b3:=bW 3 (by omega)
    dsimp only [List.getElem_cons_zero,List.getElem_cons_succ] at b0 b1 b2 b3
    clear bW
    have m3:wr.cell? ⟨w.heap.size,3,none⟩=some (.string ⟨#[]⟩):=cell_of_row _ _ _ _ _ _ Q0.out
    have m4:wr.cell? ⟨w.heap.size,4,none⟩=some (.string ⟨#[]⟩):=cell_of_row _ _ _ _ _ _ Q0.out
    have m5:wr.cell? ⟨w.heap.size,5,none⟩=some (.string ⟨#[]⟩):=cell_of_row _ _ _ _ _ _ Q0.out
    have m6:wr.cell? ⟨w.heap.size,6,none⟩=some (.string ⟨#[]⟩):=cell_of_row _ _ _ _ _ _ Q0.out
    have fz:∀ k,wr.frozen? ⟨w.heap.size,k,none⟩=false:=fun k=>frozen_of_row _ _ _ _ _ Q0.out
    have hne:¬ w1.heap.size=w.heap.size:=by omega
    have hne2:¬ w.heap.size=w1.heap.size:=by omega
    go_region
    have p6:=four_sets Q0.out (.string ⟨w0a.toArray⟩) (.string ⟨w1a.toArray⟩) (.string ⟨w2a.toArray⟩) (.string ⟨w3a.toArray⟩)
    simp only [List.setIfInBounds_toArray,List.set_cons_succ,List.set_cons_zero] at p6
    generalize ((((wr.setCell ⟨w.heap.size,3,none⟩ (.string ⟨w0a.toArray⟩)).setCell ⟨w.heap.size,4,none⟩ (.string ⟨w1a.toArray⟩)).setCell ⟨w.heap.size,5,none⟩ (.string ⟨w2a.toArray⟩)).setCell ⟨w.heap.size,6,none⟩ (.string ⟨w3a.toArray⟩)).drew=w6 at p6 ⊢
    have HR6:Hid (w6.heap[w.heap.size]?=some (.cells #[.int .i64 f,.int .i64 sv,.string ⟨tm.toArray⟩,.string ⟨w0a.toArray⟩,.string ⟨w1a.toArray⟩,.string ⟨w2a.toArray⟩,.string ⟨w3a.toArray⟩,.string ⟨#[]⟩,.string ⟨#[]⟩] 29 (0,0))):=p6.row
    have HR7:Hid (w6.heap[w.heap.size+1]?=some (.cells #[.int .i64 0,.int .i64 0,.string ⟨#[]⟩,.string ⟨#[]⟩,.string ⟨#[]⟩,.string ⟨#[]⟩,.string ⟨#[]⟩,.string ⟨#[]⟩,.string ⟨#[]⟩] 29 (0,0))):=(p6.other _ (by omega)).trans Q1.out
    have HB6:Hid (Below w.heap.size w w6):=HBr.out.trans (p6.below (Nat.le_refl _))
    have hz6:w.heap.size+1 < w6.heap.size:=(Array.getElem?_eq_some_iff.1 HR7.out).1
    clear p6 b0 b1 b2 b3 m3 m4 m5 m6 fz hne hne2
    go_wp2_with (first
     | (refine wpList_load_row rfl _ _ rfl w.heap.size rfl _ _ _ _ HR6.out Tryz.underlying29 rfl size_msg ?_)
     | (go_at_call 89;refine (HDT.out _ (hT.next HB6.out)).mono ?_;rintro e w7 ⟨rfl,hb7⟩;have HR8:Hid (w7.heap[w.heap.size+1]?=some (.cells #[.int .i64 0,.int .i64 0,.string ⟨#[]⟩,.string ⟨#[]⟩,.string ⟨#[]⟩,.string ⟨#[]⟩,.string ⟨#[]⟩,.string ⟨#[]⟩,.string ⟨#[]⟩] 29 (0,0))):=(hb7.block _ hz6).trans HR7.out;have HB7:Hid (Below w.heap.size w w7):=Below.next HB6.out (Nat.le_refl _) hb7;clear hb7)
     | (refine Hw.wpList_store_rowP rfl _ _ _ rfl rfl (w.heap.size+1) (msgCells R.1) rfl rfl _ _ HR8.out size_msg rfl rfl ?_;intro w8 p8;have P8:Hid (Hw.Put w7 _ _ _ w8):=p8;clear p8))
    refine bodyPost_ret (Hw.results_row3 Tryz.results54 _ _ _ _ _ _ _ rfl P8.out.row Tryz.underlying29 rfl size_msg) rfl ⟨?_,HB7.out.trans (P8.out.below (by omega))⟩
    exact ret_msg3 rfl rfl rfl
end Go.Proofs.YtdlhbmncbmconaaGreatDoor
namespace Go.Proofs.YtdlhbmncbmconaaGreatDoor
open Go.RowKit Go.Sort
attribute [local go_sem] alloc_drewN setCell_drewN
theorem alloc2_new (w:World) (x y:Obj):((w.alloc x).alloc y).heap[w.heap.size+1]?=some y:=by
 have:=heap_alloc_new (w.alloc x) y
 rwa [show (w.alloc x).heap.size=w.heap.size+1 by simp] at this
theorem read_long (s:ByteArray) (y:Int) (w:World) (h:200 < s.size) (hs:s.size<=9223372036854775800) :
  Calls Tryz.prog 21 #[.string s,.int .i64 y] w fun e w'=>
   e=.returned (.tuple #[.agg (msgCells Hm.Msg.none),.int .i64 1,.int .i64 0])/\Below w.heap.size w w':=by
 have hi:(200:Int) < (s.size:Int):=by omega
 clear h hs
 go_enter Tryz.func21,Tryz.ntmps21
 go_wp2_with fail
 refine bodyPost_ret (Hw.results_row3 Tryz.results21 _ _ _ _ _ _ _ rfl (heap_alloc_new _ _) Tryz.underlying29 rfl size_msg) rfl ⟨?_,(Below.refl _ _).alloc (Nat.le_refl _) _⟩
 exact ret_msg3 rfl rfl rfl
theorem read_year (s:ByteArray) (y:Int) (w:World) (h:s.size<=200) (hy:Hm.isYear y=false) :
  Calls Tryz.prog 21 #[.string s,.int .i64 y] w fun e w'=>
   e=.returned (.tuple #[.agg (msgCells Hm.Msg.none),.int .i64 10,.int .i64 0])/\Below w.heap.size w w':=by
 have hi:¬ (200:Int) < (s.size:Int):=by omega
 clear h
 go_enter Tryz.func21,Tryz.ntmps21
 go_wp2_with fail
 refine (isYear_any y _).mono ?_
 rintro e w1 ⟨rfl,rfl⟩
 rw [hy]
 go_wp2_with fail
 refine bodyPost_ret (Hw.results_row3 Tryz.results21 _ _ _ _ _ _ _ rfl (heap_alloc_new _ _) Tryz.underlying29 rfl size_msg) rfl ⟨?_,(Below.refl _ _).alloc (Nat.le_refl _) _⟩
 exact ret_msg3 rfl rfl rfl
set_option maxRecDepth 20000 in
set_option maxHeartbeats 400000 in
theorem read_new (s:ByteArray) (y:Int) (w:World) (hT:Tabs w) (h:s.size<=200) (hy:Hm.isYear y=true) (src a:Nat) (hsa:Hm.source s.data.toList=(src,a)) (ha:0 < a) (hp:Lib.hasPrefix (s.data.toList.drop a) [49,32]=true)
  (R:Hm.Msg × Nat × Nat) (hR:R=Hm.readNew ((src:Int) / 8) ((src:Int) % 8) s.data.toList (a+2)) :
  Calls Tryz.prog 21 #[.string s,.int .i64 y] w fun e w'=>
   e=.returned (.tuple #[.agg (msgCells R.1),.int .i64 R.2.1,.int .i64 R.2.2])/\Below w.heap.size w w':=by
 have hi:¬ (200:Int) < (s.size:Int):=by omega
 have hl:=Hm.prefix_le _ _ hp
 rw [Hm.len] at hl
 have hsl:=(Hm.source_le s.data.toList).1
 rw [hsa] at hsl
 have hwr:wrap64 ((src:Int) / 8)=(src:Int) / 8:=by unfold wrap64;omega
 have hz:s.size<=4000000000:=by omega
 have hai:(0:Int) < (a:Int):=by omega
 have hai2:(a:Int)<=(s.size:Int):=by omega
 clear h
 have HN:Hid (∀ w,Tabs w->Calls Tryz.prog 54 #[.agg #[.int .i64 ((src:Int) / 8),.int .i64 ((src:Int) % 8),.string ⟨#[]⟩,.string ⟨#[]⟩,.string ⟨#[]⟩,.string ⟨#[]⟩,.string ⟨#[]⟩,.string ⟨#[]⟩,.string ⟨#[]⟩],.string s,.int .i64 ((a+2:Nat):Int)] w fun e w'=>
   e=.returned (.tuple #[.agg (msgCells R.1),.int .i64 R.2.1,.int .i64 R.2.2])/\Below w.heap.size w w'):=fun w hT=>readNew_core _ _ s (a+2) w hT hl hz R hR
 have HS:Hid (∀ w,Calls Tryz.prog 52 #[.string s] w fun e w'=>e=.returned (.tuple #[.int .i64 src,.int .i64 a])/\w'=w):=fun w=>by
  have:=readSource_any s w hz
  rwa [hsa] at this
 have HP:Hid (∀ w,Calls Tryz.prog 53 #[.string (s.extract a s.size),.string ⟨#[49,32]⟩] w fun e w'=>e=.returned (.bool true)/\w'=w):=fun w=>by
  have:=Tryz.strings_HasPrefix (s.extract a s.size) ⟨#[49,32]⟩ w
  rwa [Hm.drop_ex,show (⟨#[49,32]⟩:ByteArray).data.toList=[49,32] from rfl,hp] at this
 clear hsa hp hR ha
 go_enter Tryz.func21,Tryz.ntmps21
 go_wp2_with fail
 refine (isYear_any y _).mono ?_
 rintro e w1 ⟨rfl,rfl⟩
 rw [hy]
 go_wp2_with fail
 refine (HS.out _).mono ?_
 rintro e w2 ⟨rfl,rfl⟩
 go_wp2_with fail
 refine (HP.out _).mono ?_
 rintro e w3 ⟨rfl,rfl⟩
 obtain ⟨W,hW⟩:∃ W,(w.alloc (.cells #[.int .i64 0,.int .i64 0,.string ⟨#[]⟩,.string ⟨#[]⟩,.string ⟨#[]⟩,.string ⟨#[]⟩,.string ⟨#[]⟩,.string ⟨#[]⟩,.string ⟨#[]⟩] 29)).alloc (.cells #[.int .i64 ((src:Int) / 8),.int .i64 ((src:Int) % 8),.string ⟨#[]⟩,.string ⟨#[]⟩,.string ⟨#[]⟩,.string ⟨#[]⟩,.string ⟨#[]⟩,.string ⟨#[]⟩,.string ⟨#[]⟩] 29)=W:=⟨_,rfl⟩
 have HB1:Hid (Below w.heap.size w W):=hW ▸ ((Below.refl _ _).alloc (Nat.le_refl _) _).alloc (by simp) _
 have HR1:Hid (W.heap[w.heap.size+1]?=some (.cells #[.int .i64 ((src:Int) / 8),.int .i64 ((src:Int) % 8),.string ⟨#[]⟩,.string ⟨#[]⟩,.string ⟨#[]⟩,.string ⟨#[]⟩,.string ⟨#[]⟩,.string ⟨#[]⟩,.string ⟨#[]⟩] 29 (0,0))):=hW ▸ alloc2_new _ _ _
 have HR0:Hid (W.heap[w.heap.size]?=some (.cells #[.int .i64 0,.int .i64 0,.string ⟨#[]⟩,.string ⟨#[]⟩,.string ⟨#[]⟩,.string ⟨#[]⟩,.string ⟨#[]⟩,.string ⟨#[]⟩,.string ⟨#[]⟩] 29 (0,0))):=hW ▸ (heap_alloc_old _ _ (by simp)).trans (heap_alloc_new _ _)
 have hzW:w.heap.size < W.heap.size:=(Array.getElem?_eq_some_iff.1 HR0.out).1
 rw [hW]
 clear hW
 go_wp2_with (first
  | (refine wpList_load_row rfl _ _ rfl (w.heap.size+1) rfl _ _ _ _ HR1.out Tryz.underlying29 rfl size_msg ?_)
  | (go_at_call 54;refine (HN.out _ (hT.next HB1.out)).mono ?_;rintro e w7 ⟨rfl,hb7⟩;have HR8:Hid (w7.heap[w.heap.size]?=some (.cells #[.int .i64 0,.int .i64 0,.string ⟨#[]⟩,.string ⟨#[]⟩,.string ⟨#[]⟩,.string ⟨#[]⟩,.string ⟨#[]⟩,.string ⟨#[]⟩,.string ⟨#[]⟩] 29 (0,0))):=(hb7.block _ hzW).trans HR0.out;have HB7:Hid (Below w.heap.size w w7):=Below.next HB1.out (Nat.le_refl _) hb7;clear hb7)
  | (refine Hw.wpList_store_rowP rfl _ _ _ rfl rfl w.heap.size (msgCells R.1) rfl rfl _ _ HR8.out size_msg rfl rfl ?_;intro w8 p8;have P8:Hid (Hw.Put w7 _ _ _ w8):=p8;clear p8))
 refine bodyPost_ret (Hw.results_row3 Tryz.results21 _ _ _ _ _ _ _ rfl P8.out.row Tryz.underlying29 rfl size_msg) rfl ⟨?_,HB7.out.trans (P8.out.below (Nat.le_refl _))⟩
 exact ret_msg3 rfl rfl rfl
set_option maxRecDepth 20000 in
set_option maxHeartbeats 400000 in
theorem read_bad0 (s:ByteArray) (y:Int) (w:World) (hT:Tabs w) (h:s.size<=200) (hy:Hm.isYear y=true) (src a:Nat) (hsa:Hm.source s.data.toList=(src,a)) (ha:a=0) (hpl:Hm.plain (s.data.toList.drop a)=false) :
  Calls Tryz.prog 21 #[.string s,.int .i64 y] w fun e w'=>
   e=.returned (.tuple #[.agg (msgCells Hm.Msg.none),.int .i64 9,.int .i64 a])/\Below w.heap.size w w':=by
 have hi:¬ (200:Int) < (s.size:Int):=by omega
 have hsl:=Hm.source_le s.data.toList
 rw [hsa,Hm.len] at hsl
 dsimp only at hsl
 have hwr:wrap64 ((src:Int) / 8)=(src:Int) / 8:=by unfold wrap64;omega
 have hz:s.size<=4000000000:=by omega
 have ha0:¬ (0:Int) < (a:Int):=by omega
 clear ha
 have hai2:(a:Int)<=(s.size:Int):=by omega
 clear h
 have HS:Hid (∀ w,Calls Tryz.prog 52 #[.string s] w fun e w'=>e=.returned (.tuple #[.int .i64 src,.int .i64 a])/\w'=w):=fun w=>by
  have:=readSource_any s w hz
  rwa [hsa] at this
 have HPl:Hid (∀ w,Tabs w->Calls Tryz.prog 55 #[.string (s.extract a s.size)] w fun e w'=>e=.returned (.bool false)/\Below w.heap.size w w'):=fun w hT=>by
  have:=isPlain_any (s.extract a s.size) w hT (by simp;omega)
  rwa [Hm.drop_ex,hpl] at this
 clear hsa hpl
 go_enter Tryz.func21,Tryz.ntmps21
 go_wp2_with fail
 refine (isYear_any y _).mono ?_
 rintro e w1 ⟨rfl,rfl⟩
 rw [hy]
 go_wp2_with fail
 refine (HS.out _).mono ?_
 rintro e w2 ⟨rfl,rfl⟩
 go_wp2_with fail
 obtain ⟨W,hW⟩:∃ W,(w.alloc (.cells #[.int .i64 0,.int .i64 0,.string ⟨#[]⟩,.string ⟨#[]⟩,.string ⟨#[]⟩,.string ⟨#[]⟩,.string ⟨#[]⟩,.string ⟨#[]⟩,.string ⟨#[]⟩] 29)).alloc (.cells #[.int .i64 ((src:Int) / 8),.int .i64 ((src:Int) % 8),.string ⟨#[]⟩,.string ⟨#[]⟩,.string ⟨#[]⟩,.string ⟨#[]⟩,.string ⟨#[]⟩,.string ⟨#[]⟩,.string ⟨#[]⟩] 29)=W:=⟨_,rfl⟩
 have HB1:Hid (Below w.heap.size w W):=hW ▸ ((Below.refl _ _).alloc (Nat.le_refl _) _).alloc (by simp) _
 have HR1:Hid (W.heap[w.heap.size+1]?=some (.cells #[.int .i64 ((src:Int) / 8),.int .i64 ((src:Int) % 8),.string ⟨#[]⟩,.string ⟨#[]⟩,.string ⟨#[]⟩,.string ⟨#[]⟩,.string ⟨#[]⟩,.string ⟨#[]⟩,.string ⟨#[]⟩] 29 (0,0))):=hW ▸ alloc2_new _ _ _
 have HR0:Hid (W.heap[w.heap.size]?=some (.cells #[.int .i64 0,.int .i64 0,.string ⟨#[]⟩,.string ⟨#[]⟩,.string ⟨#[]⟩,.string ⟨#[]⟩,.string ⟨#[]⟩,.string ⟨#[]⟩,.string ⟨#[]⟩] 29 (0,0))):=hW ▸ (heap_alloc_old _ _ (by simp)).trans (heap_alloc_new _ _)
 have hzW:w.heap.size+1 < W.heap.size:=(Array.getElem?_eq_some_iff.1 HR1.out).1
 rw [hW]
 clear hW
 refine (HPl.out _ (hT.next HB1.out)).mono ?_
 rintro e w4 ⟨rfl,hb4⟩
 have HR04:Hid (w4.heap[w.heap.size]?=some (.cells #[.int .i64 0,.int .i64 0,.string ⟨#[]⟩,.string ⟨#[]⟩,.string ⟨#[]⟩,.string ⟨#[]⟩,.string ⟨#[]⟩,.string ⟨#[]⟩,.string ⟨#[]⟩] 29 (0,0))):=(hb4.block _ (by omega)).trans HR0.out
 have HR14:Hid (w4.heap[w.heap.size+1]?=some (.cells #[.int .i64 ((src:Int) / 8),.int .i64 ((src:Int) % 8),.string ⟨#[]⟩,.string ⟨#[]⟩,.string ⟨#[]⟩,.string ⟨#[]⟩,.string ⟨#[]⟩,.string ⟨#[]⟩,.string ⟨#[]⟩] 29 (0,0))):=(hb4.block _ (by omega)).trans HR1.out
 have HB4:Hid (Below w.heap.size w w4):=Below.next HB1.out (Nat.le_refl _) hb4
 have hz4:w.heap.size+1 < w4.heap.size:=(by have:=hb4.size;omega)
 clear hb4
 go_wp2_with (first
  | (refine Hw.wpList_store_rowP rfl _ _ _ rfl rfl w.heap.size #[.int .i64 0,.int .i64 0,.string ⟨#[]⟩,.string ⟨#[]⟩,.string ⟨#[]⟩,.string ⟨#[]⟩,.string ⟨#[]⟩,.string ⟨#[]⟩,.string ⟨#[]⟩] rfl rfl _ _ HR04.out size_msg rfl rfl ?_;intro w8 p8;have P8:Hid (Hw.Put w4 _ _ _ w8):=p8;clear p8))
 refine bodyPost_ret (Hw.results_row3 Tryz.results21 _ _ _ _ _ _ _ rfl P8.out.row Tryz.underlying29 rfl size_msg) rfl ⟨?_,HB4.out.trans (P8.out.below (Nat.le_refl _))⟩
 exact ret_msg3 rfl rfl rfl
set_option maxRecDepth 20000 in
set_option maxHeartbeats 400000 in
theorem read_bad1 (s:ByteArray) (y:Int) (w:World) (hT:Tabs w) (h:s.size<=200) (hy:Hm.isYear y=true) (src a:Nat) (hsa:Hm.source s.data.toList=(src,a)) (ha:0 < a) (hp:Lib.hasPrefix (s.data.toList.drop a) [49,32]=false) (hpl:Hm.plain (s.data.toList.drop a)=false) :
  Calls Tryz.prog 21 #[.string s,.int .i64 y] w fun e w'=>
   e=.returned (.tuple #[.agg (msgCells Hm.Msg.none),.int .i64 9,.int .i64 a])/\Below w.heap.size w w':=by
 have hi:¬ (200:Int) < (s.size:Int):=by omega
 have hsl:=Hm.source_le s.data.toList
 rw [hsa,Hm.len] at hsl
 dsimp only at hsl
 have hwr:wrap64 ((src:Int) / 8)=(src:Int) / 8:=by unfold wrap64;omega
 have hz:s.size<=4000000000:=by omega
 have hai:(0:Int) < (a:Int):=by omega
 have hai2:(a:Int)<=(s.size:Int):=by omega
 clear h
 have HS:Hid (∀ w,Calls Tryz.prog 52 #[.string s] w fun e w'=>e=.returned (.tuple #[.int .i64 src,.int .i64 a])/\w'=w):=fun w=>by
  have:=readSource_any s w hz
  rwa [hsa] at this
 have HPl:Hid (∀ w,Tabs w->Calls Tryz.prog 55 #[.string (s.extract a s.size)] w fun e w'=>e=.returned (.bool false)/\Below w.heap.size w w'):=fun w hT=>by
  have:=isPlain_any (s.extract a s.size) w hT (by simp;omega)
  rwa [Hm.drop_ex,hpl] at this
 have HP:Hid (∀ w,Calls Tryz.prog 53 #[.string (s.extract a s.size),.string ⟨#[49,32]⟩] w fun e w'=>e=.returned (.bool false)/\w'=w):=fun w=>by
  have:=Tryz.strings_HasPrefix (s.extract a s.size) ⟨#[49,32]⟩ w
  rwa [Hm.drop_ex,show (⟨#[49,32]⟩:ByteArray).data.toList=[49,32] from rfl,hp] at this
 clear hp
 clear hsa hpl
 go_enter Tryz.func21,Tryz.ntmps21
 go_wp2_with fail
 refine (isYear_any y _).mono ?_
 rintro e w1 ⟨rfl,rfl⟩
 rw [hy]
 go_wp2_with fail
 refine (HS.out _).mono ?_
 rintro e w2 ⟨rfl,rfl⟩
 go_wp2_with fail
 refine (HP.out _).mono ?_
 rintro e w3 ⟨rfl,rfl⟩
 obtain ⟨W,hW⟩:∃ W,(w.alloc (.cells #[.int .i64 0,.int .i64 0,.string ⟨#[]⟩,.string ⟨#[]⟩,.string ⟨#[]⟩,.string ⟨#[]⟩,.string ⟨#[]⟩,.string ⟨#[]⟩,.string ⟨#[]⟩] 29)).alloc (.cells #[.int .i64 ((src:Int) / 8),.int .i64 ((src:Int) % 8),.string ⟨#[]⟩,.string ⟨#[]⟩,.string ⟨#[]⟩,.string ⟨#[]⟩,.string ⟨#[]⟩,.string ⟨#[]⟩,.string ⟨#[]⟩] 29)=W:=⟨_,rfl⟩
 have HB1:Hid (Below w.heap.size w W):=hW ▸ ((Below.refl _ _).alloc (Nat.le_refl _) _).alloc (by simp) _
 have HR1:Hid (W.heap[w.heap.size+1]?=some (.cells #[.int .i64 ((src:Int) / 8),.int .i64 ((src:Int) % 8),.string ⟨#[]⟩,.string ⟨#[]⟩,.string ⟨#[]⟩,.string ⟨#[]⟩,.string ⟨#[]⟩,.string ⟨#[]⟩,.string ⟨#[]⟩] 29 (0,0))):=hW ▸ alloc2_new _ _ _
 have HR0:Hid (W.heap[w.heap.size]?=some (.cells #[.int .i64 0,.int .i64 0,.string ⟨#[]⟩,.string ⟨#[]⟩,.string ⟨#[]⟩,.string ⟨#[]⟩,.string ⟨#[]⟩,.string ⟨#[]⟩,.string ⟨#[]⟩] 29 (0,0))):=hW ▸ (heap_alloc_old _ _ (by simp)).trans (heap_alloc_new _ _)
 have hzW:w.heap.size+1 < W.heap.size:=(Array.getElem?_eq_some_iff.1 HR1.out).1
 rw [hW]
 clear hW
 go_wp2_with (first
  | (go_at_call 55;refine (HPl.out _ (hT.next HB1.out)).mono ?_;rintro e w4 ⟨rfl,hb4⟩;have HR04:Hid (w4.heap[w.heap.size]?=some (.cells #[.int .i64 0,.int .i64 0,.string ⟨#[]⟩,.string ⟨#[]⟩,.string ⟨#[]⟩,.string ⟨#[]⟩,.string ⟨#[]⟩,.string ⟨#[]⟩,.string ⟨#[]⟩] 29 (0,0))):=(hb4.block _ (by omega)).trans HR0.out;have HR14:Hid (w4.heap[w.heap.size+1]?=some (.cells #[.int .i64 ((src:Int) / 8),.int .i64 ((src:Int) % 8),.string ⟨#[]⟩,.string ⟨#[]⟩,.string ⟨#[]⟩,.string ⟨#[]⟩,.string ⟨#[]⟩,.string ⟨#[]⟩,.string ⟨#[]⟩] 29 (0,0))):=(hb4.block _ (by omega)).trans HR1.out;have HB4:Hid (Below w.heap.size w w4):=Below.next HB1.out (Nat.le_refl _) hb4;have hz4:w.heap.size+1 < w4.heap.size:=(by have:=hb4.size;omega);clear hb4)
  | (refine Hw.wpList_store_rowP rfl _ _ _ rfl rfl w.heap.size #[.int .i64 0,.int .i64 0,.string ⟨#[]⟩,.string ⟨#[]⟩,.string ⟨#[]⟩,.string ⟨#[]⟩,.string ⟨#[]⟩,.string ⟨#[]⟩,.string ⟨#[]⟩] rfl rfl _ _ HR04.out size_msg rfl rfl ?_;intro w8 p8;have P8:Hid (Hw.Put w4 _ _ _ w8):=p8;clear p8))
 refine bodyPost_ret (Hw.results_row3 Tryz.results21 _ _ _ _ _ _ _ rfl P8.out.row Tryz.underlying29 rfl size_msg) rfl ⟨?_,HB4.out.trans (P8.out.below (Nat.le_refl _))⟩
 exact ret_msg3 rfl rfl rfl
set_option maxRecDepth 20000 in
set_option maxHeartbeats 400000 in
theorem read_old0 (s:ByteArray) (y:Int) (w:World) (hT:Tabs w) (h:s.size<=200) (hy:Hm.isYear y=true) (src a:Nat) (hsa:Hm.source s.data.toList=(src,a)) (ha:a=0) (hpl:Hm.plain (s.data.toList.drop a)=true) :
  Calls Tryz.prog 21 #[.string s,.int .i64 y] w fun e w'=>
   e=.returned (.tuple #[.agg (msgCells (Hm.readOld (Hm.Msg.of ((src:Int) / 8) ((src:Int) % 8)) (s.data.toList.drop a) y.toNat)),.int .i64 0,.int .i64 0])/\Below w.heap.size w w':=by
 have hi:¬ (200:Int) < (s.size:Int):=by omega
 have hsl:=Hm.source_le s.data.toList
 rw [hsa,Hm.len] at hsl
 dsimp only at hsl
 have hwr:wrap64 ((src:Int) / 8)=(src:Int) / 8:=by unfold wrap64;omega
 have hz:s.size<=4000000000:=by omega
 have ha0:¬ (0:Int) < (a:Int):=by omega
 clear ha
 have hai2:(a:Int)<=(s.size:Int):=by omega
 clear h
 have HS:Hid (∀ w,Calls Tryz.prog 52 #[.string s] w fun e w'=>e=.returned (.tuple #[.int .i64 src,.int .i64 a])/\w'=w):=fun w=>by
  have:=readSource_any s w hz
  rwa [hsa] at this
 have HPl:Hid (∀ w,Tabs w->Calls Tryz.prog 55 #[.string (s.extract a s.size)] w fun e w'=>e=.returned (.bool true)/\Below w.heap.size w w'):=fun w hT=>by
  have:=isPlain_any (s.extract a s.size) w hT (by simp;omega)
  rwa [Hm.drop_ex,hpl] at this
 have hy2:1<=y/\y<=9999:=by unfold Hm.isYear at hy;simpa using hy
 have HO:Hid (∀ w,Tabs w->Calls Tryz.prog 56 #[.agg #[.int .i64 ((src:Int) / 8),.int .i64 ((src:Int) % 8),.string ⟨#[]⟩,.string ⟨#[]⟩,.string ⟨#[]⟩,.string ⟨#[]⟩,.string ⟨#[]⟩,.string ⟨#[]⟩,.string ⟨#[]⟩],.string (s.extract a s.size),.int .i64 y] w fun e w'=>e=.returned (.agg (msgCells (Hm.readOld (Hm.Msg.of ((src:Int) / 8) ((src:Int) % 8)) (s.data.toList.drop a) y.toNat)))/\Below w.heap.size w w'):=fun w hT=>by
  have:=readOld_any ((src:Int) / 8) ((src:Int) % 8) (s.extract a s.size) y w hT (by simp;omega) hy2.1 hy2.2
  rwa [Hm.drop_ex] at this
 generalize Hm.readOld (Hm.Msg.of ((src:Int) / 8) ((src:Int) % 8)) (s.data.toList.drop a) y.toNat=O at HO ⊢
 clear hsa hpl
 go_enter Tryz.func21,Tryz.ntmps21
 go_wp2_with fail
 refine (isYear_any y _).mono ?_
 rintro e w1 ⟨rfl,rfl⟩
 rw [hy]
 go_wp2_with fail
 refine (HS.out _).mono ?_
 rintro e w2 ⟨rfl,rfl⟩
 go_wp2_with fail
 obtain ⟨W,hW⟩:∃ W,(w.alloc (.cells #[.int .i64 0,.int .i64 0,.string ⟨#[]⟩,.string ⟨#[]⟩,.string ⟨#[]⟩,.string ⟨#[]⟩,.string ⟨#[]⟩,.string ⟨#[]⟩,.string ⟨#[]⟩] 29)).alloc (.cells #[.int .i64 ((src:Int) / 8),.int .i64 ((src:Int) % 8),.string ⟨#[]⟩,.string ⟨#[]⟩,.string ⟨#[]⟩,.string ⟨#[]⟩,.string ⟨#[]⟩,.string ⟨#[]⟩,.string ⟨#[]⟩] 29)=W:=⟨_,rfl⟩
 have HB1:Hid (Below w.heap.size w W):=hW ▸ ((Below.refl _ _).alloc (Nat.le_refl _) _).alloc (by simp) _
 have HR1:Hid (W.heap[w.heap.size+1]?=some (.cells #[.int .i64 ((src:Int) / 8),.int .i64 ((src:Int) % 8),.string ⟨#[]⟩,.string ⟨#[]⟩,.string ⟨#[]⟩,.string ⟨#[]⟩,.string ⟨#[]⟩,.string ⟨#[]⟩,.string ⟨#[]⟩] 29 (0,0))):=hW ▸ alloc2_new _ _ _
 have HR0:Hid (W.heap[w.heap.size]?=some (.cells #[.int .i64 0,.int .i64 0,.string ⟨#[]⟩,.string ⟨#[]⟩,.string ⟨#[]⟩,.string ⟨#[]⟩,.string ⟨#[]⟩,.string ⟨#[]⟩,.string ⟨#[]⟩] 29 (0,0))):=hW ▸ (heap_alloc_old _ _ (by simp)).trans (heap_alloc_new _ _)
 have hzW:w.heap.size+1 < W.heap.size:=(Array.getElem?_eq_some_iff.1 HR1.out).1
 rw [hW]
 clear hW
 refine (HPl.out _ (hT.next HB1.out)).mono ?_
 rintro e w4 ⟨rfl,hb4⟩
 have HR04:Hid (w4.heap[w.heap.size]?=some (.cells #[.int .i64 0,.int .i64 0,.string ⟨#[]⟩,.string ⟨#[]⟩,.string ⟨#[]⟩,.string ⟨#[]⟩,.string ⟨#[]⟩,.string ⟨#[]⟩,.string ⟨#[]⟩] 29 (0,0))):=(hb4.block _ (by omega)).trans HR0.out
 have HR14:Hid (w4.heap[w.heap.size+1]?=some (.cells #[.int .i64 ((src:Int) / 8),.int .i64 ((src:Int) % 8),.string ⟨#[]⟩,.string ⟨#[]⟩,.string ⟨#[]⟩,.string ⟨#[]⟩,.string ⟨#[]⟩,.string ⟨#[]⟩,.string ⟨#[]⟩] 29 (0,0))):=(hb4.block _ (by omega)).trans HR1.out
 have HB4:Hid (Below w.heap.size w w4):=Below.next HB1.out (Nat.le_refl _) hb4
 have hz4:w.heap.size+1 < w4.heap.size:=(by have:=hb4.size;omega)
 clear hb4
 go_wp2_with fail
 refine region_tail 5 mixed (by kernel_rfl) ?_
 simp only [List.take_succ_cons,List.take_zero,List.drop_succ_cons,List.drop_zero]
 refine Hw.still_load_row rfl _ _ rfl (w.heap.size+1) rfl 29 #[.int .i64 ((src:Int) / 8),.int .i64 ((src:Int) % 8),.string ⟨#[]⟩,.string ⟨#[]⟩,.string ⟨#[]⟩,.string ⟨#[]⟩,.string ⟨#[]⟩,.string ⟨#[]⟩,.string ⟨#[]⟩] (0,0) _ (show w4.drew.heap[w.heap.size+1]?=_ from HR14.out) Tryz.underlying29 rfl size_msg ?_
 intro K hK;go_simp;refine hK _ ?_;clear hK K
 still_step
 still_step
 still_step
 still_step
 refine wpStill_nil ?_
 go_wp2_with (first
  | (go_at_call 56;refine (HO.out _ (hT.next HB4.out.drew)).mono ?_;rintro e w7 ⟨rfl,hb7⟩;have HR8:Hid (w7.heap[w.heap.size]?=some (.cells #[.int .i64 0,.int .i64 0,.string ⟨#[]⟩,.string ⟨#[]⟩,.string ⟨#[]⟩,.string ⟨#[]⟩,.string ⟨#[]⟩,.string ⟨#[]⟩,.string ⟨#[]⟩] 29 (0,0))):=(hb7.block _ (show _ < w4.heap.size by omega)).trans HR04.out;have HB7:Hid (Below w.heap.size w w7):=Below.next HB4.out.drew (Nat.le_refl _) hb7;clear hb7)
  | (refine Hw.wpList_store_rowP rfl _ _ _ rfl rfl w.heap.size (msgCells O) rfl rfl _ _ HR8.out size_msg rfl rfl ?_;intro w8 p8;have P8:Hid (Hw.Put w7 _ _ _ w8):=p8;clear p8))
 refine bodyPost_ret (Hw.results_row3 Tryz.results21 _ _ _ _ _ _ _ rfl P8.out.row Tryz.underlying29 rfl size_msg) rfl ⟨?_,HB7.out.trans (P8.out.below (Nat.le_refl _))⟩
 exact ret_msg3 rfl rfl rfl
set_option maxRecDepth 20000 in
set_option maxHeartbeats 400000 in
theorem read_old1 (s:ByteArray) (y:Int) (w:World) (hT:Tabs w) (h:s.size<=200) (hy:Hm.isYear y=true) (src a:Nat) (hsa:Hm.source s.data.toList=(src,a)) (ha:0 < a) (hp:Lib.hasPrefix (s.data.toList.drop a) [49,32]=false) (hpl:Hm.plain (s.data.toList.drop a)=true) :
  Calls Tryz.prog 21 #[.string s,.int .i64 y] w fun e w'=>
   e=.returned (.tuple #[.agg (msgCells (Hm.readOld (Hm.Msg.of ((src:Int) / 8) ((src:Int) % 8)) (s.data.toList.drop a) y.toNat)),.int .i64 0,.int .i64 0])/\Below w.heap.size w w':=by
 have hi:¬ (200:Int) < (s.size:Int):=by omega
 have hsl:=Hm.source_le s.data.toList
 rw [hsa,Hm.len] at hsl
 dsimp only at hsl
 have hwr:wrap64 ((src:Int) / 8)=(src:Int) / 8:=by unfold wrap64;omega
 have hz:s.size<=4000000000:=by omega
 have hai:(0:Int) < (a:Int):=by omega
 have hai2:(a:Int)<=(s.size:Int):=by omega
 clear h
 have HS:Hid (∀ w,Calls Tryz.prog 52 #[.string s] w fun e w'=>e=.returned (.tuple #[.int .i64 src,.int .i64 a])/\w'=w):=fun w=>by
  have:=readSource_any s w hz
  rwa [hsa] at this
 have HPl:Hid (∀ w,Tabs w->Calls Tryz.prog 55 #[.string (s.extract a s.size)] w fun e w'=>e=.returned (.bool true)/\Below w.heap.size w w'):=fun w hT=>by
  have:=isPlain_any (s.extract a s.size) w hT (by simp;omega)
  rwa [Hm.drop_ex,hpl] at this
 have HP:Hid (∀ w,Calls Tryz.prog 53 #[.string (s.extract a s.size),.string ⟨#[49,32]⟩] w fun e w'=>e=.returned (.bool false)/\w'=w):=fun w=>by
  have:=Tryz.strings_HasPrefix (s.extract a s.size) ⟨#[49,32]⟩ w
  rwa [Hm.drop_ex,show (⟨#[49,32]⟩:ByteArray).data.toList=[49,32] from rfl,hp] at this
 clear hp
 have hy2:1<=y/\y<=9999:=by unfold Hm.isYear at hy;simpa using hy
 have HO:Hid (∀ w,Tabs w->Calls Tryz.prog 56 #[.agg #[.int .i64 ((src:Int) / 8),.int .i64 ((src:Int) % 8),.string ⟨#[]⟩,.string ⟨#[]⟩,.string ⟨#[]⟩,.string ⟨#[]⟩,.string ⟨#[]⟩,.string ⟨#[]⟩,.string ⟨#[]⟩],.string (s.extract a s.size),.int .i64 y] w fun e w'=>e=.returned (.agg (msgCells (Hm.readOld (Hm.Msg.of ((src:Int) / 8) ((src:Int) % 8)) (s.data.toList.drop a) y.toNat)))/\Below w.heap.size w w'):=fun w hT=>by
  have:=readOld_any ((src:Int) / 8) ((src:Int) % 8) (s.extract a s.size) y w hT (by simp;omega) hy2.1 hy2.2
  rwa [Hm.drop_ex] at this
 generalize Hm.readOld (Hm.Msg.of ((src:Int) / 8) ((src:Int) % 8)) (s.data.toList.drop a) y.toNat=O at HO ⊢
 clear hsa hpl
 go_enter Tryz.func21,Tryz.ntmps21
 go_wp2_with fail
 refine (isYear_any y _).mono ?_
 rintro e w1 ⟨rfl,rfl⟩
 rw [hy]
 go_wp2_with fail
 refine (HS.out _).mono ?_
 rintro e w2 ⟨rfl,rfl⟩
 go_wp2_with fail
 refine (HP.out _).mono ?_
 rintro e w3 ⟨rfl,rfl⟩
 obtain ⟨W,hW⟩:∃ W,(w.alloc (.cells #[.int .i64 0,.int .i64 0,.string ⟨#[]⟩,.string ⟨#[]⟩,.string ⟨#[]⟩,.string ⟨#[]⟩,.string ⟨#[]⟩,.string ⟨#[]⟩,.string ⟨#[]⟩] 29)).alloc (.cells #[.int .i64 ((src:Int) / 8),.int .i64 ((src:Int) % 8),.string ⟨#[]⟩,.string ⟨#[]⟩,.string ⟨#[]⟩,.string ⟨#[]⟩,.string ⟨#[]⟩,.string ⟨#[]⟩,.string ⟨#[]⟩] 29)=W:=⟨_,rfl⟩
 have HB1:Hid (Below w.heap.size w W):=hW ▸ ((Below.refl _ _).alloc (Nat.le_refl _) _).alloc (by simp) _
 have HR1:Hid (W.heap[w.heap.size+1]?=some (.cells #[.int .i64 ((src:Int) / 8),.int .i64 ((src:Int) % 8),.string ⟨#[]⟩,.string ⟨#[]⟩,.string ⟨#[]⟩,.string ⟨#[]⟩,.string ⟨#[]⟩,.string ⟨#[]⟩,.string ⟨#[]⟩] 29 (0,0))):=hW ▸ alloc2_new _ _ _
 have HR0:Hid (W.heap[w.heap.size]?=some (.cells #[.int .i64 0,.int .i64 0,.string ⟨#[]⟩,.string ⟨#[]⟩,.string ⟨#[]⟩,.string ⟨#[]⟩,.string ⟨#[]⟩,.string ⟨#[]⟩,.string ⟨#[]⟩] 29 (0,0))):=hW ▸ (heap_alloc_old _ _ (by simp)).trans (heap_alloc_new _ _)
 have hzW:w.heap.size+1 < W.heap.size:=(Array.getElem?_eq_some_iff.1 HR1.out).1
 rw [hW]
 clear hW
 go_wp2_with (go_at_call 55;refine (HPl.out _ (hT.next HB1.out)).mono ?_;rintro e w4 ⟨rfl,hb4⟩;have HR04:Hid (w4.heap[w.heap.size]?=some (.cells #[.int .i64 0,.int .i64 0,.string ⟨#[]⟩,.string ⟨#[]⟩,.string ⟨#[]⟩,.string ⟨#[]⟩,.string ⟨#[]⟩,.string ⟨#[]⟩,.string ⟨#[]⟩] 29 (0,0))):=(hb4.block _ (by omega)).trans HR0.out;have HR14:Hid (w4.heap[w.heap.size+1]?=some (.cells #[.int .i64 ((src:Int) / 8),.int .i64 ((src:Int) % 8),.string ⟨#[]⟩,.string ⟨#[]⟩,.string ⟨#[]⟩,.string ⟨#[]⟩,.string ⟨#[]⟩,.string ⟨#[]⟩,.string ⟨#[]⟩] 29 (0,0))):=(hb4.block _ (by omega)).trans HR1.out;have HB4:Hid (Below w.heap.size w w4):=Below.next HB1.out (Nat.le_refl _) hb4;have hz4:w.heap.size+1 < w4.heap.size:=(by have:=hb4.size;omega);clear hb4)
 refine region_tail 5 mixed (by kernel_rfl) ?_
 simp only [List.take_succ_cons,List.take_zero,List.drop_succ_cons,List.drop_zero]
 refine Hw.still_load_row rfl _ _ rfl (w.heap.size+1) rfl 29 #[.int .i64 ((src:Int) / 8),.int .i64 ((src:Int) % 8),.string ⟨#[]⟩,.string ⟨#[]⟩,.string ⟨#[]⟩,.string ⟨#[]⟩,.string ⟨#[]⟩,.string ⟨#[]⟩,.string ⟨#[]⟩] (0,0) _ (show w4.drew.heap[w.heap.size+1]?=_ from HR14.out) Tryz.underlying29 rfl size_msg ?_
 intro K hK;go_simp;refine hK _ ?_;clear hK K
 still_step
 still_step
 still_step
 still_step
 refine wpStill_nil ?_
 go_wp2_with (first
  | (go_at_call 56;refine (HO.out _ (hT.next HB4.out.drew)).mono ?_;rintro e w7 ⟨rfl,hb7⟩;have HR8:Hid (w7.heap[w.heap.size]?=some (.cells #[.int .i64 0,.int .i64 0,.string ⟨#[]⟩,.string ⟨#[]⟩,.string ⟨#[]⟩,.string ⟨#[]⟩,.string ⟨#[]⟩,.string ⟨#[]⟩,.string ⟨#[]⟩] 29 (0,0))):=(hb7.block _ (show _ < w4.heap.size by omega)).trans HR04.out;have HB7:Hid (Below w.heap.size w w7):=Below.next HB4.out.drew (Nat.le_refl _) hb7;clear hb7)
  | (refine Hw.wpList_store_rowP rfl _ _ _ rfl rfl w.heap.size (msgCells O) rfl rfl _ _ HR8.out size_msg rfl rfl ?_;intro w8 p8;have P8:Hid (Hw.Put w7 _ _ _ w8):=p8;clear p8))
 refine bodyPost_ret (Hw.results_row3 Tryz.results21 _ _ _ _ _ _ _ rfl P8.out.row Tryz.underlying29 rfl size_msg) rfl ⟨?_,HB7.out.trans (P8.out.below (Nat.le_refl _))⟩
 exact ret_msg3 rfl rfl rfl
theorem Read_any (s:ByteArray) (y:Int) (w:World) (hT:Tabs w) (hs:s.size<=9223372036854775800) :
  Calls Tryz.prog 21 #[.string s,.int .i64 y] w fun e w'=>
   e=.returned (.tuple #[.agg (msgCells (Hm.read s.data.toList y).1),.int .i64 (Hm.read s.data.toList y).2.1,.int .i64 (Hm.read s.data.toList y).2.2])/\Below w.heap.size w w':=by
 unfold Hm.read
 by_cases h1:200 < s.size
 ·rw [if_pos (by rw [Hm.len];exact h1)]
  exact read_long s y w h1 hs
 rw [if_neg (by rw [Hm.len];exact h1)]
 cases hy:Hm.isYear y
 ·rw [if_pos rfl]
  exact read_year s y w (by omega) hy
 rw [if_neg (by decide)]
 obtain ⟨src,a,hsa⟩:∃ src a,Hm.source s.data.toList=(src,a):=⟨_,_,rfl⟩
 rw [hsa]
 by_cases ha:0 < a
 ·cases hp:Lib.hasPrefix (s.data.toList.drop a) [49,32]
  ·rw [if_neg (fun h=>by cases h.2)]
   cases hpl:Hm.plain (s.data.toList.drop a)
   ·rw [if_pos rfl]
    exact read_bad1 s y w hT (by omega) hy src a hsa ha hp hpl
   ·rw [if_neg (by decide)]
    exact read_old1 s y w hT (by omega) hy src a hsa ha hp hpl
  ·rw [if_pos ⟨ha,rfl⟩]
   exact read_new s y w hT (by omega) hy src a hsa ha hp _ rfl
 ·rw [if_neg (by rintro ⟨h,_⟩;exact ha h)]
  cases hpl:Hm.plain (s.data.toList.drop a)
  ·rw [if_pos rfl]
   exact read_bad0 s y w hT (by omega) hy src a hsa (by omega) hpl
  ·rw [if_neg (by decide)]
   exact read_old0 s y w hT (by omega) hy src a hsa (by omega) hpl
end Go.Proofs.YtdlhbmncbmconaaGreatDoor

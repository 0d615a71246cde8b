/- Pressed by program out of Bb. -/
import Derived.Test.YtdlhbmncbmconaaGreatDoorL04
import Derived.Test.YtdlhbmncbmconaaGreatDoorL00
import Derived.Test.YtdlhbmncbmconaaGreatDoorL02
import Derived.StillTailTactics
namespace Go.Proofs.YtdlhbmncbmconaaGreatDoor
open Go.RowKit
theorem alloc_drewN (w:World) (n:Nat) (o:Obj):(w.drewN n).alloc o=(w.alloc o).drewN n:=rfl
theorem setCell_drewN (w:World) (n:Nat) (a:Addr) (v:Value):(w.drewN n).setCell a v=(w.setCell a v).drewN n:=rfl
attribute [local go_sem] alloc_drewN setCell_drewN
theorem Tabs.alloc {w:World} (h:Tabs w) (o:Obj):Tabs (w.alloc o):=h.next ((Below.refl _ _).alloc (Nat.le_refl _) _)
theorem dayBefore_any (y mo d h mi s:Int) (w:World) (hT:Tabs w) (hy:1<=y) (hy2:y<=9999) (hm:1<=mo) (hm2:mo<=12) (hd:1<=d) (hd2:d<=31) :
  Calls Tryz.prog 175 #[.agg #[.int .i64 y,.int .i64 mo,.int .i64 d,.int .i64 h,.int .i64 mi,.int .i64 s]] w fun e w'=>
   e=.returned (.agg #[.int .i64 (Hm.dayBefore y mo d).1,.int .i64 (Hm.dayBefore y mo d).2.1,.int .i64 (Hm.dayBefore y mo d).2.2,.int .i64 h,.int .i64 mi,.int .i64 s])/\Below w.heap.size w w':=by
 by_cases h1:d=1
 ·subst h1
  by_cases h2:mo=1
  ·subst h2
   have HF:Hid (Hm.dayBefore y 1 1=(y - 1,12,Hm.daysOf (y - 1) 12)):=by show _=_;simp [Hm.dayBefore]
   go_enter Tryz.func175,Tryz.ntmps175
   go_wp2_with (go_at_call 174;refine (daysOf_any _ _ _ (by omega) (by omega) (by omega) ((hT.alloc _).alloc _)).mono ?_;rintro e w' ⟨rfl,rfl⟩)
   refine bodyPost_ret (v:=.agg #[.int .i64 (y - 1),.int .i64 12,.int .i64 (Hm.daysOf (y - 1) 12),.int .i64 h,.int .i64 mi,.int .i64 s]) (by simp [results,Tryz.results175,go_sem]) rfl ⟨by rw [HF.out],?_⟩
   exact ((Below.refl _ _).alloc (Nat.le_refl _) _).alloc (by simp) _
  ·have HF:Hid (Hm.dayBefore y mo 1=(y,mo - 1,Hm.daysOf y (mo - 1))):=by show _=_;simp [Hm.dayBefore];omega
   go_enter Tryz.func175,Tryz.ntmps175
   go_wp2_with (go_at_call 174;refine (daysOf_any _ _ _ (by omega) (by omega) (by omega) ((hT.alloc _).alloc _)).mono ?_;rintro e w' ⟨rfl,rfl⟩)
   refine bodyPost_ret (v:=.agg #[.int .i64 y,.int .i64 (mo - 1),.int .i64 (Hm.daysOf y (mo - 1)),.int .i64 h,.int .i64 mi,.int .i64 s]) (by simp [results,Tryz.results175,go_sem]) rfl ⟨by rw [HF.out],?_⟩
   exact ((Below.refl _ _).alloc (Nat.le_refl _) _).alloc (by simp) _
 ·have HF:Hid (Hm.dayBefore y mo d=(y,mo,d - 1)):=by show _=_;simp [Hm.dayBefore];omega
  go_enter Tryz.func175,Tryz.ntmps175
  go_wp2
  refine bodyPost_ret (v:=.agg #[.int .i64 y,.int .i64 mo,.int .i64 (d - 1),.int .i64 h,.int .i64 mi,.int .i64 s]) (by simp [results,Tryz.results175,go_sem]) rfl ⟨by rw [HF.out],?_⟩
  exact ((Below.refl _ _).alloc (Nat.le_refl _) _).alloc (by simp) _
theorem daysOf_le (y m:Int) (h1:1<=m) (h2:m<=12):28<=Hm.daysOf y m/\Hm.daysOf y m<=31:=by
 unfold Hm.daysOf
 split
 ·omega
 ·rcases (by omega:m=1∨m=2∨m=3∨m=4∨m=5∨m=6∨m=7∨m=8∨m=9∨m=10∨m=11∨m=12) with h | h | h | h | h | h | h | h | h | h | h | h<;>subst h<;>decide
theorem dayAfter_any (y mo d h mi s:Int) (w:World) (hT:Tabs w) (hy:1<=y) (hy2:y<=9999) (hm:1<=mo) (hm2:mo<=12) (hd:1<=d) (hd2:d<=31) :
  Calls Tryz.prog 176 #[.agg #[.int .i64 y,.int .i64 mo,.int .i64 d,.int .i64 h,.int .i64 mi,.int .i64 s]] w fun e w'=>
   e=.returned (.agg #[.int .i64 (Hm.dayAfter y mo d).1,.int .i64 (Hm.dayAfter y mo d).2.1,.int .i64 (Hm.dayAfter y mo d).2.2,.int .i64 h,.int .i64 mi,.int .i64 s])/\Below w.heap.size w w':=by
 have hl:=daysOf_le y mo hm hm2
 by_cases h1:Hm.daysOf y mo < d+1
 ·by_cases h2:mo=12
  ·subst h2
   have HF:Hid (Hm.dayAfter y 12 d=(y+1,1,1)):=by show _=_;simp [Hm.dayAfter,h1]
   go_enter Tryz.func176,Tryz.ntmps176
   go_wp2_with fail
   go_quiet ((go_at_call 174;exact Calls.quiet_of_same (daysOf_any _ _ _ (by omega) (by omega) (by omega) (((hT.alloc _).alloc _).drewN _))))
   go_wp2
   refine bodyPost_ret (v:=.agg #[.int .i64 (y+1),.int .i64 1,.int .i64 1,.int .i64 h,.int .i64 mi,.int .i64 s]) (by simp [results,Tryz.results176,go_sem]) rfl ⟨by rw [HF.out],?_⟩
   exact below_drewN (((Below.refl _ _).alloc (Nat.le_refl _) _).alloc (by simp) _) _
  ·have HF:Hid (Hm.dayAfter y mo d=(y,mo+1,1)):=by show _=_;simp [Hm.dayAfter,h1];omega
   go_enter Tryz.func176,Tryz.ntmps176
   go_wp2_with fail
   go_quiet ((go_at_call 174;exact Calls.quiet_of_same (daysOf_any _ _ _ (by omega) (by omega) (by omega) (((hT.alloc _).alloc _).drewN _))))
   go_wp2
   refine bodyPost_ret (v:=.agg #[.int .i64 y,.int .i64 (mo+1),.int .i64 1,.int .i64 h,.int .i64 mi,.int .i64 s]) (by simp [results,Tryz.results176,go_sem]) rfl ⟨by rw [HF.out],?_⟩
   exact below_drewN (((Below.refl _ _).alloc (Nat.le_refl _) _).alloc (by simp) _) _
 ·have HF:Hid (Hm.dayAfter y mo d=(y,mo,d+1)):=by show _=_;simp [Hm.dayAfter,h1]
  go_enter Tryz.func176,Tryz.ntmps176
  go_wp2_with fail
  go_quiet ((go_at_call 174;exact Calls.quiet_of_same (daysOf_any _ _ _ (by omega) (by omega) (by omega) (((hT.alloc _).alloc _).drewN _))))
  go_wp2
  refine bodyPost_ret (v:=.agg #[.int .i64 y,.int .i64 mo,.int .i64 (d+1),.int .i64 h,.int .i64 mi,.int .i64 s]) (by simp [results,Tryz.results176,go_sem]) rfl ⟨by rw [HF.out],?_⟩
  exact below_drewN (((Below.refl _ _).alloc (Nat.le_refl _) _).alloc (by simp) _) _
end Go.Proofs.YtdlhbmncbmconaaGreatDoor
namespace Go.Proofs.YtdlhbmncbmconaaGreatDoor
open Go.RowKit
attribute [local go_sem] alloc_drewN setCell_drewN
set_option maxHeartbeats 1000000 in
theorem exists_any (y mo d h mi s:Int) (w:World) (hT:Tabs w) :
  Calls Tryz.prog 132 #[.agg #[.int .i64 y,.int .i64 mo,.int .i64 d,.int .i64 h,.int .i64 mi,.int .i64 s]] w fun e w'=>
   e=.returned (.bool (Hm.exists_ y mo d h mi s))/\Below w.heap.size w w':=by
 cases h1:Hm.isYear y
 ·have HF:Hid (Hm.exists_ y mo d h mi s=false):=by show _=_;simp [Hm.exists_,h1]
  go_enter Tryz.func132,Tryz.ntmps132
  go_wp2_with (go_at_call 51;refine (isYear_any _ _).mono ?_;rintro e w' ⟨rfl,rfl⟩;rw [h1])
  go_ret
  exact ⟨by rw [HF.out];rfl,(Below.refl _ _).alloc (Nat.le_refl _) _⟩
 ·have hy:1<=y/\y<=9999:=by simpa [Hm.isYear] using h1
  by_cases h2:1<=mo/\mo<=12
  ·obtain ⟨h2a,h2b⟩:=h2
   by_cases h3:1<=d
   ·have b3:decide (d < 1)=false:=by simp;omega
    by_cases h4:d<=Hm.daysOf y mo
    ·have HF:Hid (Hm.exists_ y mo d h mi s=(decide (h<=23) && decide (mi<=59) && decide (s<=59))):=by show _=_;simp [Hm.exists_,h1,h2a,h2b,h3,h4]
     go_enter Tryz.func132,Tryz.ntmps132
     go_wp2_with (go_at_call 51;refine (isYear_any _ _).mono ?_;rintro e w' ⟨rfl,rfl⟩;rw [h1])
     go_quiet ((go_at_call 174;exact Calls.quiet_of_same (daysOf_any _ _ _ (by omega) (by omega) (by omega) ((hT.alloc _).drewN _))))
     go_wp2
     all_goals go_ret
     all_goals refine ⟨ret_bool ?_,below_drewN ((Below.refl _ _).alloc (Nat.le_refl _) _) _⟩
     all_goals rw [HF.out]
     all_goals try simp
     all_goals try omega
    ·have HF:Hid (Hm.exists_ y mo d h mi s=false):=by show _=_;simp [Hm.exists_,h4]
     go_enter Tryz.func132,Tryz.ntmps132
     go_wp2_with (go_at_call 51;refine (isYear_any _ _).mono ?_;rintro e w' ⟨rfl,rfl⟩;rw [h1])
     go_quiet ((go_at_call 174;exact Calls.quiet_of_same (daysOf_any _ _ _ (by omega) (by omega) (by omega) ((hT.alloc _).drewN _))))
     go_wp2
     go_ret
     exact ⟨by rw [HF.out];rfl,below_drewN ((Below.refl _ _).alloc (Nat.le_refl _) _) _⟩
   ·have HF:Hid (Hm.exists_ y mo d h mi s=false):=by show _=_;simp [Hm.exists_,h3]
    have b3:decide (d < 1)=true:=by simp;omega
    go_enter Tryz.func132,Tryz.ntmps132
    go_wp2_with (go_at_call 51;refine (isYear_any _ _).mono ?_;rintro e w' ⟨rfl,rfl⟩;rw [h1])
    go_quiet (fail)
    go_wp2
    go_ret
    exact ⟨by rw [HF.out];rfl,below_drewN ((Below.refl _ _).alloc (Nat.le_refl _) _) _⟩
  ·have HF:Hid (Hm.exists_ y mo d h mi s=false):=by
    show _=_
    simp only [Hm.exists_,Bool.and_eq_false_iff,decide_eq_false_iff_not]
    omega
   by_cases h5:1<=mo
   ·have h6:¬ mo<=12:=fun h=>h2 ⟨h5,h⟩
    clear h2
    go_enter Tryz.func132,Tryz.ntmps132
    go_wp2_with (go_at_call 51;refine (isYear_any _ _).mono ?_;rintro e w' ⟨rfl,rfl⟩;rw [h1])
    go_ret
    exact ⟨by rw [HF.out];rfl,(Below.refl _ _).alloc (Nat.le_refl _) _⟩
   ·clear h2
    go_enter Tryz.func132,Tryz.ntmps132
    go_wp2_with (go_at_call 51;refine (isYear_any _ _).mono ?_;rintro e w' ⟨rfl,rfl⟩;rw [h1])
    go_ret
    exact ⟨by rw [HF.out];rfl,(Below.refl _ _).alloc (Nat.le_refl _) _⟩
end Go.Proofs.YtdlhbmncbmconaaGreatDoor
namespace Go.Proofs.YtdlhbmncbmconaaGreatDoor
open Go.RowKit
attribute [local go_sem] alloc_drewN setCell_drewN
theorem size_moment:(Tryz.prog.info? 199).map (·.size)=some 6:=by kernel_rfl
theorem size_int:(Tryz.prog.info? 3).map (·.size)=some 1:=by kernel_rfl
theorem two_blocks {w w1:World} {A B:Array Value} {ta tb:TypeId} (hb:Below ((w.alloc (.cells A ta)).alloc (.cells B tb)).heap.size ((w.alloc (.cells A ta)).alloc (.cells B tb)) w1) :
  w1.heap[w.heap.size]?=some (.cells A ta (0,0))/\w1.heap[w.heap.size+1]?=some (.cells B tb (0,0)):=
 ⟨(hb.block _ (by simp;omega)).trans (heap_alloc2_old _ _ _),(hb.block _ (by simp)).trans (heap_alloc2_new _ _ _)⟩
theorem cells6 {w1:World} {g:Nat} {a b c d e f:Value} {t:TypeId} (h:w1.heap[g]?=some (.cells #[a,b,c,d,e,f] t (0,0))) :
  (w1.cell? ⟨g,0,none⟩=some a/\w1.cell? ⟨g,1,none⟩=some b/\w1.cell? ⟨g,2,none⟩=some c/\w1.cell? ⟨g,3,none⟩=some d/\w1.cell? ⟨g,4,none⟩=some e/\w1.cell? ⟨g,5,none⟩=some f)/\∀ i,w1.frozen? ⟨g,i,none⟩=false:=
 ⟨⟨cell_of_row _ _ _ _ _ _ h,cell_of_row _ _ _ _ _ _ h,cell_of_row _ _ _ _ _ _ h,cell_of_row _ _ _ _ _ _ h,cell_of_row _ _ _ _ _ _ h,cell_of_row _ _ _ _ _ _ h⟩,fun _=>frozen_of_row _ _ _ _ _ h⟩
set_option maxHeartbeats 1000000 in
theorem earlier_any (y mo d h mi s k:Int) (w:World) (hT:Tabs w) (hy:1<=y) (hy2:y<=9999) (hm:1<=mo) (hm2:mo<=12) (hd:1<=d) (hd2:d<=31)
  (hh:0<=h) (hh2:h<=23) (hmi:0<=mi) (hmi2:mi<=59) (hk:-1439<=k) (hk2:k<=1439) :
  Calls Tryz.prog 133 #[.agg #[.int .i64 y,.int .i64 mo,.int .i64 d,.int .i64 h,.int .i64 mi,.int .i64 s],.int .i64 k] w fun e w'=>
   e=.returned (.agg #[.int .i64 (Hm.earlier y mo d h mi k).1.1,.int .i64 (Hm.earlier y mo d h mi k).1.2.1,.int .i64 (Hm.earlier y mo d h mi k).1.2.2,.int .i64 ((Hm.earlier y mo d h mi k).2 / 60),.int .i64 ((Hm.earlier y mo d h mi k).2 % 60),.int .i64 s])/\Below w.heap.size w w':=by
 by_cases h1:60 * h+mi - k < 0
 ·skip
  have HF:Hid (Hm.earlier y mo d h mi k=(Hm.dayBefore y mo d,60 * h+mi - k+1440)):=by show _=_;simp [Hm.earlier,h1]
  rw [HF.out]
  obtain ⟨y',hy'⟩:∃ x,(Hm.dayBefore y mo d).1=x:=⟨_,rfl⟩
  obtain ⟨mo',hmo'⟩:∃ x,(Hm.dayBefore y mo d).2.1=x:=⟨_,rfl⟩
  obtain ⟨d',hd'⟩:∃ x,(Hm.dayBefore y mo d).2.2=x:=⟨_,rfl⟩
  have hcon:∀ w,Tabs w->_:=fun w hT=>dayBefore_any y mo d h mi s w hT hy hy2 hm hm2 hd hd2
  simp only [hy',hmo',hd'] at hcon ⊢
  have HC:Hid (∀ w,Tabs w->_):=hcon
  clear hcon hy' hmo' hd'
  go_enter Tryz.func133,Tryz.ntmps133
  go_wp2_with fail
  refine (HC.out _ ((hT.alloc _).alloc _)).mono ?_
  rintro e w1 ⟨rfl,hb⟩
  obtain ⟨r0,r1⟩:=two_blocks hb
  have hB0:Below w.heap.size w w1:=((((Below.refl _ _).alloc (Nat.le_refl _) _).alloc (by simp) _).trans (hb.mono (by simp;omega)))
  have H0:Hid (w1.heap[w.heap.size]?=_):=r0
  have H1:Hid (w1.heap[w.heap.size+1]?=_):=r1
  have HB:Hid (Below w.heap.size w w1):=hB0
  clear hb r0 r1 HC hB0
  go_wp2_with (first
   | (refine Hw.wpList_store_rowP rfl _ _ _ rfl rfl w.heap.size #[.int .i64 y',.int .i64 mo',.int .i64 d',.int .i64 h,.int .i64 mi,.int .i64 s] rfl rfl _ _ H0.out size_moment rfl rfl ?_;intro w2 p2;have P2:Hid (Hw.Put _ _ _ _ w2):=p2;clear p2)
   | (refine Hw.wpList_store_fieldP rfl _ _ _ rfl rfl w.heap.size 3 (.int .i64 ((60 * h+mi - k+1440) / 60)) rfl rfl _ _ _ P2.out.row size_int (by simp) rfl rfl ?_;intro w3 p3;simp only [List.setIfInBounds_toArray,List.set_cons_succ,List.set_cons_zero] at p3;have P3:Hid (Hw.Put _ _ _ _ w3):=p3;clear p3)
   | (refine Hw.wpList_store_fieldP rfl _ _ _ rfl rfl w.heap.size 4 (.int .i64 ((60 * h+mi - k+1440) % 60)) rfl rfl _ _ _ P3.out.row size_int (by simp) rfl rfl ?_;intro w4 p4;simp only [List.setIfInBounds_toArray,List.set_cons_succ,List.set_cons_zero] at p4;have P4:Hid (Hw.Put _ _ _ _ w4):=p4;clear p4)
   | (refine wpList_load_row rfl _ _ rfl w.heap.size rfl _ _ _ _ P4.out.row Tryz.underlying199 rfl size_moment ?_)
   | (refine Hw.wpList_store_rowP rfl _ _ _ rfl rfl (w.heap.size+1) _ rfl rfl _ _ ((P4.out.other _ (by omega)).trans ((P3.out.other _ (by omega)).trans ((P2.out.other _ (by omega)).trans H1.out))) size_moment rfl rfl ?_;intro w5 p5;have P5:Hid (Hw.Put _ _ _ _ w5):=p5;clear p5))
  refine bodyPost_ret (results_cell_row Tryz.results133 _ _ _ _ _ _ _ rfl P5.out.row Tryz.underlying199 rfl size_moment) rfl ⟨rfl,?_⟩
  exact ((((HB.out.trans (P2.out.below (Nat.le_refl _))).trans (P3.out.below (Nat.le_refl _))).trans (P4.out.below (Nat.le_refl _))).trans (P5.out.below (by omega)))
 by_cases h2:1440<=60 * h+mi - k
 ·skip
  have HF:Hid (Hm.earlier y mo d h mi k=(Hm.dayAfter y mo d,60 * h+mi - k - 1440)):=by show _=_;simp [Hm.earlier,h1,h2]
  rw [HF.out]
  obtain ⟨y',hy'⟩:∃ x,(Hm.dayAfter y mo d).1=x:=⟨_,rfl⟩
  obtain ⟨mo',hmo'⟩:∃ x,(Hm.dayAfter y mo d).2.1=x:=⟨_,rfl⟩
  obtain ⟨d',hd'⟩:∃ x,(Hm.dayAfter y mo d).2.2=x:=⟨_,rfl⟩
  have hcon:∀ w,Tabs w->_:=fun w hT=>dayAfter_any y mo d h mi s w hT hy hy2 hm hm2 hd hd2
  simp only [hy',hmo',hd'] at hcon ⊢
  have HC:Hid (∀ w,Tabs w->_):=hcon
  clear hcon hy' hmo' hd'
  go_enter Tryz.func133,Tryz.ntmps133
  go_wp2_with fail
  refine (HC.out _ ((hT.alloc _).alloc _)).mono ?_
  rintro e w1 ⟨rfl,hb⟩
  obtain ⟨r0,r1⟩:=two_blocks hb
  have hB0:Below w.heap.size w w1:=((((Below.refl _ _).alloc (Nat.le_refl _) _).alloc (by simp) _).trans (hb.mono (by simp;omega)))
  have H0:Hid (w1.heap[w.heap.size]?=_):=r0
  have H1:Hid (w1.heap[w.heap.size+1]?=_):=r1
  have HB:Hid (Below w.heap.size w w1):=hB0
  clear hb r0 r1 HC hB0
  go_wp2_with (first
   | (refine Hw.wpList_store_rowP rfl _ _ _ rfl rfl w.heap.size #[.int .i64 y',.int .i64 mo',.int .i64 d',.int .i64 h,.int .i64 mi,.int .i64 s] rfl rfl _ _ H0.out size_moment rfl rfl ?_;intro w2 p2;have P2:Hid (Hw.Put _ _ _ _ w2):=p2;clear p2)
   | (refine Hw.wpList_store_fieldP rfl _ _ _ rfl rfl w.heap.size 3 (.int .i64 ((60 * h+mi - k - 1440) / 60)) rfl rfl _ _ _ P2.out.row size_int (by simp) rfl rfl ?_;intro w3 p3;simp only [List.setIfInBounds_toArray,List.set_cons_succ,List.set_cons_zero] at p3;have P3:Hid (Hw.Put _ _ _ _ w3):=p3;clear p3)
   | (refine Hw.wpList_store_fieldP rfl _ _ _ rfl rfl w.heap.size 4 (.int .i64 ((60 * h+mi - k - 1440) % 60)) rfl rfl _ _ _ P3.out.row size_int (by simp) rfl rfl ?_;intro w4 p4;simp only [List.setIfInBounds_toArray,List.set_cons_succ,List.set_cons_zero] at p4;have P4:Hid (Hw.Put _ _ _ _ w4):=p4;clear p4)
   | (refine wpList_load_row rfl _ _ rfl w.heap.size rfl _ _ _ _ P4.out.row Tryz.underlying199 rfl size_moment ?_)
   | (refine Hw.wpList_store_rowP rfl _ _ _ rfl rfl (w.heap.size+1) _ rfl rfl _ _ ((P4.out.other _ (by omega)).trans ((P3.out.other _ (by omega)).trans ((P2.out.other _ (by omega)).trans H1.out))) size_moment rfl rfl ?_;intro w5 p5;have P5:Hid (Hw.Put _ _ _ _ w5):=p5;clear p5))
  refine bodyPost_ret (results_cell_row Tryz.results133 _ _ _ _ _ _ _ rfl P5.out.row Tryz.underlying199 rfl size_moment) rfl ⟨rfl,?_⟩
  exact ((((HB.out.trans (P2.out.below (Nat.le_refl _))).trans (P3.out.below (Nat.le_refl _))).trans (P4.out.below (Nat.le_refl _))).trans (P5.out.below (by omega)))
 ·have HF:Hid (Hm.earlier y mo d h mi k=((y,mo,d),60 * h+mi - k)):=by show _=_;simp [Hm.earlier,h1,h2]
  rw [HF.out]
  go_enter Tryz.func133,Tryz.ntmps133
  go_wp2
  refine bodyPost_ret (v:=.agg #[.int .i64 y,.int .i64 mo,.int .i64 d,.int .i64 ((60 * h+mi - k) / 60),.int .i64 ((60 * h+mi - k) % 60),.int .i64 s]) (by simp [results,Tryz.results133,go_sem]) rfl ⟨rfl,?_⟩
  exact ((Below.refl _ _).alloc (Nat.le_refl _) _).alloc (by simp) _
end Go.Proofs.YtdlhbmncbmconaaGreatDoor
namespace Go.Proofs.YtdlhbmncbmconaaGreatDoor
open Go.RowKit
attribute [local go_sem] alloc_drewN setCell_drewN
theorem drew_more {w wr:World} (h:∃ n,wr=w.drewN n) (m:Nat):∃ n,wr.drewN m=w.drewN n:=by
 obtain ⟨n,rfl⟩:=h
 exact ⟨n+m,by rw [World.drewN_drewN]⟩
theorem shape_len:∀ (t s:List UInt8),Hm.shape t s=true->t.length=s.length
 | [],[],_=>rfl
 | [],_ :: _,h=>by simp [Hm.shape] at h
 | _ :: _,[],h=>by simp [Hm.shape] at h
 | _ :: t,_ :: s,h=>by
  simp only [Hm.shape,Bool.and_eq_true] at h
  simp [shape_len t s h.2]
theorem shape_false_len (t s:List UInt8) (h:¬ t.length=s.length):Hm.shape t s=false:=by
 cases h':Hm.shape t s
 ·rfl
 ·exact (h (shape_len t s h')).elim
set_option maxHeartbeats 1000000 in
theorem hasShape_any (t s:ByteArray) (w:World) (ht:t.size<=9223372036854775800) :
  Calls Tryz.prog 128 #[.string t,.string s] w fun e w'=>e=.returned (.bool (Hm.shape t.data.toList s.data.toList))/\∃ n,w'=w.drewN n:=by
 by_cases hl:t.size=s.size
 ·have bl:((t.size:Int) != (s.size:Int))=false:=by simp [hl]
  go_enter Tryz.func128,Tryz.ntmps128
  go_wp2
  go_loopw [5,13] (fun _ i w1=>∃ k:Nat,k<=t.size/\i=.int .i64 k/\Hm.shape t.data.toList s.data.toList=Hm.shape (t.data.toList.drop k) (s.data.toList.drop k)/\∃ n,w1=w.drewN n) (fun _ i _=>t.size - (intOf i).toNat)
  case atStart=>exact ⟨0,Nat.zero_le _,rfl,by simp,0,rfl⟩
  case round=>
   obtain ⟨k,hk,rfl,hsh,hw⟩:=hrel
   have HW:Hid (∃ n,wr=w.drewN n):=hw
   clear hw
   have HS:Hid (Hm.shape t.data.toList s.data.toList=Hm.shape (t.data.toList.drop k) (s.data.toList.drop k)):=hsh
   clear hsh
   by_cases hlt:k < t.size
   ·have hlt2:k < s.size:=by omega
    have i1:(k:Int) < (t.size:Int):=by omega
    have i2:(k:Int) < (s.size:Int):=by omega
    have HE:Hid (Hm.shape t.data.toList s.data.toList=(Hm.shp t[k] s[k] && Hm.shape (t.data.toList.drop (k+1)) (s.data.toList.drop (k+1)))):=by
     show _=_
     rw [HS.out,Hm.drop_cons t k hlt,Hm.drop_cons s k hlt2,Hm.shape]
    have HL:Hid (t.size=s.size):=hl
    clear hl
    by_cases h48:s[k].toNat=48
    ·have b1:((s[k].toNat:Int) == 48)=true:=beq_iff_eq.2 (by omega)
     have b2:((s[k].toNat:Int) != 48)=false:=by simp;omega
     have HP:Hid (Hm.shp t[k] s[k]=Hm.dig t[k]):=by show _=_;unfold Hm.shp;rw [if_pos (UInt8.toNat_inj.1 h48)]
     clear h48
     cases hd:Hm.dig t[k]
     ·have HF:Hid (Hm.shape t.data.toList s.data.toList=false):=by show _=_;rw [HE.out,HP.out,hd];rfl
      go_wp2_with fail
      go_quiet ((go_at_call 84;exact Calls.quiet_of_same (isDigit_any _ _)))
      go_wp2
      go_ret
      exact ⟨by rw [HF.out];rfl,drew_more HW.out _⟩
     ·have HF:Hid (Hm.shape t.data.toList s.data.toList=Hm.shape (t.data.toList.drop (k+1)) (s.data.toList.drop (k+1))):=by show _=_;rw [HE.out,HP.out,hd];rfl
      go_wp2_with fail
      go_quiet ((go_at_call 84;exact Calls.quiet_of_same (isDigit_any _ _)))
      go_wp2
      go_roundw
      case rel=>exact ⟨k+1,by omega,int_eq (by omega),HF.out,drew_more HW.out _⟩
      case measure=>simp [intOf];omega
    ·have b1:((s[k].toNat:Int) == 48)=false:=beq_eq_false_iff_ne.2 (by omega)
     have b2:((s[k].toNat:Int) != 48)=true:=by simp;omega
     have HP:Hid (Hm.shp t[k] s[k]=(s[k] == t[k])):=by show _=_;unfold Hm.shp;rw [if_neg (fun h=>h48 (by rw [h];rfl))]
     clear h48
     by_cases he:s[k].toNat=t[k].toNat
     ·have b3:((s[k].toNat:Int) != (t[k].toNat:Int))=false:=by simp;omega
      have HF:Hid (Hm.shape t.data.toList s.data.toList=Hm.shape (t.data.toList.drop (k+1)) (s.data.toList.drop (k+1))):=by show _=_;rw [HE.out,HP.out,UInt8.toNat_inj.1 he];simp
      clear he
      go_wp2_with fail
      go_quiet ((go_at_call 84;exact Calls.quiet_of_same (isDigit_any _ _)))
      go_wp2
      go_roundw
      case rel=>exact ⟨k+1,by omega,int_eq (by omega),HF.out,drew_more HW.out _⟩
      case measure=>simp [intOf];omega
     ·have b3:((s[k].toNat:Int) != (t[k].toNat:Int))=true:=by simp;omega
      have HF:Hid (Hm.shape t.data.toList s.data.toList=false):=by
       show _=_
       rw [HE.out,HP.out,beq_eq_false_iff_ne.2 (fun h=>he (by rw [h]))];rfl
      clear he
      go_wp2_with fail
      go_quiet ((go_at_call 84;exact Calls.quiet_of_same (isDigit_any _ _)))
      go_wp2
      go_ret
      exact ⟨by rw [HF.out];rfl,drew_more HW.out _⟩
   ·have HF:Hid (Hm.shape t.data.toList s.data.toList=true):=by
     show _=_
     rw [HS.out,List.drop_of_length_le (by rw [Hm.len];omega),List.drop_of_length_le (by rw [Hm.len];omega)];rfl
    go_wp2
    go_ret
    exact ⟨by rw [HF.out];rfl,HW.out⟩
 ·have HF:Hid (Hm.shape t.data.toList s.data.toList=false):=shape_false_len _ _ (by rw [Hm.len,Hm.len];exact hl)
  have bl:((t.size:Int) != (s.size:Int))=true:=by simp;omega
  go_enter Tryz.func128,Tryz.ntmps128
  go_wp2
  go_ret
  exact ⟨by rw [HF.out];rfl,0,rfl⟩
end Go.Proofs.YtdlhbmncbmconaaGreatDoor
namespace Go.Proofs.YtdlhbmncbmconaaGreatDoor
open Go.RowKit
attribute [local go_sem] alloc_drewN setCell_drewN
theorem region_tail {P:Program} {id:Nat} {Q:Exit->Act->World->Prop} {a:Act} {w:World} {l:List Oper} (n:Nat) (hm:P.follows .mixedOrders=true) (hB:Region.lexTailB .any l.toArray n=true)
  (h:wpStill P l.toArray w.drew (fun a'=>wpList P l.toArray Q (l.drop n) a' w.drew) (l.take n) a):(Code.region id l.toArray true).wp P Q a w:=wp_region_still_tail n hm hB h
theorem mixed:Tryz.prog.follows .mixedOrders=true:=by kernel_rfl
theorem ex_take (s:ByteArray) (a b:Nat):(s.extract a b).data.toList=(s.data.toList.drop a).take (b - a):=Lib.extract_data s a b
set_option maxRecDepth 100000 in
set_option maxHeartbeats 400000 in
theorem momentOf_any (s:ByteArray) (w:World) (hs:19<=s.size) (hs2:s.size<=9223372036854775800) (hsh:Hm.shape (s.data.toList.take 19) Hm.momentShape=true) :
  Calls Tryz.prog 131 #[.string s] w fun e w'=>
   e=.returned (.agg #[.int .i64 (Hm.num s.data.toList 0 4),.int .i64 (Hm.num s.data.toList 5 7),.int .i64 (Hm.num s.data.toList 8 10),.int .i64 (Hm.num s.data.toList 11 13),.int .i64 (Hm.num s.data.toList 14 16),.int .i64 (Hm.num s.data.toList 17 19)])/\Below w.heap.size w w':=by
 have i4:(4:Int)<=(s.size:Int):=by omega
 have i7:(7:Int)<=(s.size:Int):=by omega
 have i10:(10:Int)<=(s.size:Int):=by omega
 have i13:(13:Int)<=(s.size:Int):=by omega
 have i16:(16:Int)<=(s.size:Int):=by omega
 have i19:(19:Int)<=(s.size:Int):=by omega
 have d0:∀ w,Calls Tryz.prog 85 #[.string (s.extract 0 4)] w fun e w'=>e=.returned (.int .i64 (Hm.num s.data.toList 0 4))/\w'=w:=fun w=>by
  have:=decimal_any (s.extract 0 4) w (by simp;omega) (by rw [ex_take];exact Hm.shape_digits hsh 0 4 (by omega) (by intro j h1 h2;rcases (by omega:j=0∨j=1∨j=2∨j=3) with h | h | h | h<;>subst h<;>rfl))
  rwa [ex_take] at this
 have D0:Hid (∀ w,Calls Tryz.prog 85 #[.string (s.extract 0 4)] w fun e w'=>e=.returned (.int .i64 (Hm.num s.data.toList 0 4))/\w'=w):=d0
 clear d0
 have d1:∀ w,Calls Tryz.prog 85 #[.string (s.extract 5 7)] w fun e w'=>e=.returned (.int .i64 (Hm.num s.data.toList 5 7))/\w'=w:=fun w=>by
  have:=decimal_any (s.extract 5 7) w (by simp;omega) (by rw [ex_take];exact Hm.shape_digits hsh 5 7 (by omega) (by intro j h1 h2;rcases (by omega:j=5∨j=6) with h | h<;>subst h<;>rfl))
  rwa [ex_take] at this
 have D1:Hid (∀ w,Calls Tryz.prog 85 #[.string (s.extract 5 7)] w fun e w'=>e=.returned (.int .i64 (Hm.num s.data.toList 5 7))/\w'=w):=d1
 clear d1
 have d2:∀ w,Calls Tryz.prog 85 #[.string (s.extract 8 10)] w fun e w'=>e=.returned (.int .i64 (Hm.num s.data.toList 8 10))/\w'=w:=fun w=>by
  have:=decimal_any (s.extract 8 10) w (by simp;omega) (by rw [ex_take];exact Hm.shape_digits hsh 8 10 (by omega) (by intro j h1 h2;rcases (by omega:j=8∨j=9) with h | h<;>subst h<;>rfl))
  rwa [ex_take] at this
 have D2:Hid (∀ w,Calls Tryz.prog 85 #[.string (s.extract 8 10)] w fun e w'=>e=.returned (.int .i64 (Hm.num s.data.toList 8 10))/\w'=w):=d2
 clear d2
 have d3:∀ w,Calls Tryz.prog 85 #[.string (s.extract 11 13)] w fun e w'=>e=.returned (.int .i64 (Hm.num s.data.toList 11 13))/\w'=w:=fun w=>by
  have:=decimal_any (s.extract 11 13) w (by simp;omega) (by rw [ex_take];exact Hm.shape_digits hsh 11 13 (by omega) (by intro j h1 h2;rcases (by omega:j=11∨j=12) with h | h<;>subst h<;>rfl))
  rwa [ex_take] at this
 have D3:Hid (∀ w,Calls Tryz.prog 85 #[.string (s.extract 11 13)] w fun e w'=>e=.returned (.int .i64 (Hm.num s.data.toList 11 13))/\w'=w):=d3
 clear d3
 have d4:∀ w,Calls Tryz.prog 85 #[.string (s.extract 14 16)] w fun e w'=>e=.returned (.int .i64 (Hm.num s.data.toList 14 16))/\w'=w:=fun w=>by
  have:=decimal_any (s.extract 14 16) w (by simp;omega) (by rw [ex_take];exact Hm.shape_digits hsh 14 16 (by omega) (by intro j h1 h2;rcases (by omega:j=14∨j=15) with h | h<;>subst h<;>rfl))
  rwa [ex_take] at this
 have D4:Hid (∀ w,Calls Tryz.prog 85 #[.string (s.extract 14 16)] w fun e w'=>e=.returned (.int .i64 (Hm.num s.data.toList 14 16))/\w'=w):=d4
 clear d4
 have d5:∀ w,Calls Tryz.prog 85 #[.string (s.extract 17 19)] w fun e w'=>e=.returned (.int .i64 (Hm.num s.data.toList 17 19))/\w'=w:=fun w=>by
  have:=decimal_any (s.extract 17 19) w (by simp;omega) (by rw [ex_take];exact Hm.shape_digits hsh 17 19 (by omega) (by intro j h1 h2;rcases (by omega:j=17∨j=18) with h | h<;>subst h<;>rfl))
  rwa [ex_take] at this
 have D5:Hid (∀ w,Calls Tryz.prog 85 #[.string (s.extract 17 19)] w fun e w'=>e=.returned (.int .i64 (Hm.num s.data.toList 17 19))/\w'=w):=d5
 clear d5
 clear hsh
 go_enter Tryz.func131,Tryz.ntmps131
 go_wp2_with fail
 refine region_tail 18 mixed (by kernel_rfl) ?_
 simp only [List.take_succ_cons,List.take_zero,List.drop_succ_cons,List.drop_zero]
 still_step
 still_step
 still_call (D0.out _)
 still_step
 still_step
 still_call (D1.out _)
 still_step
 still_step
 still_call (D2.out _)
 still_step
 still_step
 still_call (D3.out _)
 still_step
 still_step
 still_call (D4.out _)
 still_step
 still_step
 still_call (D5.out _)
 refine wpStill_nil ?_
 go_wp2
 refine bodyPost_ret (v:=.agg #[.int .i64 (Hm.num s.data.toList 0 4),.int .i64 (Hm.num s.data.toList 5 7),.int .i64 (Hm.num s.data.toList 8 10),.int .i64 (Hm.num s.data.toList 11 13),.int .i64 (Hm.num s.data.toList 14 16),.int .i64 (Hm.num s.data.toList 17 19)]) (by simp [results,Tryz.results131,go_sem]) rfl ⟨rfl,?_⟩
 exact ((Below.refl _ _).alloc (Nat.le_refl _) _).drew
end Go.Proofs.YtdlhbmncbmconaaGreatDoor
namespace Go.Proofs.YtdlhbmncbmconaaGreatDoor
open Go.RowKit Go.Sort
attribute [local go_sem] alloc_drewN setCell_drewN
theorem app_mk (a b:List UInt8):(⟨a.toArray⟩:ByteArray) ++ ⟨b.toArray⟩=⟨(a ++ b).toArray⟩:=by
 apply ByteArray.ext
 simp [ByteArray.data_append]
theorem below_grow0 (w:World) (k:Nat) (os:Array Obj):Below w.heap.size w (grow (w.drewN k) os):=
 ⟨rfl,rfl,rfl,by simp [grow],fun j hj=>by simp [grow,Array.getElem?_append_left hj]⟩
theorem itoa_any (n:Int) (w:World) (h0:0<=n) (h1:n<=9223372036854775807) (hT:Tabs w) :
  Calls Tryz.prog 48 #[.int .i64 n] w fun e w'=>e=.returned (.string ⟨(Lib.decDigits n.toNat).toArray⟩)/\Below w.heap.size w w':=by
 refine (Tryz.strconv_Itoa n (by omega) h1 w hT.p10).mono ?_
 rintro e w' ⟨rfl,k,os,rfl⟩
 refine ⟨by rw [Lib.itoa,if_neg (by omega)],below_grow0 _ _ _⟩
theorem padded_any (n:Int) (c:Nat) (w:World) (h0:0<=n) (h1:n<=9999) (hc:(Lib.decDigits n.toNat).length<=c) (hc2:c<=4) (hT:Tabs w) :
  Calls Tryz.prog 177 #[.int .i64 n,.int .i64 c] w fun e w'=>e=.returned (.string ⟨(Hm.pad n.toNat c).toArray⟩)/\Below w.heap.size w w':=by
 obtain ⟨l,hl⟩:∃ l,Lib.decDigits n.toNat=l:=⟨_,rfl⟩
 have hI:=fun w hT=>itoa_any n w h0 (by omega) hT
 rw [hl] at hc
 have HP:Hid (Hm.pad n.toNat c=Lib.repeatL [48] (c - l.length) ++ l):=by show _=_;unfold Hm.pad;rw [hl]
 simp only [hl] at hI
 have HI:Hid (∀ w,Tabs w->_):=hI
 clear hl hI
 go_enter Tryz.func177,Tryz.ntmps177
 go_wp2_with fail
 refine (HI.out _ hT).mono ?_
 rintro e w1 ⟨rfl,hb⟩
 go_wp2_with fail
 rw [show ((c:Int) - (l.length:Int))=((c - l.length:Nat):Int) by omega]
 refine (Tryz.strings_Repeat ⟨#[48]⟩ (c - l.length) _ (by omega) (by show 1 * (c - l.length)<=_;omega)).mono ?_
 rintro e w2 ⟨rfl,hb2⟩
 have hr:(Lib.repeatL [48] (c - l.length)).length=c - l.length:=by rw [Lib.repeatL_length];simp
 generalize Lib.repeatL [48] (c - l.length)=r at HP hr ⊢
 have hr2:r.length<=4:=by omega
 clear hr
 go_wp2
 go_ret
 refine ⟨?_,hb.trans (hb2.mono hb.size)⟩
 rw [HP.out,<-app_mk]
 rfl
theorem q_step {P:Program} {ops:Array Oper} {C:World->Prop} {Q:Act->Prop} {rest:List Oper} {o:Oper} {a:Act} (v:Value) (hw:Region.wanted o (yielded ops a.tmps)=true)
  (h:∀ w',C w'->o.quietAt P a C w' v) (hr:∀ K:Act->Prop,(∀ a,wpQuiet P ops C Q rest a->K a)->K (a.put o.dst v)):wpQuiet P ops C Q (o :: rest) a:=by
 unfold wpQuiet
 rw [if_pos hw]
 exact ⟨v,h,hr _ fun _ h=>h⟩
theorem region_class {P:Program} {id:Nat} {Q:Exit->Act->World->Prop} {a:Act} {w:World} {l:List Oper} (C:World->Prop) (hm:P.follows .mixedOrders=true) (hB:Region.lexB .any l.toArray=true) (hC:C w.drew)
  (h:wpQuiet P l.toArray C (fun a'=>∀ w',C w'->Q .normal a' w') l a):(Code.region id l.toArray true).wp P Q a w:=
 wp_region_quiet (C:=C) hm hB hC (by simpa using h)
theorem pad_class (n:Int) (c:Nat) (W w':World) (hT:Tabs W) (hw:Below W.heap.size W w') (h0:0<=n) (h1:n<=9999) (hc:(Lib.decDigits n.toNat).length<=c) (hc2:c<=4) :
  Calls Tryz.prog 177 #[.int .i64 n,.int .i64 c] w' fun e w''=>e=.returned (.string ⟨(Hm.pad n.toNat c).toArray⟩)/\Below W.heap.size W w'':=
 (padded_any n c w' h0 h1 hc hc2 (hT.next hw)).mono fun _ _ ⟨he,hb⟩=>⟨he,hw.trans (hb.mono hw.size)⟩
theorem pad4_class (n:Int) (W w':World) (hT:Tabs W) (hw:Below W.heap.size W w') (h0:0<=n) (h1:n<=9999) :
  Calls Tryz.prog 177 #[.int .i64 n,.int .i64 4] w' fun e w''=>e=.returned (.string ⟨(Hm.d4 n.toNat).toArray⟩)/\Below W.heap.size W w'':=by
 have:=pad_class n 4 W w' hT hw h0 h1 (Hm.dd_len4 (by omega)) (by omega)
 rwa [Hm.pad4 (by omega)] at this
theorem pad2_class (n:Int) (W w':World) (hT:Tabs W) (hw:Below W.heap.size W w') (h0:0<=n) (h1:n<=99) :
  Calls Tryz.prog 177 #[.int .i64 n,.int .i64 2] w' fun e w''=>e=.returned (.string ⟨(Hm.d2 n.toNat).toArray⟩)/\Below W.heap.size W w'':=by
 have:=pad_class n 2 W w' hT hw h0 (by omega) (Hm.dd_len2 (by omega)) (by omega)
 rwa [Hm.pad2 (by omega)] at this
theorem block_class {w w':World} {A:Array Value} {t:TypeId} (hb:Below (w.alloc (.cells A t)).heap.size (w.alloc (.cells A t)) w'):w'.heap[w.heap.size]?=some (.cells A t (0,0)):=
 (hb.block _ (by simp)).trans (heap_alloc_new _ _)
set_option maxRecDepth 100000 in
set_option maxHeartbeats 1000000 in
theorem text_any (y mo d h mi s:Int) (w:World) (hT:Tabs w) (hy:1<=y) (hy2:y<=9999) (hm:1<=mo) (hm2:mo<=12) (hd:1<=d) (hd2:d<=31)
  (hh:0<=h) (hh2:h<=23) (hmi:0<=mi) (hmi2:mi<=59) (hs:0<=s) (hs2:s<=59) :
  Calls Tryz.prog 134 #[.agg #[.int .i64 y,.int .i64 mo,.int .i64 d,.int .i64 h,.int .i64 mi,.int .i64 s]] w fun e w'=>
   e=.returned (.string ⟨(Hm.stampText y.toNat mo.toNat d.toNat h.toNat mi.toNat s.toNat).toArray⟩)/\Below w.heap.size w w':=by
 obtain ⟨W,hW⟩:∃ W,w.alloc (.cells #[.int .i64 y,.int .i64 mo,.int .i64 d,.int .i64 h,.int .i64 mi,.int .i64 s] 199)=W:=⟨_,rfl⟩
 have hTW:Tabs W:=hW ▸ hT.alloc _
 have HBW:Hid (Below w.heap.size w W):=hW ▸ (Below.refl _ _).alloc (Nat.le_refl _) _
 have hsz:w.heap.size<=W.heap.size:=HBW.out.size
 have hrow:∀ w',Below W.heap.size W w'->w'.heap[w.heap.size]?=some (.cells #[.int .i64 y,.int .i64 mo,.int .i64 d,.int .i64 h,.int .i64 mi,.int .i64 s] 199 (0,0)):=fun w' hb=>by subst hW;exact block_class hb
 have c0:∀ w',Below W.heap.size W w'->w'.cell? ⟨w.heap.size,0,none⟩=some (.int .i64 y):=fun w' hb=>cell_of_row _ _ _ _ _ _ (hrow w' hb)
 have c1:∀ w',Below W.heap.size W w'->w'.cell? ⟨w.heap.size,1,none⟩=some (.int .i64 mo):=fun w' hb=>cell_of_row _ _ _ _ _ _ (hrow w' hb)
 have c2:∀ w',Below W.heap.size W w'->w'.cell? ⟨w.heap.size,2,none⟩=some (.int .i64 d):=fun w' hb=>cell_of_row _ _ _ _ _ _ (hrow w' hb)
 have c3:∀ w',Below W.heap.size W w'->w'.cell? ⟨w.heap.size,3,none⟩=some (.int .i64 h):=fun w' hb=>cell_of_row _ _ _ _ _ _ (hrow w' hb)
 have c4:∀ w',Below W.heap.size W w'->w'.cell? ⟨w.heap.size,4,none⟩=some (.int .i64 mi):=fun w' hb=>cell_of_row _ _ _ _ _ _ (hrow w' hb)
 have c5:∀ w',Below W.heap.size W w'->w'.cell? ⟨w.heap.size,5,none⟩=some (.int .i64 s):=fun w' hb=>cell_of_row _ _ _ _ _ _ (hrow w' hb)
 obtain ⟨Y,hY⟩:∃ Y,Hm.d4 y.toNat=Y:=⟨_,rfl⟩
 have lY:Y.length=4:=by rw [<-hY];rfl
 have kY:∀ w',Below W.heap.size W w'->Calls Tryz.prog 177 #[.int .i64 y,.int .i64 4] w' fun e w''=>e=.returned (.string ⟨Y.toArray⟩)/\Below W.heap.size W w'':=fun w' hb=>by rw [<-hY];exact pad4_class y W w' hTW hb (by omega) (by omega)
 have KY:Hid (∀ w',Below W.heap.size W w'->Calls Tryz.prog 177 #[.int .i64 y,.int .i64 4] w' fun e w''=>e=.returned (.string ⟨Y.toArray⟩)/\Below W.heap.size W w''):=kY
 clear kY
 obtain ⟨M,hM⟩:∃ M,Hm.d2 mo.toNat=M:=⟨_,rfl⟩
 have lM:M.length=2:=by rw [<-hM];rfl
 have kM:∀ w',Below W.heap.size W w'->Calls Tryz.prog 177 #[.int .i64 mo,.int .i64 2] w' fun e w''=>e=.returned (.string ⟨M.toArray⟩)/\Below W.heap.size W w'':=fun w' hb=>by rw [<-hM];exact pad2_class mo W w' hTW hb (by omega) (by omega)
 have KM:Hid (∀ w',Below W.heap.size W w'->Calls Tryz.prog 177 #[.int .i64 mo,.int .i64 2] w' fun e w''=>e=.returned (.string ⟨M.toArray⟩)/\Below W.heap.size W w''):=kM
 clear kM
 obtain ⟨D,hD⟩:∃ D,Hm.d2 d.toNat=D:=⟨_,rfl⟩
 have lD:D.length=2:=by rw [<-hD];rfl
 have kD:∀ w',Below W.heap.size W w'->Calls Tryz.prog 177 #[.int .i64 d,.int .i64 2] w' fun e w''=>e=.returned (.string ⟨D.toArray⟩)/\Below W.heap.size W w'':=fun w' hb=>by rw [<-hD];exact pad2_class d W w' hTW hb (by omega) (by omega)
 have KD:Hid (∀ w',Below W.heap.size W w'->Calls Tryz.prog 177 #[.int .i64 d,.int .i64 2] w' fun e w''=>e=.returned (.string ⟨D.toArray⟩)/\Below W.heap.size W w''):=kD
 clear kD
 obtain ⟨H,hH⟩:∃ H,Hm.d2 h.toNat=H:=⟨_,rfl⟩
 have lH:H.length=2:=by rw [<-hH];rfl
 have kH:∀ w',Below W.heap.size W w'->Calls Tryz.prog 177 #[.int .i64 h,.int .i64 2] w' fun e w''=>e=.returned (.string ⟨H.toArray⟩)/\Below W.heap.size W w'':=fun w' hb=>by rw [<-hH];exact pad2_class h W w' hTW hb (by omega) (by omega)
 have KH:Hid (∀ w',Below W.heap.size W w'->Calls Tryz.prog 177 #[.int .i64 h,.int .i64 2] w' fun e w''=>e=.returned (.string ⟨H.toArray⟩)/\Below W.heap.size W w''):=kH
 clear kH
 obtain ⟨I,hI⟩:∃ I,Hm.d2 mi.toNat=I:=⟨_,rfl⟩
 have lI:I.length=2:=by rw [<-hI];rfl
 have kI:∀ w',Below W.heap.size W w'->Calls Tryz.prog 177 #[.int .i64 mi,.int .i64 2] w' fun e w''=>e=.returned (.string ⟨I.toArray⟩)/\Below W.heap.size W w'':=fun w' hb=>by rw [<-hI];exact pad2_class mi W w' hTW hb (by omega) (by omega)
 have KI:Hid (∀ w',Below W.heap.size W w'->Calls Tryz.prog 177 #[.int .i64 mi,.int .i64 2] w' fun e w''=>e=.returned (.string ⟨I.toArray⟩)/\Below W.heap.size W w''):=kI
 clear kI
 obtain ⟨S,hS⟩:∃ S,Hm.d2 s.toNat=S:=⟨_,rfl⟩
 have lS:S.length=2:=by rw [<-hS];rfl
 have kS:∀ w',Below W.heap.size W w'->Calls Tryz.prog 177 #[.int .i64 s,.int .i64 2] w' fun e w''=>e=.returned (.string ⟨S.toArray⟩)/\Below W.heap.size W w'':=fun w' hb=>by rw [<-hS];exact pad2_class s W w' hTW hb (by omega) (by omega)
 have KS:Hid (∀ w',Below W.heap.size W w'->Calls Tryz.prog 177 #[.int .i64 s,.int .i64 2] w' fun e w''=>e=.returned (.string ⟨S.toArray⟩)/\Below W.heap.size W w''):=kS
 clear kS
 have HF:Hid (Hm.stampText y.toNat mo.toNat d.toNat h.toNat mi.toNat s.toNat=Y ++ [45] ++ M ++ [45] ++ D ++ [84] ++ H ++ [58] ++ I ++ [58] ++ S):=by
  show _=_
  unfold Hm.stampText
  rw [hY,hM,hD,hH,hI,hS]
 clear hY hM hD hH hI hS hrow
 go_enter Tryz.func134,Tryz.ntmps134
 go_wp2_with fail
 have HW:Hid (w.alloc _=W):=hW
 clear hW
 refine region_class (fun w'=>Below W.heap.size W w') mixed (by kernel_rfl) (Below.refl _ _).drew ?_
 refine q_step _ rfl (fun w' hw'=>by unfold Oper.quietAt;go_simp;rfl) ?_
 intro K hK;go_simp;refine hK _ ?_;clear hK K
 refine q_step (.int .i64 y) rfl (fun w' hw'=>by unfold Oper.quietAt;have hc:=c0 w' hw';go_simp) ?_
 intro K hK;go_simp;refine hK _ ?_;clear hK K
 refine q_step (.string ⟨Y.toArray⟩) rfl (fun w' hw'=>by unfold Oper.quietAt;go_simp;exact KY.out w' hw') ?_
 intro K hK;go_simp;refine hK _ ?_;clear hK K
 refine q_step _ rfl (fun w' hw'=>by unfold Oper.quietAt;go_simp;rfl) ?_
 intro K hK;go_simp;refine hK _ ?_;clear hK K
 refine q_step _ rfl (fun w' hw'=>by unfold Oper.quietAt;go_simp;rfl) ?_
 intro K hK;go_simp;refine hK _ ?_;clear hK K
 refine q_step (.int .i64 mo) rfl (fun w' hw'=>by unfold Oper.quietAt;have hc:=c1 w' hw';go_simp) ?_
 intro K hK;go_simp;refine hK _ ?_;clear hK K
 refine q_step (.string ⟨M.toArray⟩) rfl (fun w' hw'=>by unfold Oper.quietAt;go_simp;exact KM.out w' hw') ?_
 intro K hK;go_simp;refine hK _ ?_;clear hK K
 refine q_step _ rfl (fun w' hw'=>by unfold Oper.quietAt;go_simp;rfl) ?_
 intro K hK;go_simp;refine hK _ ?_;clear hK K
 refine q_step _ rfl (fun w' hw'=>by unfold Oper.quietAt;go_simp;rfl) ?_
 intro K hK;go_simp;refine hK _ ?_;clear hK K
 refine q_step _ rfl (fun w' hw'=>by unfold Oper.quietAt;go_simp;rfl) ?_
 intro K hK;go_simp;refine hK _ ?_;clear hK K
 refine q_step (.int .i64 d) rfl (fun w' hw'=>by unfold Oper.quietAt;have hc:=c2 w' hw';go_simp) ?_
 intro K hK;go_simp;refine hK _ ?_;clear hK K
 refine q_step (.string ⟨D.toArray⟩) rfl (fun w' hw'=>by unfold Oper.quietAt;go_simp;exact KD.out w' hw') ?_
 intro K hK;go_simp;refine hK _ ?_;clear hK K
 refine q_step _ rfl (fun w' hw'=>by unfold Oper.quietAt;go_simp;rfl) ?_
 intro K hK;go_simp;refine hK _ ?_;clear hK K
 refine q_step _ rfl (fun w' hw'=>by unfold Oper.quietAt;go_simp;rfl) ?_
 intro K hK;go_simp;refine hK _ ?_;clear hK K
 refine wpQuiet_nil ?_
 intro w1 hb1
 go_wp2_with fail
 refine region_class (fun w'=>Below W.heap.size W w') mixed (by kernel_rfl) hb1.drew ?_
 refine q_step _ rfl (fun w' hw'=>by unfold Oper.quietAt;go_simp;rfl) ?_
 intro K hK;go_simp;refine hK _ ?_;clear hK K
 refine q_step _ rfl (fun w' hw'=>by unfold Oper.quietAt;go_simp;rfl) ?_
 intro K hK;go_simp;refine hK _ ?_;clear hK K
 refine q_step _ rfl (fun w' hw'=>by unfold Oper.quietAt;go_simp;rfl) ?_
 intro K hK;go_simp;refine hK _ ?_;clear hK K
 refine q_step (.int .i64 h) rfl (fun w' hw'=>by unfold Oper.quietAt;have hc:=c3 w' hw';go_simp) ?_
 intro K hK;go_simp;refine hK _ ?_;clear hK K
 refine q_step (.string ⟨H.toArray⟩) rfl (fun w' hw'=>by unfold Oper.quietAt;go_simp;exact KH.out w' hw') ?_
 intro K hK;go_simp;refine hK _ ?_;clear hK K
 refine q_step _ rfl (fun w' hw'=>by unfold Oper.quietAt;go_simp;rfl) ?_
 intro K hK;go_simp;refine hK _ ?_;clear hK K
 refine q_step _ rfl (fun w' hw'=>by unfold Oper.quietAt;go_simp;rfl) ?_
 intro K hK;go_simp;refine hK _ ?_;clear hK K
 refine q_step _ rfl (fun w' hw'=>by unfold Oper.quietAt;go_simp;rfl) ?_
 intro K hK;go_simp;refine hK _ ?_;clear hK K
 refine q_step (.int .i64 mi) rfl (fun w' hw'=>by unfold Oper.quietAt;have hc:=c4 w' hw';go_simp) ?_
 intro K hK;go_simp;refine hK _ ?_;clear hK K
 refine q_step (.string ⟨I.toArray⟩) rfl (fun w' hw'=>by unfold Oper.quietAt;go_simp;exact KI.out w' hw') ?_
 intro K hK;go_simp;refine hK _ ?_;clear hK K
 refine q_step _ rfl (fun w' hw'=>by unfold Oper.quietAt;go_simp;rfl) ?_
 intro K hK;go_simp;refine hK _ ?_;clear hK K
 refine q_step _ rfl (fun w' hw'=>by unfold Oper.quietAt;go_simp;rfl) ?_
 intro K hK;go_simp;refine hK _ ?_;clear hK K
 refine q_step _ rfl (fun w' hw'=>by unfold Oper.quietAt;go_simp;rfl) ?_
 intro K hK;go_simp;refine hK _ ?_;clear hK K
 refine q_step (.int .i64 s) rfl (fun w' hw'=>by unfold Oper.quietAt;have hc:=c5 w' hw';go_simp) ?_
 intro K hK;go_simp;refine hK _ ?_;clear hK K
 refine q_step (.string ⟨S.toArray⟩) rfl (fun w' hw'=>by unfold Oper.quietAt;go_simp;exact KS.out w' hw') ?_
 intro K hK;go_simp;refine hK _ ?_;clear hK K
 refine q_step _ rfl (fun w' hw'=>by unfold Oper.quietAt;go_simp;rfl) ?_
 intro K hK;go_simp;refine hK _ ?_;clear hK K
 refine q_step _ rfl (fun w' hw'=>by unfold Oper.quietAt;go_simp;rfl) ?_
 intro K hK;go_simp;refine hK _ ?_;clear hK K
 refine wpQuiet_nil ?_
 intro w2 hb2
 go_wp2
 go_ret
 refine ⟨?_,HBW.out.trans (hb2.mono hsz)⟩
 rw [HF.out]
 simp only [<-app_mk]
 rfl
end Go.Proofs.YtdlhbmncbmconaaGreatDoor

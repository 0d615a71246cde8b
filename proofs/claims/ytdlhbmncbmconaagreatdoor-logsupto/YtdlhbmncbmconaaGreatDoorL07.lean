/- Pressed by program out of Be. -/
import Derived.Test.YtdlhbmncbmconaaGreatDoorL06
import Derived.Test.YtdlhbmncbmconaaGreatDoorL00
import Derived.BigRegion
namespace Go.Proofs.YtdlhbmncbmconaaGreatDoor
open Go.RowKit Go.Sort
attribute [local go_sem] alloc_drewN setCell_drewN
theorem isData_any (s:ByteArray) (hs:s.size<=9000000000) (w:World) (hT:Tabs w) :
  Calls Tryz.prog 80 #[.string s] w fun e w'=>e=.returned (.bool (Hm.isData s.data.toList))/\Below w.heap.size w w':=by
 have HL:Hid (s.toList=s.data.toList):=Lib.toList_data s
 have HD:Hid (Calls Tryz.prog 125 #[.string s] w fun e w'=>e=.returned (.int .i64 (Hm.dataLen s.data.toList))/\Below w.heap.size w w'):=dataAhead_any s hs w hT
 by_cases h1:s.toList=[]
 ·go_enter Tryz.func80,Tryz.ntmps80
  go_wp2
  go_ret
  refine ⟨ret_bool ?_,Below.refl _ _⟩
  rw [HL.out] at h1
  rw [h1]
  simp [Hm.isData]
 ·have b1:s.toList.isEmpty=false:=by simpa using h1
  go_enter Tryz.func80,Tryz.ntmps80
  go_wp2_with fail
  refine HD.out.mono ?_
  rintro e w1 ⟨rfl,hb⟩
  go_wp2
  go_ret
  refine ⟨ret_bool ?_,hb⟩
  rw [HL.out] at b1
  simp only [Hm.isData,b1,Hm.len]
  simp
  omega
theorem toldOrData_any (s:ByteArray) (hs:s.size<=9000000000) (w:World) (hT:Tabs w) :
  Calls Tryz.prog 135 #[.string s] w fun e w'=>e=.returned (.int .i64 (Hm.toldOrData s.data.toList))/\Below w.heap.size w w':=by
 have HD:Hid (Calls Tryz.prog 125 #[.string s] w fun e w'=>e=.returned (.int .i64 (Hm.dataLen s.data.toList))/\Below w.heap.size w w'):=dataAhead_any s hs w hT
 cases hp:Lib.hasPrefix s.data.toList [45]
 ·have HF:Hid (Hm.toldOrData s.data.toList=Hm.dataLen s.data.toList):=by show _=_;unfold Hm.toldOrData;rw [if_neg (by simp [hp])]
  go_enter Tryz.func135,Tryz.ntmps135
  go_wp2_with (go_at_call 53;refine (Tryz.strings_HasPrefix _ _ _).mono ?_;rintro e w' ⟨rfl,rfl⟩;rw [hp])
  refine HD.out.mono ?_
  rintro e w1 ⟨rfl,hb⟩
  go_wp2
  go_ret
  exact ⟨by rw [HF.out];rfl,hb⟩
 ·have HF:Hid (Hm.toldOrData s.data.toList=1):=by show _=_;unfold Hm.toldOrData;rw [if_pos hp]
  go_enter Tryz.func135,Tryz.ntmps135
  go_wp2_with (go_at_call 53;refine (Tryz.strings_HasPrefix _ _ _).mono ?_;rintro e w' ⟨rfl,rfl⟩;rw [hp])
  go_ret
  exact ⟨by rw [HF.out];rfl,Below.refl _ _⟩
theorem partAt_any (s:ByteArray) (a:Nat) (hs:s.size<=4000000000) (ha:a<=s.size) (w:World) (hT:Tabs w) :
  Calls Tryz.prog 87 #[.string s,.int .i64 a] w fun e w'=>e=.returned (.tuple #[.string ⟨(Hm.part s.data.toList a).1.toArray⟩,.int .i64 (Hm.part s.data.toList a).2])/\∃ n,w'=w.drewN n:=by
 obtain ⟨m,hm⟩:=hT.ml
 have hc:=Tryz.strings_Cut (s.extract a s.size) ⟨#[32]⟩ m w (by simp;omega) hm
 rw [Hm.drop_ex] at hc
 have hl:=Hm.cut_len (s.data.toList.drop a) [32]
 rw [List.length_drop,Hm.len] at hl
 have HF:Hid (Hm.part s.data.toList a=((Lib.cut (s.data.toList.drop a) [32]).1,a+(Lib.cut (s.data.toList.drop a) [32]).1.length+if (Lib.cut (s.data.toList.drop a) [32]).2.2=true then 1 else 0)):=rfl
 change Calls Tryz.prog 58 _ _ (fun e w'=>e=.returned (.tuple #[.string ⟨(Lib.cut (s.data.toList.drop a) [32]).1.toArray⟩,.string ⟨(Lib.cut (s.data.toList.drop a) [32]).2.1.toArray⟩,.bool (Lib.cut (s.data.toList.drop a) [32]).2.2])/\∃ n,w'=w.drewN n) at hc
 generalize Lib.cut (s.data.toList.drop a) [32]=C at hc hl HF
 obtain ⟨p,r,b⟩:=C
 dsimp only at hc hl HF
 have HC:Hid (Calls Tryz.prog 58 #[.string (s.extract a s.size),.string ⟨#[32]⟩] w (fun e w'=>e=.returned (.tuple #[.string ⟨p.toArray⟩,.string ⟨r.toArray⟩,.bool b])/\∃ n,w'=w.drewN n)):=hc
 clear hc hm hT
 cases b
 all_goals
  go_enter Tryz.func87,Tryz.ntmps87
  go_wp2_with fail
  refine HC.out.mono ?_
  rintro e w1 ⟨rfl,hw⟩
  have HW:Hid (∃ n,w1=w.drewN n):=hw
  clear hw
  go_wp2
  go_ret2
  refine ⟨?_,HW.out⟩
  rw [HF.out]
  exact ret_str_int rfl (by simp)
end Go.Proofs.YtdlhbmncbmconaaGreatDoor
namespace Go.Proofs.YtdlhbmncbmconaaGreatDoor
open Go.RowKit Go.Sort
attribute [local go_sem] alloc_drewN setCell_drewN
theorem ret_int2 {k:IntKind} {a b c d:Int} (h:a=b) (h':c=d):Ending.returned (.tuple #[.int k a,.int k c])=.returned (.tuple #[.int k b,.int k d]):=by rw [h,h']
set_option maxHeartbeats 400000 in
theorem readSource_any (s:ByteArray) (w:World) (hs:s.size<=4000000000) :
  Calls Tryz.prog 52 #[.string s] w fun e w'=>e=.returned (.tuple #[.int .i64 (Hm.source s.data.toList).1,.int .i64 (Hm.source s.data.toList).2])/\w'=w:=by
 cases hp:Lib.hasPrefix s.data.toList [60]
 ·have HF:Hid (Hm.source s.data.toList=(13,0)):=by show _=_;unfold Hm.source;rw [if_pos hp]
  go_enter Tryz.func52,Tryz.ntmps52
  go_wp2_with (go_at_call 53;refine (Tryz.strings_HasPrefix _ _ _).mono ?_;rintro e w' ⟨rfl,rfl⟩;rw [hp])
  go_ret2
  exact ⟨by rw [HF.out];rfl,rfl⟩
 ·have hl:=Hm.prefix_len hp
  simp only [Hm.len,List.length_cons,List.length_nil] at hl
  have hn:=Hm.ahead_le Hm.dig 3 (s.data.toList.drop 1)
  have hdg:=Hm.ahead_digits 3 (s.data.toList.drop 1)
  rw [List.length_drop,Hm.len] at hn
  have HS:Hid (Hm.source s.data.toList=if Hm.ahead Hm.dig 3 (s.data.toList.drop 1)=0∨Lib.hasPrefix (s.data.toList.drop (1+Hm.ahead Hm.dig 3 (s.data.toList.drop 1))) [62]=false then (13,0) else
    if (((s.data.toList.getD 1 0).toNat=48/\1 < Hm.ahead Hm.dig 3 (s.data.toList.drop 1))∨191 < Hm.dec ((s.data.toList.drop 1).take (Hm.ahead Hm.dig 3 (s.data.toList.drop 1)))) then (13,0) else
    (Hm.dec ((s.data.toList.drop 1).take (Hm.ahead Hm.dig 3 (s.data.toList.drop 1))),1+Hm.ahead Hm.dig 3 (s.data.toList.drop 1)+1)):=by
   show _=_
   rw [Hm.source,if_neg (by simp [hp])]
  obtain ⟨n,hnn⟩:∃ n,Hm.ahead Hm.dig 3 (s.data.toList.drop 1)=n:=⟨_,rfl⟩
  have HN:Hid (Hm.ahead Hm.dig 3 (s.data.toList.drop 1)=n):=hnn
  rw [hnn] at hn hdg HS
  clear hnn
  by_cases h0:n=0
  ·have HF:Hid (Hm.source s.data.toList=(13,0)):=by show _=_;rw [HS.out,if_pos (.inl h0)]
   subst h0
   clear hdg
   go_enter Tryz.func52,Tryz.ntmps52
   go_wp2_with (first | (go_at_call 53;refine (Tryz.strings_HasPrefix _ _ _).mono ?_;rintro e w' ⟨rfl,rfl⟩;rw [hp]) | (go_at_call 83;refine (count_digits _ 3 _ (by simp;omega)).mono ?_;rintro e w' ⟨rfl,rfl⟩;rw [Hm.drop_ex,HN.out]))
   go_ret2
   exact ⟨by rw [HF.out];rfl,rfl⟩
  ·have b0:((n:Int) == 0)=false:=beq_eq_false_iff_ne.2 (by omega)
   have j0:(1:Int)+(n:Int)<=(s.size:Int):=by omega
   cases hq:Lib.hasPrefix (s.data.toList.drop (1+n)) [62]
   ·have HF:Hid (Hm.source s.data.toList=(13,0)):=by show _=_;rw [HS.out,if_pos (.inr hq)]
    clear hdg
    go_enter Tryz.func52,Tryz.ntmps52
    go_wp2_with fail
    refine (Tryz.strings_HasPrefix _ _ _).mono ?_
    rintro e w' ⟨rfl,rfl⟩
    rw [hp]
    go_wp2_with (go_at_call 83;refine (count_digits _ 3 _ (by simp;omega)).mono ?_;rintro e w' ⟨rfl,rfl⟩;rw [Hm.drop_ex,HN.out])
    refine (Tryz.strings_HasPrefix _ _ _).mono ?_
    rintro e w' ⟨rfl,rfl⟩
    rw [Hm.drop_ex,hq]
    go_wp2
    go_ret2
    exact ⟨by rw [HF.out];rfl,rfl⟩
   ·have hl2:=Hm.prefix_len hq
    simp only [List.length_drop,Hm.len,List.length_cons,List.length_nil] at hl2
    have e1:(s.extract 1 (1+n)).data.toList=(s.data.toList.drop 1).take n:=by rw [ex_take];simp
    have hb:=Hm.dec_lt _ hdg
    have hlen:((s.data.toList.drop 1).take n).length=n:=by rw [List.length_take,List.length_drop,Hm.len];omega
    rw [hlen] at hb
    have hb2:(10:Nat) ^ n<=10 ^ 3:=Nat.pow_le_pow_right (by omega) (by omega)
    have HDc:Hid (∀ w,Calls Tryz.prog 85 #[.string (s.extract 1 (1+n))] w fun e w'=>e=.returned (.int .i64 (Hm.dec ((s.data.toList.drop 1).take n)))/\w'=w):=fun w=>by
     have:=decimal_any (s.extract 1 (1+n)) w (by simp;omega) (by rw [e1];exact hdg)
     rwa [e1] at this
    obtain ⟨d,hd⟩:∃ d,Hm.dec ((s.data.toList.drop 1).take n)=d:=⟨_,rfl⟩
    rw [hd] at hb HDc HS
    have hdlt:d < 1000:=by omega
    have hx1:1 < s.size:=by omega
    have hg:s.data.toList.getD 1 0=s[1]:=by rw [List.getD_eq_getElem?_getD,List.getElem?_eq_getElem (by rw [Hm.len];exact hx1)];rfl
    have hsz:(s.extract 1 (1+n)).size=n:=by simp;omega
    rw [hg] at HS
    have HQ:Hid (∀ h0:¬ n=0,∀ hq':Lib.hasPrefix (s.data.toList.drop (1+n)) [62]=true,Hm.source s.data.toList=if (s[1].toNat=48/\1 < n)∨191 < d then (13,0) else (d,1+n+1)):=fun h0 hq'=>by
     rw [HS.out,if_neg (by rintro (h | h);exact h0 h;rw [hq'] at h;cases h)]
    have HG:=HQ.out h0 hq
    have HGh:Hid (Hm.source s.data.toList=if (s[1].toNat=48/\1 < n)∨191 < d then (13,0) else (d,1+n+1)):=HG
    clear hdg hb hb2 hlen hd hg HQ HS e1 HG
    have i0:(0:Int) < (n:Int):=by omega
    have hn0:0 < n:=by omega
    have hlt0:0 < (s.extract 1 (1+n)).size:=by rw [hsz];omega
    have hix:(s.extract 1 (1+n))[0]'hlt0=s[1]:=by simp [ByteArray.getElem_extract]
    by_cases z:s[1].toNat=48
    ·have bz:((s[1].toNat:Int) == 48)=true:=beq_iff_eq.2 (by omega)
     by_cases z1:1 < n
     ·have HF:Hid (Hm.source s.data.toList=(13,0)):=by show _=_;rw [HGh.out,if_pos (.inl ⟨z,z1⟩)]
      clear z
      go_enter Tryz.func52,Tryz.ntmps52
      go_wp2_with fail
      refine (Tryz.strings_HasPrefix _ _ _).mono ?_
      rintro e w' ⟨rfl,rfl⟩
      rw [hp]
      go_wp2_with (go_at_call 83;refine (count_digits _ 3 _ (by simp;omega)).mono ?_;rintro e w' ⟨rfl,rfl⟩;rw [Hm.drop_ex,HN.out])
      refine (Tryz.strings_HasPrefix _ _ _).mono ?_
      rintro e w' ⟨rfl,rfl⟩
      rw [Hm.drop_ex,hq]
      go_wp2_with (go_at_call 85;refine (HDc.out _).mono ?_;rintro e w' ⟨rfl,rfl⟩)
      go_ret2
      exact ⟨by rw [HF.out];rfl,rfl⟩
     ·by_cases z2:191 < d
      ·have HF:Hid (Hm.source s.data.toList=(13,0)):=by show _=_;rw [HGh.out,if_pos (.inr z2)]
       clear z
       go_enter Tryz.func52,Tryz.ntmps52
       go_wp2_with fail
       refine (Tryz.strings_HasPrefix _ _ _).mono ?_
       rintro e w' ⟨rfl,rfl⟩
       rw [hp]
       go_wp2_with (go_at_call 83;refine (count_digits _ 3 _ (by simp;omega)).mono ?_;rintro e w' ⟨rfl,rfl⟩;rw [Hm.drop_ex,HN.out])
       refine (Tryz.strings_HasPrefix _ _ _).mono ?_
       rintro e w' ⟨rfl,rfl⟩
       rw [Hm.drop_ex,hq]
       go_wp2_with (go_at_call 85;refine (HDc.out _).mono ?_;rintro e w' ⟨rfl,rfl⟩)
       go_ret2
       exact ⟨by rw [HF.out];rfl,rfl⟩
      ·have HF:Hid (Hm.source s.data.toList=(d,1+n+1)):=by show _=_;rw [HGh.out,if_neg (by omega)]
       clear z
       go_enter Tryz.func52,Tryz.ntmps52
       go_wp2_with fail
       refine (Tryz.strings_HasPrefix _ _ _).mono ?_
       rintro e w' ⟨rfl,rfl⟩
       rw [hp]
       go_wp2_with (go_at_call 83;refine (count_digits _ 3 _ (by simp;omega)).mono ?_;rintro e w' ⟨rfl,rfl⟩;rw [Hm.drop_ex,HN.out])
       refine (Tryz.strings_HasPrefix _ _ _).mono ?_
       rintro e w' ⟨rfl,rfl⟩
       rw [Hm.drop_ex,hq]
       go_wp2_with (go_at_call 85;refine (HDc.out _).mono ?_;rintro e w' ⟨rfl,rfl⟩)
       go_ret2
       exact ⟨by rw [HF.out];exact ret_int2 rfl (by simp),rfl⟩
    ·have bz:((s[1].toNat:Int) == 48)=false:=beq_eq_false_iff_ne.2 (by omega)
     by_cases z2:191 < d
     ·have HF:Hid (Hm.source s.data.toList=(13,0)):=by show _=_;rw [HGh.out,if_pos (.inr z2)]
      clear z
      go_enter Tryz.func52,Tryz.ntmps52
      go_wp2_with fail
      refine (Tryz.strings_HasPrefix _ _ _).mono ?_
      rintro e w' ⟨rfl,rfl⟩
      rw [hp]
      go_wp2_with (go_at_call 83;refine (count_digits _ 3 _ (by simp;omega)).mono ?_;rintro e w' ⟨rfl,rfl⟩;rw [Hm.drop_ex,HN.out])
      refine (Tryz.strings_HasPrefix _ _ _).mono ?_
      rintro e w' ⟨rfl,rfl⟩
      rw [Hm.drop_ex,hq]
      go_wp2_with (go_at_call 85;refine (HDc.out _).mono ?_;rintro e w' ⟨rfl,rfl⟩)
      go_ret2
      exact ⟨by rw [HF.out];rfl,rfl⟩
     ·have HF:Hid (Hm.source s.data.toList=(d,1+n+1)):=by show _=_;rw [HGh.out,if_neg (by omega)]
      clear z
      go_enter Tryz.func52,Tryz.ntmps52
      go_wp2_with fail
      refine (Tryz.strings_HasPrefix _ _ _).mono ?_
      rintro e w' ⟨rfl,rfl⟩
      rw [hp]
      go_wp2_with (go_at_call 83;refine (count_digits _ 3 _ (by simp;omega)).mono ?_;rintro e w' ⟨rfl,rfl⟩;rw [Hm.drop_ex,HN.out])
      refine (Tryz.strings_HasPrefix _ _ _).mono ?_
      rintro e w' ⟨rfl,rfl⟩
      rw [Hm.drop_ex,hq]
      go_wp2_with (go_at_call 85;refine (HDc.out _).mono ?_;rintro e w' ⟨rfl,rfl⟩)
      go_ret2
      exact ⟨by rw [HF.out];exact ret_int2 rfl (by simp),rfl⟩
end Go.Proofs.YtdlhbmncbmconaaGreatDoor
namespace Go.Proofs.YtdlhbmncbmconaaGreatDoor
open Go.RowKit Go.Sort
attribute [local go_sem] alloc_drewN setCell_drewN
def monthCells:Array Value:=(Hm.monthNames.map fun l=>Value.string ⟨l.toArray⟩).toArray
theorem size_months:(Tryz.prog.info? 266).map (·.size)=some 12:=by kernel_rfl
theorem index_month (k:Nat) (hk:k < 12) (w:World):(Instr.index 266 (.agg monthCells) (.int .i64 k)).run Tryz.prog w=.ok (.string ⟨(Hm.monthNames.getD k []).toArray⟩) w:=by
 rcases (by omega:k=0∨k=1∨k=2∨k=3∨k=4∨k=5∨k=6∨k=7∨k=8∨k=9∨k=10∨k=11) with h | h | h | h | h | h | h | h | h | h | h | h<;>subst h<;>kernel_rfl
set_option maxHeartbeats 400000 in
theorem monthNumber_any (s:ByteArray) (w:World) (hT:Tabs w) :
  Calls Tryz.prog 178 #[.string s] w fun e w'=>e=.returned (.int .i64 (Hm.month s.data.toList))/\w'=w:=by
 obtain ⟨t,fr,hrow⟩:=hT.mn
 have HR:Hid (w.heap[7]?=some (.cells monthCells t fr)):=hrow
 clear hrow hT
 obtain ⟨C,hC⟩:∃ C,C=monthCells:=⟨_,rfl⟩
 have HI:Hid (∀ (k:Nat),k < 12->∀ w:World,(Instr.index 266 (.agg C) (.int .i64 k)).run Tryz.prog w=.ok (.string ⟨(Hm.monthNames.getD k []).toArray⟩) w):=by
  show ∀ (k:Nat),_
  rw [hC];exact index_month
 have HC12:Hid (C.size=12):=by show _=_;rw [hC];rfl
 rw [<-hC] at HR
 clear hC
 go_enter Tryz.func178,Tryz.ntmps178
 go_wp2_with (refine wpList_load_row rfl _ _ rfl 7 rfl _ _ _ _ HR.out Tryz.underlying266 rfl (by rw [HC12.out];exact size_months) ?_)
 go_loop [3,4,6] (fun _ _ i=>∃ k:Nat,k<=12/\i=.int .i64 k/\Hm.month s.data.toList=Hm.findFrom s.data.toList (Hm.monthNames.drop k) k) (fun _ _ i=>12 - (intOf i).toNat)
 case atStart=>exact ⟨0,by omega,rfl,rfl⟩
 case round=>
  obtain ⟨k,hk,rfl,hm⟩:=hrel
  have HM:Hid (Hm.month s.data.toList=Hm.findFrom s.data.toList (Hm.monthNames.drop k) k):=hm
  clear hm
  by_cases hlt:k < 12
  ·have hix:=HI.out k hlt
   have hd:Hm.monthNames.drop k=Hm.monthNames.getD k [] :: Hm.monthNames.drop (k+1):=by
    rw [List.drop_eq_getElem_cons (by simpa [Hm.monthNames] using hlt),List.getD_eq_getElem?_getD,List.getElem?_eq_getElem (by simpa [Hm.monthNames] using hlt)]
    rfl
   obtain ⟨m,hmm⟩:∃ m,Hm.monthNames.getD k []=m:=⟨_,rfl⟩
   rw [hmm] at hix hd
   by_cases he:m=s.data.toList
   ·have HF:Hid (Hm.month s.data.toList=k+1):=by show _=_;rw [HM.out,hd,Hm.findFrom,if_pos he]
    have bh:(m == s.toList)=true:=by rw [Lib.toList_data];simpa using he
    clear he hd hmm
    go_wp2
    go_ret
    exact ⟨ret_int (by rw [HF.out];simp),rfl⟩
   ·have HF:Hid (Hm.month s.data.toList=Hm.findFrom s.data.toList (Hm.monthNames.drop (k+1)) (k+1)):=by show _=_;rw [HM.out,hd,Hm.findFrom,if_neg he]
    have bh:(m == s.toList)=false:=by rw [Lib.toList_data];simpa using he
    clear he hd hmm
    go_wp2
    go_round
    case rel=>exact ⟨k+1,by omega,by go_num,HF.out⟩
    case measure=>simp [intOf];omega
  ·have HF:Hid (Hm.month s.data.toList=0):=by
    show _=_
    rw [HM.out,List.drop_of_length_le (by simp [Hm.monthNames];omega),Hm.findFrom]
   go_wp2
   go_ret
   exact ⟨by rw [HF.out];rfl,rfl⟩
end Go.Proofs.YtdlhbmncbmconaaGreatDoor
namespace Go.Proofs.YtdlhbmncbmconaaGreatDoor
open Go.RowKit Go.Sort
attribute [local go_sem] alloc_drewN setCell_drewN
theorem mk_size (l:List UInt8):(⟨l.toArray⟩:ByteArray).size=l.length:=rfl
theorem padded4 (n:Int) (w:World) (hT:Tabs w) (h0:0<=n) (h1:n<=9999) :
  Calls Tryz.prog 177 #[.int .i64 n,.int .i64 4] w fun e w'=>e=.returned (.string ⟨(Hm.d4 n.toNat).toArray⟩)/\Below w.heap.size w w':=pad4_class n w w hT (Below.refl _ _) h0 h1
theorem padded2 (n:Int) (w:World) (hT:Tabs w) (h0:0<=n) (h1:n<=99) :
  Calls Tryz.prog 177 #[.int .i64 n,.int .i64 2] w fun e w'=>e=.returned (.string ⟨(Hm.d2 n.toNat).toArray⟩)/\Below w.heap.size w w':=pad2_class n w w hT (Below.refl _ _) h0 h1
theorem getD_at (s:ByteArray) (k:Nat) (h:k < s.size):s.data.toList.getD k 0=s[k]:=by
 rw [List.getD_eq_getElem?_getD,List.getElem?_eq_getElem (by rw [Hm.len];exact h)];rfl
theorem strbool_ret {a b:ByteArray} {c d:Bool} (h:a=b) (h':c=d):Ending.returned (.tuple #[.string a,.bool c])=.returned (.tuple #[.string b,.bool d]):=by rw [h,h']
set_option maxHeartbeats 1000000 in
theorem oldTime_any (s:ByteArray) (y:Int) (w:World) (hT:Tabs w) (hs:s.size=15) (hy:1<=y) (hy2:y<=9999) :
  Calls Tryz.prog 137 #[.string s,.int .i64 y] w fun e w'=>e=.returned (.tuple #[.string ⟨(Hm.oldTime s.data.toList y.toNat).1.toArray⟩,.bool (Hm.oldTime s.data.toList y.toNat).2])/\Below w.heap.size w w':=by
 have h3:3 < s.size:=by omega
 have h4:4 < s.size:=by omega
 have h6:6 < s.size:=by omega
 have hm:=Hm.month_le (s.data.toList.take 3)
 have HM:Hid (∀ w,Tabs w->Calls Tryz.prog 178 #[.string (s.extract 0 3)] w fun e w'=>e=.returned (.int .i64 (Hm.month (s.data.toList.take 3)))/\w'=w):=fun w hT=>by
  have:=monthNumber_any (s.extract 0 3) w hT
  rwa [ex_take,List.drop_zero] at this
 have HO:Hid (Hm.oldTime s.data.toList y.toNat=if Hm.month (s.data.toList.take 3)=0∨¬ s[3].toNat=32∨¬ s[6].toNat=32∨s[4].toNat=48 then ([],false) else (Hm.oldText s.data.toList y.toNat,Hm.isTime (Hm.oldText s.data.toList y.toNat))):=by
  show _=_
  unfold Hm.oldTime
  rw [getD_at s 3 h3,getD_at s 4 h4,getD_at s 6 h6]
 have HX:Hid (Hm.oldText s.data.toList y.toNat=Hm.d4 y.toNat ++ [45] ++ Hm.d2 (Hm.month (s.data.toList.take 3)) ++ [45] ++ (if s[4].toNat=32 then [48] ++ ((s.data.toList.drop 4).take 2).drop 1 else (s.data.toList.drop 4).take 2) ++ [84] ++ s.data.toList.drop 7 ++ [90]):=by
  show _=_
  unfold Hm.oldText Hm.oldDay
  rw [getD_at s 4 h4]
 obtain ⟨m,hme⟩:∃ m,Hm.month (s.data.toList.take 3)=m:=⟨_,rfl⟩
 rw [hme] at hm HM HO HX
 clear hme
 have i3:(3:Int)<=(s.size:Int):=by omega
 have i6:(6:Int)<=(s.size:Int):=by omega
 have i7:(7:Int)<=(s.size:Int):=by omega
 have i3':(3:Int) < (s.size:Int):=by omega
 have i6':(6:Int) < (s.size:Int):=by omega
 have hz46:(s.extract 4 6).size=2:=by simp;omega
 have hlt0:0 < (s.extract 4 6).size:=by rw [hz46];omega
 have hix:(s.extract 4 6)[0]'hlt0=s[4]:=by simp [ByteArray.getElem_extract]
 have HZ:Hid (s.size=15):=hs
 have HT8:Hid (List.take 8 (s.data.toList.drop 7)=s.data.toList.drop 7):=List.take_of_length_le (by rw [List.length_drop,Hm.len];omega)
 have HT2:Hid (((s.data.toList.drop 4).take 2).tail=(s.data.toList.drop 5).take 1):=by show _=_;rw [<-List.drop_one,List.drop_take,List.drop_drop]
 have hle:s.size<=15:=by omega
 by_cases c0:m=0
 ·have HF:Hid (Hm.oldTime s.data.toList y.toNat=([],false)):=by show _=_;rw [HO.out,if_pos (.inl c0)]
  subst c0
  clear hs
  go_enter Tryz.func137,Tryz.ntmps137
  go_wp2_with (go_at_call 178;refine (HM.out _ hT).mono ?_;rintro e w' ⟨rfl,rfl⟩)
  go_quiet (fail)
  go_wp2
  go_ret2
  exact ⟨by rw [HF.out];rfl,below_drewN (Below.refl _ _) _⟩
 ·have b0:((m:Int) == 0)=false:=beq_eq_false_iff_ne.2 (by omega)
  by_cases c3:s[3].toNat=32
  ·have b3:((s[3].toNat:Int) != 32)=false:=by simp;omega
   by_cases c6:s[6].toNat=32
   ·have b6:((s[6].toNat:Int) != 32)=false:=by simp;omega
    by_cases c4:s[4].toNat=48
    ·have b4:((s[4].toNat:Int) == 48)=true:=beq_iff_eq.2 (by omega)
     have HF:Hid (Hm.oldTime s.data.toList y.toNat=([],false)):=by show _=_;rw [HO.out,if_pos (.inr (.inr (.inr c4)))]
     clear hs c0 c3 c6 c4
     go_enter Tryz.func137,Tryz.ntmps137
     go_wp2_with (go_at_call 178;refine (HM.out _ hT).mono ?_;rintro e w' ⟨rfl,rfl⟩)
     go_quiet (fail)
     go_wp2
     go_ret2
     exact ⟨by rw [HF.out];rfl,below_drewN (Below.refl _ _) _⟩
    ·have b4:((s[4].toNat:Int) == 48)=false:=beq_eq_false_iff_ne.2 (by omega)
     have HF:Hid (Hm.oldTime s.data.toList y.toNat=(Hm.oldText s.data.toList y.toNat,Hm.isTime (Hm.oldText s.data.toList y.toNat))):=by show _=_;rw [HO.out,if_neg (by omega)]
     obtain ⟨Y,hY⟩:∃ Y,Hm.d4 y.toNat=Y:=⟨_,rfl⟩
     have lY:Y.length=4:=by rw [<-hY];rfl
     obtain ⟨M,hM⟩:∃ M,Hm.d2 m=M:=⟨_,rfl⟩
     have lM:M.length=2:=by rw [<-hM];rfl
     have HP4:Hid (∀ w,Tabs w->Calls Tryz.prog 177 #[.int .i64 y,.int .i64 4] w fun e w'=>e=.returned (.string ⟨Y.toArray⟩)/\Below w.heap.size w w'):=fun w hT=>by
      have:=padded4 y w hT (by omega) hy2
      rwa [hY] at this
     have HP2:Hid (∀ w,Tabs w->Calls Tryz.prog 177 #[.int .i64 m,.int .i64 2] w fun e w'=>e=.returned (.string ⟨M.toArray⟩)/\Below w.heap.size w w'):=fun w hT=>by
      have:=padded2 m w hT (by omega) (by omega)
      rwa [Int.toNat_natCast,hM] at this
     rw [hY,hM] at HX
     clear hY hM
     by_cases c5:s[4].toNat=32
     ·have b5:((s[4].toNat:Int) == 32)=true:=beq_iff_eq.2 (by omega)
      rw [if_pos c5] at HX
      clear hs c0 c3 c6 c4 c5
      go_enter Tryz.func137,Tryz.ntmps137
      go_wp2_with (go_at_call 178;refine (HM.out _ hT).mono ?_;rintro e w' ⟨rfl,hw⟩;rw [hw];clear hw)
      go_quiet (fail)
      obtain ⟨w1,hw1⟩:∃ w1,w.drewN nq=w1:=⟨_,rfl⟩
      rw [hw1]
      have HB1:Hid (Below w.heap.size w w1):=hw1 ▸ below_drewN (Below.refl _ _) _
      clear hw1
      go_wp2_with fail
      refine (HP4.out _ (hT.next HB1.out)).mono ?_
      rintro e w2 ⟨rfl,hb2⟩
      have HB2:Hid (Below w.heap.size w w2):=Below.next HB1.out (Nat.le_refl _) hb2
      clear hb2
      go_wp2_with fail
      refine (HP2.out _ (hT.next HB2.out)).mono ?_
      rintro e w3 ⟨rfl,hb3⟩
      have HB3:Hid (Below w.heap.size w w3):=Below.next HB2.out (Nat.le_refl _) hb3
      clear hb3
      go_wp2_with fail
      refine (isTime_any _ _ (hT.next HB3.out) ?_).mono ?_
      ·simp only [ByteArray.size_append,mk_size,ByteArray.size_extract,List.length_cons,List.length_nil,lY,lM]
       omega
      rintro e w4 ⟨rfl,hb4⟩
      have HB4:Hid (Below w.heap.size w w4):=Below.next HB3.out (Nat.le_refl _) hb4
      clear hb4
      go_wp2
      go_ret2
      refine ⟨?_,HB4.out⟩
      rw [HF.out]
      refine strbool_ret (mk_eq ?_) (congrArg Hm.isTime ?_)
      all_goals
       rw [HX.out]
       simp [ByteArray.data_append,HZ.out,HT8.out,HT2.out]
     ·have b5:((s[4].toNat:Int) == 32)=false:=beq_eq_false_iff_ne.2 (by omega)
      rw [if_neg c5] at HX
      clear hs c0 c3 c6 c4 c5
      go_enter Tryz.func137,Tryz.ntmps137
      go_wp2_with (go_at_call 178;refine (HM.out _ hT).mono ?_;rintro e w' ⟨rfl,hw⟩;rw [hw];clear hw)
      go_quiet (fail)
      obtain ⟨w1,hw1⟩:∃ w1,w.drewN nq=w1:=⟨_,rfl⟩
      rw [hw1]
      have HB1:Hid (Below w.heap.size w w1):=hw1 ▸ below_drewN (Below.refl _ _) _
      clear hw1
      go_wp2_with fail
      refine (HP4.out _ (hT.next HB1.out)).mono ?_
      rintro e w2 ⟨rfl,hb2⟩
      have HB2:Hid (Below w.heap.size w w2):=Below.next HB1.out (Nat.le_refl _) hb2
      clear hb2
      go_wp2_with fail
      refine (HP2.out _ (hT.next HB2.out)).mono ?_
      rintro e w3 ⟨rfl,hb3⟩
      have HB3:Hid (Below w.heap.size w w3):=Below.next HB2.out (Nat.le_refl _) hb3
      clear hb3
      go_wp2_with fail
      refine (isTime_any _ _ (hT.next HB3.out) ?_).mono ?_
      ·simp only [ByteArray.size_append,mk_size,ByteArray.size_extract,List.length_cons,List.length_nil,lY,lM]
       omega
      rintro e w4 ⟨rfl,hb4⟩
      have HB4:Hid (Below w.heap.size w w4):=Below.next HB3.out (Nat.le_refl _) hb4
      clear hb4
      go_wp2
      go_ret2
      refine ⟨?_,HB4.out⟩
      rw [HF.out]
      refine strbool_ret (mk_eq ?_) (congrArg Hm.isTime ?_)
      all_goals
       rw [HX.out]
       simp [ByteArray.data_append,HZ.out,HT8.out]
   ·have b6:((s[6].toNat:Int) != 32)=true:=by simp;omega
    have HF:Hid (Hm.oldTime s.data.toList y.toNat=([],false)):=by show _=_;rw [HO.out,if_pos (.inr (.inr (.inl c6)))]
    clear hs c0 c3 c6
    go_enter Tryz.func137,Tryz.ntmps137
    go_wp2_with (go_at_call 178;refine (HM.out _ hT).mono ?_;rintro e w' ⟨rfl,rfl⟩)
    go_quiet (fail)
    go_wp2
    go_ret2
    exact ⟨by rw [HF.out];rfl,below_drewN (Below.refl _ _) _⟩
  ·have b3:((s[3].toNat:Int) != 32)=true:=by simp;omega
   have HF:Hid (Hm.oldTime s.data.toList y.toNat=([],false)):=by show _=_;rw [HO.out,if_pos (.inr (.inl c3))]
   clear hs c0 c3
   go_enter Tryz.func137,Tryz.ntmps137
   go_wp2_with (go_at_call 178;refine (HM.out _ hT).mono ?_;rintro e w' ⟨rfl,rfl⟩)
   go_quiet (fail)
   go_wp2
   go_ret2
   exact ⟨by rw [HF.out];rfl,below_drewN (Below.refl _ _) _⟩
end Go.Proofs.YtdlhbmncbmconaaGreatDoor
namespace Go.Proofs.YtdlhbmncbmconaaGreatDoor
open Go.RowKit Go.Sort
attribute [local go_sem] alloc_drewN setCell_drewN
theorem ret3 {a b c d:ByteArray} {x y:Int} (h1:a=b) (h2:c=d) (h3:x=y):Ending.returned (.agg #[.string a,.string c,.int .i64 x])=.returned (.agg #[.string b,.string d,.int .i64 y]):=by rw [h1,h2,h3]
set_option maxHeartbeats 1000000 in
theorem tagAhead_any (s:ByteArray) (w:World) (hs:s.size<=4000000000) :
  Calls Tryz.prog 92 #[.string s] w fun e w'=>e=.returned (.agg #[.string ⟨(Hm.tag s.data.toList).1.toArray⟩,.string ⟨(Hm.tag s.data.toList).2.1.toArray⟩,.int .i64 (Hm.tag s.data.toList).2.2])/\Below w.heap.size w w':=by
 have hn:=Hm.ahead_le Hm.tgb 16 s.data.toList
 rw [Hm.len] at hn
 have HA:Hid (∀ w,Calls Tryz.prog 83 #[.string s,.int .i64 16,.func (.func 138) #[] #[]] w fun e w'=>e=.returned (.int .i64 (Hm.ahead Hm.tgb 16 s.data.toList))/\w'=w):=fun w=>count_tags s 16 w (by omega)
 have HT0:Hid (Hm.tag s.data.toList=if Hm.ahead Hm.tgb 16 s.data.toList=0∨s.data.toList.take (Hm.ahead Hm.tgb 16 s.data.toList)=[45] then ([],[],0) else
   if Lib.hasPrefix (s.data.toList.drop (Hm.ahead Hm.tgb 16 s.data.toList)) [91]=true then
    (if Hm.ahead Hm.dig 8 (s.data.toList.drop (Hm.ahead Hm.tgb 16 s.data.toList+1))=0∨Lib.hasPrefix (s.data.toList.drop (Hm.ahead Hm.tgb 16 s.data.toList+(1+Hm.ahead Hm.dig 8 (s.data.toList.drop (Hm.ahead Hm.tgb 16 s.data.toList+1))))) [93]=false then ([],[],0) else
     Hm.tagRest s.data.toList (s.data.toList.take (Hm.ahead Hm.tgb 16 s.data.toList)) ((s.data.toList.drop (Hm.ahead Hm.tgb 16 s.data.toList+1)).take (Hm.ahead Hm.dig 8 (s.data.toList.drop (Hm.ahead Hm.tgb 16 s.data.toList+1)))) (Hm.ahead Hm.tgb 16 s.data.toList+(1+Hm.ahead Hm.dig 8 (s.data.toList.drop (Hm.ahead Hm.tgb 16 s.data.toList+1)))+1))
   else Hm.tagRest s.data.toList (s.data.toList.take (Hm.ahead Hm.tgb 16 s.data.toList)) [] (Hm.ahead Hm.tgb 16 s.data.toList)):=rfl
 obtain ⟨n,hne⟩:∃ n,Hm.ahead Hm.tgb 16 s.data.toList=n:=⟨_,rfl⟩
 rw [hne] at hn HA HT0
 clear hne
 have hk:=Hm.ahead_le Hm.dig 8 (s.data.toList.drop (n+1))
 rw [List.length_drop,Hm.len] at hk
 have HK:Hid (∀ w,Calls Tryz.prog 83 #[.string (s.extract (n+1) s.size),.int .i64 8,.func (.func 84) #[] #[]] w fun e w'=>e=.returned (.int .i64 (Hm.ahead Hm.dig 8 (s.data.toList.drop (n+1))))/\w'=w):=fun w=>by
  have:=count_digits (s.extract (n+1) s.size) 8 w (by simp;omega)
  rwa [Hm.drop_ex] at this
 obtain ⟨k,hke⟩:∃ k,Hm.ahead Hm.dig 8 (s.data.toList.drop (n+1))=k:=⟨_,rfl⟩
 rw [hke] at hk HK HT0
 clear hke
 have e1:(s.extract 0 n).data.toList=s.data.toList.take n:=by rw [ex_take];simp
 have E1:Hid ((s.extract 0 n).data.toList=s.data.toList.take n):=e1
 by_cases h0:n=0
 ·have HF:Hid (Hm.tag s.data.toList=([],[],0)):=by show _=_;rw [HT0.out,if_pos (.inl h0)]
  subst h0
  clear e1
  go_enter Tryz.func92,Tryz.ntmps92
  go_wp2_with fail
  refine (HA.out _).mono ?_
  rintro e w' ⟨rfl,rfl⟩
  go_wp2_with (first | (go_at_call 53;refine (Tryz.strings_HasPrefix _ _ _).mono ?_;rintro e w' ⟨rfl,rfl⟩;rw [Hm.drop_ex]) | (go_at_call 83;refine (HK.out _).mono ?_;rintro e w' ⟨rfl,rfl⟩))
  refine bodyPost_ret (v:=.agg #[.string ⟨#[]⟩,.string ⟨#[]⟩,.int .i64 0]) (by simp [results,Tryz.results92,go_sem]) rfl ⟨by rw [HF.out];rfl,?_⟩
  exact (Below.refl _ _).alloc (Nat.le_refl _) _
 ·have b0:((n:Int) == 0)=false:=beq_eq_false_iff_ne.2 (by omega)
  by_cases h1:s.data.toList.take n=[45]
  ·have HF:Hid (Hm.tag s.data.toList=([],[],0)):=by show _=_;rw [HT0.out,if_pos (.inr h1)]
   have b1:(s.extract 0 n).toList=[45]:=by rw [Lib.toList_data,e1];exact h1
   clear e1 h1
   go_enter Tryz.func92,Tryz.ntmps92
   go_wp2_with fail
   refine (HA.out _).mono ?_
   rintro e w' ⟨rfl,rfl⟩
   go_wp2_with (first | (go_at_call 53;refine (Tryz.strings_HasPrefix _ _ _).mono ?_;rintro e w' ⟨rfl,rfl⟩;rw [Hm.drop_ex]) | (go_at_call 83;refine (HK.out _).mono ?_;rintro e w' ⟨rfl,rfl⟩))
   refine bodyPost_ret (v:=.agg #[.string ⟨#[]⟩,.string ⟨#[]⟩,.int .i64 0]) (by simp [results,Tryz.results92,go_sem]) rfl ⟨by rw [HF.out];rfl,?_⟩
   exact (Below.refl _ _).alloc (Nat.le_refl _) _
  ·have b1:((s.extract 0 n).toList == [45])=false:=by rw [Lib.toList_data,e1];simpa using h1
   have HT1:Hid (Hm.tag s.data.toList=_):=HT0.out.trans (if_neg (by rintro (h | h);exact h0 h;exact h1 h))
   clear e1 h1
   cases h91:Lib.hasPrefix (s.data.toList.drop n) [91]
   ·have HT2:Hid (Hm.tag s.data.toList=Hm.tagRest s.data.toList (s.data.toList.take n) [] n):=by show _=_;rw [HT1.out,if_neg (by simp [h91])]
    cases hc:Lib.hasPrefix (s.data.toList.drop (n)) [58]
    ·have HF:Hid (Hm.tag s.data.toList=([],[],0)):=by show _=_;rw [HT2.out,Hm.tagRest,if_pos hc]
     go_enter Tryz.func92,Tryz.ntmps92
     go_wp2_with fail
     refine (HA.out _).mono ?_
     rintro e w' ⟨rfl,rfl⟩
     go_wp2_with (first | (go_at_call 53;refine (Tryz.strings_HasPrefix _ _ _).mono ?_;rintro e w' ⟨rfl,rfl⟩;rw [Hm.drop_ex]) | (go_at_call 83;refine (HK.out _).mono ?_;rintro e w' ⟨rfl,rfl⟩))
     refine bodyPost_ret (v:=.agg #[.string ⟨#[]⟩,.string ⟨#[]⟩,.int .i64 0]) (by simp [results,Tryz.results92,go_sem]) rfl ⟨by rw [HF.out];rfl,?_⟩
     exact (Below.refl _ _).alloc (Nat.le_refl _) _
    ·have hl9:=Hm.prefix_len hc
     simp only [List.length_drop,Hm.len,List.length_cons,List.length_nil] at hl9
     cases hb:Lib.hasPrefix (s.data.toList.drop (n+1)) [32]
     ·have HF:Hid (Hm.tag s.data.toList=(s.data.toList.take n,[],n+1)):=by show _=_;rw [HT2.out,Hm.tagRest,if_neg (by simp [hc]),if_neg (by simp [hb])]
      go_enter Tryz.func92,Tryz.ntmps92
      go_wp2_with fail
      refine (HA.out _).mono ?_
      rintro e w' ⟨rfl,rfl⟩
      go_wp2_with (first | (go_at_call 53;refine (Tryz.strings_HasPrefix _ _ _).mono ?_;rintro e w' ⟨rfl,rfl⟩;rw [Hm.drop_ex]) | (go_at_call 83;refine (HK.out _).mono ?_;rintro e w' ⟨rfl,rfl⟩))
      refine bodyPost_ret (v:=.agg #[.string (s.extract 0 n),.string ⟨#[]⟩,.int .i64 ((n:Int)+1)]) (by simp [results,Tryz.results92,go_sem]) rfl ⟨by rw [HF.out];exact ret3 (mk_eq E1.out) rfl (by dsimp only;omega),?_⟩
      exact (Below.refl _ _).alloc (Nat.le_refl _) _
     ·have HF:Hid (Hm.tag s.data.toList=(s.data.toList.take n,[],n+1+1)):=by show _=_;rw [HT2.out,Hm.tagRest,if_neg (by simp [hc]),if_pos hb]
      go_enter Tryz.func92,Tryz.ntmps92
      go_wp2_with fail
      refine (HA.out _).mono ?_
      rintro e w' ⟨rfl,rfl⟩
      go_wp2_with (first | (go_at_call 53;refine (Tryz.strings_HasPrefix _ _ _).mono ?_;rintro e w' ⟨rfl,rfl⟩;rw [Hm.drop_ex]) | (go_at_call 83;refine (HK.out _).mono ?_;rintro e w' ⟨rfl,rfl⟩))
      refine bodyPost_ret (v:=.agg #[.string (s.extract 0 n),.string ⟨#[]⟩,.int .i64 ((n:Int)+1+1)]) (by simp [results,Tryz.results92,go_sem]) rfl ⟨by rw [HF.out];exact ret3 (mk_eq E1.out) rfl (by dsimp only;omega),?_⟩
      exact (Below.refl _ _).alloc (Nat.le_refl _) _
   ·have hl8:=Hm.prefix_len h91
    simp only [List.length_drop,Hm.len,List.length_cons,List.length_nil] at hl8
    by_cases hk0:k=0
    ·have HF:Hid (Hm.tag s.data.toList=([],[],0)):=by show _=_;rw [HT1.out,if_pos h91,if_pos (.inl hk0)]
     subst hk0
     go_enter Tryz.func92,Tryz.ntmps92
     go_wp2_with fail
     refine (HA.out _).mono ?_
     rintro e w' ⟨rfl,rfl⟩
     go_wp2_with (first | (go_at_call 53;refine (Tryz.strings_HasPrefix _ _ _).mono ?_;rintro e w' ⟨rfl,rfl⟩;rw [Hm.drop_ex]) | (go_at_call 83;refine (HK.out _).mono ?_;rintro e w' ⟨rfl,rfl⟩))
     refine bodyPost_ret (v:=.agg #[.string ⟨#[]⟩,.string ⟨#[]⟩,.int .i64 0]) (by simp [results,Tryz.results92,go_sem]) rfl ⟨by rw [HF.out];rfl,?_⟩
     exact (Below.refl _ _).alloc (Nat.le_refl _) _
    ·have bk:((k:Int) == 0)=false:=beq_eq_false_iff_ne.2 (by omega)
     cases h93:Lib.hasPrefix (s.data.toList.drop (n+(1+k))) [93]
     ·have HF:Hid (Hm.tag s.data.toList=([],[],0)):=by show _=_;rw [HT1.out,if_pos h91,if_pos (.inr h93)]
      go_enter Tryz.func92,Tryz.ntmps92
      go_wp2_with fail
      refine (HA.out _).mono ?_
      rintro e w' ⟨rfl,rfl⟩
      go_wp2_with (first | (go_at_call 53;refine (Tryz.strings_HasPrefix _ _ _).mono ?_;rintro e w' ⟨rfl,rfl⟩;rw [Hm.drop_ex]) | (go_at_call 83;refine (HK.out _).mono ?_;rintro e w' ⟨rfl,rfl⟩))
      refine bodyPost_ret (v:=.agg #[.string ⟨#[]⟩,.string ⟨#[]⟩,.int .i64 0]) (by simp [results,Tryz.results92,go_sem]) rfl ⟨by rw [HF.out];rfl,?_⟩
      exact (Below.refl _ _).alloc (Nat.le_refl _) _
     ·have hl7:=Hm.prefix_len h93
      simp only [List.length_drop,Hm.len,List.length_cons,List.length_nil] at hl7
      have HT2:Hid (Hm.tag s.data.toList=Hm.tagRest s.data.toList (s.data.toList.take n) ((s.data.toList.drop (n+1)).take k) (n+(1+k)+1)):=by
       show _=_
       rw [HT1.out,if_pos h91,if_neg (by rintro (h | h);exact hk0 h;rw [h93] at h;cases h)]
      have E2:Hid ((s.extract (n+1) (n+1+k)).data.toList=(s.data.toList.drop (n+1)).take k):=by show _=_;rw [ex_take,Nat.add_sub_cancel_left]
      cases hc:Lib.hasPrefix (s.data.toList.drop (n+(1+k)+1)) [58]
      ·have HF:Hid (Hm.tag s.data.toList=([],[],0)):=by show _=_;rw [HT2.out,Hm.tagRest,if_pos hc]
       go_enter Tryz.func92,Tryz.ntmps92
       go_wp2_with fail
       refine (HA.out _).mono ?_
       rintro e w' ⟨rfl,rfl⟩
       go_wp2_with (first | (go_at_call 53;refine (Tryz.strings_HasPrefix _ _ _).mono ?_;rintro e w' ⟨rfl,rfl⟩;rw [Hm.drop_ex]) | (go_at_call 83;refine (HK.out _).mono ?_;rintro e w' ⟨rfl,rfl⟩))
       refine bodyPost_ret (v:=.agg #[.string ⟨#[]⟩,.string ⟨#[]⟩,.int .i64 0]) (by simp [results,Tryz.results92,go_sem]) rfl ⟨by rw [HF.out];rfl,?_⟩
       exact (Below.refl _ _).alloc (Nat.le_refl _) _
      ·have hl9:=Hm.prefix_len hc
       simp only [List.length_drop,Hm.len,List.length_cons,List.length_nil] at hl9
       cases hb:Lib.hasPrefix (s.data.toList.drop (n+(1+k)+1+1)) [32]
       ·have HF:Hid (Hm.tag s.data.toList=(s.data.toList.take n,(s.data.toList.drop (n+1)).take k,n+(1+k)+1+1)):=by show _=_;rw [HT2.out,Hm.tagRest,if_neg (by simp [hc]),if_neg (by simp [hb])]
        go_enter Tryz.func92,Tryz.ntmps92
        go_wp2_with fail
        refine (HA.out _).mono ?_
        rintro e w' ⟨rfl,rfl⟩
        go_wp2_with (first | (go_at_call 53;refine (Tryz.strings_HasPrefix _ _ _).mono ?_;rintro e w' ⟨rfl,rfl⟩;rw [Hm.drop_ex]) | (go_at_call 83;refine (HK.out _).mono ?_;rintro e w' ⟨rfl,rfl⟩))
        refine bodyPost_ret (v:=.agg #[.string (s.extract 0 n),.string (s.extract (n+1) (n+1+k)),.int .i64 ((n:Int)+(1+(k:Int))+1+1)]) (by simp [results,Tryz.results92,go_sem]) rfl ⟨by rw [HF.out];exact ret3 (mk_eq E1.out) (mk_eq E2.out) (by dsimp only;omega),?_⟩
        exact (Below.refl _ _).alloc (Nat.le_refl _) _
       ·have HF:Hid (Hm.tag s.data.toList=(s.data.toList.take n,(s.data.toList.drop (n+1)).take k,n+(1+k)+1+1+1)):=by show _=_;rw [HT2.out,Hm.tagRest,if_neg (by simp [hc]),if_pos hb]
        go_enter Tryz.func92,Tryz.ntmps92
        go_wp2_with fail
        refine (HA.out _).mono ?_
        rintro e w' ⟨rfl,rfl⟩
        go_wp2_with (first | (go_at_call 53;refine (Tryz.strings_HasPrefix _ _ _).mono ?_;rintro e w' ⟨rfl,rfl⟩;rw [Hm.drop_ex]) | (go_at_call 83;refine (HK.out _).mono ?_;rintro e w' ⟨rfl,rfl⟩))
        refine bodyPost_ret (v:=.agg #[.string (s.extract 0 n),.string (s.extract (n+1) (n+1+k)),.int .i64 ((n:Int)+(1+(k:Int))+1+1+1)]) (by simp [results,Tryz.results92,go_sem]) rfl ⟨by rw [HF.out];exact ret3 (mk_eq E1.out) (mk_eq E2.out) (by dsimp only;omega),?_⟩
        exact (Below.refl _ _).alloc (Nat.le_refl _) _
end Go.Proofs.YtdlhbmncbmconaaGreatDoor
namespace Go.Proofs.YtdlhbmncbmconaaGreatDoor
open Go.RowKit Go.Sort
attribute [local go_sem] alloc_drewN setCell_drewN
theorem size_stamp:(Tryz.prog.info? 157).map (·.size)=some 3:=by kernel_rfl
theorem cut_blank (s:ByteArray) (w:World) (hT:Tabs w) (hs:s.size<=4000000000) (p r:List UInt8) (b:Bool) (h:Lib.cut s.data.toList [32]=(p,r,b)) :
  Calls Tryz.prog 58 #[.string s,.string ⟨#[32]⟩] w fun e w'=>e=.returned (.tuple #[.string ⟨p.toArray⟩,.string ⟨r.toArray⟩,.bool b])/\∃ n,w'=w.drewN n:=by
 obtain ⟨m,hm⟩:=hT.ml
 have hc:=Tryz.strings_Cut s ⟨#[32]⟩ m w (by omega) hm
 change Calls Tryz.prog 58 _ _ (fun e w'=>e=.returned (.tuple #[.string ⟨(Lib.cut s.data.toList [32]).1.toArray⟩,.string ⟨(Lib.cut s.data.toList [32]).2.1.toArray⟩,.bool (Lib.cut s.data.toList [32]).2.2])/\∃ n,w'=w.drewN n) at hc
 rwa [h] at hc
set_option maxRecDepth 20000 in
set_option maxHeartbeats 1000000 in
theorem stampAhead_any (s:ByteArray) (y:Int) (w:World) (hT:Tabs w) (hs:s.size<=4000000000) (hy:1<=y) (hy2:y<=9999) :
  Calls Tryz.prog 91 #[.string s,.int .i64 y] w fun e w'=>e=.returned (.agg #[.string ⟨(Hm.stamp s.data.toList y.toNat).1.toArray⟩,.string ⟨(Hm.stamp s.data.toList y.toNat).2.1.toArray⟩,.int .i64 (Hm.stamp s.data.toList y.toNat).2.2])/\Below w.heap.size w w':=by
 by_cases h16:s.size < 16
 ·have HF:Hid (Hm.stamp s.data.toList y.toNat=([],[],0)):=by show _=_;unfold Hm.stamp;rw [if_pos (.inl (by rw [Hm.len];exact h16))]
  go_enter Tryz.func91,Tryz.ntmps91
  go_wp2
  refine bodyPost_ret (v:=.agg #[.string ⟨#[]⟩,.string ⟨#[]⟩,.int .i64 0]) (by simp [results,Tryz.results91,go_sem]) rfl ⟨by rw [HF.out];rfl,?_⟩
  exact (Below.refl _ _).alloc (Nat.le_refl _) _
 ·have h15:15 < s.size:=by omega
  have i15:(15:Int) < (s.size:Int):=by omega
  have i15':(15:Int)<=(s.size:Int):=by omega
  have i16:(16:Int)<=(s.size:Int):=by omega
  by_cases hb:s[15].toNat=32
  ·have b15:((s[15].toNat:Int) != 32)=false:=by simp;omega
   obtain ⟨T,right,hO⟩:∃ T right,Hm.oldTime (s.data.toList.take 15) y.toNat=(T,right):=⟨_,_,rfl⟩
   obtain ⟨p,r,ended,hC⟩:∃ p r ended,Lib.cut (s.data.toList.drop 16) [32]=(p,r,ended):=⟨_,_,_,rfl⟩
   have hpl:=Hm.cut_len (s.data.toList.drop 16) [32]
   rw [hC,List.length_drop,Hm.len] at hpl
   dsimp only at hpl
   have HS:Hid (Hm.stamp s.data.toList y.toNat=if right=false∨ended=false∨Hm.word p 32=false then ([],[],0) else (T,p,16+p.length+1)):=by
    show _=_
    unfold Hm.stamp
    rw [if_neg (by rw [Hm.len,getD_at s 15 h15];omega),hO,hC]
   have HO:Hid (∀ w,Tabs w->Calls Tryz.prog 137 #[.string (s.extract 0 15),.int .i64 y] w fun e w'=>e=.returned (.tuple #[.string ⟨T.toArray⟩,.bool right])/\Below w.heap.size w w'):=fun w hT=>by
    have:=oldTime_any (s.extract 0 15) y w hT (by simp;omega) hy hy2
    rwa [ex_take,List.drop_zero,show (15:Nat) - 0=15 from rfl,hO] at this
   have HCt:Hid (∀ w,Tabs w->Calls Tryz.prog 58 #[.string (s.extract 16 s.size),.string ⟨#[32]⟩] w fun e w'=>e=.returned (.tuple #[.string ⟨p.toArray⟩,.string ⟨r.toArray⟩,.bool ended])/\∃ n,w'=w.drewN n):=fun w hT=>
    cut_blank _ w hT (by simp;omega) p r ended (by rw [Hm.drop_ex];exact hC)
   have HWd:Hid (∀ w,Calls Tryz.prog 79 #[.string ⟨p.toArray⟩,.int .i64 32] w fun e w'=>e=.returned (.bool (Hm.word p 32))/\w'=w):=fun w=>
    isWord_any ⟨p.toArray⟩ 32 w (by rw [mk_size];omega) (by omega)
   obtain ⟨wd,hwd⟩:∃ wd,Hm.word p 32=wd:=⟨_,rfl⟩
   rw [hwd] at HS HWd
   clear hO hC hwd hb
   cases right
   ·skip
    have HF:Hid (Hm.stamp s.data.toList y.toNat=([],[],0)):=by show _=_;rw [HS.out];rfl
    go_enter Tryz.func91,Tryz.ntmps91
    go_wp2_with (first
     | (go_at_call 137;refine (HO.out _ (hT.alloc _)).mono ?_;rintro e w1 ⟨rfl,hw1⟩;have HR1:Hid (w1.heap[w.heap.size]?=some (.cells #[.string ⟨#[]⟩,.string ⟨#[]⟩,.int .i64 0] 157 (0,0))):=block_class hw1;have HB1:Hid (Below w.heap.size w w1):=((Below.refl _ _).alloc (Nat.le_refl _) _).trans (hw1.mono (by simp));clear hw1)
     | (go_at_call 58;refine (HCt.out _ (hT.next HB1.out)).mono ?_;rintro e w2 ⟨rfl,hw2⟩;have HR2:Hid (w2.heap[w.heap.size]?=some (.cells #[.string ⟨#[]⟩,.string ⟨#[]⟩,.int .i64 0] 157 (0,0))):=(by obtain ⟨q,rfl⟩:=hw2;exact HR1.out);have HB2:Hid (Below w.heap.size w w2):=Below.next HB1.out (Nat.le_refl _) (drew_below hw2);have hwk:w2.cell? ⟨0,0,none⟩=some (.int .i64 32):=(hT.next HB2.out).wk.cell 0;clear hw2)
     | (go_at_call 79;refine (HWd.out _).mono ?_;rintro e w' ⟨rfl,hw⟩;rw [hw];clear hw)
     | (refine Hw.wpList_store_rowP rfl _ _ _ rfl rfl w.heap.size #[.string ⟨#[]⟩,.string ⟨#[]⟩,.int .i64 0] rfl rfl _ _ HR2.out size_stamp rfl rfl ?_;intro w3 p3;have P3:Hid (Hw.Put w2 w.heap.size _ _ w3):=p3;clear p3))
    refine bodyPost_ret (results_cell_row Tryz.results91 _ _ _ _ _ _ _ rfl P3.out.row Tryz.underlying157 rfl size_stamp) rfl ⟨by rw [HF.out];rfl,?_⟩
    exact HB2.out.trans (P3.out.below (Nat.le_refl _))
   ·cases ended
    ·skip
     have HF:Hid (Hm.stamp s.data.toList y.toNat=([],[],0)):=by show _=_;rw [HS.out];rfl
     go_enter Tryz.func91,Tryz.ntmps91
     go_wp2_with (first
      | (go_at_call 137;refine (HO.out _ (hT.alloc _)).mono ?_;rintro e w1 ⟨rfl,hw1⟩;have HR1:Hid (w1.heap[w.heap.size]?=some (.cells #[.string ⟨#[]⟩,.string ⟨#[]⟩,.int .i64 0] 157 (0,0))):=block_class hw1;have HB1:Hid (Below w.heap.size w w1):=((Below.refl _ _).alloc (Nat.le_refl _) _).trans (hw1.mono (by simp));clear hw1)
      | (go_at_call 58;refine (HCt.out _ (hT.next HB1.out)).mono ?_;rintro e w2 ⟨rfl,hw2⟩;have HR2:Hid (w2.heap[w.heap.size]?=some (.cells #[.string ⟨#[]⟩,.string ⟨#[]⟩,.int .i64 0] 157 (0,0))):=(by obtain ⟨q,rfl⟩:=hw2;exact HR1.out);have HB2:Hid (Below w.heap.size w w2):=Below.next HB1.out (Nat.le_refl _) (drew_below hw2);have hwk:w2.cell? ⟨0,0,none⟩=some (.int .i64 32):=(hT.next HB2.out).wk.cell 0;clear hw2)
      | (go_at_call 79;refine (HWd.out _).mono ?_;rintro e w' ⟨rfl,hw⟩;rw [hw];clear hw)
      | (refine Hw.wpList_store_rowP rfl _ _ _ rfl rfl w.heap.size #[.string ⟨#[]⟩,.string ⟨#[]⟩,.int .i64 0] rfl rfl _ _ HR2.out size_stamp rfl rfl ?_;intro w3 p3;have P3:Hid (Hw.Put w2 w.heap.size _ _ w3):=p3;clear p3))
     refine bodyPost_ret (results_cell_row Tryz.results91 _ _ _ _ _ _ _ rfl P3.out.row Tryz.underlying157 rfl size_stamp) rfl ⟨by rw [HF.out];rfl,?_⟩
     exact HB2.out.trans (P3.out.below (Nat.le_refl _))
    ·cases wd
     ·skip
      have HF:Hid (Hm.stamp s.data.toList y.toNat=([],[],0)):=by show _=_;rw [HS.out];rfl
      go_enter Tryz.func91,Tryz.ntmps91
      go_wp2_with (first
       | (go_at_call 137;refine (HO.out _ (hT.alloc _)).mono ?_;rintro e w1 ⟨rfl,hw1⟩;have HR1:Hid (w1.heap[w.heap.size]?=some (.cells #[.string ⟨#[]⟩,.string ⟨#[]⟩,.int .i64 0] 157 (0,0))):=block_class hw1;have HB1:Hid (Below w.heap.size w w1):=((Below.refl _ _).alloc (Nat.le_refl _) _).trans (hw1.mono (by simp));clear hw1)
       | (go_at_call 58;refine (HCt.out _ (hT.next HB1.out)).mono ?_;rintro e w2 ⟨rfl,hw2⟩;have HR2:Hid (w2.heap[w.heap.size]?=some (.cells #[.string ⟨#[]⟩,.string ⟨#[]⟩,.int .i64 0] 157 (0,0))):=(by obtain ⟨q,rfl⟩:=hw2;exact HR1.out);have HB2:Hid (Below w.heap.size w w2):=Below.next HB1.out (Nat.le_refl _) (drew_below hw2);have hwk:w2.cell? ⟨0,0,none⟩=some (.int .i64 32):=(hT.next HB2.out).wk.cell 0;clear hw2)
       | (go_at_call 79;refine (HWd.out _).mono ?_;rintro e w' ⟨rfl,hw⟩;rw [hw];clear hw)
       | (refine Hw.wpList_store_rowP rfl _ _ _ rfl rfl w.heap.size #[.string ⟨#[]⟩,.string ⟨#[]⟩,.int .i64 0] rfl rfl _ _ HR2.out size_stamp rfl rfl ?_;intro w3 p3;have P3:Hid (Hw.Put w2 w.heap.size _ _ w3):=p3;clear p3))
      refine bodyPost_ret (results_cell_row Tryz.results91 _ _ _ _ _ _ _ rfl P3.out.row Tryz.underlying157 rfl size_stamp) rfl ⟨by rw [HF.out];rfl,?_⟩
      exact HB2.out.trans (P3.out.below (Nat.le_refl _))
     ·skip
      have HF:Hid (Hm.stamp s.data.toList y.toNat=(T,p,16+p.length+1)):=by show _=_;rw [HS.out];rfl
      go_enter Tryz.func91,Tryz.ntmps91
      go_wp2_with (first
       | (go_at_call 137;refine (HO.out _ (hT.alloc _)).mono ?_;rintro e w1 ⟨rfl,hw1⟩;have HR1:Hid (w1.heap[w.heap.size]?=some (.cells #[.string ⟨#[]⟩,.string ⟨#[]⟩,.int .i64 0] 157 (0,0))):=block_class hw1;have HB1:Hid (Below w.heap.size w w1):=((Below.refl _ _).alloc (Nat.le_refl _) _).trans (hw1.mono (by simp));clear hw1)
       | (go_at_call 58;refine (HCt.out _ (hT.next HB1.out)).mono ?_;rintro e w2 ⟨rfl,hw2⟩;have HR2:Hid (w2.heap[w.heap.size]?=some (.cells #[.string ⟨#[]⟩,.string ⟨#[]⟩,.int .i64 0] 157 (0,0))):=(by obtain ⟨q,rfl⟩:=hw2;exact HR1.out);have HB2:Hid (Below w.heap.size w w2):=Below.next HB1.out (Nat.le_refl _) (drew_below hw2);have hwk:w2.cell? ⟨0,0,none⟩=some (.int .i64 32):=(hT.next HB2.out).wk.cell 0;clear hw2)
       | (go_at_call 79;refine (HWd.out _).mono ?_;rintro e w' ⟨rfl,hw⟩;rw [hw];clear hw)
       | (refine Hw.wpList_store_rowP rfl _ _ _ rfl rfl w.heap.size #[.string ⟨T.toArray⟩,.string ⟨p.toArray⟩,.int .i64 (16+(p.length:Int)+1)] rfl rfl _ _ HR2.out size_stamp rfl rfl ?_;intro w3 p3;have P3:Hid (Hw.Put w2 w.heap.size _ _ w3):=p3;clear p3))
      refine bodyPost_ret (results_cell_row Tryz.results91 _ _ _ _ _ _ _ rfl P3.out.row Tryz.underlying157 rfl size_stamp) rfl ⟨by rw [HF.out];exact ret3 rfl rfl (by dsimp only;omega),?_⟩
      exact HB2.out.trans (P3.out.below (Nat.le_refl _))
  ·have b15:((s[15].toNat:Int) != 32)=true:=by simp;omega
   have HF:Hid (Hm.stamp s.data.toList y.toNat=([],[],0)):=by show _=_;unfold Hm.stamp;rw [if_pos (.inr (by rw [getD_at s 15 h15];exact hb))]
   clear hb
   go_enter Tryz.func91,Tryz.ntmps91
   go_wp2
   refine bodyPost_ret (v:=.agg #[.string ⟨#[]⟩,.string ⟨#[]⟩,.int .i64 0]) (by simp [results,Tryz.results91,go_sem]) rfl ⟨by rw [HF.out];rfl,?_⟩
   exact (Below.refl _ _).alloc (Nat.le_refl _) _
end Go.Proofs.YtdlhbmncbmconaaGreatDoor
namespace Go.Proofs.YtdlhbmncbmconaaGreatDoor
open Go.RowKit Go.Sort
attribute [local go_sem] alloc_drewN setCell_drewN
def msgCells (m:Hm.Msg):Array Value:=#[.int .i64 m.fac,.int .i64 m.sev,.string ⟨m.time.toArray⟩,.string ⟨m.host.toArray⟩,.string ⟨m.app.toArray⟩,.string ⟨m.proc.toArray⟩,.string ⟨m.id.toArray⟩,.string ⟨m.data.toArray⟩,.string ⟨m.text.toArray⟩]
theorem size_msg:(Tryz.prog.info? 29).map (·.size)=some 9:=by kernel_rfl
theorem size_str:(Tryz.prog.info? 9).map (·.size)=some 1:=by kernel_rfl
theorem ret_msg {f sv:Value} {t h a p i d:Value} {x z:ByteArray} (e:x=z):Ending.returned (.agg #[f,sv,t,h,a,p,i,d,.string x])=.returned (.agg #[f,sv,t,h,a,p,i,d,.string z]):=by rw [e]
theorem two_sets {w2:World} {g:Nat} {old:Array Value} {t:TypeId} (h:w2.heap[g]?=some (.cells old t (0,0))) (i j:Nat) (u v:Value) :
  Hw.Put w2 g t ((old.setIfInBounds i u).setIfInBounds j v) ((w2.setCell ⟨g,i,none⟩ u).setCell ⟨g,j,none⟩ v).drew:=by
 have h1:=Hw.put_setRow h (old.setIfInBounds i u)
 rw [<-setCell_eq_setRow w2 g i old t (0,0) u h] at h1
 have h2:=Hw.put_setRow h1.row ((old.setIfInBounds i u).setIfInBounds j v)
 rw [<-setCell_eq_setRow _ g j _ t (0,0) v h1.row] at h2
 exact ⟨h2.row,fun k hk=>(h2.other k hk).trans (h1.other k hk),h2.size.trans h1.size,h2.os.trans h1.os,h2.tape.trans h1.tape,h2.output.trans h1.output⟩
theorem cells3 {w1:World} {g:Nat} {a b c:Value} {t:TypeId} (h:w1.heap[g]?=some (.cells #[a,b,c] t (0,0))) :
  (w1.cell? ⟨g,0,none⟩=some a/\w1.cell? ⟨g,1,none⟩=some b/\w1.cell? ⟨g,2,none⟩=some c)/\∀ i,w1.frozen? ⟨g,i,none⟩=false:=
 ⟨⟨cell_of_row _ _ _ _ _ _ h,cell_of_row _ _ _ _ _ _ h,cell_of_row _ _ _ _ _ _ h⟩,fun _=>frozen_of_row _ _ _ _ _ h⟩
set_option maxRecDepth 20000 in
set_option maxHeartbeats 1000000 in
theorem readOld_core (f sv:Int) (t h a p i d x:List UInt8) (s:ByteArray) (y:Int) (w:World) (hT:Tabs w) (_hs:s.size<=4000000000)
  (T H:List UInt8) (L:Nat) (hL:L<=s.size) (HS:Hid (∀ w,Tabs w->Calls Tryz.prog 91 #[.string s,.int .i64 y] w fun e w'=>e=.returned (.agg #[.string ⟨T.toArray⟩,.string ⟨H.toArray⟩,.int .i64 L])/\Below w.heap.size w w'))
  (hpos:0 < L)
  (A P:List UInt8) (G:Nat) (hG:G<=s.size - L) (HG:Hid (∀ w,Calls Tryz.prog 92 #[.string (s.extract L s.size)] w fun e w'=>e=.returned (.agg #[.string ⟨A.toArray⟩,.string ⟨P.toArray⟩,.int .i64 G])/\Below w.heap.size w w')) :
  Calls Tryz.prog 56 #[.agg #[.int .i64 f,.int .i64 sv,.string ⟨t.toArray⟩,.string ⟨h.toArray⟩,.string ⟨a.toArray⟩,.string ⟨p.toArray⟩,.string ⟨i.toArray⟩,.string ⟨d.toArray⟩,.string ⟨x.toArray⟩],.string s,.int .i64 y] w fun e w'=>
   e=.returned (.agg #[.int .i64 f,.int .i64 sv,.string ⟨T.toArray⟩,.string ⟨H.toArray⟩,.string ⟨A.toArray⟩,.string ⟨P.toArray⟩,.string ⟨i.toArray⟩,.string ⟨d.toArray⟩,.string ⟨((s.data.toList.drop L).drop G).toArray⟩])/\Below w.heap.size w w':=by
 go_enter Tryz.func56,Tryz.ntmps56
 go_wp2_with fail
 refine (HS.out _ ((hT.alloc _).alloc _)).mono ?_
 rintro e w1 ⟨rfl,hb⟩
 obtain ⟨r0,r1⟩:=two_blocks hb
 have HB1:Hid (Below w.heap.size w w1):=((((Below.refl _ _).alloc (Nat.le_refl _) _).alloc (by simp) _).trans (hb.mono (by simp;omega)))
 have hz1:w.heap.size+2<=w1.heap.size:=by have:=hb.size;simpa using this
 have HR0:Hid (w1.heap[w.heap.size]?=_):=r0
 have HR1:Hid (w1.heap[w.heap.size+1]?=_):=r1
 clear hb r0 r1
 go_wp2_with (refine Hw.wpList_store_rowP rfl _ _ _ rfl rfl w1.heap.size #[.string ⟨T.toArray⟩,.string ⟨H.toArray⟩,.int .i64 L] rfl rfl _ _ (heap_alloc_new _ _) size_stamp rfl rfl ?_;intro w2 p2;have P2:Hid (Hw.Put (w1.alloc _) w1.heap.size _ _ w2):=p2;obtain ⟨⟨c0,c1,c2⟩,_⟩:=cells3 p2.row;clear p2)
 have R0:w2.heap[w.heap.size]?=some (.cells #[.int .i64 f,.int .i64 sv,.string ⟨t.toArray⟩,.string ⟨h.toArray⟩,.string ⟨a.toArray⟩,.string ⟨p.toArray⟩,.string ⟨i.toArray⟩,.string ⟨d.toArray⟩,.string ⟨x.toArray⟩] 29 (0,0)):=(P2.out.other _ (by omega)).trans ((heap_alloc_old _ _ (by omega)).trans HR0.out)
 have R1:w2.heap[w.heap.size+1]?=_:=(P2.out.other _ (by omega)).trans ((heap_alloc_old _ _ (by omega)).trans HR1.out)
 have b2:w2.cell? ⟨w.heap.size,2,none⟩=some (.string ⟨t.toArray⟩):=cell_of_row _ _ _ _ _ _ R0
 have b3:w2.cell? ⟨w.heap.size,3,none⟩=some (.string ⟨h.toArray⟩):=cell_of_row _ _ _ _ _ _ R0
 have fz:∀ k,w2.frozen? ⟨w.heap.size,k,none⟩=false:=fun k=>frozen_of_row _ _ _ _ _ R0
 have hne:¬ w1.heap.size=w.heap.size:=by omega
 have hne2:¬ w.heap.size=w1.heap.size:=by omega
 have H0:Hid (w2.heap[w.heap.size]?=_):=R0
 have H1:Hid (w2.heap[w.heap.size+1]?=_):=R1
 clear R0 R1
 go_region
 have p3:=two_sets H0.out 2 3 (.string ⟨T.toArray⟩) (.string ⟨H.toArray⟩)
 simp only [List.setIfInBounds_toArray,List.set_cons_succ,List.set_cons_zero] at p3
 generalize ((w2.setCell ⟨w.heap.size,2,none⟩ (.string ⟨T.toArray⟩)).setCell ⟨w.heap.size,3,none⟩ (.string ⟨H.toArray⟩)).drew=w3 at p3 ⊢
 have HR0':Hid (w3.heap[w.heap.size]?=some (.cells #[.int .i64 f,.int .i64 sv,.string ⟨T.toArray⟩,.string ⟨H.toArray⟩,.string ⟨a.toArray⟩,.string ⟨p.toArray⟩,.string ⟨i.toArray⟩,.string ⟨d.toArray⟩,.string ⟨x.toArray⟩] 29 (0,0))):=p3.row
 have HR1':Hid (w3.heap[w.heap.size+1]?=some (.cells #[.int .i64 0,.int .i64 0,.string ⟨#[]⟩,.string ⟨#[]⟩,.string ⟨#[]⟩,.string ⟨#[]⟩,.string ⟨#[]⟩,.string ⟨#[]⟩,.string ⟨#[]⟩] 29 (0,0))):=(p3.other _ (by omega)).trans H1.out
 have HB3:Hid (Below w.heap.size w w3):=((HB1.out.alloc HB1.out.size _).trans (P2.out.below HB1.out.size)).trans (p3.below (Nat.le_refl _))
 have c2':w3.cell? ⟨w1.heap.size,2,none⟩=some (.int .i64 L):=cell_of_row _ _ _ _ _ _ ((p3.other _ (by omega)).trans P2.out.row)
 have hz3:w1.heap.size+1<=w3.heap.size:=by rw [p3.size,P2.out.size];simp
 clear p3 P2 H0 H1 HR0 HR1 HB1 b2 b3 fz c0 c1 c2
 go_wp2_with (go_at_call 92;refine (HG.out _).mono ?_;rintro e w4 ⟨rfl,hb⟩;have HR0:Hid (w4.heap[w.heap.size]?=some (.cells #[.int .i64 f,.int .i64 sv,.string ⟨T.toArray⟩,.string ⟨H.toArray⟩,.string ⟨a.toArray⟩,.string ⟨p.toArray⟩,.string ⟨i.toArray⟩,.string ⟨d.toArray⟩,.string ⟨x.toArray⟩] 29 (0,0))):=(hb.block _ (by omega)).trans HR0'.out;have HR1:Hid (w4.heap[w.heap.size+1]?=some (.cells #[.int .i64 0,.int .i64 0,.string ⟨#[]⟩,.string ⟨#[]⟩,.string ⟨#[]⟩,.string ⟨#[]⟩,.string ⟨#[]⟩,.string ⟨#[]⟩,.string ⟨#[]⟩] 29 (0,0))):=(hb.block _ (by omega)).trans HR1'.out;have HB4:Hid (Below w.heap.size w w4):=Below.next HB3.out (Nat.le_refl _) hb;have hz4:w.heap.size+2<=w4.heap.size:=(by have:=hb.size;omega);clear hb)
 obtain ⟨w5,hw5⟩:∃ w5,w4.alloc (.cells #[.string ⟨A.toArray⟩,.string ⟨P.toArray⟩,.int .i64 G] 160)=w5:=⟨_,rfl⟩
 have hB:Below w4.heap.size w4 w5:=hw5 ▸ (Below.refl _ _).alloc (Nat.le_refl _) _
 have r8:w5.heap[w4.heap.size]?=some (.cells #[.string ⟨A.toArray⟩,.string ⟨P.toArray⟩,.int .i64 G] 160 (0,0)):=hw5 ▸ heap_alloc_new _ _
 rw [hw5]
 clear hw5
 have R0:w5.heap[w.heap.size]?=some (.cells #[.int .i64 f,.int .i64 sv,.string ⟨T.toArray⟩,.string ⟨H.toArray⟩,.string ⟨a.toArray⟩,.string ⟨p.toArray⟩,.string ⟨i.toArray⟩,.string ⟨d.toArray⟩,.string ⟨x.toArray⟩] 29 (0,0)):=(hB.block _ (by omega)).trans HR0.out
 have HR1b:Hid (w5.heap[w.heap.size+1]?=some (.cells #[.int .i64 0,.int .i64 0,.string ⟨#[]⟩,.string ⟨#[]⟩,.string ⟨#[]⟩,.string ⟨#[]⟩,.string ⟨#[]⟩,.string ⟨#[]⟩,.string ⟨#[]⟩] 29 (0,0))):=(hB.block _ (by omega)).trans HR1.out
 have HB5:Hid (Below w.heap.size w w5):=Below.next HB4.out (Nat.le_refl _) hB
 obtain ⟨⟨c0,c1,_⟩,_⟩:=cells3 r8
 have b2:w5.cell? ⟨w.heap.size,4,none⟩=some (.string ⟨a.toArray⟩):=cell_of_row _ _ _ _ _ _ R0
 have b3:w5.cell? ⟨w.heap.size,5,none⟩=some (.string ⟨p.toArray⟩):=cell_of_row _ _ _ _ _ _ R0
 have fz:∀ k,w5.frozen? ⟨w.heap.size,k,none⟩=false:=fun k=>frozen_of_row _ _ _ _ _ R0
 have hne3:¬ w4.heap.size=w.heap.size:=by omega
 have hne4:¬ w.heap.size=w4.heap.size:=by omega
 have H0:Hid (w5.heap[w.heap.size]?=_):=R0
 have H8:Hid (w5.heap[w4.heap.size]?=_):=r8
 clear R0 r8 hB HR0 HR1
 go_region
 have p6:=two_sets H0.out 4 5 (.string ⟨A.toArray⟩) (.string ⟨P.toArray⟩)
 simp only [List.setIfInBounds_toArray,List.set_cons_succ,List.set_cons_zero] at p6
 generalize ((w5.setCell ⟨w.heap.size,4,none⟩ (.string ⟨A.toArray⟩)).setCell ⟨w.heap.size,5,none⟩ (.string ⟨P.toArray⟩)).drew=w6 at p6 ⊢
 have HR6:Hid (w6.heap[w.heap.size]?=some (.cells #[.int .i64 f,.int .i64 sv,.string ⟨T.toArray⟩,.string ⟨H.toArray⟩,.string ⟨A.toArray⟩,.string ⟨P.toArray⟩,.string ⟨i.toArray⟩,.string ⟨d.toArray⟩,.string ⟨x.toArray⟩] 29 (0,0))):=p6.row
 have HR1c:Hid (w6.heap[w.heap.size+1]?=some (.cells #[.int .i64 0,.int .i64 0,.string ⟨#[]⟩,.string ⟨#[]⟩,.string ⟨#[]⟩,.string ⟨#[]⟩,.string ⟨#[]⟩,.string ⟨#[]⟩,.string ⟨#[]⟩] 29 (0,0))):=(p6.other _ (by omega)).trans HR1b.out
 have HB6:Hid (Below w.heap.size w w6):=HB5.out.trans (p6.below (Nat.le_refl _))
 have c2b:w6.cell? ⟨w4.heap.size,2,none⟩=some (.int .i64 G):=cell_of_row _ _ _ _ _ _ ((p6.other _ (by omega)).trans H8.out)
 have hrl:(s.extract L s.size).size=s.size - L:=by simp
 have iG:(G:Int)<=((s.extract L s.size).size:Int):=by omega
 have HRL:Hid ((s.extract L s.size).size=s.size - L):=hrl
 clear p6 H0 H8 HR1b HB5 b2 b3 fz c0 c1 hrl
 go_wp2_with (first
  | (refine Hw.wpList_store_fieldP rfl _ _ _ rfl rfl w.heap.size 8 _ rfl rfl _ _ #[.int .i64 f,.int .i64 sv,.string ⟨T.toArray⟩,.string ⟨H.toArray⟩,.string ⟨A.toArray⟩,.string ⟨P.toArray⟩,.string ⟨i.toArray⟩,.string ⟨d.toArray⟩,.string ((s.extract L s.size).extract G (s.size - L))] HR6.out size_str (by simp) rfl rfl ?_;intro w7 p7;have P7:Hid (Hw.Put w6 _ _ _ w7):=p7;clear p7)
  | (refine wpList_load_row rfl _ _ rfl w.heap.size rfl _ _ _ _ P7.out.row Tryz.underlying29 rfl size_msg ?_)
  | (refine Hw.wpList_store_rowP rfl _ _ _ rfl rfl (w.heap.size+1) _ rfl rfl _ _ ((P7.out.other _ (by omega)).trans HR1c.out) size_msg rfl rfl ?_;intro w8 p8;have P8:Hid (Hw.Put w7 _ _ _ w8):=p8;clear p8))
 refine bodyPost_ret (results_cell_row Tryz.results56 _ _ _ _ _ _ _ rfl P8.out.row Tryz.underlying29 rfl size_msg) rfl ⟨?_,?_⟩
 ·exact ret_msg (mk_eq (by rw [ex_take,Hm.drop_ex,List.take_of_length_le (by rw [List.length_drop,List.length_drop,Hm.len];omega)]))
 ·exact (HB6.out.trans (P7.out.below (Nat.le_refl _))).trans (P8.out.below (by omega))
set_option maxRecDepth 20000 in
set_option maxHeartbeats 1000000 in
theorem readOld_core2 (f sv:Int) (t h a p i d x:List UInt8) (s:ByteArray) (y:Int) (w:World) (hT:Tabs w) (_hs:s.size<=4000000000)
  (T H:List UInt8) (HS:Hid (∀ w,Tabs w->Calls Tryz.prog 91 #[.string s,.int .i64 y] w fun e w'=>e=.returned (.agg #[.string ⟨T.toArray⟩,.string ⟨H.toArray⟩,.int .i64 0])/\Below w.heap.size w w'))
  (hne:¬ s.data.toList=[])
  (A P:List UInt8) (G:Nat) (hG:G<=s.size) (HG:Hid (∀ w,Calls Tryz.prog 92 #[.string s] w fun e w'=>e=.returned (.agg #[.string ⟨A.toArray⟩,.string ⟨P.toArray⟩,.int .i64 G])/\Below w.heap.size w w')) :
  Calls Tryz.prog 56 #[.agg #[.int .i64 f,.int .i64 sv,.string ⟨t.toArray⟩,.string ⟨h.toArray⟩,.string ⟨a.toArray⟩,.string ⟨p.toArray⟩,.string ⟨i.toArray⟩,.string ⟨d.toArray⟩,.string ⟨x.toArray⟩],.string s,.int .i64 y] w fun e w'=>
   e=.returned (.agg #[.int .i64 f,.int .i64 sv,.string ⟨t.toArray⟩,.string ⟨h.toArray⟩,.string ⟨A.toArray⟩,.string ⟨P.toArray⟩,.string ⟨i.toArray⟩,.string ⟨d.toArray⟩,.string ⟨(s.data.toList.drop G).toArray⟩])/\Below w.heap.size w w':=by
 have bne:s.toList.isEmpty=false:=by rw [Lib.toList_data];simpa using hne
 clear hne
 go_enter Tryz.func56,Tryz.ntmps56
 go_wp2_with fail
 refine (HS.out _ ((hT.alloc _).alloc _)).mono ?_
 rintro e w1 ⟨rfl,hb⟩
 obtain ⟨r0,r1⟩:=two_blocks hb
 have HB1:Hid (Below w.heap.size w w1):=((((Below.refl _ _).alloc (Nat.le_refl _) _).alloc (by simp) _).trans (hb.mono (by simp;omega)))
 have hz1:w.heap.size+2<=w1.heap.size:=by have:=hb.size;simpa using this
 have HR0i:Hid (w1.heap[w.heap.size]?=_):=r0
 have HR1i:Hid (w1.heap[w.heap.size+1]?=_):=r1
 clear hb r0 r1
 go_wp2_with (first
  | (refine Hw.wpList_store_rowP rfl _ _ _ rfl rfl w1.heap.size #[.string ⟨T.toArray⟩,.string ⟨H.toArray⟩,.int .i64 0] rfl rfl _ _ (heap_alloc_new _ _) size_stamp rfl rfl ?_;intro w2 p2;have P2:Hid (Hw.Put (w1.alloc _) w1.heap.size _ _ w2):=p2;obtain ⟨⟨c0,c1,c2⟩,_⟩:=cells3 p2.row;clear p2)
  | (go_at_call 92;refine (HG.out _).mono ?_;rintro e w4 ⟨rfl,hb⟩;have HR0:Hid (w4.heap[w.heap.size]?=some (.cells #[.int .i64 f,.int .i64 sv,.string ⟨t.toArray⟩,.string ⟨h.toArray⟩,.string ⟨a.toArray⟩,.string ⟨p.toArray⟩,.string ⟨i.toArray⟩,.string ⟨d.toArray⟩,.string ⟨x.toArray⟩] 29 (0,0))):=(hb.block _ (by rw [P2.out.size];simp;omega)).trans ((P2.out.other _ (by omega)).trans ((heap_alloc_old _ _ (by omega)).trans HR0i.out));have HR1:Hid (w4.heap[w.heap.size+1]?=some (.cells #[.int .i64 0,.int .i64 0,.string ⟨#[]⟩,.string ⟨#[]⟩,.string ⟨#[]⟩,.string ⟨#[]⟩,.string ⟨#[]⟩,.string ⟨#[]⟩,.string ⟨#[]⟩] 29 (0,0))):=(hb.block _ (by rw [P2.out.size];simp;omega)).trans ((P2.out.other _ (by omega)).trans ((heap_alloc_old _ _ (by omega)).trans HR1i.out));have HB4:Hid (Below w.heap.size w w4):=Below.next ((HB1.out.alloc HB1.out.size _).trans (P2.out.below HB1.out.size)) (Nat.le_refl _) hb;have hz4:w.heap.size+2<=w4.heap.size:=(by have:=hb.size;rw [P2.out.size] at this;simp at this;omega);clear hb c0 c1 c2))
 obtain ⟨w5,hw5⟩:∃ w5,w4.alloc (.cells #[.string ⟨A.toArray⟩,.string ⟨P.toArray⟩,.int .i64 G] 160)=w5:=⟨_,rfl⟩
 have hB:Below w4.heap.size w4 w5:=hw5 ▸ (Below.refl _ _).alloc (Nat.le_refl _) _
 have r8:w5.heap[w4.heap.size]?=some (.cells #[.string ⟨A.toArray⟩,.string ⟨P.toArray⟩,.int .i64 G] 160 (0,0)):=hw5 ▸ heap_alloc_new _ _
 rw [hw5]
 clear hw5
 have R0:w5.heap[w.heap.size]?=some (.cells #[.int .i64 f,.int .i64 sv,.string ⟨t.toArray⟩,.string ⟨h.toArray⟩,.string ⟨a.toArray⟩,.string ⟨p.toArray⟩,.string ⟨i.toArray⟩,.string ⟨d.toArray⟩,.string ⟨x.toArray⟩] 29 (0,0)):=(hB.block _ (by omega)).trans HR0.out
 have HR1b:Hid (w5.heap[w.heap.size+1]?=some (.cells #[.int .i64 0,.int .i64 0,.string ⟨#[]⟩,.string ⟨#[]⟩,.string ⟨#[]⟩,.string ⟨#[]⟩,.string ⟨#[]⟩,.string ⟨#[]⟩,.string ⟨#[]⟩] 29 (0,0))):=(hB.block _ (by omega)).trans HR1.out
 have HB5:Hid (Below w.heap.size w w5):=Below.next HB4.out (Nat.le_refl _) hB
 obtain ⟨⟨c0,c1,_⟩,_⟩:=cells3 r8
 have b2:w5.cell? ⟨w.heap.size,4,none⟩=some (.string ⟨a.toArray⟩):=cell_of_row _ _ _ _ _ _ R0
 have b3:w5.cell? ⟨w.heap.size,5,none⟩=some (.string ⟨p.toArray⟩):=cell_of_row _ _ _ _ _ _ R0
 have fz:∀ k,w5.frozen? ⟨w.heap.size,k,none⟩=false:=fun k=>frozen_of_row _ _ _ _ _ R0
 have hne3:¬ w4.heap.size=w.heap.size:=by omega
 have hne4:¬ w.heap.size=w4.heap.size:=by omega
 have H0:Hid (w5.heap[w.heap.size]?=_):=R0
 have H8:Hid (w5.heap[w4.heap.size]?=_):=r8
 clear R0 r8 hB HR0 HR1
 go_region
 have p6:=two_sets H0.out 4 5 (.string ⟨A.toArray⟩) (.string ⟨P.toArray⟩)
 simp only [List.setIfInBounds_toArray,List.set_cons_succ,List.set_cons_zero] at p6
 generalize ((w5.setCell ⟨w.heap.size,4,none⟩ (.string ⟨A.toArray⟩)).setCell ⟨w.heap.size,5,none⟩ (.string ⟨P.toArray⟩)).drew=w6 at p6 ⊢
 have HR6:Hid (w6.heap[w.heap.size]?=some (.cells #[.int .i64 f,.int .i64 sv,.string ⟨t.toArray⟩,.string ⟨h.toArray⟩,.string ⟨A.toArray⟩,.string ⟨P.toArray⟩,.string ⟨i.toArray⟩,.string ⟨d.toArray⟩,.string ⟨x.toArray⟩] 29 (0,0))):=p6.row
 have HR1c:Hid (w6.heap[w.heap.size+1]?=some (.cells #[.int .i64 0,.int .i64 0,.string ⟨#[]⟩,.string ⟨#[]⟩,.string ⟨#[]⟩,.string ⟨#[]⟩,.string ⟨#[]⟩,.string ⟨#[]⟩,.string ⟨#[]⟩] 29 (0,0))):=(p6.other _ (by omega)).trans HR1b.out
 have HB6:Hid (Below w.heap.size w w6):=HB5.out.trans (p6.below (Nat.le_refl _))
 have c2b:w6.cell? ⟨w4.heap.size,2,none⟩=some (.int .i64 G):=cell_of_row _ _ _ _ _ _ ((p6.other _ (by omega)).trans H8.out)
 have hrl:s.size=s.size - 0:=by simp
 have iG:(G:Int)<=(s.size:Int):=by omega
 have HRL:Hid (s.size=s.size - 0):=hrl
 clear p6 H0 H8 HR1b HB5 b2 b3 fz c0 c1 hrl
 go_wp2_with (first
  | (refine Hw.wpList_store_fieldP rfl _ _ _ rfl rfl w.heap.size 8 _ rfl rfl _ _ #[.int .i64 f,.int .i64 sv,.string ⟨t.toArray⟩,.string ⟨h.toArray⟩,.string ⟨A.toArray⟩,.string ⟨P.toArray⟩,.string ⟨i.toArray⟩,.string ⟨d.toArray⟩,.string (s.extract G s.size)] HR6.out size_str (by simp) rfl rfl ?_;intro w7 p7;have P7:Hid (Hw.Put w6 _ _ _ w7):=p7;clear p7)
  | (refine wpList_load_row rfl _ _ rfl w.heap.size rfl _ _ _ _ P7.out.row Tryz.underlying29 rfl size_msg ?_)
  | (refine Hw.wpList_store_rowP rfl _ _ _ rfl rfl (w.heap.size+1) _ rfl rfl _ _ ((P7.out.other _ (by omega)).trans HR1c.out) size_msg rfl rfl ?_;intro w8 p8;have P8:Hid (Hw.Put w7 _ _ _ w8):=p8;clear p8))
 refine bodyPost_ret (results_cell_row Tryz.results56 _ _ _ _ _ _ _ rfl P8.out.row Tryz.underlying29 rfl size_msg) rfl ⟨?_,?_⟩
 ·exact ret_msg (mk_eq (by rw [Hm.drop_ex]))
 ·exact (HB6.out.trans (P7.out.below (Nat.le_refl _))).trans (P8.out.below (by omega))
set_option maxRecDepth 20000 in
set_option maxHeartbeats 1000000 in
theorem readOld_core3 (f sv:Int) (t h a p i d x:List UInt8) (s:ByteArray) (y:Int) (w:World) (hT:Tabs w)
  (T H:List UInt8) (HS:Hid (∀ w,Tabs w->Calls Tryz.prog 91 #[.string s,.int .i64 y] w fun e w'=>e=.returned (.agg #[.string ⟨T.toArray⟩,.string ⟨H.toArray⟩,.int .i64 0])/\Below w.heap.size w w'))
  (hne:s.data.toList=[]) :
  Calls Tryz.prog 56 #[.agg #[.int .i64 f,.int .i64 sv,.string ⟨t.toArray⟩,.string ⟨h.toArray⟩,.string ⟨a.toArray⟩,.string ⟨p.toArray⟩,.string ⟨i.toArray⟩,.string ⟨d.toArray⟩,.string ⟨x.toArray⟩],.string s,.int .i64 y] w fun e w'=>
   e=.returned (.agg #[.int .i64 f,.int .i64 sv,.string ⟨t.toArray⟩,.string ⟨h.toArray⟩,.string ⟨a.toArray⟩,.string ⟨p.toArray⟩,.string ⟨i.toArray⟩,.string ⟨d.toArray⟩,.string s])/\Below w.heap.size w w':=by
 have bne:s.toList.isEmpty=true:=by rw [Lib.toList_data,hne];rfl
 clear hne
 go_enter Tryz.func56,Tryz.ntmps56
 go_wp2_with fail
 refine (HS.out _ ((hT.alloc _).alloc _)).mono ?_
 rintro e w1 ⟨rfl,hb⟩
 obtain ⟨r0,r1⟩:=two_blocks hb
 have HB1:Hid (Below w.heap.size w w1):=((((Below.refl _ _).alloc (Nat.le_refl _) _).alloc (by simp) _).trans (hb.mono (by simp;omega)))
 have hz1:w.heap.size+2<=w1.heap.size:=by have:=hb.size;simpa using this
 have HR0i:Hid (w1.heap[w.heap.size]?=_):=r0
 have HR1i:Hid (w1.heap[w.heap.size+1]?=_):=r1
 clear hb r0 r1
 go_wp2_with (first
  | (refine Hw.wpList_store_rowP rfl _ _ _ rfl rfl w1.heap.size #[.string ⟨T.toArray⟩,.string ⟨H.toArray⟩,.int .i64 0] rfl rfl _ _ (heap_alloc_new _ _) size_stamp rfl rfl ?_;intro w2 p2;have HR6:Hid (w2.heap[w.heap.size]?=some (.cells #[.int .i64 f,.int .i64 sv,.string ⟨t.toArray⟩,.string ⟨h.toArray⟩,.string ⟨a.toArray⟩,.string ⟨p.toArray⟩,.string ⟨i.toArray⟩,.string ⟨d.toArray⟩,.string ⟨x.toArray⟩] 29 (0,0))):=(p2.other _ (by omega)).trans ((heap_alloc_old _ _ (by omega)).trans HR0i.out);have HR1c:Hid (w2.heap[w.heap.size+1]?=some (.cells #[.int .i64 0,.int .i64 0,.string ⟨#[]⟩,.string ⟨#[]⟩,.string ⟨#[]⟩,.string ⟨#[]⟩,.string ⟨#[]⟩,.string ⟨#[]⟩,.string ⟨#[]⟩] 29 (0,0))):=(p2.other _ (by omega)).trans ((heap_alloc_old _ _ (by omega)).trans HR1i.out);have HB6:Hid (Below w.heap.size w w2):=(HB1.out.alloc HB1.out.size _).trans (p2.below HB1.out.size);obtain ⟨⟨c0,c1,c2⟩,_⟩:=cells3 p2.row;clear p2)
  | (refine Hw.wpList_store_fieldP rfl _ _ _ rfl rfl w.heap.size 8 _ rfl rfl _ _ #[.int .i64 f,.int .i64 sv,.string ⟨t.toArray⟩,.string ⟨h.toArray⟩,.string ⟨a.toArray⟩,.string ⟨p.toArray⟩,.string ⟨i.toArray⟩,.string ⟨d.toArray⟩,.string s] HR6.out size_str (by simp) rfl rfl ?_;intro w7 p7;have P7:Hid (Hw.Put w2 _ _ _ w7):=p7;clear p7)
  | (refine wpList_load_row rfl _ _ rfl w.heap.size rfl _ _ _ _ P7.out.row Tryz.underlying29 rfl size_msg ?_)
  | (refine Hw.wpList_store_rowP rfl _ _ _ rfl rfl (w.heap.size+1) _ rfl rfl _ _ ((P7.out.other _ (by omega)).trans HR1c.out) size_msg rfl rfl ?_;intro w8 p8;have P8:Hid (Hw.Put w7 _ _ _ w8):=p8;clear p8))
 refine bodyPost_ret (results_cell_row Tryz.results56 _ _ _ _ _ _ _ rfl P8.out.row Tryz.underlying29 rfl size_msg) rfl ⟨rfl,?_⟩
 exact (HB6.out.trans (P7.out.below (Nat.le_refl _))).trans (P8.out.below (by omega))
theorem readOld_any (f sv:Int) (s:ByteArray) (y:Int) (w:World) (hT:Tabs w) (hs:s.size<=4000000000) (hy:1<=y) (hy2:y<=9999) :
  Calls Tryz.prog 56 #[.agg (msgCells (Hm.Msg.of f sv)),.string s,.int .i64 y] w fun e w'=>
   e=.returned (.agg (msgCells (Hm.readOld (Hm.Msg.of f sv) s.data.toList y.toNat)))/\Below w.heap.size w w':=by
 have hst:=fun w hT=>stampAhead_any s y w hT hs hy hy2
 have hsl:=Hm.stamp_le s.data.toList y.toNat
 rw [Hm.len] at hsl
 unfold Hm.readOld
 obtain ⟨T,H,L,hS⟩:∃ T H L,Hm.stamp s.data.toList y.toNat=(T,H,L):=⟨_,_,_,rfl⟩
 simp only [hS] at hst hsl ⊢
 by_cases hp:0 < L
 ·rw [if_pos hp]
  have htg:=fun w=>tagAhead_any (s.extract L s.size) w (by simp;omega)
  have htl:=Hm.tag_le (s.data.toList.drop L)
  rw [List.length_drop,Hm.len] at htl
  simp only [Hm.drop_ex] at htg
  exact readOld_core f sv [] [] [] [] [] [] [] s y w hT hs T H L hsl hst hp _ _ _ htl htg
 ·rw [if_neg hp]
  obtain rfl:L=0:=by omega
  by_cases hn:s.data.toList=[]
  ·have:=readOld_core3 f sv [] [] [] [] [] [] [] s y w hT T H hst hn
   rw [hn]
   rw [show s=⟨#[]⟩ from mk_eq hn] at this ⊢
   exact this
  ·have htl:=Hm.tag_le s.data.toList
   rw [Hm.len] at htl
   exact readOld_core2 f sv [] [] [] [] [] [] [] s y w hT hs T H hst hn _ _ _ htl (fun w=>tagAhead_any s w hs)
end Go.Proofs.YtdlhbmncbmconaaGreatDoor

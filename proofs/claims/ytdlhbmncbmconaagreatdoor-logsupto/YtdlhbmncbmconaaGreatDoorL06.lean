/- Pressed by program out of Bc Bd. -/
import Derived.Test.YtdlhbmncbmconaaGreatDoorL05
import Derived.Test.YtdlhbmncbmconaaGreatDoorL00
import Derived.RangeFuncNested
import Derived.RangeFuncBound
import Derived.RangeFuncCalls
import Derived.RangeFuncLeaves
import Derived.RangeFuncWrites
import Derived.Shelf.Abstract
import Derived.Shelf.RegionOpen
import Derived.OwnWalkIn
import Derived.TacticsInMore
import Derived.LoopNIn
import Derived.LoopIn
import Derived.Maps.OwnIn
namespace Go.Proofs.YtdlhbmncbmconaaGreatDoor
open Go.RowKit Go.Sort
attribute [local go_sem] alloc_drewN setCell_drewN
theorem ret_str2 {a b c d:ByteArray} (h:a=b) (h':c=d):Ending.returned (.tuple #[.string a,.string c])=.returned (.tuple #[.string b,.string d]):=by rw [h,h']
theorem mk_eq {s:ByteArray} {l:List UInt8} (h:s.data.toList=l):s=⟨l.toArray⟩:=by rw [<-h,Lib.mk_data]
set_option maxHeartbeats 400000 in
theorem cutFraction_any (s:ByteArray) (w:World) (hs:s.size<=9223372036854775700) :
  Calls Tryz.prog 129 #[.string s] w fun e w'=>e=.returned (.tuple #[.string ⟨(Hm.fraction s.data.toList).1.toArray⟩,.string ⟨(Hm.fraction s.data.toList).2.toArray⟩])/\∃ n,w'=w.drewN n:=by
 cases hp:Lib.hasPrefix s.data.toList [46]
 ·have HF:Hid (Hm.fraction s.data.toList=([],s.data.toList)):=by show _=_;unfold Hm.fraction;rw [if_pos hp]
  go_enter Tryz.func129,Tryz.ntmps129
  go_wp2_with (go_at_call 53;refine (Tryz.strings_HasPrefix _ _ _).mono ?_;rintro e w' ⟨rfl,rfl⟩;rw [hp])
  go_ret2
  exact ⟨by rw [HF.out];exact ret_str2 rfl (mk_eq rfl),0,rfl⟩
 ·have hl:=Hm.prefix_len hp
  simp only [Hm.len,List.length_cons,List.length_nil] at hl
  have hn:=Hm.ahead_le Hm.dig 6 (s.data.toList.drop 1)
  rw [List.length_drop,Hm.len] at hn
  obtain ⟨n,hnn⟩:∃ n,n=Hm.ahead Hm.dig 6 (s.data.toList.drop 1):=⟨_,rfl⟩
  rw [<-hnn] at hn
  have HN:Hid (n=Hm.ahead Hm.dig 6 (s.data.toList.drop 1)):=hnn
  clear hnn
  by_cases h0:n=0
  ·have HF:Hid (Hm.fraction s.data.toList=([],s.data.toList)):=by show _=_;unfold Hm.fraction;rw [if_neg (by simp [hp]),<-HN.out,if_pos h0]
   go_enter Tryz.func129,Tryz.ntmps129
   go_wp2_with (first | (go_at_call 53;refine (Tryz.strings_HasPrefix _ _ _).mono ?_;rintro e w' ⟨rfl,rfl⟩;rw [hp]) | (go_at_call 83;refine (count_digits _ 6 _ (by simp;omega)).mono ?_;rintro e w' ⟨rfl,rfl⟩;rw [Hm.drop_ex,<-HN.out]))
   go_ret2
   exact ⟨by rw [HF.out];exact ret_str2 rfl (mk_eq rfl),0,rfl⟩
  ·have b0:((n:Int) == 0)=false:=beq_eq_false_iff_ne.2 (by omega)
   have b1:(1:Int)+(n:Int)<=(s.size:Int):=by omega
   obtain ⟨f,hf⟩:∃ f,Lib.trimRightB (s.data.toList.take (1+n)) 48=f:=⟨_,rfl⟩
   have HT:Hid (∀ w,Calls Tryz.prog 173 #[.string (s.extract 0 (1+n)),.string ⟨#[48]⟩] w fun e w'=>e=.returned (.string ⟨f.toArray⟩)/\w'=w):=fun w=>by
    have:=Tryz.strings_TrimRight_one (s.extract 0 (1+n)) 48 (by decide) w (by simp;omega)
    rwa [ex_take,List.drop_zero,Nat.sub_zero,hf] at this
   by_cases h1:f=[46]
   ·have HF:Hid (Hm.fraction s.data.toList=([],s.data.toList.drop (1+n))):=by
     show _=_
     unfold Hm.fraction
     rw [if_neg (by simp [hp]),<-HN.out,if_neg h0,hf,if_pos h1]
    clear hf h0
    go_enter Tryz.func129,Tryz.ntmps129
    go_wp2_with (first | (go_at_call 53;refine (Tryz.strings_HasPrefix _ _ _).mono ?_;rintro e w' ⟨rfl,rfl⟩;rw [hp]) | (go_at_call 83;refine (count_digits _ 6 _ (by simp;omega)).mono ?_;rintro e w' ⟨rfl,rfl⟩;rw [Hm.drop_ex,<-HN.out]))
    subst h1
    refine (HT.out _).mono ?_
    rintro e w1 ⟨rfl,rfl⟩
    go_wp2_with fail
    go_quiet (fail)
    go_wp2
    go_ret2
    exact ⟨by rw [HF.out];exact ret_str2 rfl (mk_eq (Hm.drop_ex _ _)),_,rfl⟩
   ·have HF:Hid (Hm.fraction s.data.toList=(f,s.data.toList.drop (1+n))):=by
     show _=_
     unfold Hm.fraction
     rw [if_neg (by simp [hp]),<-HN.out,if_neg h0,hf,if_neg h1]
    have b2:(f == [46])=false:=beq_eq_false_iff_ne.2 h1
    clear hf h0 h1
    go_enter Tryz.func129,Tryz.ntmps129
    go_wp2_with (first | (go_at_call 53;refine (Tryz.strings_HasPrefix _ _ _).mono ?_;rintro e w' ⟨rfl,rfl⟩;rw [hp]) | (go_at_call 83;refine (count_digits _ 6 _ (by simp;omega)).mono ?_;rintro e w' ⟨rfl,rfl⟩;rw [Hm.drop_ex,<-HN.out]))
    refine (HT.out _).mono ?_
    rintro e w1 ⟨rfl,rfl⟩
    go_wp2_with fail
    go_quiet (fail)
    go_wp2
    go_ret2
    exact ⟨by rw [HF.out];exact ret_str2 rfl (mk_eq (Hm.drop_ex _ _)),_,rfl⟩
end Go.Proofs.YtdlhbmncbmconaaGreatDoor
namespace Go.Proofs.YtdlhbmncbmconaaGreatDoor
open Go.RowKit Go.Sort
attribute [local go_sem] alloc_drewN setCell_drewN
theorem drew_trans {w w1 w2:World} (h:∃ n,w1=w.drewN n) (h':∃ n,w2=w1.drewN n):∃ n,w2=w.drewN n:=by
 obtain ⟨n,rfl⟩:=h'
 exact drew_more h n
theorem opt_ret {o:Option Int} {v:Int} (h:o=some v):Ending.returned (.tuple #[.int .i64 v,.bool true])=.returned (.tuple #[.int .i64 (o.getD 0),.bool o.isSome]):=by rw [h];rfl
theorem opt_ret0 {o:Option Int} (h:o=none):Ending.returned (.tuple #[.int .i64 0,.bool false])=.returned (.tuple #[.int .i64 (o.getD 0),.bool o.isSome]):=by rw [h];rfl
set_option maxHeartbeats 1000000 in
theorem difference_yes (s:ByteArray) (w:World) (sh:List UInt8) (hsh:Hm.shape s.data.toList sh=true) (hs6:sh=Hm.plusShape∨sh=Hm.minusShape) (b:Bool) (hb:Hm.shape s.data.toList Hm.plusShape=b) (hb2:b=false->Hm.shape s.data.toList Hm.minusShape=true) :
  Calls Tryz.prog 130 #[.string s] w fun e w'=>e=.returned (.tuple #[.int .i64 ((Hm.difference s.data.toList).getD 0),.bool (Hm.difference s.data.toList).isSome])/\∃ n,w'=w.drewN n:=by
 have hlen:s.size=6:=by
  rw [<-Hm.len,shape_len _ _ hsh]
  rcases hs6 with h | h<;>subst h<;>rfl
 have hdig:∀ a b,b<=6->(∀ j,a<=j->j < b->sh[j]?=some 48)->∀ c ∈ (s.data.toList.drop a).take (b - a),Hm.dig c=true:=fun a b hb h=>
  Hm.shape_digits (n:=6) (by rw [List.take_of_length_le (by rw [Hm.len,hlen];exact Nat.le_refl _)];exact hsh) a b hb h
 have h13:∀ c ∈ (s.extract 1 3).data.toList,Hm.dig c=true:=by
  rw [ex_take]
  exact hdig 1 3 (by omega) (fun j h1 h2=>by rcases (by omega:j=1∨j=2) with h | h<;>subst h<;>rcases hs6 with h | h<;>subst h<;>rfl)
 have h46:∀ c ∈ (s.extract 4 6).data.toList,Hm.dig c=true:=by
  rw [ex_take]
  exact hdig 4 6 (by omega) (fun j h1 h2=>by rcases (by omega:j=4∨j=5) with h | h<;>subst h<;>rcases hs6 with h | h<;>subst h<;>rfl)
 have e13:(s.extract 1 3).data.toList=(s.data.toList.drop 1).take 2:=ex_take s 1 3
 have e46:(s.extract 4 6).data.toList=(s.data.toList.drop 4).take 2:=ex_take s 4 6
 have g13:=Hm.dec_lt _ h13
 have g46:=Hm.dec_lt _ h46
 have l13:(s.extract 1 3).data.toList.length=2:=by rw [e13];simp;omega
 have l46:(s.extract 4 6).data.toList.length=2:=by rw [e46];simp;omega
 rw [l13,e13] at g13
 rw [l46,e46] at g46
 obtain ⟨hh,hhe⟩:∃ x,Hm.dec ((s.data.toList.drop 1).take 2)=x:=⟨_,rfl⟩
 obtain ⟨mm,hme⟩:∃ x,Hm.dec ((s.data.toList.drop 4).take 2)=x:=⟨_,rfl⟩
 have DH:Hid (∀ w,Calls Tryz.prog 85 #[.string (s.extract 1 3)] w fun e w'=>e=.returned (.int .i64 hh)/\w'=w):=fun w=>by
  have:=decimal_any (s.extract 1 3) w (by simp;omega) h13
  rwa [e13,hhe] at this
 have DM:Hid (∀ w,Calls Tryz.prog 85 #[.string (s.extract 4 6)] w fun e w'=>e=.returned (.int .i64 mm)/\w'=w):=fun w=>by
  have:=decimal_any (s.extract 4 6) w (by simp;omega) h46
  rwa [e46,hme] at this
 rw [hhe] at g13
 rw [hme] at g46
 have hz:(s.toList == [90])=false:=by
  rw [Lib.toList_data]
  refine beq_eq_false_iff_ne.2 fun h=>?_
  have:s.data.toList.length=1:=by rw [h];rfl
  rw [Hm.len] at this
  omega
 have hlt:0 < s.size:=by omega
 have HD:Hid (Hm.difference s.data.toList=if 23 < hh∨59 < mm then none else if (s[0]'hlt).toNat=45 then some (-(60 * hh+mm:Int)) else some (60 * hh+mm:Int)):=by
  show _=_
  unfold Hm.difference
  rw [if_neg (by intro h;rw [Lib.toList_data,h] at hz;simp at hz),if_neg,hhe,hme]
  ·congr 2
   rw [List.getD_eq_getElem?_getD,List.getElem?_eq_getElem (by rw [Hm.len];omega)]
   rfl
  ·rintro ⟨h1,h2⟩
   rcases hs6 with h | h<;>subst h<;>simp_all
 have i1:(3:Int)<=(s.size:Int):=by omega
 have i2:(6:Int)<=(s.size:Int):=by omega
 have i0:(0:Int) < (s.size:Int):=by omega
 have HL:Hid (s.size=6):=hlen
 have hq:s.size<=9223372036854775800:=by omega
 clear hhe hme h13 h46 hdig e13 e46 l13 l46 hsh hs6 hlen
 unfold Hm.plusShape at hb
 unfold Hm.minusShape at hb2
 have g1:hh < 100:=g13
 have g2:mm < 100:=g46
 clear g13 g46
 by_cases c1:23 < hh
 ·have HF:Hid (Hm.difference s.data.toList=none):=by show _=_;rw [HD.out,if_pos (.inl c1)]
  cases b
  ·skip
   have hb3:=hb2 rfl
   clear hb2
   go_enter Tryz.func130,Tryz.ntmps130
   go_wp2_with fail
   refine (hasShape_any _ _ _ hq).mono ?_
   rintro e w1 ⟨rfl,hw1⟩
   have HW1:Hid (∃ n,w1=w.drewN n):=hw1
   clear hw1
   go_wp2_with fail
   refine (hasShape_any _ _ _ hq).mono ?_
   rintro e w2 ⟨rfl,hw2⟩
   have HW2:Hid (∃ n,w2=w1.drewN n):=hw2
   clear hw2
   go_wp2_with fail
   go_quiet (first | (go_at_call_of 85 (Value.string (s.extract 1 3));exact Calls.quiet_of_same (DH.out _)) | (go_at_call_of 85 (Value.string (s.extract 4 6));exact Calls.quiet_of_same (DM.out _)))
   go_wp2
   go_ret2
   exact ⟨opt_ret0 HF.out,drew_more (drew_trans HW1.out HW2.out) _⟩
  ·skip
   clear hb2
   go_enter Tryz.func130,Tryz.ntmps130
   go_wp2_with fail
   refine (hasShape_any _ _ _ hq).mono ?_
   rintro e w1 ⟨rfl,hw1⟩
   have HW1:Hid (∃ n,w1=w.drewN n):=hw1
   clear hw1
   go_wp2_with fail
   go_quiet (first | (go_at_call_of 85 (Value.string (s.extract 1 3));exact Calls.quiet_of_same (DH.out _)) | (go_at_call_of 85 (Value.string (s.extract 4 6));exact Calls.quiet_of_same (DM.out _)))
   go_wp2
   go_ret2
   exact ⟨opt_ret0 HF.out,drew_more HW1.out _⟩
 ·by_cases c2:59 < mm
  ·have HF:Hid (Hm.difference s.data.toList=none):=by show _=_;rw [HD.out,if_pos (.inr c2)]
   cases b
   ·skip
    have hb3:=hb2 rfl
    clear hb2
    go_enter Tryz.func130,Tryz.ntmps130
    go_wp2_with fail
    refine (hasShape_any _ _ _ hq).mono ?_
    rintro e w1 ⟨rfl,hw1⟩
    have HW1:Hid (∃ n,w1=w.drewN n):=hw1
    clear hw1
    go_wp2_with fail
    refine (hasShape_any _ _ _ hq).mono ?_
    rintro e w2 ⟨rfl,hw2⟩
    have HW2:Hid (∃ n,w2=w1.drewN n):=hw2
    clear hw2
    go_wp2_with fail
    go_quiet (first | (go_at_call_of 85 (Value.string (s.extract 1 3));exact Calls.quiet_of_same (DH.out _)) | (go_at_call_of 85 (Value.string (s.extract 4 6));exact Calls.quiet_of_same (DM.out _)))
    go_wp2
    go_ret2
    exact ⟨opt_ret0 HF.out,drew_more (drew_trans HW1.out HW2.out) _⟩
   ·skip
    clear hb2
    go_enter Tryz.func130,Tryz.ntmps130
    go_wp2_with fail
    refine (hasShape_any _ _ _ hq).mono ?_
    rintro e w1 ⟨rfl,hw1⟩
    have HW1:Hid (∃ n,w1=w.drewN n):=hw1
    clear hw1
    go_wp2_with fail
    go_quiet (first | (go_at_call_of 85 (Value.string (s.extract 1 3));exact Calls.quiet_of_same (DH.out _)) | (go_at_call_of 85 (Value.string (s.extract 4 6));exact Calls.quiet_of_same (DM.out _)))
    go_wp2
    go_ret2
    exact ⟨opt_ret0 HF.out,drew_more HW1.out _⟩
  ·by_cases c3:(s[0]'hlt).toNat=45
   ·have HF:Hid (Hm.difference s.data.toList=some (-(60 * hh+mm:Int))):=by show _=_;rw [HD.out,if_neg (by omega),if_pos c3]
    have b3:(((s[0]'hlt).toNat:Int) == 45)=true:=beq_iff_eq.2 (by omega)
    clear c3
    cases b
    ·skip
     have hb3:=hb2 rfl
     clear hb2
     go_enter Tryz.func130,Tryz.ntmps130
     go_wp2_with fail
     refine (hasShape_any _ _ _ hq).mono ?_
     rintro e w1 ⟨rfl,hw1⟩
     have HW1:Hid (∃ n,w1=w.drewN n):=hw1
     clear hw1
     go_wp2_with fail
     refine (hasShape_any _ _ _ hq).mono ?_
     rintro e w2 ⟨rfl,hw2⟩
     have HW2:Hid (∃ n,w2=w1.drewN n):=hw2
     clear hw2
     go_wp2_with fail
     go_quiet (first | (go_at_call_of 85 (Value.string (s.extract 1 3));exact Calls.quiet_of_same (DH.out _)) | (go_at_call_of 85 (Value.string (s.extract 4 6));exact Calls.quiet_of_same (DM.out _)))
     go_wp2
     go_ret2
     exact ⟨opt_ret HF.out,drew_more (drew_trans HW1.out HW2.out) _⟩
    ·skip
     clear hb2
     go_enter Tryz.func130,Tryz.ntmps130
     go_wp2_with fail
     refine (hasShape_any _ _ _ hq).mono ?_
     rintro e w1 ⟨rfl,hw1⟩
     have HW1:Hid (∃ n,w1=w.drewN n):=hw1
     clear hw1
     go_wp2_with fail
     go_quiet (first | (go_at_call_of 85 (Value.string (s.extract 1 3));exact Calls.quiet_of_same (DH.out _)) | (go_at_call_of 85 (Value.string (s.extract 4 6));exact Calls.quiet_of_same (DM.out _)))
     go_wp2
     go_ret2
     exact ⟨opt_ret HF.out,drew_more HW1.out _⟩
   ·have HF:Hid (Hm.difference s.data.toList=some (60 * hh+mm:Int)):=by show _=_;rw [HD.out,if_neg (by omega),if_neg c3]
    have b3:(((s[0]'hlt).toNat:Int) == 45)=false:=beq_eq_false_iff_ne.2 (by omega)
    clear c3
    cases b
    ·skip
     have hb3:=hb2 rfl
     clear hb2
     go_enter Tryz.func130,Tryz.ntmps130
     go_wp2_with fail
     refine (hasShape_any _ _ _ hq).mono ?_
     rintro e w1 ⟨rfl,hw1⟩
     have HW1:Hid (∃ n,w1=w.drewN n):=hw1
     clear hw1
     go_wp2_with fail
     refine (hasShape_any _ _ _ hq).mono ?_
     rintro e w2 ⟨rfl,hw2⟩
     have HW2:Hid (∃ n,w2=w1.drewN n):=hw2
     clear hw2
     go_wp2_with fail
     go_quiet (first | (go_at_call_of 85 (Value.string (s.extract 1 3));exact Calls.quiet_of_same (DH.out _)) | (go_at_call_of 85 (Value.string (s.extract 4 6));exact Calls.quiet_of_same (DM.out _)))
     go_wp2
     go_ret2
     exact ⟨opt_ret HF.out,drew_more (drew_trans HW1.out HW2.out) _⟩
    ·skip
     clear hb2
     go_enter Tryz.func130,Tryz.ntmps130
     go_wp2_with fail
     refine (hasShape_any _ _ _ hq).mono ?_
     rintro e w1 ⟨rfl,hw1⟩
     have HW1:Hid (∃ n,w1=w.drewN n):=hw1
     clear hw1
     go_wp2_with fail
     go_quiet (first | (go_at_call_of 85 (Value.string (s.extract 1 3));exact Calls.quiet_of_same (DH.out _)) | (go_at_call_of 85 (Value.string (s.extract 4 6));exact Calls.quiet_of_same (DM.out _)))
     go_wp2
     go_ret2
     exact ⟨opt_ret HF.out,drew_more HW1.out _⟩
theorem difference_any (s:ByteArray) (w:World) (hs:s.size<=9223372036854775800) :
  Calls Tryz.prog 130 #[.string s] w fun e w'=>e=.returned (.tuple #[.int .i64 ((Hm.difference s.data.toList).getD 0),.bool (Hm.difference s.data.toList).isSome])/\∃ n,w'=w.drewN n:=by
 by_cases hz:s.data.toList=[90]
 ·have HF:Hid (Hm.difference s.data.toList=some 0):=by show _=_;unfold Hm.difference;rw [if_pos hz]
  have bz:s.toList=[90]:=by rw [Lib.toList_data];exact hz
  clear hz
  go_enter Tryz.func130,Tryz.ntmps130
  go_wp2
  go_ret2
  exact ⟨opt_ret HF.out,0,rfl⟩
 ·cases h1:Hm.shape s.data.toList Hm.plusShape
  ·cases h2:Hm.shape s.data.toList Hm.minusShape
   ·have HF:Hid (Hm.difference s.data.toList=none):=by show _=_;unfold Hm.difference;rw [if_neg hz,if_pos ⟨h1,h2⟩]
    have bz:(s.toList == [90])=false:=by rw [Lib.toList_data];simpa using hz
    clear hz
    unfold Hm.plusShape at h1
    unfold Hm.minusShape at h2
    go_enter Tryz.func130,Tryz.ntmps130
    go_wp2_with fail
    refine (hasShape_any _ _ _ hs).mono ?_
    rintro e w1 ⟨rfl,hw1⟩
    have HW1:Hid (∃ n,w1=w.drewN n):=hw1
    clear hw1
    go_wp2_with fail
    refine (hasShape_any _ _ _ hs).mono ?_
    rintro e w2 ⟨rfl,hw2⟩
    have HW2:Hid (∃ n,w2=w1.drewN n):=hw2
    clear hw2
    go_wp2
    go_ret2
    exact ⟨opt_ret0 HF.out,drew_trans HW1.out HW2.out⟩
   ·exact difference_yes s w _ h2 (.inr rfl) false h1 (fun _=>h2)
  ·exact difference_yes s w _ h1 (.inl rfl) true h1 (fun h=>by cases h)
end Go.Proofs.YtdlhbmncbmconaaGreatDoor
namespace Go.Proofs.YtdlhbmncbmconaaGreatDoor
open Go.RowKit Go.Sort
attribute [local go_sem] alloc_drewN setCell_drewN
theorem strb_ret {o:Option (List UInt8)} {v:List UInt8} (h:o=some v):Ending.returned (.tuple #[.string ⟨v.toArray⟩,.bool true])=.returned (.tuple #[.string ⟨(o.getD []).toArray⟩,.bool o.isSome]):=by rw [h];rfl
theorem strb_ret0 {o:Option (List UInt8)} (h:o=none):Ending.returned (.tuple #[.string ⟨#[]⟩,.bool false])=.returned (.tuple #[.string ⟨(o.getD []).toArray⟩,.bool o.isSome]):=by rw [h];rfl
theorem drew_below {w w1:World} (h:∃ n,w1=w.drewN n):Below w.heap.size w w1:=by
 obtain ⟨n,rfl⟩:=h
 exact below_drewN (Below.refl _ _) n
theorem Below.next {w w1 w2:World} {B:Nat} (h:Below B w w1) (hB:B<=w.heap.size) (h':Below w1.heap.size w1 w2):Below B w w2:=h.trans (h'.mono (Nat.le_trans hB h.size))
theorem trimRight_len (l:List UInt8) (c:UInt8):(Lib.trimRightB l c).length<=l.length:=by
 unfold Lib.trimRightB
 rw [List.length_reverse]
 have:=(List.dropWhile_sublist (· == c) (l:=l.reverse)).length_le
 rwa [List.length_reverse] at this
theorem fraction_len (l:List UInt8):(Hm.fraction l).1.length<=7/\(Hm.fraction l).2.length<=l.length:=by
 unfold Hm.fraction
 split
 ·simp
 ·split
  ·simp
  ·have h1:=trimRight_len (l.take (1+Hm.ahead Hm.dig 6 (l.drop 1))) 48
   have h2:=(Hm.ahead_le Hm.dig 6 (l.drop 1)).1
   rw [List.length_take] at h1
   refine ⟨?_,by simp only [List.length_drop];omega⟩
   split
   ·simp
   ·simp only [];omega
theorem readTime_no (s:ByteArray) (w:World) (hs:s.size<=9223372036854775700) (h:s.size < 19∨Hm.shape (s.data.toList.take 19) Hm.momentShape=false) :
  Calls Tryz.prog 88 #[.string s] w fun e w'=>e=.returned (.tuple #[.string ⟨((Hm.readTime s.data.toList).getD []).toArray⟩,.bool (Hm.readTime s.data.toList).isSome])/\Below w.heap.size w w':=by
 have HF:Hid (Hm.readTime s.data.toList=none):=by show _=_;unfold Hm.readTime;rw [Hm.len,if_pos h]
 by_cases h1:s.size < 19
 ·clear h
  go_enter Tryz.func88,Tryz.ntmps88
  go_wp2
  go_ret2
  exact ⟨strb_ret0 HF.out,Below.refl _ _⟩
 ·have h2:Hm.shape (s.extract 0 19).data.toList (ByteArray.mk #[48,48,48,48,45,48,48,45,48,48,84,48,48,58,48,48,58,48,48]).data.toList=false:=by
   rw [ex_take,List.drop_zero]
   rcases h with h | h
   ·exact (h1 h).elim
   ·exact h
  have HS:Hid (∀ w,Calls Tryz.prog 128 #[.string (s.extract 0 19),.string ⟨#[48,48,48,48,45,48,48,45,48,48,84,48,48,58,48,48,58,48,48]⟩] w fun e w'=>e=.returned (.bool false)/\∃ n,w'=w.drewN n):=fun w=>by
   have:=hasShape_any (s.extract 0 19) ⟨#[48,48,48,48,45,48,48,45,48,48,84,48,48,58,48,48,58,48,48]⟩ w (by simp;omega)
   rwa [h2] at this
  have i19:(19:Int)<=(s.size:Int):=by omega
  clear h h2
  go_enter Tryz.func88,Tryz.ntmps88
  go_wp2_with (go_at_call 128;refine (HS.out _).mono ?_;rintro e w1 ⟨rfl,hw1⟩;have HW1:Hid (∃ n,w1=w.drewN n):=hw1;clear hw1)
  go_ret2
  exact ⟨strb_ret0 HF.out,drew_below HW1.out⟩
set_option maxRecDepth 20000 in
set_option maxHeartbeats 1000000 in
theorem readTime_core (s:ByteArray) (w:World) (hT:Tabs w) (hs:19<=s.size) (hs2:s.size<=9223372036854775700) (F Z:List UInt8) (hF:F.length<=7) (k:Int) (known:Bool) (y mo d h mi sc:Int)
  (HS:Hid (∀ w,Calls Tryz.prog 128 #[.string (s.extract 0 19),.string ⟨#[48,48,48,48,45,48,48,45,48,48,84,48,48,58,48,48,58,48,48]⟩] w fun e w'=>e=.returned (.bool true)/\∃ n,w'=w.drewN n))
  (HC:Hid (∀ w,Calls Tryz.prog 129 #[.string (s.extract 19 s.size)] w fun e w'=>e=.returned (.tuple #[.string ⟨F.toArray⟩,.string ⟨Z.toArray⟩])/\∃ n,w'=w.drewN n))
  (HD:Hid (∀ w,Calls Tryz.prog 130 #[.string ⟨Z.toArray⟩] w fun e w'=>e=.returned (.tuple #[.int .i64 k,.bool known])/\∃ n,w'=w.drewN n))
  (HM:Hid (∀ w,Calls Tryz.prog 131 #[.string s] w fun e w'=>e=.returned (.agg #[.int .i64 y,.int .i64 mo,.int .i64 d,.int .i64 h,.int .i64 mi,.int .i64 sc])/\Below w.heap.size w w'))
  (there:Bool) (hthere:Hm.exists_ y mo d h mi sc=there) (bd:there=true->0<=h/\0<=mi/\0<=sc/\-1439<=k/\k<=1439)
  (R:Option (List UInt8)) (hR1:known=false->R=none) (hR2:there=false->R=none) (hR3:known=true->there=true->Hm.isYear (Hm.earlier y mo d h mi k).1.1=false->R=none)
  (hR4:known=true->there=true->Hm.isYear (Hm.earlier y mo d h mi k).1.1=true->R=some (Hm.stampText (Hm.earlier y mo d h mi k).1.1.toNat (Hm.earlier y mo d h mi k).1.2.1.toNat (Hm.earlier y mo d h mi k).1.2.2.toNat ((Hm.earlier y mo d h mi k).2 / 60).toNat ((Hm.earlier y mo d h mi k).2 % 60).toNat sc.toNat ++ F ++ [90])) :
  Calls Tryz.prog 88 #[.string s] w fun e w'=>e=.returned (.tuple #[.string ⟨(R.getD []).toArray⟩,.bool R.isSome])/\Below w.heap.size w w':=by
 have i19:(19:Int)<=(s.size:Int):=by omega
 cases known
 ·have HF:Hid (R=none):=hR1 rfl
  clear hR1 hR2 hR3 hR4 hthere bd
  go_enter Tryz.func88,Tryz.ntmps88
  go_wp2_with (first
   | (go_at_call 128;refine (HS.out _).mono ?_;rintro e w1 ⟨rfl,hw1⟩;have HW1:Hid (∃ n,w1=w.drewN n):=hw1;clear hw1)
   | (go_at_call 129;refine (HC.out _).mono ?_;rintro e w2 ⟨rfl,hw2⟩;have HW2:Hid (∃ n,w2=w1.drewN n):=hw2;clear hw2)
   | (go_at_call 130;refine (HD.out _).mono ?_;rintro e w3 ⟨rfl,hw3⟩;have HW3:Hid (∃ n,w3=w2.drewN n):=hw3;clear hw3)
   | (go_at_call 131;refine (HM.out _).mono ?_;rintro e w4 ⟨rfl,hw4⟩;have HB4:Hid (Below w.heap.size w w4):=Below.next (Below.next (Below.next (drew_below HW1.out) (Nat.le_refl _) (drew_below HW2.out)) (Nat.le_refl _) (drew_below HW3.out)) (Nat.le_refl _) hw4;clear hw4 HW1 HW2 HW3)
   | (refine Hw.wpList_store_rowP rfl _ _ _ rfl rfl w4.heap.size #[.int .i64 y,.int .i64 mo,.int .i64 d,.int .i64 h,.int .i64 mi,.int .i64 sc] rfl rfl _ _ (heap_alloc_new _ _) size_moment rfl rfl ?_;intro w5 p5;have HR5:Hid (w5.heap[w4.heap.size]?=some (.cells #[.int .i64 y,.int .i64 mo,.int .i64 d,.int .i64 h,.int .i64 mi,.int .i64 sc] 199 (0,0))):=p5.row;have HB5:Hid (Below w.heap.size w w5):=(HB4.out.alloc HB4.out.size _).trans (p5.below HB4.out.size);have HZ5:Hid (w4.heap.size < w5.heap.size):=(by show _ < _;rw [p5.size];simp);obtain ⟨⟨c0,c1,c2,c3,c4,c5⟩,_⟩:=cells6 p5.row;clear p5))
  go_ret2
  exact ⟨strb_ret0 HF.out,HB5.out⟩
 ·have HE:Hid (∀ w,Tabs w->Calls Tryz.prog 132 #[.agg #[.int .i64 y,.int .i64 mo,.int .i64 d,.int .i64 h,.int .i64 mi,.int .i64 sc]] w fun e w'=>e=.returned (.bool there)/\Below w.heap.size w w'):=fun w hT=>by rw [<-hthere];exact exists_any y mo d h mi sc w hT
  cases there
  ·have HF:Hid (R=none):=hR2 rfl
   clear hR1 hR2 hR3 hR4 hthere bd
   go_enter Tryz.func88,Tryz.ntmps88
   go_wp2_with (first
    | (go_at_call 128;refine (HS.out _).mono ?_;rintro e w1 ⟨rfl,hw1⟩;have HW1:Hid (∃ n,w1=w.drewN n):=hw1;clear hw1)
    | (go_at_call 129;refine (HC.out _).mono ?_;rintro e w2 ⟨rfl,hw2⟩;have HW2:Hid (∃ n,w2=w1.drewN n):=hw2;clear hw2)
    | (go_at_call 130;refine (HD.out _).mono ?_;rintro e w3 ⟨rfl,hw3⟩;have HW3:Hid (∃ n,w3=w2.drewN n):=hw3;clear hw3)
    | (go_at_call 131;refine (HM.out _).mono ?_;rintro e w4 ⟨rfl,hw4⟩;have HB4:Hid (Below w.heap.size w w4):=Below.next (Below.next (Below.next (drew_below HW1.out) (Nat.le_refl _) (drew_below HW2.out)) (Nat.le_refl _) (drew_below HW3.out)) (Nat.le_refl _) hw4;clear hw4 HW1 HW2 HW3)
    | (refine Hw.wpList_store_rowP rfl _ _ _ rfl rfl w4.heap.size #[.int .i64 y,.int .i64 mo,.int .i64 d,.int .i64 h,.int .i64 mi,.int .i64 sc] rfl rfl _ _ (heap_alloc_new _ _) size_moment rfl rfl ?_;intro w5 p5;have HR5:Hid (w5.heap[w4.heap.size]?=some (.cells #[.int .i64 y,.int .i64 mo,.int .i64 d,.int .i64 h,.int .i64 mi,.int .i64 sc] 199 (0,0))):=p5.row;have HB5:Hid (Below w.heap.size w w5):=(HB4.out.alloc HB4.out.size _).trans (p5.below HB4.out.size);have HZ5:Hid (w4.heap.size < w5.heap.size):=(by show _ < _;rw [p5.size];simp);obtain ⟨⟨c0,c1,c2,c3,c4,c5⟩,_⟩:=cells6 p5.row;clear p5)
    | (go_at_call 132;refine (HE.out _ (hT.next HB5.out)).mono ?_;rintro e w6 ⟨rfl,hw6⟩;have HB6:Hid (Below w.heap.size w w6):=Below.next HB5.out (Nat.le_refl _) hw6;have HR6:Hid (w6.heap[w4.heap.size]?=some (.cells #[.int .i64 y,.int .i64 mo,.int .i64 d,.int .i64 h,.int .i64 mi,.int .i64 sc] 199 (0,0))):=(hw6.block _ HZ5.out).trans HR5.out;have HZ6:Hid (w4.heap.size < w6.heap.size):=Nat.lt_of_lt_of_le HZ5.out hw6.size;clear hw6 c0 c1 c2 c3 c4 c5))
   go_ret2
   exact ⟨strb_ret0 HF.out,HB6.out⟩
  ·have b1:=Hm.exists_bd hthere
   obtain ⟨a1,a2,a3,a4,a5,a6,a7,a8,a9,a10⟩:=b1
   obtain ⟨e1,e2,e3,e4,e5⟩:=bd rfl
   have eb:=Hm.earlier_bd y mo d h mi k a1 a2 a3 a4 a5 a7 e1 a8 e2 a9 e4 e5
   have hx:=fun w hT=>earlier_any y mo d h mi sc k w hT a1 a2 a3 a4 a5 a6 e1 a8 e2 a9 e4 e5
   replace hR3:=hR3 rfl rfl
   replace hR4:=hR4 rfl rfl
   generalize Hm.earlier y mo d h mi k=E at eb hx hR3 hR4
   obtain ⟨⟨y',mo',d'⟩,q⟩:=E
   obtain ⟨f1,f2,f3,f4,f5,f6,f7,f8⟩:=eb
   dsimp only at f1 f2 f3 f4 f5 f6 f7 f8 hx hR3 hR4
   have f9:=Hm.daysOf_bd y' mo' f3 f4
   have g1:0<=q / 60/\q / 60<=23:=by omega
   have g2:0<=q % 60/\q % 60<=59:=by omega
   generalize q / 60=h' at hx hR4 g1
   generalize q % 60=mi' at hx hR4 g2
   have HX:Hid (∀ w,Tabs w->Calls Tryz.prog 133 #[.agg #[.int .i64 y,.int .i64 mo,.int .i64 d,.int .i64 h,.int .i64 mi,.int .i64 sc],.int .i64 k] w fun e w'=>e=.returned (.agg #[.int .i64 y',.int .i64 mo',.int .i64 d',.int .i64 h',.int .i64 mi',.int .i64 sc])/\Below w.heap.size w w'):=hx
   clear hx
   cases hY:Hm.isYear y'
   ·have HF:Hid (R=none):=hR3 hY
    have HY:Hid (Hm.isYear y'=false):=hY
    clear hR1 hR2 hR3 hR4 hthere bd hY
    go_enter Tryz.func88,Tryz.ntmps88
    go_wp2_with (first
     | (go_at_call 128;refine (HS.out _).mono ?_;rintro e w1 ⟨rfl,hw1⟩;have HW1:Hid (∃ n,w1=w.drewN n):=hw1;clear hw1)
     | (go_at_call 129;refine (HC.out _).mono ?_;rintro e w2 ⟨rfl,hw2⟩;have HW2:Hid (∃ n,w2=w1.drewN n):=hw2;clear hw2)
     | (go_at_call 130;refine (HD.out _).mono ?_;rintro e w3 ⟨rfl,hw3⟩;have HW3:Hid (∃ n,w3=w2.drewN n):=hw3;clear hw3)
     | (go_at_call 131;refine (HM.out _).mono ?_;rintro e w4 ⟨rfl,hw4⟩;have HB4:Hid (Below w.heap.size w w4):=Below.next (Below.next (Below.next (drew_below HW1.out) (Nat.le_refl _) (drew_below HW2.out)) (Nat.le_refl _) (drew_below HW3.out)) (Nat.le_refl _) hw4;clear hw4 HW1 HW2 HW3)
     | (refine Hw.wpList_store_rowP rfl _ _ _ rfl rfl w4.heap.size #[.int .i64 y,.int .i64 mo,.int .i64 d,.int .i64 h,.int .i64 mi,.int .i64 sc] rfl rfl _ _ (heap_alloc_new _ _) size_moment rfl rfl ?_;intro w5 p5;have HR5:Hid (w5.heap[w4.heap.size]?=some (.cells #[.int .i64 y,.int .i64 mo,.int .i64 d,.int .i64 h,.int .i64 mi,.int .i64 sc] 199 (0,0))):=p5.row;have HB5:Hid (Below w.heap.size w w5):=(HB4.out.alloc HB4.out.size _).trans (p5.below HB4.out.size);have HZ5:Hid (w4.heap.size < w5.heap.size):=(by show _ < _;rw [p5.size];simp);obtain ⟨⟨c0,c1,c2,c3,c4,c5⟩,_⟩:=cells6 p5.row;clear p5)
     | (go_at_call 132;refine (HE.out _ (hT.next HB5.out)).mono ?_;rintro e w6 ⟨rfl,hw6⟩;have HB6:Hid (Below w.heap.size w w6):=Below.next HB5.out (Nat.le_refl _) hw6;have HR6:Hid (w6.heap[w4.heap.size]?=some (.cells #[.int .i64 y,.int .i64 mo,.int .i64 d,.int .i64 h,.int .i64 mi,.int .i64 sc] 199 (0,0))):=(hw6.block _ HZ5.out).trans HR5.out;have HZ6:Hid (w4.heap.size < w6.heap.size):=Nat.lt_of_lt_of_le HZ5.out hw6.size;clear hw6 c0 c1 c2 c3 c4 c5)
     | (refine wpList_load_row rfl _ _ rfl w4.heap.size rfl _ _ _ _ HR6.out Tryz.underlying199 rfl size_moment ?_)
     | (go_at_call 133;refine (HX.out _ (hT.next HB6.out)).mono ?_;rintro e w7 ⟨rfl,hw7⟩;have HB7:Hid (Below w.heap.size w w7):=Below.next HB6.out (Nat.le_refl _) hw7;have HR7:Hid (w7.heap[w4.heap.size]?=some (.cells #[.int .i64 y,.int .i64 mo,.int .i64 d,.int .i64 h,.int .i64 mi,.int .i64 sc] 199 (0,0))):=(hw7.block _ HZ6.out).trans HR6.out;have HZ7:Hid (w4.heap.size < w7.heap.size):=Nat.lt_of_lt_of_le HZ6.out hw7.size;clear hw7)
     | (refine Hw.wpList_store_rowP rfl _ _ _ rfl rfl w4.heap.size #[.int .i64 y',.int .i64 mo',.int .i64 d',.int .i64 h',.int .i64 mi',.int .i64 sc] rfl rfl _ _ HR7.out size_moment rfl rfl ?_;intro w8 p8;have HR8:Hid (w8.heap[w4.heap.size]?=some (.cells #[.int .i64 y',.int .i64 mo',.int .i64 d',.int .i64 h',.int .i64 mi',.int .i64 sc] 199 (0,0))):=p8.row;have HB8:Hid (Below w.heap.size w w8):=HB7.out.trans (p8.below HB4.out.size);obtain ⟨⟨c0,c1,c2,c3,c4,c5⟩,_⟩:=cells6 p8.row;clear p8)
     | (go_at_call 51;refine (isYear_any _ _).mono ?_;rintro e w' ⟨rfl,rfl⟩;rw [HY.out];clear c0 c1 c2 c3 c4 c5))
    go_ret2
    exact ⟨strb_ret0 HF.out,HB8.out⟩
   ·have HF:Hid (R=some _):=hR4 hY
    have HY:Hid (Hm.isYear y'=true):=hY
    have yb:1<=y'/\y'<=9999:=by simpa [Hm.isYear] using hY
    have htx:=fun w hT=>text_any y' mo' d' h' mi' sc w hT yb.1 yb.2 f3 f4 f5 (by omega) g1.1 g1.2 g2.1 g2.2 e3 a10
    have hxl:(Hm.stampText y'.toNat mo'.toNat d'.toNat h'.toNat mi'.toNat sc.toNat).length=19:=rfl
    generalize Hm.stampText y'.toNat mo'.toNat d'.toNat h'.toNat mi'.toNat sc.toNat=X at htx HF hxl
    have HTx:Hid (∀ w,Tabs w->Calls Tryz.prog 134 #[.agg #[.int .i64 y',.int .i64 mo',.int .i64 d',.int .i64 h',.int .i64 mi',.int .i64 sc]] w fun e w'=>e=.returned (.string ⟨X.toArray⟩)/\Below w.heap.size w w'):=htx
    clear htx hR1 hR2 hR3 hR4 hthere bd hY
    go_enter Tryz.func88,Tryz.ntmps88
    go_wp2_with (first
     | (go_at_call 128;refine (HS.out _).mono ?_;rintro e w1 ⟨rfl,hw1⟩;have HW1:Hid (∃ n,w1=w.drewN n):=hw1;clear hw1)
     | (go_at_call 129;refine (HC.out _).mono ?_;rintro e w2 ⟨rfl,hw2⟩;have HW2:Hid (∃ n,w2=w1.drewN n):=hw2;clear hw2)
     | (go_at_call 130;refine (HD.out _).mono ?_;rintro e w3 ⟨rfl,hw3⟩;have HW3:Hid (∃ n,w3=w2.drewN n):=hw3;clear hw3)
     | (go_at_call 131;refine (HM.out _).mono ?_;rintro e w4 ⟨rfl,hw4⟩;have HB4:Hid (Below w.heap.size w w4):=Below.next (Below.next (Below.next (drew_below HW1.out) (Nat.le_refl _) (drew_below HW2.out)) (Nat.le_refl _) (drew_below HW3.out)) (Nat.le_refl _) hw4;clear hw4 HW1 HW2 HW3)
     | (refine Hw.wpList_store_rowP rfl _ _ _ rfl rfl w4.heap.size #[.int .i64 y,.int .i64 mo,.int .i64 d,.int .i64 h,.int .i64 mi,.int .i64 sc] rfl rfl _ _ (heap_alloc_new _ _) size_moment rfl rfl ?_;intro w5 p5;have HR5:Hid (w5.heap[w4.heap.size]?=some (.cells #[.int .i64 y,.int .i64 mo,.int .i64 d,.int .i64 h,.int .i64 mi,.int .i64 sc] 199 (0,0))):=p5.row;have HB5:Hid (Below w.heap.size w w5):=(HB4.out.alloc HB4.out.size _).trans (p5.below HB4.out.size);have HZ5:Hid (w4.heap.size < w5.heap.size):=(by show _ < _;rw [p5.size];simp);obtain ⟨⟨c0,c1,c2,c3,c4,c5⟩,_⟩:=cells6 p5.row;clear p5)
     | (go_at_call 132;refine (HE.out _ (hT.next HB5.out)).mono ?_;rintro e w6 ⟨rfl,hw6⟩;have HB6:Hid (Below w.heap.size w w6):=Below.next HB5.out (Nat.le_refl _) hw6;have HR6:Hid (w6.heap[w4.heap.size]?=some (.cells #[.int .i64 y,.int .i64 mo,.int .i64 d,.int .i64 h,.int .i64 mi,.int .i64 sc] 199 (0,0))):=(hw6.block _ HZ5.out).trans HR5.out;have HZ6:Hid (w4.heap.size < w6.heap.size):=Nat.lt_of_lt_of_le HZ5.out hw6.size;clear hw6 c0 c1 c2 c3 c4 c5)
     | (refine wpList_load_row rfl _ _ rfl w4.heap.size rfl _ _ _ _ HR6.out Tryz.underlying199 rfl size_moment ?_)
     | (go_at_call 133;refine (HX.out _ (hT.next HB6.out)).mono ?_;rintro e w7 ⟨rfl,hw7⟩;have HB7:Hid (Below w.heap.size w w7):=Below.next HB6.out (Nat.le_refl _) hw7;have HR7:Hid (w7.heap[w4.heap.size]?=some (.cells #[.int .i64 y,.int .i64 mo,.int .i64 d,.int .i64 h,.int .i64 mi,.int .i64 sc] 199 (0,0))):=(hw7.block _ HZ6.out).trans HR6.out;have HZ7:Hid (w4.heap.size < w7.heap.size):=Nat.lt_of_lt_of_le HZ6.out hw7.size;clear hw7)
     | (refine Hw.wpList_store_rowP rfl _ _ _ rfl rfl w4.heap.size #[.int .i64 y',.int .i64 mo',.int .i64 d',.int .i64 h',.int .i64 mi',.int .i64 sc] rfl rfl _ _ HR7.out size_moment rfl rfl ?_;intro w8 p8;have HR8:Hid (w8.heap[w4.heap.size]?=some (.cells #[.int .i64 y',.int .i64 mo',.int .i64 d',.int .i64 h',.int .i64 mi',.int .i64 sc] 199 (0,0))):=p8.row;have HB8:Hid (Below w.heap.size w w8):=HB7.out.trans (p8.below HB4.out.size);obtain ⟨⟨c0,c1,c2,c3,c4,c5⟩,_⟩:=cells6 p8.row;clear p8)
     | (go_at_call 51;refine (isYear_any _ _).mono ?_;rintro e w' ⟨rfl,rfl⟩;rw [HY.out];clear c0 c1 c2 c3 c4 c5)
     | (refine wpList_load_row rfl _ _ rfl w4.heap.size rfl _ _ _ _ HR8.out Tryz.underlying199 rfl size_moment ?_)
     | (go_at_call 134;refine (HTx.out _ (hT.next HB8.out)).mono ?_;rintro e w9 ⟨rfl,hw9⟩;have HB9:Hid (Below w.heap.size w w9):=Below.next HB8.out (Nat.le_refl _) hw9;clear hw9))
    go_ret2
    refine ⟨?_,HB9.out⟩
    rw [<-strb_ret HF.out]
    simp only [<-app_mk]
    rfl
end Go.Proofs.YtdlhbmncbmconaaGreatDoor
namespace Go.Proofs.YtdlhbmncbmconaaGreatDoor
open Go.RowKit Go.Sort
attribute [local go_sem] alloc_drewN setCell_drewN
theorem readTime_any (s:ByteArray) (w:World) (hT:Tabs w) (hs:s.size<=9223372036854775700) :
  Calls Tryz.prog 88 #[.string s] w fun e w'=>e=.returned (.tuple #[.string ⟨((Hm.readTime s.data.toList).getD []).toArray⟩,.bool (Hm.readTime s.data.toList).isSome])/\Below w.heap.size w w':=by
 by_cases h0:s.size < 19∨Hm.shape (s.data.toList.take 19) Hm.momentShape=false
 ·exact readTime_no s w hs h0
 ·have h1:19<=s.size:=by omega
  have h2:Hm.shape (s.data.toList.take 19) Hm.momentShape=true:=by
   cases h:Hm.shape (s.data.toList.take 19) Hm.momentShape
   ·exact (h0 (.inr h)).elim
   ·rfl
  have hfl:=fraction_len (s.data.toList.drop 19)
  obtain ⟨F,Z,hFZ⟩:∃ F Z,Hm.fraction (s.data.toList.drop 19)=(F,Z):=⟨_,_,rfl⟩
  rw [hFZ,List.length_drop,Hm.len] at hfl
  dsimp only at hfl
  have hRT:Hm.readTime s.data.toList=match Hm.difference Z with
    | none=>none
    | some k=>
     if Hm.exists_ (Hm.num s.data.toList 0 4) (Hm.num s.data.toList 5 7) (Hm.num s.data.toList 8 10) (Hm.num s.data.toList 11 13) (Hm.num s.data.toList 14 16) (Hm.num s.data.toList 17 19)=false then none else
     if Hm.isYear (Hm.earlier (Hm.num s.data.toList 0 4) (Hm.num s.data.toList 5 7) (Hm.num s.data.toList 8 10) (Hm.num s.data.toList 11 13) (Hm.num s.data.toList 14 16) k).1.1=false then none else
     some (Hm.stampText (Hm.earlier (Hm.num s.data.toList 0 4) (Hm.num s.data.toList 5 7) (Hm.num s.data.toList 8 10) (Hm.num s.data.toList 11 13) (Hm.num s.data.toList 14 16) k).1.1.toNat
      (Hm.earlier (Hm.num s.data.toList 0 4) (Hm.num s.data.toList 5 7) (Hm.num s.data.toList 8 10) (Hm.num s.data.toList 11 13) (Hm.num s.data.toList 14 16) k).1.2.1.toNat
      (Hm.earlier (Hm.num s.data.toList 0 4) (Hm.num s.data.toList 5 7) (Hm.num s.data.toList 8 10) (Hm.num s.data.toList 11 13) (Hm.num s.data.toList 14 16) k).1.2.2.toNat
      ((Hm.earlier (Hm.num s.data.toList 0 4) (Hm.num s.data.toList 5 7) (Hm.num s.data.toList 8 10) (Hm.num s.data.toList 11 13) (Hm.num s.data.toList 14 16) k).2 / 60).toNat
      ((Hm.earlier (Hm.num s.data.toList 0 4) (Hm.num s.data.toList 5 7) (Hm.num s.data.toList 8 10) (Hm.num s.data.toList 11 13) (Hm.num s.data.toList 14 16) k).2 % 60).toNat
      (Hm.num s.data.toList 17 19) ++ F ++ [90]):=by
   unfold Hm.readTime
   rw [Hm.len,if_neg h0,hFZ]
   cases Hm.difference Z<;>rfl
  have HS:Hid (∀ w,Calls Tryz.prog 128 #[.string (s.extract 0 19),.string ⟨#[48,48,48,48,45,48,48,45,48,48,84,48,48,58,48,48,58,48,48]⟩] w fun e w'=>e=.returned (.bool true)/\∃ n,w'=w.drewN n):=fun w=>by
   have:=hasShape_any (s.extract 0 19) ⟨#[48,48,48,48,45,48,48,45,48,48,84,48,48,58,48,48,58,48,48]⟩ w (by simp;omega)
   rw [ex_take,List.drop_zero] at this
   rwa [show Hm.shape (List.take (19 - 0) s.data.toList) (ByteArray.mk #[48,48,48,48,45,48,48,45,48,48,84,48,48,58,48,48,58,48,48]).data.toList=true from h2] at this
  have HC:Hid (∀ w,Calls Tryz.prog 129 #[.string (s.extract 19 s.size)] w fun e w'=>e=.returned (.tuple #[.string ⟨F.toArray⟩,.string ⟨Z.toArray⟩])/\∃ n,w'=w.drewN n):=fun w=>by
   have:=cutFraction_any (s.extract 19 s.size) w (by simp;omega)
   rwa [Hm.drop_ex,hFZ] at this
  have HD:Hid (∀ w,Calls Tryz.prog 130 #[.string ⟨Z.toArray⟩] w fun e w'=>e=.returned (.tuple #[.int .i64 ((Hm.difference Z).getD 0),.bool (Hm.difference Z).isSome])/\∃ n,w'=w.drewN n):=fun w=>
   difference_any ⟨Z.toArray⟩ w (by rw [show (ByteArray.mk Z.toArray).size=Z.length by rw [<-Hm.len]];have:=hfl.2;omega)
  refine readTime_core s w hT h1 hs F Z hfl.1 _ _ _ _ _ _ _ _ HS HC HD (fun w=>momentOf_any s w h1 (by omega) h2) _ rfl ?_ _ ?_ ?_ ?_ ?_
  ·intro _
   refine ⟨by omega,by omega,by omega,?_⟩
   cases hd:Hm.difference Z with
   | none=>simp
   | some k=>have:=Hm.difference_bd hd;simpa using this
  ·intro hk
   cases hd:Hm.difference Z with
   | none=>rw [hRT,hd]
   | some k=>rw [hd] at hk;cases hk
  ·intro ht
   rw [hRT]
   cases hd:Hm.difference Z with
   | none=>rfl
   | some k=>simp only [];rw [if_pos ht]
  ·intro hk ht hy
   cases hd:Hm.difference Z with
   | none=>rw [hd] at hk;cases hk
   | some k=>
    rw [hd] at hy
    simp only [Option.getD_some] at hy
    rw [hRT,hd]
    simp only []
    rw [if_neg (by rw [ht];decide),if_pos hy]
  ·intro hk ht hy
   cases hd:Hm.difference Z with
   | none=>rw [hd] at hk;cases hk
   | some k=>
    rw [hd] at hy
    simp only [Option.getD_some] at hy ⊢
    rw [hRT,hd]
    simp only []
    rw [if_neg (by rw [ht];decide),if_neg (by rw [hy];decide)]
    simp only [Int.toNat_natCast]
theorem isTime_any (s:ByteArray) (w:World) (hT:Tabs w) (hs:s.size<=9223372036854775700) :
  Calls Tryz.prog 78 #[.string s] w fun e w'=>e=.returned (.bool (Hm.isTime s.data.toList))/\Below w.heap.size w w':=by
 have hr:=readTime_any s w hT hs
 cases h:Hm.readTime s.data.toList with
 | none=>
  have HF:Hid (Hm.isTime s.data.toList=false):=by show _=_;unfold Hm.isTime;rw [h];rfl
  rw [h] at hr
  have HR:Hid (Calls Tryz.prog 88 #[.string s] w fun e w'=>e=.returned (.tuple #[.string ⟨#[]⟩,.bool false])/\Below w.heap.size w w'):=hr
  clear hr h
  go_enter Tryz.func78,Tryz.ntmps78
  go_wp2_with fail
  refine HR.out.mono ?_
  rintro e w1 ⟨rfl,hb⟩
  go_wp2
  go_ret
  exact ⟨by rw [HF.out];rfl,hb⟩
 | some x=>
  have HF:Hid (Hm.isTime s.data.toList=(x == s.data.toList)):=by
   show _=_
   unfold Hm.isTime
   rw [h]
   rfl
  rw [h] at hr
  have HR:Hid (Calls Tryz.prog 88 #[.string s] w fun e w'=>e=.returned (.tuple #[.string ⟨x.toArray⟩,.bool true])/\Below w.heap.size w w'):=hr
  clear hr h
  go_enter Tryz.func78,Tryz.ntmps78
  go_wp2_with fail
  refine HR.out.mono ?_
  rintro e w1 ⟨rfl,hb⟩
  go_wp2
  go_ret
  refine ⟨ret_bool ?_,hb⟩
  rw [HF.out]
  simp [Lib.toList_data]
end Go.Proofs.YtdlhbmncbmconaaGreatDoor
namespace Go.Proofs.YtdlhbmncbmconaaGreatDoor
open Go.RowKit Go.Sort
attribute [local go_sem] alloc_drewN setCell_drewN
theorem validString_any (s:ByteArray) (w:World) (hs:s.size<=9223372036854775807) (hT:Tabs w) :
  Calls Tryz.prog 90 #[.string s] w fun e w'=>e=.returned (.bool (Lib.validD s.data.toList))/\Below w.heap.size w w':=
 Any.utf8_ValidString Tryz.lays196 s w hs hT.u8
theorem low_true {c:UInt8} (h:Hm.low c=true):c.toNat < 32∨c.toNat=127:=by
 simpa [Hm.low] using h
theorem low_false {c:UInt8} (h:Hm.low c=false):¬ c.toNat < 32/\¬ c.toNat=127:=by
 simp only [Hm.low,Bool.or_eq_false_iff,decide_eq_false_iff_not,beq_eq_false_iff_ne] at h
 exact h
theorem isPlain_any (s:ByteArray) (w:World) (hT:Tabs w) (hs:s.size<=9223372036854775800) :
  Calls Tryz.prog 55 #[.string s] w fun e w'=>e=.returned (.bool (Hm.plain s.data.toList))/\Below w.heap.size w w':=by
 have HV:Hid (Calls Tryz.prog 90 #[.string s] w fun e w'=>e=.returned (.bool (Lib.validD s.data.toList))/\Below w.heap.size w w'):=validString_any s w (by omega) hT
 clear hT
 go_enter Tryz.func55,Tryz.ntmps55
 go_wp2
 go_loop [3,6] (fun _ i=>∃ k:Nat,k<=s.size/\i=.int .i64 k/\∀ c ∈ s.data.toList.take k,Hm.low c=false) (fun _ i=>s.size - (intOf i).toNat)
 case atStart=>exact ⟨0,Nat.zero_le _,rfl,by simp⟩
 case round=>
  obtain ⟨k,hk,rfl,hall⟩:=hrel
  have HA:Hid (∀ c ∈ s.data.toList.take k,Hm.low c=false):=hall
  clear hall
  by_cases hlt:k < s.size
  ·cases hl:Hm.low s[k]
   ·obtain ⟨l1,l2⟩:=low_false hl
    have b1:((s[k].toNat:Int) == 127)=false:=beq_eq_false_iff_ne.2 (by omega)
    have b2:¬ (s[k].toNat:Int) < 32:=by omega
    have HN:Hid (∀ c ∈ s.data.toList.take (k+1),Hm.low c=false):=by
     show ∀ c ∈ _,_
     rw [Hm.take_snoc s k hlt]
     intro c hc
     rcases List.mem_append.1 hc with h | h
     ·exact HA.out c h
     ·rw [List.mem_singleton.1 h];exact hl
    clear l1 l2 hl
    go_wp2
    go_round
    case rel=>exact ⟨k+1,by omega,by go_num,HN.out⟩
    case measure=>simp [intOf];omega
   ·have HF:Hid (Hm.plain s.data.toList=false):=by
     show _=_
     unfold Hm.plain
     rw [Bool.and_eq_false_iff]
     left
     rw [List.all_eq_false]
     exact ⟨s[k],by rw [show s[k]=s.data.toList[k]'(by rw [Hm.len];exact hlt) from rfl];exact List.getElem_mem _,by simp [hl]⟩
    by_cases h32:(s[k].toNat:Int) < 32
    ·clear hl
     go_wp2
     go_ret
     exact ⟨by rw [HF.out];rfl,Below.refl _ _⟩
    ·have h127:s[k].toNat=127:=by rcases low_true hl with h | h;omega;exact h
     have b1:((s[k].toNat:Int) == 127)=true:=beq_iff_eq.2 (by omega)
     clear hl h127
     go_wp2
     go_ret
     exact ⟨by rw [HF.out];rfl,Below.refl _ _⟩
  ·have HF:Hid (Hm.plain s.data.toList=Lib.validD s.data.toList):=by
    show _=_
    unfold Hm.plain
    have:(s.data.toList.all fun c=>!Hm.low c)=true:=by
     rw [List.all_eq_true]
     intro c hc
     have:=HA.out c (by rw [List.take_of_length_le (by rw [Hm.len];omega)];exact hc)
     simp [this]
    rw [this,Bool.true_and]
   go_wp2_with fail
   refine HV.out.mono ?_
   rintro e w1 ⟨rfl,hb⟩
   go_wp2
   go_ret
   exact ⟨by rw [HF.out];rfl,hb⟩
end Go.Proofs.YtdlhbmncbmconaaGreatDoor
namespace Go.Proofs.YtdlhbmncbmconaaGreatDoor
open Go.RowKit Go.Shelf Go.Hm
attribute [local go_sem] Oper.semAt_some
def KeepT (Bt:Nat) (A B:World):Prop:=B.cell? ⟨Bt,0,none⟩=A.cell? ⟨Bt,0,none⟩
theorem keepT_t {Bt:Nat} {A B C:World} (h:KeepT Bt A B) (k:KeepT Bt B C):KeepT Bt A C:=Eq.trans k h
theorem keepT_b {Bt:Nat} {w:World} (hlt:Bt < w.heap.size) (W:World) (l:Nat) (o o':Obj) (hl:w.heap.size<=l) (_:W.heap[l]?=some o) (_:o.isCells=false) (_:o.isWalk=false):KeepT Bt W (W.putObj l o'):=
 World.cell?_of_block (w:=W) (World.putObj_heap_other (k:=Bt) (by omega))
def encEl (x:El):Array Value:=#[.string ⟨x.1.1.toArray⟩,.int .i64 x.1.2]
set_option maxRecDepth 100000 in
set_option maxHeartbeats 1000000 in
theorem elements1_in (n:Nat) (hn:2<=n) (l Bt:Nat) (s:ByteArray) (hs:s.size<=9000000000) (xs:List El) (hxs:xs.map (·.1)=elems (s.size+1) s.data.toList 0) (J Jx:List El->World->Prop)
  (hY:∀ pre x W,J pre W->pre.length < xs.length->YieldAt Fence.wide (n - 1) Tryz.prog l (encEl x) W fun e W'=>
   (e=.returned (.bool true)/\J (pre ++ [x]) W'/\KeepT Bt W W')∨(e=.returned (.bool false)/\Jx (pre ++ [x]) W'))
  (W:World) (hBt:W.cell? ⟨Bt,0,none⟩=some (.string s)) (h0:J [] W) :
  CallsIn Fence.wide n Tryz.prog 199 #[.func (.yield l) #[] #[],.pointer (some ⟨Bt,0,none⟩)] W fun e W'=>(∃ v,e=.returned v) /\
   ((∃ ys,ys=xs/\J ys W')∨(∃ pre,pre <+: xs/\Jx pre W')):=by
 refine callsIn_of_wp Tryz.func199 rfl trivial ?_ rfl
 simp only [Tryz.ntmps199,List.size_toArray,List.length_cons,List.length_nil,Nat.reduceAdd,Nat.reduceSub,Array.replicate_succ,Array.replicate_zero,List.push_toArray,List.append_toArray,List.nil_append,List.cons_append]
 gi_wp2
 gi_loopw [3,4,5] (fun p _ _ wr=>∃ (pre rest:List El) (e:Nat),p=.int .i64 e/\e<=s.size/\xs=pre ++ rest/\rest.map (·.1)=elems (s.size+1) s.data.toList e/\wr.cell? ⟨Bt,0,none⟩=some (.string s)/\J pre wr)
  (fun p _ _ _=>s.size - (intOf p).toNat)
 case atStart=>exact ⟨[],xs,0,rfl,Nat.zero_le _,rfl,hxs,hBt,h0⟩
 case round=>
  obtain ⟨pre,rest,e,rfl,he,hx,hr,hc,hJs⟩:=hrel
  have hel:=element_le (s.data.toList.drop e)
  rw [List.length_drop,Hm.len] at hel
  obtain ⟨nm,k,hnk⟩:∃ nm k,element (s.data.toList.drop e)=(nm,k):=⟨_,_,rfl⟩
  rw [hnk] at hel
  dsimp only at hel
  have HC:Hid (∀ w,Calls Tryz.prog 200 #[.string (s.extract e s.size)] w fun x w'=>x=.returned (.tuple #[.string ⟨nm.toArray⟩,.int .i64 k])/\w'=w):=fun w=>by
   have:=elementAhead_any (s.extract e s.size) w (by simp;omega)
   rwa [Hm.drop_ex,hnk] at this
  have HX:Hid (xs=pre ++ rest):=hx
  by_cases hk:k=0
  ·have hrest:rest=[]:=by
    rw [elems_end (by rw [Hm.len];omega) (by rw [Hm.len];omega) (by rw [hnk];exact hk)] at hr
    exact List.map_eq_nil_iff.1 hr
   subst hrest
   subst hk
   clear hr hnk hx
   gi_wp2_with fail
   refine ⟨trivial,fun _=>by omega,?_⟩
   refine (callsIn_wide.2 (HC.out _)).mono ?_
   rintro x w' ⟨rfl,rfl⟩
   gi_wp2
   refine ⟨fun _ h=>(by cases h),?_⟩
   gi_wp2
   refine bodyPost_ret (results_none rfl _ _ _) rfl ?_
   exact ⟨⟨_,rfl⟩,.inl ⟨pre,by rw [HX.out,List.append_nil],hJs⟩⟩
  ·have b0:((k:Int) == 0)=false:=beq_eq_false_iff_ne.2 (by omega)
   have hkp:0 < k:=by omega
   rw [elems_step (by rw [Hm.len];omega) (by rw [Hm.len];omega) (by rw [hnk];exact hk),hnk] at hr
   dsimp only at hr
   cases rest with
   | nil=>simp at hr
   | cons x rest=>
    rw [List.map_cons,List.cons.injEq] at hr
    obtain ⟨hx1,hr⟩:=hr
    have HR:Hid (rest.map (·.1)=elems (s.size+1) s.data.toList (e+k)):=hr
    obtain ⟨fn,tmps,assign,body,hy,hR⟩:=hY pre x wr hJs (by rw [hx];simp)
    unfold encEl at hy
    rw [hx1] at hy
    dsimp only at hy
    rw [Int.natCast_add] at hy
    clear hr hnk hx hx1 hk
    gi_wp2_with fail
    refine ⟨trivial,fun _=>by omega,?_⟩
    refine (callsIn_wide.2 (HC.out _)).mono ?_
    rintro z w' ⟨rfl,rfl⟩
    gi_wp2
    refine ⟨fun _=>by omega,hR.mono ?_⟩
    rintro z W3 (⟨rfl,hJ3,hk3⟩ | ⟨rfl,hJx3⟩)
    ·have hc3:W3.cell? ⟨Bt,0,none⟩=some (.string s):=Eq.trans hk3 hc
     gi_wp2
     go_roundw
     case rel=>exact ⟨pre ++ [x],rest,e+k,int_eq (by omega),by omega,by rw [HX.out];simp,HR.out,hc3,hJ3⟩
     case measure=>show s.size - ((e:Int)+(k:Int)).toNat < s.size - ((e:Int)).toNat;omega
    ·gi_wp2
     refine bodyPost_ret (results_none rfl _ _ _) rfl ?_
     exact ⟨⟨_,rfl⟩,.inr ⟨pre ++ [x],⟨rest,by rw [HX.out];simp⟩,hJx3⟩⟩
theorem elements_in (s:ByteArray) (w:World) :
  Calls Tryz.prog 167 #[.string s] w fun e w'=>e=.returned (.func (.func 199) #[] #[.pointer (some ⟨w.heap.size,0,none⟩)])/\w'=w.alloc (.cells #[.string s] 9):=by
 go_enter Tryz.func167,Tryz.ntmps167
 go_wp2
 go_ret
 exact ⟨rfl,rfl⟩
theorem elements_stops (n:Nat) (hn:2<=n) (Bt:Nat) (s:ByteArray) (hs:s.size<=9000000000) (xs:List El) (hxs:xs.map (·.1)=elems (s.size+1) s.data.toList 0) (w:World) (hBt:Bt < w.heap.size)
  (hc:w.cell? ⟨Bt,0,none⟩=some (.string s)) :
  SeqStopsK Fence.wide n Tryz.prog 199 #[.pointer (some ⟨Bt,0,none⟩)] encEl (KeepT Bt) (fun ys=>ys=xs) (fun pre=>pre <+: xs) xs.length w:=fun l J Jx W hW _ _ hY h0=>
 elements1_in n hn l Bt s hs xs hxs J Jx hY W ((hW.cell (p:=⟨Bt,0,none⟩) hBt).trans hc) h0
end Go.Proofs.YtdlhbmncbmconaaGreatDoor
namespace Go.Proofs.YtdlhbmncbmconaaGreatDoor
open Go.RowKit Go.Shelf Go.Hm
attribute [local go_sem] Oper.semAt_some
theorem has_put {H:Type} {D:DataW H} (hD:Maps.IsMap D) (nm nm':List UInt8) (d:DataW H) :
  Maps.has (D.put (.string nm) d) (.string nm')=(decide (nm'=nm) || Maps.has D (.string nm')):=by
 by_cases h:nm'=nm
 ·subst h
  rw [Maps.has_put_same hD (by trivial) d]
  simp
 ·rw [Maps.has_put_other (by simpa using h) d]
  simp [h]
def DI (H:Type) (s:ByteArray) (w:World) (pre:List El) (W:World):Prop:=
 W.cell? ⟨w.heap.size+1+1+1+1,0,none⟩=some (.string s) /\
 (W.cell? ⟨w.heap.size,0,none⟩=some (.int .i64 0)/\W.frozen? ⟨w.heap.size,0,none⟩=false) /\
 (W.cell? ⟨w.heap.size+1+1,0,none⟩=some (.map (some (w.heap.size+1)))) /\
 (W.cell? ⟨w.heap.size+1+1+1,0,none⟩=some (.int .i64 (lastEnd (pre.map (·.1))))/\W.frozen? ⟨w.heap.size+1+1+1,0,none⟩=false) /\
 ((pre.map (·.1.1)).Nodup/\∃ D:DataW H,Maps.IsMap D/\(∀ nm,Maps.has D (.string nm)=decide (nm ∈ pre.map (·.1.1)))/\W.ownsMap Tryz.prog 9 (plainElem (H:=H) Tryz.prog 3) (w.heap.size+1) pre.length D)
def DX (w:World) (pre:List El) (W:World):Prop:=
 W.cell? ⟨w.heap.size,0,none⟩=some (.int .i64 0)/\¬ (pre.map (·.1.1)).Nodup
theorem own_DI (H:Type) (s:ByteArray) (w:World) (B:Nat) (hB:w.heap.size+1 < B):OwnFrom B (DI H s w):=fun _ _ _ _ ⟨t1,⟨a1,a2⟩,b1,⟨c1,c2⟩,d,D,e1,e2,e3⟩ hg hr=>
 ⟨cell_kept t1 hg (fun r e=>(hr r e).2),⟨cell_kept a1 hg (fun r e=>(hr r e).2),(frozen_kept a1 hg (fun r e=>(hr r e).2)).trans a2⟩,cell_kept b1 hg (fun r e=>(hr r e).2),⟨cell_kept c1 hg (fun r e=>(hr r e).2),(frozen_kept c1 hg (fun r e=>(hr r e).2)).trans c2⟩,d,D,e1,e2,
  e3.kept hg (fun e=>by have:=(hr _ e.symm).1;omega)⟩
theorem own_DX (w:World) (B:Nat):OwnFrom B (DX w):=fun _ _ _ _ ⟨a1,d⟩ hg hr=>⟨cell_kept a1 hg (fun r e=>(hr r e).2),d⟩
set_option maxRecDepth 100000 in
set_option maxHeartbeats 2000000 in
theorem dataAhead_in (s:ByteArray) (hs:s.size<=9000000000) (w:World) (hT:Tabs w) (xs:List El) (hxs:xs.map (·.1)=elems (s.size+1) s.data.toList 0) :
  CallsIn Fence.wide 4 Tryz.prog 125 #[.string s] w fun e W'=>e=.returned (.int .i64 (dataOf s.data.toList (xs.map (·.1))))/\Below w.heap.size w W':=by
 have hmm:=@run_makeMap Tryz.prog
 have hxl:xs.length<=s.size:=by
  have:=elems_count (s.size+1) s.data.toList 0 (Nat.zero_le _)
  rw [<-hxs,List.length_map,Hm.len] at this
  omega
 refine callsIn_of_wp_marks Tryz.func125 rfl trivial ?_ rfl
 simp only [Tryz.ntmps125,List.size_toArray,List.length_cons,List.length_nil,Nat.reduceAdd,Nat.reduceSub,Array.replicate_succ,Array.replicate_zero,List.push_toArray,List.append_toArray,List.nil_append,List.cons_append]
 gi_wp2_with fail
 refine ⟨trivial,?_⟩
 refine (callsIn_wide.2 (elements_in _ _)).mono ?_
 rintro e w' ⟨rfl,rfl⟩
 gi_wp2_with fail
 obtain ⟨W0,hW0⟩:∃ W0,(((((w.alloc (.cells #[.int .i64 0] 3)).alloc (.map #[] 0)).alloc (.cells #[.map (some (w.heap.size+1))] 230)).alloc (.cells #[.int .i64 0] 3)).alloc (.cells #[.string s] 9))=W0:=⟨_,rfl⟩
 have hz:W0.heap.size=w.heap.size+5:=by subst hW0;simp
 have c0:W0.cell? ⟨w.heap.size,0,none⟩=some (.int .i64 0):=by subst hW0;go_simp
 have f0:W0.frozen? ⟨w.heap.size,0,none⟩=false:=by subst hW0;go_simp
 have c2:W0.cell? ⟨w.heap.size+1+1,0,none⟩=some (.map (some (w.heap.size+1))):=by subst hW0;go_simp
 have c3:W0.cell? ⟨w.heap.size+1+1+1,0,none⟩=some (.int .i64 0):=by subst hW0;go_simp
 have f3:W0.frozen? ⟨w.heap.size+1+1+1,0,none⟩=false:=by subst hW0;go_simp
 have c4:W0.cell? ⟨w.heap.size+1+1+1+1,0,none⟩=some (.string s):=by subst hW0;go_simp
 have m1:W0.ownsMap Tryz.prog 9 (plainElem (H:=Unit) Tryz.prog 3) (w.heap.size+1) 0 (.map []):=by
  rw [<-hW0]
  have:=World.ownsMap_made (w.alloc (.cells #[.int .i64 0] 3)) Tryz.prog 9 (plainElem (H:=Unit) Tryz.prog 3)
  rw [World.size_alloc] at this
  exact ((this.alloc _).alloc _).alloc _
 have hB0:Below w.heap.size w W0:=by
  rw [<-hW0]
  exact (((((Below.refl _ w).alloc (Nat.le_refl _) _).alloc (by simp) _).alloc (by simp;omega) _).alloc (by simp;omega) _).alloc (by simp;omega) _
 rw [hW0]
 clear hW0
 refine wpIn_rangeFunc_ownG rfl (by omega) (gf:=199) (lb:=#[.pointer (some ⟨w.heap.size+1+1+1+1,0,none⟩)]) rfl trivial (enters_of Tryz.func199 (by kernel_rfl) rfl)
  (elements_stops (4 - 1) (by omega) (w.heap.size+1+1+1+1) s hs xs hxs W0 (by omega) c4) keepT_t (keepT_b (by omega)) (Below.refl _ _) (fun _=>rfl)
  (fun pre W=>DI Unit s w pre W/\Below w.heap.size w W) (fun c pre W=>(c=.ret/\DX w pre W)/\Below w.heap.size w W)
  (OwnFrom.and (own_DI Unit s w _ (by omega)) (ownFrom_below (Nat.le_refl _) (by omega)))
  (fun c=>OwnFrom.and (fun a b d e ⟨h1,h2⟩ hg hr=>⟨h1,own_DX w _ a b d e h2 hg hr⟩) (ownFrom_below (Nat.le_refl _) (by omega)))
  ⟨⟨c4,⟨c0,f0⟩,c2,⟨c3,f3⟩,by simp,.map [],⟨_,rfl⟩,by intro nm;simp [Maps.has],m1⟩,hB0⟩
  (fun x=>{ tmps:=#[.string s,undef,.pointer (some ⟨w.heap.size,0,none⟩),.pointer (some ⟨w.heap.size+1+1,0,none⟩),.pointer (some ⟨w.heap.size+1+1+1,0,none⟩),.string ⟨x.1.1.toArray⟩,.int .i64 x.1.2,undef,undef,.map (some (w.heap.size+1)),.string s,.func (.func 199) #[] #[.pointer (some ⟨w.heap.size+1+1+1+1,0,none⟩)],.string ⟨x.1.1.toArray⟩,.int .i64 x.1.2,undef,undef,undef,undef,undef,undef,undef,undef,undef,undef,undef,undef,undef,undef,undef,undef,undef],defers:=[] }) ?assign ?body ?done ?stop
 case assign=>
  intro l x W K hK
  unfold encEl
  gi_wp2
  exact hK
 case body=>
  rintro l pre x W ⟨⟨t1,⟨a1,a2⟩,b1,⟨d1,d2⟩,hnd,D,hD1,hD2,hown⟩,hB⟩ hlt
  have hkey:keyOf Tryz.prog 9 (.string ⟨x.1.1.toArray⟩)=some (.string x.1.1):=WideMaps.keyOf_string_mk Tryz.underlying9 (by rw [<-Hm.len];show x.1.1.length<=_;have:=x.2.1;unfold maxLen;omega)
  have hwf:(Lit.int .i64 (x.1.2:Int)).wf=true:=by have:=x.2.2;simp only [Lit.wf,IntKind.min,IntKind.max,Bool.and_eq_true];simp [IntKind.signed,IntKind.bits];omega
  have hpl:pre.length < maxLen:=by unfold maxLen;omega
  have HH:Hid (Maps.has D (.string x.1.1)=decide (x.1.1 ∈ pre.map (·.1.1))):=hD2 _
  by_cases hin:x.1.1 ∈ pre.map (·.1.1)
  ·have hhas:Maps.has D (.string x.1.1)=true:=by rw [HH.out];simpa using hin
   have HI:Hid (x.1.1 ∈ pre.map (·.1.1)):=hin
   clear hin hD2
   gi_wp2_with (gi_at_lookup;refine wpListIn_lookup_own_ok_int _ rfl _ _ 230 rfl 9 3 .i64 (Maps.string_keyed Tryz.underlying9) Tryz.underlying230 Tryz.underlying3 (Tryz.zeroValue3 _) (w.heap.size+1) pre.length D rfl hown _ (.string x.1.1) rfl hkey ?_;intro c hat hwc)
   exact ⟨(KeepsOthers.setCell _ _ _).from _,⟨rfl,World.cell?_setCell_same' _ _ _ (by rw [a1];rfl),by rw [List.map_append];intro h;exact (List.nodup_append.1 h).2.2 _ HI.out _ (by simp) rfl⟩,hB.setCell (p:=⟨w.heap.size,0,none⟩) (Nat.le_refl _) _⟩
  ·have hhas:Maps.has D (.string x.1.1)=false:=by rw [HH.out];simpa using hin
   have HI:Hid (x.1.1 ∉ pre.map (·.1.1)):=hin
   have HD2:Hid (∀ nm,Maps.has D (.string nm)=decide (nm ∈ pre.map (·.1.1))):=hD2
   clear hin hD2
   have hh0:∃ es ck,W.heap[w.heap.size+1]?=some (.map es ck):=let ⟨es,ck,h,_⟩:=hown;⟨es,ck,h⟩
   obtain ⟨es,ck,hh0⟩:=hh0
   have HH1:Hid (W.heap[w.heap.size+1]?=some (.map es ck)):=hh0
   clear hh0
   gi_wp2_with (first
    | (gi_at_lookup;refine wpListIn_lookup_own_ok_int _ rfl _ _ 230 rfl 9 3 .i64 (Maps.string_keyed Tryz.underlying9) Tryz.underlying230 Tryz.underlying3 (Tryz.zeroValue3 _) (w.heap.size+1) pre.length D rfl hown _ (.string x.1.1) rfl hkey ?_;intro c hat hwc)
    | (gi_at_mapUpdate;refine wpListIn_mapUpdate_own _ rfl _ _ _ 230 rfl 9 3 (Maps.string_keyed Tryz.underlying9) Tryz.underlying230 _ (w.heap.size+1) pre.length D rfl hown hpl _ _ (.string x.1.1) rfl rfl hkey _ [] (plainElem_int Tryz.underlying3 hwf) ?_;intro w1 hown1 hgrow1;have e1:w1.cell? ⟨w.heap.size+1+1+1,0,none⟩=some (.int .i64 (lastEnd (pre.map (·.1)))):=cell_kept d1 hgrow1 (fun r e=>by cases e;exact ⟨_,HH1.out,rfl⟩);have e2:w1.frozen? ⟨w.heap.size+1+1+1,0,none⟩=false:=(frozen_kept d1 hgrow1 (fun r e=>by cases e;exact ⟨_,HH1.out,rfl⟩)).trans d2))
   have k4:w1.cell? ⟨w.heap.size+1+1+1+1,0,none⟩=some (.string s):=cell_kept t1 hgrow1 (fun r e=>by cases e;exact ⟨_,HH1.out,rfl⟩)
   have q4:(w1.setCell ⟨w.heap.size+1+1+1,0,none⟩ (.int .i64 x.1.2)).cell? ⟨w.heap.size+1+1+1+1,0,none⟩=some (.string s):=(World.cell?_setCell_other _ _ _ _ (by simp)).trans k4
   refine ⟨(KeepsFrom.of_grownBy hgrow1 (fun j e=>by cases e;omega)).trans ((KeepsOthers.setCell _ _ _).from _),q4.trans t1.symm,⟨q4,⟨?_,?_⟩,?_,⟨?_,?_⟩,?_,D.put (.string x.1.1) (.lit (.int .i64 x.1.2)),hD1.put _ _,?_,?_⟩,?_⟩
   ·exact (World.cell?_setCell_other _ _ _ _ (by simp)).trans (cell_kept a1 hgrow1 (fun r e=>by cases e;exact ⟨_,HH1.out,rfl⟩))
   ·rw [World.frozen?_setCell];exact (frozen_kept a1 hgrow1 (fun r e=>by cases e;exact ⟨_,HH1.out,rfl⟩)).trans a2
   ·exact (World.cell?_setCell_other _ _ _ _ (by simp)).trans (cell_kept b1 hgrow1 (fun r e=>by cases e;exact ⟨_,HH1.out,rfl⟩))
   ·rw [World.cell?_setCell_same' _ _ _ (by rw [e1];rfl)];simp [lastEnd]
   ·rw [World.frozen?_setCell];exact e2
   ·rw [List.map_append,List.nodup_append];exact ⟨hnd,by simp,fun a ha b hb h=>HI.out (by simp at hb;rw [<-hb,<-h];exact ha)⟩
   ·intro nm
    rw [has_put hD1,HD2.out]
    simp only [List.map_append,List.mem_append,List.map_cons,List.map_nil,List.mem_singleton]
    rw [Bool.eq_iff_iff]
    simp only [Bool.or_eq_true,decide_eq_true_eq]
    exact or_comm
   ·rw [List.length_append];exact hown1.setCell (by simp) _
   ·exact (hB.grown hgrow1 hB.size (fun k e=>by cases e;omega)).setCell (p:=⟨w.heap.size+1+1+1,0,none⟩) (by show _<=w.heap.size+1+1+1;omega) _
 case done=>
  rintro Db ys W hD rfl ⟨⟨_,⟨a1,a2⟩,_,⟨d1,_⟩,hnd,_⟩,hB⟩ hK
  have hq:lastEnd (ys.map (·.1))<=s.size:=by
   unfold lastEnd
   cases hl:(ys.map (·.1)).getLast? with
   | none=>simp
   | some x=>
    have hm:x ∈ ys.map (·.1):=List.mem_of_getLast? hl
    rw [hxs] at hm
    have:=(elems_bd _ _ 0 (Nat.zero_le _) x hm).2
    rw [Hm.len] at this
    simpa using this
  have hnd2:((ys.map (·.1)).map (·.1)).Nodup:=by rw [List.map_map];exact hnd
  obtain ⟨q,hqe⟩:∃ q,lastEnd (ys.map (·.1))=q:=⟨_,rfl⟩
  have HO:Hid (dataOf s.data.toList (ys.map (·.1))=if plain (s.data.toList.take q)=true then q else 0):=by
   show _=_
   unfold dataOf
   rw [if_pos hnd2,hqe]
  rw [hqe] at d1 hq
  clear hqe hnd hnd2 hxs hxl c0 f0 c2 c3 f3 c4 m1 hB0
  have HP:Hid (∀ W,Tabs W->Calls Tryz.prog 55 #[.string (s.extract 0 q)] W fun e w'=>e=.returned (.bool (plain (s.data.toList.take q)))/\Below W.heap.size W w'):=fun W hT=>by
   have:=isPlain_any (s.extract 0 q) W hT (by simp;omega)
   rwa [ex_take,List.drop_zero,Nat.sub_zero] at this
  have hblk:w.heap.size < W.heap.size/\w.heap.size+1+1+1 < W.heap.size:=⟨(block_lt_of_cell a1:w.heap.size < _),(block_lt_of_cell d1:w.heap.size+1+1+1 < _)⟩
  have hKl:Db < W.heap.size:=(Array.getElem?_eq_some_iff.1 hK).1
  gi_wp2_with fail
  refine ⟨trivial,?_⟩
  refine (callsIn_wide.2 (HP.out W (hT.next hB))).mono ?_
  rintro e W2 ⟨rfl,hb2⟩
  have a3:W2.cell? ⟨w.heap.size,0,none⟩=some (.int .i64 0):=(hb2.cell (p:=⟨w.heap.size,0,none⟩) hblk.1).trans a1
  have a4:W2.frozen? ⟨w.heap.size,0,none⟩=false:=(hb2.frozen (p:=⟨w.heap.size,0,none⟩) hblk.1).trans a2
  have d3:W2.cell? ⟨w.heap.size+1+1+1,0,none⟩=some (.int .i64 q):=(hb2.cell (p:=⟨w.heap.size+1+1+1,0,none⟩) hblk.2).trans d1
  have hK2:W2.heap[Db]?=some (.deferred (some [])):=(hb2.block Db hKl).trans hK
  have HB2:Hid (Below w.heap.size w W2):=hB.trans (hb2.mono hB.size)
  clear a1 a2 d1 hK hb2 hB
  cases hp:plain (s.data.toList.take q)
  ·have HF:Hid (dataOf s.data.toList (ys.map (·.1))=0):=by show _=_;rw [HO.out,hp];rfl
   gi_wp2
   have hK3:(W2.setCell ⟨w.heap.size,0,none⟩ (.int .i64 0)).heap[Db]?=some (.deferred (some [])):=(KeepsOthers.setCell _ _ _).same Db _ hK2 rfl
   have hc3:(W2.setCell ⟨w.heap.size,0,none⟩ (.int .i64 0)).cell? ⟨w.heap.size,0,none⟩=some (.int .i64 0):=World.cell?_setCell_same' _ _ _ (by rw [a3];rfl)
   have hc4:((W2.setCell ⟨w.heap.size,0,none⟩ (.int .i64 0)).putObj Db (.deferred none)).cell? ⟨w.heap.size,0,none⟩=some (.int .i64 0):=cell_kept hc3 (grownBy_putObj' _ Db (.deferred none)) (fun r e=>by cases e;exact ⟨_,hK3,rfl⟩)
   have hb3:Below w.heap.size w (W2.setCell ⟨w.heap.size,0,none⟩ (.int .i64 0)):=HB2.out.setCell (p:=⟨w.heap.size,0,none⟩) (Nat.le_refl _) _
   refine ⟨by simp,.inl ⟨_,_,rfl,run_takeDeferred hK3,?_⟩⟩
   exact ⟨.int .i64 0,by simp [results,Tryz.results125,go_sem,hc4],by rw [HF.out];rfl,hb3.trans (belowK_b (w:=w) (Nat.le_refl _) _ Db _ _ (by omega) hK3 rfl rfl)⟩
  ·have HF:Hid (dataOf s.data.toList (ys.map (·.1))=q):=by show _=_;rw [HO.out,hp];rfl
   gi_wp2
   have hK3:(W2.setCell ⟨w.heap.size,0,none⟩ (.int .i64 q)).heap[Db]?=some (.deferred (some [])):=(KeepsOthers.setCell _ _ _).same Db _ hK2 rfl
   have hc3:(W2.setCell ⟨w.heap.size,0,none⟩ (.int .i64 q)).cell? ⟨w.heap.size,0,none⟩=some (.int .i64 q):=World.cell?_setCell_same' _ _ _ (by rw [a3];rfl)
   have hc4:((W2.setCell ⟨w.heap.size,0,none⟩ (.int .i64 q)).putObj Db (.deferred none)).cell? ⟨w.heap.size,0,none⟩=some (.int .i64 q):=cell_kept hc3 (grownBy_putObj' _ Db (.deferred none)) (fun r e=>by cases e;exact ⟨_,hK3,rfl⟩)
   have hb3:Below w.heap.size w (W2.setCell ⟨w.heap.size,0,none⟩ (.int .i64 q)):=HB2.out.setCell (p:=⟨w.heap.size,0,none⟩) (Nat.le_refl _) _
   refine ⟨by simp,.inl ⟨_,_,rfl,run_takeDeferred hK3,?_⟩⟩
   exact ⟨.int .i64 q,by simp [results,Tryz.results125,go_sem,hc4],by rw [HF.out],hb3.trans (belowK_b (w:=w) (Nat.le_refl _) _ Db _ _ (by omega) hK3 rfl rfl)⟩
 case stop=>
  rintro Db c pre W hD hpre ⟨⟨rfl,a1,hnd⟩,hB⟩ hK
  have HF:Hid (dataOf s.data.toList (xs.map (·.1))=0):=by
   show _=_
   unfold dataOf
   rw [if_neg]
   intro h
   apply hnd
   obtain ⟨rest,rfl⟩:=hpre
   rw [List.map_map,List.map_append] at h
   exact (List.nodup_append.1 h).1
  gi_wp2
  have hc4:(W.putObj Db (.deferred none)).cell? ⟨w.heap.size,0,none⟩=some (.int .i64 0):=cell_kept a1 (grownBy_putObj' _ Db (.deferred none)) (fun r e=>by cases e;exact ⟨_,hK,rfl⟩)
  refine ⟨by simp,.inl ⟨_,_,rfl,run_takeDeferred hK,?_⟩⟩
  exact ⟨.int .i64 0,by simp [results,Tryz.results125,go_sem,hc4],by rw [HF.out];rfl,hB.trans (belowK_b (w:=w) (Nat.le_refl _) _ Db _ _ (by omega) hK rfl rfl)⟩
theorem dataAhead_any (s:ByteArray) (hs:s.size<=9000000000) (w:World) (hT:Tabs w) :
  Calls Tryz.prog 125 #[.string s] w fun e w'=>e=.returned (.int .i64 (dataLen s.data.toList))/\Below w.heap.size w w':=by
 obtain ⟨xs,hx⟩:=els (elems (s.size+1) s.data.toList 0) fun x hx=>by
  have:=elems_bd _ _ 0 (Nat.zero_le _) x hx
  rw [Hm.len] at this
  omega
 have:=callsIn_wide.1 (dataAhead_in s hs w hT xs hx)
 rw [hx,<-Hm.len] at this
 exact this
end Go.Proofs.YtdlhbmncbmconaaGreatDoor

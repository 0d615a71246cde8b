/- Pressed by program out of Ca. -/
import Derived.Test.YtdlhbmncbmconaaGreatDoorL09
import Derived.Test.YtdlhbmncbmconaaGreatDoorL01
namespace Go.Hm
theorem rdd_pow:∀ (k n:Nat),n < 10 ^ (k+1)->(Lib.decDigits n).length<=k+1
 | 0,n,h=>by rw [dd1 (by simpa using h)];simp
 | k+1,n,h=>by
  by_cases h1:n < 10
  ·rw [dd1 h1];simp
  ·rw [dd2 h1]
   have:=rdd_pow k (n / 10) (by rw [Nat.pow_succ] at h;omega)
   simp only [List.length_append,List.length_cons,List.length_nil]
   omega
theorem rdd_len19 {n:Nat} (h:n<=9223372036854775807):(Lib.decDigits n).length<=20:=by
 have:=rdd_pow 18 n (by omega)
 omega
end Go.Hm
namespace Go.Proofs.YtdlhbmncbmconaaGreatDoor
open Go.RowKit Go.Sort
theorem rten {k:Nat} (h:k < 10):(⟨#[48,49,50,51,52,53,54,55,56,57]⟩:ByteArray).extract k (k+1)=⟨[UInt8.ofNat (48+k)].toArray⟩:=by
 rcases (by omega:k=0∨k=1∨k=2∨k=3∨k=4∨k=5∨k=6∨k=7∨k=8∨k=9) with h | h | h | h | h | h | h | h | h | h<;>subst h<;>decide
def rpad:Nat->Nat->List UInt8
 | 0,_=>[]
 | k+1,n=>rpad k (n / 10) ++ [UInt8.ofNat (48+n % 10)]
theorem rpad_2 {n:Nat} (h:n < 100):rpad 2 n=Hm.d2 n:=by
 have:n / 10 % 10=n / 10:=by omega
 simp [rpad,Hm.d2,this]
theorem rpad_4 {n:Nat} (h:n < 10000):rpad 4 n=Hm.d4 n:=by
 have h1:n / 10 / 10 / 10 % 10=n / 100 / 10:=by omega
 have h2:n / 10 / 10 % 10=n / 100 % 10:=by omega
 have h3:n / 10 % 10=n % 100 / 10:=by omega
 have h4:n % 10=n % 100 % 10:=by omega
 simp only [rpad,Hm.d4,Hm.d2,h1,h2,h3,List.nil_append,List.cons_append]
 rw [h4]
theorem rpadded_any (n many:Nat) (hn:n<=1000000) (hm:many<=4) (w:World) :
  Calls Tryz.prog 220 #[.int .i64 n,.int .i64 many] w fun e w'=>e=.returned (.string ⟨(rpad many n).toArray⟩)/\w'=w:=by
 obtain ⟨R,hR⟩:∃ R,rpad many n=R:=⟨_,rfl⟩
 rw [hR]
 have HR:=show Hid _ from hR
 clear hR
 go_enter Tryz.func220,Tryz.ntmps220
 go_wp2
 go_loopw [0,5,6] (fun nv sv ix wr=>∃ (j k:Nat) (t:List UInt8),j<=many/\k<=1000000/\t.length=j/\nv=.int .i64 k/\sv=.string ⟨t.toArray⟩/\ix=.int .i64 j/\R=rpad (many - j) k ++ t/\wr=w) (fun _ _ ix _=>many - (intOf ix).toNat)
 case atStart=>exact ⟨0,n,[],Nat.zero_le _,hn,rfl,rfl,rfl,rfl,by rw [<-HR.out];simp,rfl⟩
 case round=>
  obtain ⟨j,k,t,hj,hk,htl,rfl,rfl,rfl,hd,rfl⟩:=hrel
  have HD:=show Hid _ from hd
  clear hd
  have htl2:t.length<=4:=by omega
  have HTL:=show Hid _ from htl
  clear htl
  by_cases hlt:j < many
  ·have hji:(j:Int) < (many:Int):=by omega
   have hcl:¬ 9223372036854775807 < min (k % 10+1) 10 - k % 10+t.length:=by omega
   go_wp2
   go_roundw
   case rel=>
    refine ⟨j+1,k / 10,UInt8.ofNat (48+k % 10) :: t,by omega,by omega,by simp [HTL.out],int_eq (by simp),?_,int_eq (by simp),?_,trivial⟩
    ·rw [rten (by omega),app_mk]
     rfl
    ·rw [HD.out,show many - j=(many - (j+1))+1 by omega,rpad]
     simp
   case measure=>simp [intOf];omega
  ·have hji:¬ (j:Int) < (many:Int):=by omega
   have HE:Hid (R=t):=by
    show _=_
    rw [HD.out,show many - j=0 by omega]
    rfl
   go_wp2
   go_ret
   exact ⟨by rw [HE.out];rfl,rfl⟩
theorem rdecimal_any (n:Nat) (hn:n<=9223372036854775807) (w:World) :
  Calls Tryz.prog 160 #[.int .i64 n] w fun e w'=>e=.returned (.string ⟨(Lib.decDigits n).toArray⟩)/\w'=w:=by
 have hl:=Hm.rdd_len19 hn
 go_enter Tryz.func160,Tryz.ntmps160
 go_wp2_with fail
 go_loopw [0,3] (fun nv sv wr=>∃ (k:Nat) (t:List UInt8),k<=n/\nv=.int .i64 k/\sv=.string ⟨t.toArray⟩/\Lib.decDigits n=Lib.decDigits k ++ t/\wr=w) (fun nv _ _=>(intOf nv).toNat)
 case atStart=>exact ⟨n,[],Nat.le_refl _,rfl,rfl,by simp,rfl⟩
 case round=>
  obtain ⟨k,t,hk,rfl,rfl,hd,rfl⟩:=hrel
  have htl:t.length<=20:=by
   have:=congrArg List.length hd
   rw [List.length_append] at this
   omega
  have HD:Hid (Lib.decDigits n=Lib.decDigits k ++ t):=hd
  clear hd hl
  by_cases h9:9 < k
  ·have hi:(9:Int) < (k:Int):=by omega
   have hcl:¬ 9223372036854775807 < min (k % 10+1) 10 - k % 10+t.length:=by omega
   go_wp2
   go_roundw
   case rel=>
    refine ⟨k / 10,UInt8.ofNat (48+k % 10) :: t,by omega,int_eq (by simp),?_,?_,trivial⟩
    ·rw [rten (by omega),app_mk]
     rfl
    ·rw [HD.out,Hm.dd2 (show ¬ k < 10 by omega)]
     simp
   case measure=>simp [intOf];omega
  ·have hi:¬ (9:Int) < (k:Int):=by omega
   have hcl:¬ 9223372036854775807 < min (k+1) 10 - k+t.length:=by omega
   have hkk:(k:Int)<=9:=by omega
   go_wp2
   go_ret
   refine ⟨?_,rfl⟩
   rw [rten (by omega),app_mk,HD.out,Hm.dd1 (by omega)]
   rfl
attribute [local go_sem] app_mk rcut rbyte
theorem rdigit_any (c:UInt8) (w:World):Calls Tryz.prog 217 #[.int .u8 c.toNat] w fun e w'=>e=.returned (.bool (Hm.dig c))/\w'=w:=by
 go_enter Tryz.func217,Tryz.ntmps217
 by_cases h1:(48:Int)<=(c.toNat:Int)
 ·by_cases h2:(c.toNat:Int)<=57
  ·go_wp2
   go_ret
   exact ⟨by rw [show Hm.dig c=true by simp [Hm.dig];omega];rfl,rfl⟩
  ·go_wp2
   go_ret
   exact ⟨by rw [show Hm.dig c=false by simp [Hm.dig];omega];rfl,rfl⟩
 ·go_wp2
  go_ret
  exact ⟨by rw [show Hm.dig c=false by simp [Hm.dig];omega];rfl,rfl⟩
theorem rleap_any (y:Int) (hy:0<=y) (w:World):Calls Tryz.prog 233 #[.int .i64 y] w fun e w'=>e=.returned (.bool (Hm.leap y))/\w'=w:=by
 have e4:y.tmod 4=y % 4:=Int.tmod_eq_emod_of_nonneg hy
 have e100:y.tmod 100=y % 100:=Int.tmod_eq_emod_of_nonneg hy
 have e400:y.tmod 400=y % 400:=Int.tmod_eq_emod_of_nonneg hy
 go_enter Tryz.func233,Tryz.ntmps233
 by_cases h1:y % 4=0
 ·by_cases h2:y % 100=0
  ·by_cases h3:y % 400=0
   ·go_wp2
    go_ret
    exact ⟨by rw [show Hm.leap y=true by simp [Hm.leap];omega];rfl,rfl⟩
   ·have h3b:(y % 400 == 0)=false:=by simp [h3]
    go_wp2
    go_ret
    exact ⟨by rw [show Hm.leap y=false by simp [Hm.leap];omega];rfl,rfl⟩
  ·have h2b:(y % 100 == 0)=false:=by simp [h2]
   go_wp2
   go_ret
   exact ⟨by rw [show Hm.leap y=true by simp [Hm.leap];omega];rfl,rfl⟩
 ·have h1b:(y % 4 == 0)=false:=by simp [h1]
  go_wp2
  go_ret
  exact ⟨by rw [show Hm.leap y=false by simp [Hm.leap];omega];rfl,rfl⟩
theorem rlength_any (y m:Int) (hy:0<=y) (w:World):Calls Tryz.prog 219 #[.int .i64 y,.int .i64 m] w fun e w'=>e=.returned (.int .i64 (Hm.rlength y m))/\w'=w:=by
 have LP:Hid (∀ w,Calls Tryz.prog 233 #[.int .i64 y] w fun e w'=>e=.returned (.bool (Hm.leap y))/\w'=w):=fun w=>rleap_any y hy w
 have hd:Hm.rlength y m=if m=2 then (if Hm.leap y=true then 29 else 28) else if m=4∨m=6∨m=9∨m=11 then 30 else 31:=rfl
 rw [hd]
 clear hd
 generalize Hm.leap y=lp at LP
 by_cases h2:m=2
 ·subst h2
  cases lp
  all_goals (
   go_enter Tryz.func219,Tryz.ntmps219
   go_wp2_with fail
   refine (LP.out _).mono ?_
   rintro e w1 ⟨rfl,rfl⟩
   go_wp2
   go_ret
   exact ⟨rfl,rfl⟩)
 ·by_cases h4:m=4∨m=6∨m=9∨m=11
  ·rcases h4 with h | h | h | h<;>subst h
   all_goals (
    go_enter Tryz.func219,Tryz.ntmps219
    go_wp2_with fail
    refine (LP.out _).mono ?_
    rintro e w1 ⟨rfl,rfl⟩
    go_wp2
    go_ret
    exact ⟨rfl,rfl⟩)
  ·have b2:(m == 2)=false:=by simp [h2]
   have b4:(m == 4)=false:=by simp;omega
   have b6:(m == 6)=false:=by simp;omega
   have b9:(m == 9)=false:=by simp;omega
   have b11:(m == 11)=false:=by simp;omega
   have HE:Hid ((if m=2 then (if lp=true then (29:Int) else 28) else if m=4∨m=6∨m=9∨m=11 then 30 else 31)=31):=by
    show _=_
    rw [if_neg h2,if_neg h4]
   clear h2 h4
   rw [HE.out]
   clear HE
   go_enter Tryz.func219,Tryz.ntmps219
   go_wp2_with fail
   refine (LP.out _).mono ?_
   rintro e w1 ⟨rfl,rfl⟩
   go_wp2
   go_ret
   exact ⟨rfl,rfl⟩
theorem risDay_any (y m d:Int) (w:World):Calls Tryz.prog 195 #[.int .i64 y,.int .i64 m,.int .i64 d] w fun e w'=>e=.returned (.bool (Hm.risDay y m d))/\w'=w:=by
 have hdef:Hm.risDay y m d=(decide (1<=y) && decide (y<=9999) && decide (1<=m) && decide (m<=12) && decide (1<=d) && decide (d<=Hm.daysOf y m)):=rfl
 rw [hdef]
 clear hdef
 by_cases h1:1<=y
 ·by_cases h2:y<=9999
  ·by_cases h3:1<=m
   ·by_cases h4:m<=12
    ·by_cases h5:1<=d
     ·have LN:Hid (∀ w,Calls Tryz.prog 219 #[.int .i64 y,.int .i64 m] w fun e w'=>e=.returned (.int .i64 (Hm.daysOf y m))/\w'=w):=fun w=>by
       have:=rlength_any y m (by omega) w
       rwa [Hm.rlength_eq h3 h4] at this
      generalize Hm.daysOf y m=D at LN
      rw [decide_eq_true h1,decide_eq_true h2,decide_eq_true h3,decide_eq_true h4,decide_eq_true h5]
      by_cases h6:d<=D
      ·rw [decide_eq_true h6]
       go_enter Tryz.func195,Tryz.ntmps195
       go_wp2_with fail
       refine (LN.out _).mono ?_
       rintro e w1 ⟨rfl,rfl⟩
       go_wp2
       go_ret
       exact ⟨rfl,rfl⟩
      ·rw [decide_eq_false h6]
       go_enter Tryz.func195,Tryz.ntmps195
       go_wp2_with fail
       refine (LN.out _).mono ?_
       rintro e w1 ⟨rfl,rfl⟩
       go_wp2
       go_ret
       exact ⟨by rw [decide_eq_false (by omega)];rfl,rfl⟩
     ·rw [decide_eq_false h5]
      go_enter Tryz.func195,Tryz.ntmps195
      go_wp2
      go_ret
      exact ⟨by simp,rfl⟩
    ·rw [decide_eq_false h4]
     go_enter Tryz.func195,Tryz.ntmps195
     go_wp2
     go_ret
     exact ⟨by simp,rfl⟩
   ·rw [decide_eq_false h3]
    go_enter Tryz.func195,Tryz.ntmps195
    go_wp2
    go_ret
    exact ⟨by simp,rfl⟩
  ·rw [decide_eq_false h2]
   go_enter Tryz.func195,Tryz.ntmps195
   go_wp2
   go_ret
   exact ⟨by simp,rfl⟩
 ·rw [decide_eq_false h1]
  go_enter Tryz.func195,Tryz.ntmps195
  go_wp2
  go_ret
  exact ⟨by simp,rfl⟩
theorem rmost_any (i:Nat) (hi:i < 4) (w:World):Calls Tryz.prog 163 #[.int .i64 i] w fun e w'=>e=.returned (.int .i64 (if i=0 then 32 else if i=3 then 12 else 16))/\w'=w:=by
 rcases (by omega:i=0∨i=1∨i=2∨i=3) with h | h | h | h<;>subst h
 all_goals (
  go_enter Tryz.func163,Tryz.ntmps163
  go_wp2
  go_ret
  exact ⟨rfl,rfl⟩)
theorem rorNone_any (l:List UInt8) (w:World):Calls Tryz.prog 161 #[.string ⟨l.toArray⟩] w fun e w'=>e=.returned (.string ⟨(Hm.told l).toArray⟩)/\w'=w:=by
 by_cases h:l=[]
 ·subst h
  go_enter Tryz.func161,Tryz.ntmps161
  go_wp2
  go_ret
  exact ⟨rfl,rfl⟩
 ·have hb:(l == [])=false:=beq_eq_false_iff_ne.2 h
  go_enter Tryz.func161,Tryz.ntmps161
  go_wp2
  go_ret
  exact ⟨by rw [show Hm.told l=l by unfold Hm.told;rw [if_neg h]];rfl,rfl⟩
theorem tw_step {p:UInt8->Bool} {l:List UInt8} {j:Nat} (hj:j < l.length) (hp:p l[j]=true):(l.drop j).takeWhile p=l[j] :: (l.drop (j+1)).takeWhile p:=by
 rw [List.drop_eq_getElem_cons hj,List.takeWhile_cons,if_pos hp]
theorem tw_stop {p:UInt8->Bool} {l:List UInt8} {j:Nat} (hj:j < l.length) (hp:p l[j]=false):(l.drop j).takeWhile p=[]:=by
 rw [List.drop_eq_getElem_cons hj,List.takeWhile_cons,if_neg (by simp [hp])]
theorem rpart_any (l:List UInt8) (hl:l.length<=1000000000000000) (a:Nat) (ha:a<=l.length) (w:World):Calls Tryz.prog 191 #[.string ⟨l.toArray⟩,.int .i64 a] w fun e w'=>e=.returned (.int .i64 ((a+((l.drop a).takeWhile fun c=>!decide (c.toNat=32)).length:Nat):Int))/\w'=w:=by
 obtain ⟨T,hT⟩:∃ T,((l.drop a).takeWhile fun c=>!decide (c.toNat=32)).length=T:=⟨_,rfl⟩
 rw [hT]
 have HT:=show Hid _ from hT
 clear hT
 go_enter Tryz.func191,Tryz.ntmps191
 go_wp2
 go_loopw [1] (fun ix wr=>∃ j:Nat,a<=j/\j<=l.length/\ix=.int .i64 j/\a+T=j+((l.drop j).takeWhile fun c=>!decide (c.toNat=32)).length/\wr=w) (fun ix _=>l.length - (intOf ix).toNat)
 case atStart=>exact ⟨a,Nat.le_refl _,ha,rfl,by rw [HT.out],rfl⟩
 case round=>
  obtain ⟨j,h1,h2,rfl,h3,rfl⟩:=hrel
  have H3:=show Hid _ from h3
  clear h3
  by_cases hlt:j < l.length
  ·have hji:(j:Int) < (l.length:Int):=by omega
   by_cases hc:l[j].toNat=32
   ·have H4:=show Hid _ from tw_stop (p:=fun c=>!decide (c.toNat=32)) hlt (by simp [hc])
    have hcb:((l[j].toNat:Int) == 32)=true:=by simp;omega
    clear hc
    go_wp2
    go_ret
    have h:=H3.out
    rw [H4.out,List.length_nil,Nat.add_zero] at h
    exact ⟨by show Ending.returned (.int .i64 (j:Int))=_;rw [<-h];try simp,rfl⟩
   ·have H4:=show Hid _ from tw_step (p:=fun c=>!decide (c.toNat=32)) hlt (by simp [hc])
    have hcb:((l[j].toNat:Int) == 32)=false:=by simp;omega
    clear hc
    go_wp2
    go_roundw
    case rel=>
     refine ⟨j+1,by omega,by omega,int_eq (by simp),?_,trivial⟩
     have h:=H3.out
     rw [H4.out,List.length_cons] at h
     omega
    case measure=>simp [intOf];omega
  ·have hji:¬ (j:Int) < (l.length:Int):=by omega
   go_wp2
   go_ret
   have h:=H3.out
   rw [List.drop_of_length_le (by omega),List.takeWhile_nil,List.length_nil,Nat.add_zero] at h
   exact ⟨by show Ending.returned (.int .i64 (j:Int))=_;rw [<-h];try simp,rfl⟩
theorem rIsPlain_any (l:List UInt8) (hl:l.length<=1000000000000000) (m:Nat) (hm:m<=100) (w:World):Calls Tryz.prog 162 #[.string ⟨l.toArray⟩,.int .i64 m] w fun e w'=>e=.returned (.bool (Hm.word l m))/\w'=w:=by
 by_cases h0:l=[]
 ·subst h0
  go_enter Tryz.func162,Tryz.ntmps162
  go_wp2
  go_ret
  exact ⟨rfl,rfl⟩
 have h0i:¬ (l.length:Int) < 1:=by have:=List.length_pos_iff.2 h0;omega
 by_cases h1:m < l.length
 ·have h1i:(m:Int) < (l.length:Int):=by omega
  have HE:Hid (Hm.word l m=false):=by show _=_;simp [Hm.word];intro _ _ h;omega
  rw [HE.out]
  clear h0
  go_enter Tryz.func162,Tryz.ntmps162
  go_wp2
  go_ret
  exact ⟨rfl,rfl⟩
 have h1i:¬ (m:Int) < (l.length:Int):=by omega
 by_cases h2:l=[45]
 ·subst h2
  have HE:Hid (Hm.word [45] m=false):=by show _=_;simp [Hm.word]
  rw [HE.out]
  go_enter Tryz.func162,Tryz.ntmps162
  go_wp2
  go_ret
  exact ⟨rfl,rfl⟩
 have h2b:(l == [45])=false:=beq_eq_false_iff_ne.2 h2
 have HE:Hid (Hm.word l m=l.all Hm.vis):=by
  show _=_
  unfold Hm.word
  rw [show l.isEmpty=false by cases l<;>simp_all,h2b,decide_eq_true (by omega:l.length<=m)]
  rfl
 rw [HE.out]
 clear HE h0 h2
 obtain ⟨A,hA⟩:∃ A,l.all Hm.vis=A:=⟨_,rfl⟩
 rw [hA]
 have HA:=show Hid _ from hA
 clear hA
 go_enter Tryz.func162,Tryz.ntmps162
 go_wp2
 go_loopw [5] (fun ix wr=>∃ j:Nat,j<=l.length/\ix=.int .i64 j/\A=(l.drop j).all Hm.vis/\wr=w) (fun ix _=>l.length - (intOf ix).toNat)
 case atStart=>exact ⟨0,Nat.zero_le _,rfl,by rw [<-HA.out,List.drop_zero],rfl⟩
 case round=>
  obtain ⟨j,h1,rfl,h3,rfl⟩:=hrel
  have H3:=show Hid _ from h3
  clear h3
  by_cases hlt:j < l.length
  ·have hji:(j:Int) < (l.length:Int):=by omega
   have H4:Hid ((l.drop j).all Hm.vis=(Hm.vis l[j] && (l.drop (j+1)).all Hm.vis)):=by
    show _=_
    rw [List.drop_eq_getElem_cons hlt,List.all_cons]
   by_cases hv:Hm.vis l[j]=true
   ·have hv2:33<=l[j].toNat/\l[j].toNat<=126:=by simpa [Hm.vis] using hv
    have c1:¬ (l[j].toNat:Int) < 33:=by omega
    have c2:¬ (126:Int) < (l[j].toNat:Int):=by omega
    clear hv2
    have HV:=show Hid _ from hv
    clear hv
    go_wp2
    go_roundw
    case rel=>exact ⟨j+1,by omega,int_eq (by simp),by rw [H3.out,H4.out,HV.out];rfl,trivial⟩
    case measure=>simp [intOf];omega
   ·have hv2:l[j].toNat < 33∨126 < l[j].toNat:=by
     have:¬ (33<=l[j].toNat/\l[j].toNat<=126):=by simpa [Hm.vis] using hv
     omega
    have HV:Hid (Hm.vis l[j]=false):=by show _=_;simpa using hv
    clear hv
    rcases hv2 with c1 | c1
    ·have c1i:(l[j].toNat:Int) < 33:=by omega
     go_wp2
     go_ret
     exact ⟨by rw [H3.out,H4.out,HV.out];rfl,rfl⟩
    ·have c1i:(126:Int) < (l[j].toNat:Int):=by omega
     have c2i:¬ (l[j].toNat:Int) < 33:=by omega
     go_wp2
     go_ret
     exact ⟨by rw [H3.out,H4.out,HV.out];rfl,rfl⟩
  ·have hji:¬ (j:Int) < (l.length:Int):=by omega
   go_wp2
   go_ret
   exact ⟨by rw [H3.out,List.drop_of_length_le (by omega)];rfl,rfl⟩
theorem rdigits_any (l:List UInt8) (hl:l.length<=1000000000000000) (a n:Nat) (ha:a<=1000000000000000) (hn:n<=4) (w:World):Calls Tryz.prog 190 #[.string ⟨l.toArray⟩,.int .i64 a,.int .i64 n] w fun e w'=>e=.returned (.tuple #[.int .i64 (Hm.rdigits l a n).1,.bool (Hm.rdigits l a n).2])/\w'=w:=by
 by_cases h1:l.length < a+n
 ·have h1i:(l.length:Int) < (a:Int)+(n:Int):=by omega
  have HE:Hid (Hm.rdigits l a n=(0,false)):=by show _=_;unfold Hm.rdigits;rw [if_neg (by omega)]
  rw [HE.out]
  go_enter Tryz.func190,Tryz.ntmps190
  go_wp2
  go_ret2
  exact ⟨rfl,rfl⟩
 have h1i:¬ (l.length:Int) < (a:Int)+(n:Int):=by omega
 by_cases h2:n < 1
 ·have h2i:(n:Int) < 1:=by omega
  have HE:Hid (Hm.rdigits l a n=(0,false)):=by show _=_;unfold Hm.rdigits;rw [if_neg (by omega)]
  rw [HE.out]
  go_enter Tryz.func190,Tryz.ntmps190
  go_wp2
  go_ret2
  exact ⟨rfl,rfl⟩
 have h2i:¬ (n:Int) < 1:=by omega
 have DG:Hid (∀ c:UInt8,∀ w,Calls Tryz.prog 217 #[.int .u8 c.toNat] w fun e w'=>e=.returned (.bool (Hm.dig c))/\w'=w):=fun c w=>rdigit_any c w
 obtain ⟨R,hR⟩:∃ R,Hm.rdigits l a n=R:=⟨_,rfl⟩
 rw [hR]
 have HR:=show Hid _ from hR
 clear hR
 go_enter Tryz.func190,Tryz.ntmps190
 go_wp2
 go_loopw [8,9] (fun xv ix wr=>∃ j:Nat,j<=n/\xv=.int .i64 (Hm.dec ((l.drop a).take j))/\ix=.int .i64 ((a:Int)+(j:Int))/\(∀ c ∈ (l.drop a).take j,Hm.dig c=true)/\wr=w) (fun _ ix _=>a+n - (intOf ix).toNat)
 case atStart=>exact ⟨0,Nat.zero_le _,by simp [Hm.dec],int_eq (by simp),by simp,rfl⟩
 case round=>
  obtain ⟨j,hj,rfl,rfl,hd,rfl⟩:=hrel
  have hdl:=Hm.dec_lt _ hd
  have hjl:((l.drop a).take j).length=j:=by rw [List.length_take,List.length_drop];omega
  rw [hjl] at hdl
  have hdl2:Hm.dec ((l.drop a).take j) < 10000:=Nat.lt_of_lt_of_le hdl (Nat.pow_le_pow_right (by decide) (by omega:j<=4))
  have HD:=show Hid _ from hd
  clear hd hdl hjl
  by_cases hlt:j < n
  ·have hji:(a:Int)+(j:Int) < (a:Int)+(n:Int):=by omega
   have hal:a+j < l.length:=by omega
   have hali:(a:Int)+(j:Int) < (l.length:Int):=by omega
   have htk:(l.drop a).take (j+1)=(l.drop a).take j ++ [l[a+j]]:=by
    rw [List.take_add_one,List.getElem?_drop,List.getElem?_eq_getElem hal];rfl
   have HTK:=show Hid _ from htk
   have htn:((a:Int)+(j:Int)).toNat=a+j:=by omega
   clear htk
   have DGc:=DG.out l[a+j]
   have HDG:Hid (∀ w,Calls Tryz.prog 217 #[.int .u8 l[a+j].toNat] w fun e w'=>e=.returned (.bool (Hm.dig l[a+j]))/\w'=w):=DGc
   clear DGc
   by_cases hv:Hm.dig l[a+j]=true
   ·have hv2:48<=l[a+j].toNat/\l[a+j].toNat<=57:=by simpa [Hm.dig] using hv
    rw [hv] at HDG
    have HV:=show Hid _ from hv
    clear hv
    have c1:(48:Int)<=(l[a+j].toNat:Int):=by omega
    have c2:(l[a+j].toNat:Int)<=57:=by omega
    go_wp2_with fail
    refine (HDG.out _).mono ?_
    rintro e w1 ⟨rfl,rfl⟩
    go_wp2
    go_roundw
    case rel=>
     refine ⟨j+1,by omega,?_,int_eq (by simp;omega),?_,trivial⟩
     ·rw [HTK.out,Hm.dec_snoc]
      refine int_eq ?_
      omega
     ·intro c hc
      rw [HTK.out] at hc
      rcases List.mem_append.1 hc with hc | hc
      ·exact HD.out c hc
      ·rw [List.mem_singleton.1 hc];exact HV.out
    case measure=>simp [intOf];omega
   ·have hv':Hm.dig l[a+j]=false:=by simpa using hv
    rw [hv'] at HDG
    have HE:Hid (R=(0,false)):=by
     show _=_
     rw [<-HR.out]
     unfold Hm.rdigits
     rw [if_neg (fun h=>hv (List.all_eq_true.1 h.2.2 l[a+j] (by
      have h2:l[a+j] ∈ (l.drop a).take (j+1):=by rw [HTK.out];simp
      have h3:(l.drop a).take (j+1)=((l.drop a).take n).take (j+1):=by rw [List.take_take,Nat.min_eq_left (by omega)]
      rw [h3] at h2
      exact List.mem_of_mem_take h2)))]
    clear hv hv'
    go_wp2_with fail
    refine (HDG.out _).mono ?_
    rintro e w1 ⟨rfl,rfl⟩
    go_wp2
    go_ret2
    exact ⟨by rw [HE.out];rfl,rfl⟩
  ·have hji:¬ (a:Int)+(j:Int) < (a:Int)+(n:Int):=by omega
   have hjn:j=n:=by omega
   subst hjn
   have HE:Hid (R=(Hm.dec ((l.drop a).take j),true)):=by
    show _=_
    rw [<-HR.out]
    exact Hm.rdigits_of (by omega) (by omega) HD.out
   go_wp2
   go_ret2
   exact ⟨by rw [HE.out];rfl,rfl⟩
end Go.Proofs.YtdlhbmncbmconaaGreatDoor

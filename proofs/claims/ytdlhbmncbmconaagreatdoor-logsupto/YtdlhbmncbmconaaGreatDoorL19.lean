/- Pressed by program out of Cc. -/
import Derived.Test.YtdlhbmncbmconaaGreatDoorL18
import Derived.Deep.CutBlock
namespace Go.Hm
theorem rclock_lt {l:List UInt8} {a n:Nat} (h:rclock l a=some n):n<=86399:=by
 rw [rclock_def] at h
 split at h
 ·cases h
 ·next hc=>
  injection h with h
  omega
theorem rdiff_bd {z:List UInt8} {k:Int} (h:rdiff z=some k):-1439<=k/\k<=1439:=by
 unfold rdiff at h
 split at h
 ·injection h with h;omega
 ·split at h
  ·cases h
  ·split at h
   ·cases h
   ·next hc=>
    split at h
    ·injection h with h;omega
    ·injection h with h;omega
theorem rshifted_len {y m d s:Int} {t:List UInt8} (h:rshifted y m d s=some t):t.length=19:=by
 unfold rshifted at h
 split at h
 ·cases h
 ·injection h with h
  rw [<-h]
  rfl
theorem trimR_drop (l:List UInt8) (c:UInt8):Lib.trimRightB (l ++ [c]) c=Lib.trimRightB l c:=by
 unfold Lib.trimRightB
 rw [List.reverse_append,List.reverse_singleton,List.singleton_append,List.dropWhile_cons,if_pos (by simp)]
theorem tw_all (p:UInt8->Bool):∀ (l:List UInt8),∀ c ∈ l.takeWhile p,p c=true
 | [],c,h=>by simp at h
 | a :: t,c,h=>by
  rw [List.takeWhile_cons] at h
  split at h
  ·next hp=>
   rcases List.mem_cons.1 h with h | h
   ·rw [h];exact hp
   ·exact tw_all p t c h
  ·simp at h
theorem tw_end (p:UInt8->Bool):∀ (l:List UInt8) (n:Nat),(l.takeWhile p).length=n->∀ h:n < l.length,p l[n]=false
 | [],n,_,h=>by simp at h
 | a :: t,n,hn,h=>by
  by_cases hp:p a=true
  ·rw [List.takeWhile_cons,if_pos hp,List.length_cons] at hn
   subst hn
   exact tw_end p t _ rfl (by simpa using h)
  ·rw [List.takeWhile_cons,if_neg hp,List.length_nil] at hn
   subst hn
   simpa using hp
theorem tw_len (p:UInt8->Bool) (l:List UInt8):(l.takeWhile p).length<=l.length:=by
 induction l with
 | nil=>simp
 | cons a t ih=>
  rw [List.takeWhile_cons]
  split
  ·simpa using ih
  ·simp
end Go.Hm
namespace Go.Proofs.YtdlhbmncbmconaaGreatDoor
open Go.RowKit Go.Sort
attribute [local go_sem] app_mk rcut rbyte
theorem rgetD_at (l:List UInt8) (j:Nat) (h:j < l.length):l.getD j 0=l[j]:=by rw [List.getD_eq_getElem?_getD,List.getElem?_eq_getElem h];rfl
set_option maxRecDepth 50000 in
set_option maxHeartbeats 8000000 in
theorem rTime_a (l:List UInt8) (h:l.length < 20∨¬ (l.getD 4 0).toNat=45∨¬ (l.getD 7 0).toNat=45∨¬ (l.getD 10 0).toNat=84) (w:World):Calls Tryz.prog 159 #[.string ⟨l.toArray⟩] w fun e w'=>e=.returned (.tuple #[.string ⟨#[]⟩,.bool false])/\w'=w:=by
 by_cases a0:l.length < 20
 ·have a0i:(l.length:Int) < 20:=by omega
  clear h
  go_enter Tryz.func159,Tryz.ntmps159
  go_wp2
  go_ret2
  exact ⟨rfl,rfl⟩
 have a0i:¬ (l.length:Int) < 20:=by omega
 have j4:(4:Int) < (l.length:Int):=by omega
 have j7:(7:Int) < (l.length:Int):=by omega
 have j10:(10:Int) < (l.length:Int):=by omega
 rw [rgetD_at l 4 (by omega),rgetD_at l 7 (by omega),rgetD_at l 10 (by omega)] at h
 have hh:¬ ((l[4]'(by omega)).toNat:Int)=45∨(((l[4]'(by omega)).toNat:Int)=45/\¬ ((l[7]'(by omega)).toNat:Int)=45)∨(((l[4]'(by omega)).toNat:Int)=45/\((l[7]'(by omega)).toNat:Int)=45/\¬ ((l[10]'(by omega)).toNat:Int)=84):=by omega
 clear h
 rcases hh with q4 | ⟨q4,q7⟩ | ⟨q4,q7,q10⟩
 all_goals (
  go_enter Tryz.func159,Tryz.ntmps159
  go_wp2
  go_ret2
  exact ⟨rfl,rfl⟩)
set_option maxRecDepth 50000 in
set_option maxHeartbeats 8000000 in
theorem rTime_b (l:List UInt8) (hl:l.length<=1000000000000000) (l20:20<=l.length) (a4:(l[4]'(by omega)).toNat=45) (a7:(l[7]'(by omega)).toNat=45) (a10:(l[10]'(by omega)).toNat=84) (y mo d:Nat) (b1 b2 b3 IS:Bool) (ck:Option Nat)
  (D1:Hid (∀ w,Calls Tryz.prog 190 #[.string ⟨l.toArray⟩,.int .i64 0,.int .i64 4] w fun e w'=>e=.returned (.tuple #[.int .i64 y,.bool b1])/\w'=w))
  (D2:Hid (∀ w,Calls Tryz.prog 190 #[.string ⟨l.toArray⟩,.int .i64 5,.int .i64 2] w fun e w'=>e=.returned (.tuple #[.int .i64 mo,.bool b2])/\w'=w))
  (D3:Hid (∀ w,Calls Tryz.prog 190 #[.string ⟨l.toArray⟩,.int .i64 8,.int .i64 2] w fun e w'=>e=.returned (.tuple #[.int .i64 d,.bool b3])/\w'=w))
  (CK:Hid (∀ w,Calls Tryz.prog 194 #[.string ⟨l.toArray⟩,.int .i64 11] w fun e w'=>e=.returned (optV ck)/\w'=w))
  (IY:Hid (∀ w,Calls Tryz.prog 195 #[.int .i64 y,.int .i64 mo,.int .i64 d] w fun e w'=>e=.returned (.bool IS)/\w'=w))
  (hbad:b1=false∨b2=false∨b3=false∨ck=none∨IS=false) (w:World):Calls Tryz.prog 159 #[.string ⟨l.toArray⟩] w fun e w'=>e=.returned (.tuple #[.string ⟨#[]⟩,.bool false])/\w'=w:=by
 have a0i:¬ (l.length:Int) < 20:=by omega
 have j4:(4:Int) < (l.length:Int):=by omega
 have j7:(7:Int) < (l.length:Int):=by omega
 have j10:(10:Int) < (l.length:Int):=by omega
 have a4i:((l[4]'(by omega)).toNat:Int)=45:=by omega
 have a7i:((l[7]'(by omega)).toNat:Int)=45:=by omega
 have a10i:((l[10]'(by omega)).toNat:Int)=84:=by omega
 clear a4 a7 a10
 cases b1
 ·clear hbad
  cases ck
  all_goals (
   unfold optV at CK
   go_enter Tryz.func159,Tryz.ntmps159
   go_wp2_with fail
   refine (D1.out _).mono ?_
   rintro e w1 ⟨rfl,rfl⟩
   go_wp2_with fail
   refine (D2.out _).mono ?_
   rintro e w1 ⟨rfl,rfl⟩
   go_wp2_with fail
   refine (D3.out _).mono ?_
   rintro e w1 ⟨rfl,rfl⟩
   go_wp2_with fail
   refine (CK.out _).mono ?_
   rintro e w1 ⟨rfl,rfl⟩
   go_wp2_with fail
   refine (IY.out _).mono ?_
   rintro e w1 ⟨rfl,rfl⟩
   go_wp2
   go_ret2
   exact ⟨rfl,rfl⟩)
 cases b2
 ·clear hbad
  cases ck
  all_goals (
   unfold optV at CK
   go_enter Tryz.func159,Tryz.ntmps159
   go_wp2_with fail
   refine (D1.out _).mono ?_
   rintro e w1 ⟨rfl,rfl⟩
   go_wp2_with fail
   refine (D2.out _).mono ?_
   rintro e w1 ⟨rfl,rfl⟩
   go_wp2_with fail
   refine (D3.out _).mono ?_
   rintro e w1 ⟨rfl,rfl⟩
   go_wp2_with fail
   refine (CK.out _).mono ?_
   rintro e w1 ⟨rfl,rfl⟩
   go_wp2_with fail
   refine (IY.out _).mono ?_
   rintro e w1 ⟨rfl,rfl⟩
   go_wp2
   go_ret2
   exact ⟨rfl,rfl⟩)
 cases b3
 ·clear hbad
  cases ck
  all_goals (
   unfold optV at CK
   go_enter Tryz.func159,Tryz.ntmps159
   go_wp2_with fail
   refine (D1.out _).mono ?_
   rintro e w1 ⟨rfl,rfl⟩
   go_wp2_with fail
   refine (D2.out _).mono ?_
   rintro e w1 ⟨rfl,rfl⟩
   go_wp2_with fail
   refine (D3.out _).mono ?_
   rintro e w1 ⟨rfl,rfl⟩
   go_wp2_with fail
   refine (CK.out _).mono ?_
   rintro e w1 ⟨rfl,rfl⟩
   go_wp2_with fail
   refine (IY.out _).mono ?_
   rintro e w1 ⟨rfl,rfl⟩
   go_wp2
   go_ret2
   exact ⟨rfl,rfl⟩)
 cases ck with
 | none=>
  clear hbad
  unfold optV at CK
  go_enter Tryz.func159,Tryz.ntmps159
  go_wp2_with fail
  refine (D1.out _).mono ?_
  rintro e w1 ⟨rfl,rfl⟩
  go_wp2_with fail
  refine (D2.out _).mono ?_
  rintro e w1 ⟨rfl,rfl⟩
  go_wp2_with fail
  refine (D3.out _).mono ?_
  rintro e w1 ⟨rfl,rfl⟩
  go_wp2_with fail
  refine (CK.out _).mono ?_
  rintro e w1 ⟨rfl,rfl⟩
  go_wp2_with fail
  refine (IY.out _).mono ?_
  rintro e w1 ⟨rfl,rfl⟩
  go_wp2
  go_ret2
  exact ⟨rfl,rfl⟩
 | some sec=>
  have hIS:IS=false:=by simpa using hbad
  subst hIS
  clear hbad
  unfold optV at CK
  go_enter Tryz.func159,Tryz.ntmps159
  go_wp2_with fail
  refine (D1.out _).mono ?_
  rintro e w1 ⟨rfl,rfl⟩
  go_wp2_with fail
  refine (D2.out _).mono ?_
  rintro e w1 ⟨rfl,rfl⟩
  go_wp2_with fail
  refine (D3.out _).mono ?_
  rintro e w1 ⟨rfl,rfl⟩
  go_wp2_with fail
  refine (CK.out _).mono ?_
  rintro e w1 ⟨rfl,rfl⟩
  go_wp2_with fail
  refine (IY.out _).mono ?_
  rintro e w1 ⟨rfl,rfl⟩
  go_wp2
  go_ret2
  exact ⟨rfl,rfl⟩
set_option maxRecDepth 50000 in
set_option maxHeartbeats 8000000 in
theorem rTime_c (l:List UInt8) (hl:l.length<=1000000000000000) (l20:20<=l.length) (a4:(l[4]'(by omega)).toNat=45) (a7:(l[7]'(by omega)).toNat=45) (a10:(l[10]'(by omega)).toNat=84) (y mo d:Nat) (sec:Nat)
  (D1:Hid (∀ w,Calls Tryz.prog 190 #[.string ⟨l.toArray⟩,.int .i64 0,.int .i64 4] w fun e w'=>e=.returned (.tuple #[.int .i64 y,.bool true])/\w'=w))
  (D2:Hid (∀ w,Calls Tryz.prog 190 #[.string ⟨l.toArray⟩,.int .i64 5,.int .i64 2] w fun e w'=>e=.returned (.tuple #[.int .i64 mo,.bool true])/\w'=w))
  (D3:Hid (∀ w,Calls Tryz.prog 190 #[.string ⟨l.toArray⟩,.int .i64 8,.int .i64 2] w fun e w'=>e=.returned (.tuple #[.int .i64 d,.bool true])/\w'=w))
  (CK:Hid (∀ w,Calls Tryz.prog 194 #[.string ⟨l.toArray⟩,.int .i64 11] w fun e w'=>e=.returned (optV (some sec))/\w'=w))
  (IY:Hid (∀ w,Calls Tryz.prog 195 #[.int .i64 y,.int .i64 mo,.int .i64 d] w fun e w'=>e=.returned (.bool true)/\w'=w))
  (hse:sec<=86399) (HDY:Hid (Hm.IsDay ((y:Int),(mo:Int),(d:Int)))) (V:Value) (HV:Hid (strOpt (Hm.rtime l)=V)) (HR:Hid (Hm.rtime l=match Hm.rpart l with
   | none=>none
   | some pt=>
    match Hm.rdiff (l.drop pt.2) with
    | none=>none
    | some k=>
     match Hm.rshifted y mo d (sec - 60 * k) with
     | none=>none
     | some t=>some (t ++ (if pt.1=[] then [] else 46 :: pt.1) ++ [90]))) (w:World):Calls Tryz.prog 159 #[.string ⟨l.toArray⟩] w fun e w'=>e=.returned V/\w'=w:=by
 have NO:Hid (Hm.rtime l=none->V=.tuple #[.string ⟨#[]⟩,.bool false]):=fun h=>by rw [<-HV.out,h];rfl
 have a0i:¬ (l.length:Int) < 20:=by omega
 have j4:(4:Int) < (l.length:Int):=by omega
 have j7:(7:Int) < (l.length:Int):=by omega
 have j10:(10:Int) < (l.length:Int):=by omega
 have a4i:((l[4]'(by omega)).toNat:Int)=45:=by omega
 have a7i:((l[7]'(by omega)).toNat:Int)=45:=by omega
 have a10i:((l[10]'(by omega)).toNat:Int)=84:=by omega
 unfold optV at CK
 have j19:(19:Int) < (l.length:Int):=by omega
 go_enter Tryz.func159,Tryz.ntmps159
 go_wp2_with fail
 refine (D1.out _).mono ?_
 rintro e w1 ⟨rfl,rfl⟩
 go_wp2_with fail
 refine (D2.out _).mono ?_
 rintro e w1 ⟨rfl,rfl⟩
 go_wp2_with fail
 refine (D3.out _).mono ?_
 rintro e w1 ⟨rfl,rfl⟩
 go_wp2_with fail
 refine (CK.out _).mono ?_
 rintro e w1 ⟨rfl,rfl⟩
 go_wp2_with fail
 refine (IY.out _).mono ?_
 rintro e w1 ⟨rfl,rfl⟩
 clear D1 D2 D3 CK IY a4i a7i a10i a4 a7 a10 a0i j4 j7 j10
 go_upto_if 85 with fail
 go_cut [13,14] (fun s13 s14 wc=>∃ (pt:List UInt8) (at_:Nat),Hm.rpart l=some (pt,at_)/\19<=at_/\at_<=l.length/\pt.length<=6/\s13=.int .i64 at_/\s14=.string ⟨pt.toArray⟩/\wc=w1)
 case first=>
  by_cases hdot:(l[19]'(by omega)).toNat=46
  ·have hdi:((l[19]'(by omega)).toNat:Int)=46:=by omega
   obtain ⟨T,hT⟩:∃ T,(l.drop 20).takeWhile Hm.dig=T:=⟨_,rfl⟩
   have hTl:T.length<=l.length - 20:=by
    have:=Hm.tw_len Hm.dig (l.drop 20)
    rw [hT,List.length_drop] at this
    exact this
   have hrp:Hm.rpart l=if T=[]∨6 < T.length then none else some (Lib.trimRightB T 48,20+T.length):=by
    unfold Hm.rpart
    rw [rgetD_at l 19 (by omega),if_pos hdot,hT]
   have HRP:=show Hid _ from hrp
   have HTA:Hid (∀ j,(hj:j < T.length)->∃ h:20+j < l.length,T[j]=l[20+j]/\Hm.dig l[20+j]=true):=fun j hj=>by
    have h20:20+j < l.length:=by omega
    have hp:T <+: l.drop 20:=by rw [<-hT];exact List.takeWhile_prefix _
    have hg:T[j]=l[20+j]:=by
     have:=List.IsPrefix.getElem hp hj
     rw [this,List.getElem_drop]
    exact ⟨h20,hg,by rw [<-hg];exact Hm.tw_all Hm.dig (l.drop 20) _ (by rw [hT];exact List.getElem_mem hj)⟩
   have HTE:Hid (∀ h:20+T.length < l.length,Hm.dig l[20+T.length]=false):=fun h=>by
    have h1:=Hm.tw_end Hm.dig (l.drop 20) T.length (by rw [hT]) (by rw [List.length_drop];omega)
    rwa [List.getElem_drop] at h1
   clear hT hrp hdot
   simp only [hdi,beq_self_eq_true]
   clear hdi
   go_upto_block 0 with fail
   go_cut [13,14] (fun s13 s14 wd=>s13=.int .i64 ((20:Int)+(T.length:Int))/\s14=.string ⟨T.toArray⟩/\wd=w1)
   case first=>
    go_wp2
    go_loopw [13,14] (fun s13 s14 wr=>∃ j:Nat,j<=T.length/\s13=.int .i64 ((20:Int)+(j:Int))/\s14=.string ⟨(T.take j).toArray⟩/\wr=w1) (fun s13 _ _=>20+T.length - (intOf s13).toNat)
    case atStart=>exact ⟨0,Nat.zero_le _,int_eq (by simp),by simp,rfl⟩
    case round=>
     obtain ⟨j,hj,rfl,rfl,hwr⟩:=hrel
     have hwr:=hwr.symm
     subst hwr
     have htn:((20:Int)+(j:Int)).toNat=20+j:=by omega
     have htn1:((20:Int)+(j:Int)+1).toNat=20+j+1:=by omega
     by_cases hlt:j < T.length
     ·obtain ⟨h20,hg,hdg⟩:=HTA.out j hlt
      have hdg2:48<=l[20+j].toNat/\l[20+j].toNat<=57:=by simpa [Hm.dig] using hdg
      have c1:(48:Int)<=(l[20+j].toNat:Int):=by omega
      have c2:(l[20+j].toNat:Int)<=57:=by omega
      have c0:(20:Int)+(j:Int) < (l.length:Int):=by omega
      have HTK:Hid (T.take (j+1)=T.take j ++ [l[20+j]]):=by
       show _=_
       rw [<-hg];exact (List.take_append_getElem hlt).symm
      have HSL:Hid ((l.drop (20+j)).take 1=[l[20+j]]):=by show _=_;rw [List.drop_eq_getElem_cons h20];rfl
      have htl2:(T.take j).length<=1000000000000000:=by rw [List.length_take];omega
      clear hdg hdg2 hg
      go_wp2
      go_roundw
      case rel=>exact ⟨j+1,by omega,int_eq (by simp;omega),by rw [HTK.out];simp only [HSL.out],by first | rfl | trivial⟩
      case measure=>simp [intOf];omega
     ·have hjT:j=T.length:=by omega
      subst hjT
      rw [List.take_length]
      have hcc:(¬ (20:Int)+(T.length:Int) < (l.length:Int))∨∃ h:20+T.length < l.length,(¬ (48:Int)<=(l[20+T.length].toNat:Int))∨((48:Int)<=(l[20+T.length].toNat:Int)/\¬ (l[20+T.length].toNat:Int)<=57):=by
       by_cases hend:20+T.length < l.length
       ·refine .inr ⟨hend,?_⟩
        have hdf:=HTE.out hend
        have hdg2:¬ (48<=l[20+T.length].toNat/\l[20+T.length].toNat<=57):=by
         intro h
         have:Hm.dig l[20+T.length]=true:=by simp [Hm.dig];omega
         rw [this] at hdf
         cases hdf
        omega
       ·exact .inl (by omega)
      clear htn1 hlt hj HTA HTE
      rcases hcc with c0 | ⟨hend,c1 | ⟨c1,c2⟩⟩
      ·go_wp2
       go_meet
       case rel=>exact ⟨rfl,rfl,rfl⟩
      ·have c0:(20:Int)+(T.length:Int) < (l.length:Int):=by omega
       go_wp2
       go_meet
       case rel=>exact ⟨rfl,rfl,rfl⟩
      ·have c0:(20:Int)+(T.length:Int) < (l.length:Int):=by omega
       go_wp2
       go_meet
       case rel=>exact ⟨rfl,rfl,rfl⟩
   case rest=>
    obtain ⟨rfl,rfl,hwd⟩:=hcut
    have hwd:=hwd.symm
    subst hwd
    clear HTA HTE
    by_cases hT0:T=[]
    ·have HN:Hid (Hm.rtime l=none):=by show _=_;rw [HR.out,HRP.out,if_pos (.inl hT0)]
     subst hT0
     go_wp2
     go_ret2
     exact ⟨by rw [NO.out HN.out];rfl,rfl⟩
    have hTb:(T == [])=false:=beq_eq_false_iff_ne.2 hT0
    by_cases hT6:6 < T.length
    ·have HN:Hid (Hm.rtime l=none):=by show _=_;rw [HR.out,HRP.out,if_pos (.inr hT6)]
     have hT6i:(6:Int) < (T.length:Int):=by omega
     go_wp2
     go_ret2
     exact ⟨by rw [NO.out HN.out];rfl,rfl⟩
    have hT6i:¬ (6:Int) < (T.length:Int):=by omega
    have HRQ:Hid (Hm.rpart l=some (Lib.trimRightB T 48,20+T.length)):=by show _=_;rw [HRP.out,if_neg (by intro h;rcases h with h | h;exact hT0 h;exact hT6 h)]
    go_wp2
    go_loopw [14] (fun s14 wq=>∃ t:List UInt8,t.length<=6/\s14=.string ⟨t.toArray⟩/\Lib.trimRightB T 48=Lib.trimRightB t 48/\wq=w1) (fun s14 _=>match s14 with | .string b=>b.size | _=>0)
    case atStart=>exact ⟨T,by omega,rfl,rfl,rfl⟩
    case round=>
     obtain ⟨t,ht6,rfl,htr,hwr⟩:=hrel
     have hwr:=hwr.symm
     subst hwr
     have HTR:=show Hid _ from htr
     clear htr
     rcases List.eq_nil_or_concat t with rfl | ⟨t',c,htc⟩
     ·have HRX:Hid (Hm.rpart l=some ([],20+T.length)):=by show _=_;rw [HRQ.out,HTR.out];rfl
      go_wp2
      go_meet
      case rel=>exact ⟨[],20+T.length,HRX.out,by omega,by omega,by simp,rfl,rfl,rfl⟩
     ·rw [List.concat_eq_append] at htc
      subst htc
      have hcl:(t' ++ [c]).length=t'.length+1:=by simp
      have hix:(t' ++ [c])[t'.length]'(by simp)=c:=by simp
      have htk:(t' ++ [c]).take t'.length=t':=by simp
      have ht7:t'.length<=5:=by rw [hcl] at ht6;omega
      by_cases hc:c.toNat=48
      ·have hce:c=48:=UInt8.toNat_inj.1 (by simpa using hc)
       have HTS:Hid (Lib.trimRightB T 48=Lib.trimRightB t' 48):=by show _=_;rw [HTR.out,hce,Hm.trimR_drop]
       have hci:(c.toNat:Int)=48:=by omega
       clear hce
       go_wp2
       go_roundw
       case rel=>exact ⟨t',by omega,rfl,HTS.out,by first | rfl | trivial⟩
       case measure=>
        show t'.toArray.size < (t' ++ [c]).toArray.size
        simp
      ·have HRX:Hid (Hm.rpart l=some (t' ++ [c],20+T.length)):=by
        show _=_
        rw [HRQ.out,HTR.out,Hm.trimR_snoc t' (fun e=>hc (by rw [e];rfl))]
       have hci:¬ (c.toNat:Int)=48:=by omega
       have hcb:((c.toNat:Int) == 48)=false:=by simp;omega
       go_wp2
       go_meet
       case rel=>exact ⟨t' ++ [c],20+T.length,HRX.out,by omega,by omega,by rw [hcl];omega,rfl,rfl,rfl⟩
  ·have HRP:Hid (Hm.rpart l=some ([],19)):=by
    show _=_
    unfold Hm.rpart
    rw [rgetD_at l 19 (by omega),if_neg hdot]
   have hdi:¬ ((l[19]'(by omega)).toNat:Int)=46:=by omega
   have hdb:(((l[19]'(by omega)).toNat:Int) == 46)=false:=by simp;omega
   go_wp2
   go_meet
   case rel=>exact ⟨[],19,HRP.out,by omega,by omega,by simp,rfl,rfl,rfl⟩
 case rest=>
  obtain ⟨pt,at_,hrp,hat1,hat2,hpl,rfl,rfl,rfl⟩:=hcut
  have HR2:Hid (Hm.rtime l=match Hm.rdiff (l.drop at_) with
   | none=>none
   | some k=>
    match Hm.rshifted y mo d (sec - 60 * k) with
    | none=>none
    | some t=>some (t ++ (if pt=[] then [] else 46 :: pt) ++ [90])):=by
   show _=_
   rw [HR.out,hrp]
  have hat2i:(at_:Int)<=(l.length:Int):=by omega
  have hzl:(l.drop at_).length<=1000000000000000:=by rw [List.length_drop];omega
  have hrest:(l.drop at_).take (l.length - at_)=l.drop at_:=List.take_of_length_le (by rw [List.length_drop];omega)
  obtain ⟨z,hz⟩:∃ z,l.drop at_=z:=⟨_,rfl⟩
  rw [hz] at hrest hzl HR2
  clear hrp HR
  go_upto_if 140 with fail
  clear hz hrest
  go_cut [10] (fun s10 wd=>∃ k:Int,Hm.rdiff z=some k/\s10=.int .i64 ((sec:Int) - 60 * k)/\wd=wc)
  case first=>
   by_cases hzz:z=[90]
   ·have HK:Hid (Hm.rdiff z=some 0):=by show _=_;unfold Hm.rdiff;rw [if_pos hzz]
    have hzb:(z == [90])=true:=by simp [hzz]
    simp only [hzb,Bool.not_true]
    clear hzz
    go_wp2
    go_meet
    case rel=>exact ⟨0,HK.out,int_eq (by simp),rfl⟩
   have hzb:(z == [90])=false:=beq_eq_false_iff_ne.2 hzz
   simp only [hzb,Bool.not_false]
   by_cases h6:z.length=6
   rotate_left
   ·have HN:Hid (Hm.rtime l=none):=by show _=_;rw [HR2.out,show Hm.rdiff z=none by unfold Hm.rdiff;rw [if_neg hzz,if_pos (.inl h6)]]
    have h6i:¬ (z.length:Int)=6:=by omega
    have h6b:((z.length:Int) == 6)=false:=by simp;omega
    go_wp2
    go_ret2
    exact ⟨by rw [NO.out HN.out];rfl,rfl⟩
   have h6i:(z.length:Int)=6:=by omega
   have h6b:((z.length:Int) == 6)=true:=by simp;omega
   have i0:(0:Int) < (z.length:Int):=by omega
   have i3:(3:Int) < (z.length:Int):=by omega
   by_cases hsg:(z[0]'(by omega)).toNat=43∨(z[0]'(by omega)).toNat=45
   rotate_left
   ·have HN:Hid (Hm.rtime l=none):=by show _=_;rw [HR2.out,show Hm.rdiff z=none by unfold Hm.rdiff;rw [if_neg hzz,if_pos (.inr (.inl (by rw [rgetD_at z 0 (by omega)];omega)))]]
    have q1:¬ ((z[0]'(by omega)).toNat:Int)=43:=by omega
    have q2:¬ ((z[0]'(by omega)).toNat:Int)=45:=by omega
    go_wp2
    go_ret2
    exact ⟨by rw [NO.out HN.out];rfl,rfl⟩
   by_cases h58:(z[3]'(by omega)).toNat=58
   rotate_left
   ·have HN:Hid (Hm.rtime l=none):=by show _=_;rw [HR2.out,show Hm.rdiff z=none by unfold Hm.rdiff;rw [if_neg hzz,if_pos (.inr (.inr (by rw [rgetD_at z 3 (by omega)];exact h58)))]]
    have q3:¬ ((z[3]'(by omega)).toNat:Int)=58:=by omega
    have hss:((z[0]'(by omega)).toNat:Int)=43∨(¬ ((z[0]'(by omega)).toNat:Int)=43/\((z[0]'(by omega)).toNat:Int)=45):=by omega
    clear hsg
    rcases hss with q1 | ⟨q1,q2⟩
    all_goals (
     go_wp2
     go_ret2
     exact ⟨by rw [NO.out HN.out];rfl,rfl⟩)
   have q3:((z[3]'(by omega)).toNat:Int)=58:=by omega
   have E1:Hid (∀ w,Calls Tryz.prog 190 #[.string ⟨z.toArray⟩,.int .i64 1,.int .i64 2] w fun e w'=>e=.returned (.tuple #[.int .i64 (Hm.rdigits z 1 2).1,.bool (Hm.rdigits z 1 2).2])/\w'=w):=fun w=>rdigits_any z hzl 1 2 (by omega) (by decide) w
   have E2:Hid (∀ w,Calls Tryz.prog 190 #[.string ⟨z.toArray⟩,.int .i64 4,.int .i64 2] w fun e w'=>e=.returned (.tuple #[.int .i64 (Hm.rdigits z 4 2).1,.bool (Hm.rdigits z 4 2).2])/\w'=w):=fun w=>rdigits_any z hzl 4 2 (by omega) (by decide) w
   have HRD:Hid (Hm.rdiff z=if (Hm.rdigits z 1 2).2=false∨(Hm.rdigits z 4 2).2=false∨23 < (Hm.rdigits z 1 2).1∨59 < (Hm.rdigits z 4 2).1 then none else
     if (z[0]'(by omega)).toNat=43 then some (60 * (Hm.rdigits z 1 2).1+(Hm.rdigits z 4 2).1:Int) else some (-(60 * (Hm.rdigits z 1 2).1+(Hm.rdigits z 4 2).1:Int))):=by
    show _=_
    unfold Hm.rdiff
    rw [if_neg hzz,if_neg (by rw [rgetD_at z 0 (by omega),rgetD_at z 3 (by omega)];omega),rgetD_at z 0 (by omega)]
   generalize Hm.rdigits z 1 2=r1 at E1 HRD
   generalize Hm.rdigits z 4 2=r2 at E2 HRD
   obtain ⟨h,f⟩:=r1
   obtain ⟨n,g⟩:=r2
   dsimp only at E1 E2 HRD
   have hss:((z[0]'(by omega)).toNat:Int)=43∨(¬ ((z[0]'(by omega)).toNat:Int)=43/\((z[0]'(by omega)).toNat:Int)=45):=by omega
   clear hsg hzz h58
   rcases hss with q1 | ⟨q1,q2⟩
   ·cases f
    ·have HN:Hid (Hm.rtime l=none):=by show _=_;rw [HR2.out,HRD.out,if_pos (.inl rfl)]
     clear HRD
     go_wp2_with fail
     refine (E1.out _).mono ?_
     rintro e w1 ⟨rfl,rfl⟩
     go_wp2_with fail
     refine (E2.out _).mono ?_
     rintro e w1 ⟨rfl,rfl⟩
     go_wp2
     go_ret2
     exact ⟨by rw [NO.out HN.out];rfl,rfl⟩
    cases g
    ·have HN:Hid (Hm.rtime l=none):=by show _=_;rw [HR2.out,HRD.out,if_pos (.inr (.inl rfl))]
     clear HRD
     go_wp2_with fail
     refine (E1.out _).mono ?_
     rintro e w1 ⟨rfl,rfl⟩
     go_wp2_with fail
     refine (E2.out _).mono ?_
     rintro e w1 ⟨rfl,rfl⟩
     go_wp2
     go_ret2
     exact ⟨by rw [NO.out HN.out];rfl,rfl⟩
    by_cases k1:23 < h
    ·have HN:Hid (Hm.rtime l=none):=by show _=_;rw [HR2.out,HRD.out,if_pos (.inr (.inr (.inl k1)))]
     have k1i:(23:Int) < (h:Int):=by omega
     go_wp2_with fail
     refine (E1.out _).mono ?_
     rintro e w1 ⟨rfl,rfl⟩
     go_wp2_with fail
     refine (E2.out _).mono ?_
     rintro e w1 ⟨rfl,rfl⟩
     go_wp2
     go_ret2
     exact ⟨by rw [NO.out HN.out];rfl,rfl⟩
    have k1i:¬ (23:Int) < (h:Int):=by omega
    by_cases k2:59 < n
    ·have HN:Hid (Hm.rtime l=none):=by show _=_;rw [HR2.out,HRD.out,if_pos (.inr (.inr (.inr k2)))]
     have k2i:(59:Int) < (n:Int):=by omega
     go_wp2_with fail
     refine (E1.out _).mono ?_
     rintro e w1 ⟨rfl,rfl⟩
     go_wp2_with fail
     refine (E2.out _).mono ?_
     rintro e w1 ⟨rfl,rfl⟩
     go_wp2
     go_ret2
     exact ⟨by rw [NO.out HN.out];rfl,rfl⟩
    have k2i:¬ (59:Int) < (n:Int):=by omega
    have HK:Hid (Hm.rdiff z=some (60 * (h:Int)+(n:Int))):=by
     show _=_
     rw [HRD.out,if_neg (by simp;omega),if_pos (by omega)]
    go_wp2_with fail
    refine (E1.out _).mono ?_
    rintro e w1 ⟨rfl,rfl⟩
    go_wp2_with fail
    refine (E2.out _).mono ?_
    rintro e w1 ⟨rfl,rfl⟩
    go_wp2
    go_meet
    case rel=>exact ⟨60 * (h:Int)+(n:Int),HK.out,int_eq (by omega),rfl⟩
   ·cases f
    ·have HN:Hid (Hm.rtime l=none):=by show _=_;rw [HR2.out,HRD.out,if_pos (.inl rfl)]
     clear HRD
     go_wp2_with fail
     refine (E1.out _).mono ?_
     rintro e w1 ⟨rfl,rfl⟩
     go_wp2_with fail
     refine (E2.out _).mono ?_
     rintro e w1 ⟨rfl,rfl⟩
     go_wp2
     go_ret2
     exact ⟨by rw [NO.out HN.out];rfl,rfl⟩
    cases g
    ·have HN:Hid (Hm.rtime l=none):=by show _=_;rw [HR2.out,HRD.out,if_pos (.inr (.inl rfl))]
     clear HRD
     go_wp2_with fail
     refine (E1.out _).mono ?_
     rintro e w1 ⟨rfl,rfl⟩
     go_wp2_with fail
     refine (E2.out _).mono ?_
     rintro e w1 ⟨rfl,rfl⟩
     go_wp2
     go_ret2
     exact ⟨by rw [NO.out HN.out];rfl,rfl⟩
    by_cases k1:23 < h
    ·have HN:Hid (Hm.rtime l=none):=by show _=_;rw [HR2.out,HRD.out,if_pos (.inr (.inr (.inl k1)))]
     have k1i:(23:Int) < (h:Int):=by omega
     go_wp2_with fail
     refine (E1.out _).mono ?_
     rintro e w1 ⟨rfl,rfl⟩
     go_wp2_with fail
     refine (E2.out _).mono ?_
     rintro e w1 ⟨rfl,rfl⟩
     go_wp2
     go_ret2
     exact ⟨by rw [NO.out HN.out];rfl,rfl⟩
    have k1i:¬ (23:Int) < (h:Int):=by omega
    by_cases k2:59 < n
    ·have HN:Hid (Hm.rtime l=none):=by show _=_;rw [HR2.out,HRD.out,if_pos (.inr (.inr (.inr k2)))]
     have k2i:(59:Int) < (n:Int):=by omega
     go_wp2_with fail
     refine (E1.out _).mono ?_
     rintro e w1 ⟨rfl,rfl⟩
     go_wp2_with fail
     refine (E2.out _).mono ?_
     rintro e w1 ⟨rfl,rfl⟩
     go_wp2
     go_ret2
     exact ⟨by rw [NO.out HN.out];rfl,rfl⟩
    have k2i:¬ (59:Int) < (n:Int):=by omega
    have HK:Hid (Hm.rdiff z=some (-(60 * (h:Int)+(n:Int)))):=by
     show _=_
     rw [HRD.out,if_neg (by simp;omega),if_neg (by omega)]
    go_wp2_with fail
    refine (E1.out _).mono ?_
    rintro e w1 ⟨rfl,rfl⟩
    go_wp2_with fail
    refine (E2.out _).mono ?_
    rintro e w1 ⟨rfl,rfl⟩
    go_wp2
    go_meet
    case rel=>exact ⟨-(60 * (h:Int)+(n:Int)),HK.out,int_eq (by omega),rfl⟩
  case rest=>
   obtain ⟨k,hk,rfl,rfl⟩:=hcut
   have hkb:=Hm.rdiff_bd hk
   have HR3:Hid (Hm.rtime l=match Hm.rshifted y mo d (sec - 60 * k) with
    | none=>none
    | some t=>some (t ++ (if pt=[] then [] else 46 :: pt) ++ [90])):=by
    show _=_
    rw [HR2.out,hk]
   have SF:Hid (∀ w,Calls Tryz.prog 196 #[.int .i64 y,.int .i64 mo,.int .i64 d,.int .i64 ((sec:Int) - 60 * k)] w fun e w'=>e=.returned (strOpt (Hm.rshifted y mo d (sec - 60 * k)))/\w'=w):=fun w=>rshifted_any y mo d _ HDY.out (by omega) (by omega) w
   have hsl:=fun t=>@Hm.rshifted_len y mo d (sec - 60 * k) t
   generalize Hm.rshifted y mo d (sec - 60 * k)=o at SF HR3 hsl
   clear hk HR2
   cases o with
   | none=>
    have HN:Hid (Hm.rtime l=none):=HR3.out
    unfold strOpt at SF
    go_wp2_with fail
    refine (SF.out _).mono ?_
    rintro e w1 ⟨rfl,rfl⟩
    go_wp2
    go_ret2
    exact ⟨by rw [NO.out HN.out];rfl,rfl⟩
   | some t=>
    have htl:=hsl t rfl
    clear hsl
    unfold strOpt at SF
    by_cases hp0:pt=[]
    ·have HE:Hid (V=.tuple #[.string ⟨(t ++ [90]).toArray⟩,.bool true]):=by
      show _=_
      rw [<-HV.out,HR3.out]
      simp [strOpt,hp0]
     subst hp0
     go_wp2_with fail
     refine (SF.out _).mono ?_
     rintro e w1 ⟨rfl,rfl⟩
     go_wp2
     go_ret2
     exact ⟨by rw [HE.out];rfl,rfl⟩
    ·have HE:Hid (V=.tuple #[.string ⟨(t ++ (46 :: pt) ++ [90]).toArray⟩,.bool true]):=by
      show _=_
      rw [<-HV.out,HR3.out]
      simp [strOpt,hp0]
     have hpb:(pt == [])=false:=beq_eq_false_iff_ne.2 hp0
     go_wp2_with fail
     refine (SF.out _).mono ?_
     rintro e w1 ⟨rfl,rfl⟩
     go_wp2
     go_ret2
     exact ⟨by rw [HE.out];simp,rfl⟩
theorem rTime_any (l:List UInt8) (hl:l.length<=1000000000000000) (w:World):Calls Tryz.prog 159 #[.string ⟨l.toArray⟩] w fun e w'=>e=.returned (strOpt (Hm.rtime l))/\w'=w:=by
 by_cases h0:l.length < 20∨¬ (l.getD 4 0).toNat=45∨¬ (l.getD 7 0).toNat=45∨¬ (l.getD 10 0).toNat=84
 ·rw [show Hm.rtime l=none by unfold Hm.rtime;rw [if_pos h0]]
  exact rTime_a l h0 w
 have l20:20<=l.length:=by omega
 have hR:Hm.rtime l=(match Hm.rclock l 11 with
  | none=>none
  | some sec=>
   if (Hm.rdigits l 0 4).2=false∨(Hm.rdigits l 5 2).2=false∨(Hm.rdigits l 8 2).2=false∨Hm.risDay (Hm.rdigits l 0 4).1 (Hm.rdigits l 5 2).1 (Hm.rdigits l 8 2).1=false then none else
   match Hm.rpart l with
   | none=>none
   | some pt=>
    match Hm.rdiff (l.drop pt.2) with
    | none=>none
    | some k=>
     match Hm.rshifted (Hm.rdigits l 0 4).1 (Hm.rdigits l 5 2).1 (Hm.rdigits l 8 2).1 (sec - 60 * k) with
     | none=>none
     | some t=>some (t ++ (if pt.1=[] then [] else 46 :: pt.1) ++ [90])):=by
  conv=>lhs;unfold Hm.rtime
  rw [if_neg h0]
  rfl
 rw [rgetD_at l 4 (by omega),rgetD_at l 7 (by omega),rgetD_at l 10 (by omega)] at h0
 have D1:=fun w=>rdigits_any l hl 0 4 (by omega) (by decide) w
 have D2:=fun w=>rdigits_any l hl 5 2 (by omega) (by decide) w
 have D3:=fun w=>rdigits_any l hl 8 2 (by omega) (by decide) w
 have CK:=fun w=>rclock_any l hl 11 (by decide) w
 have IY:=fun w=>risDay_any (Hm.rdigits l 0 4).1 (Hm.rdigits l 5 2).1 (Hm.rdigits l 8 2).1 w
 have hsec:=fun n=>@Hm.rclock_lt l 11 n
 have hda:=Hm.risDay_iff (Hm.rdigits l 0 4).1 (Hm.rdigits l 5 2).1 (Hm.rdigits l 8 2).1
 generalize Hm.rdigits l 0 4=r1 at D1 IY hR hda
 generalize Hm.rdigits l 5 2=r2 at D2 IY hR hda
 generalize Hm.rdigits l 8 2=r3 at D3 IY hR hda
 generalize Hm.rclock l 11=ck at CK hR hsec
 obtain ⟨y,b1⟩:=r1
 obtain ⟨mo,b2⟩:=r2
 obtain ⟨d,b3⟩:=r3
 dsimp only at D1 D2 D3 IY hR hda
 by_cases hbad:b1=false∨b2=false∨b3=false∨ck=none∨Hm.risDay y mo d=false
 ·have hn:Hm.rtime l=none:=by
   rw [hR]
   cases ck with
   | none=>rfl
   | some sec=>
    dsimp only
    rw [if_pos (by rcases hbad with h | h | h | h | h;exact .inl h;exact .inr (.inl h);exact .inr (.inr (.inl h));cases h;exact .inr (.inr (.inr h)))]
  rw [hn]
  exact rTime_b l hl l20 (by omega) (by omega) (by omega) y mo d b1 b2 b3 _ ck D1 D2 D3 CK IY hbad w
 ·have e1:b1=true:=by cases b1;exact absurd (.inl rfl) hbad;rfl
  have e2:b2=true:=by cases b2;exact absurd (.inr (.inl rfl)) hbad;rfl
  have e3:b3=true:=by cases b3;exact absurd (.inr (.inr (.inl rfl))) hbad;rfl
  have e5:Hm.risDay y mo d=true:=by cases h:Hm.risDay y mo d;exact absurd (.inr (.inr (.inr (.inr h)))) hbad;rfl
  subst e1 e2 e3
  cases ck with
  | none=>exact absurd (.inr (.inr (.inr (.inl rfl)))) hbad
  | some sec=>
   rw [e5] at IY
   dsimp only at hR
   rw [e5,if_neg (by simp)] at hR
   exact rTime_c l hl l20 (by omega) (by omega) (by omega) y mo d sec D1 D2 D3 CK IY (hsec sec rfl) (hda.1 e5) _ rfl hR w
end Go.Proofs.YtdlhbmncbmconaaGreatDoor

/- Pressed by program out of Cj. -/
import Derived.Test.YtdlhbmncbmconaaGreatDoorL21
import Derived.Deep.DeepCutAuto
import Derived.Deep.CutBlock
namespace Go.Proofs.YtdlhbmncbmconaaGreatDoor
open Go.RowKit Go.Sort
attribute [local go_sem] app_mk rcut rbyte
def tagV (t:List UInt8 × List UInt8 × Nat):Value:=.tuple #[.string ⟨t.1.toArray⟩,.string ⟨t.2.1.toArray⟩,.int .i64 t.2.2]
theorem take_more {l:List UInt8} {a j:Nat} (h:a+j < l.length):(l.drop a).take j ++ [l[a+j]]=(l.drop a).take (j+1):=by
 rw [List.take_succ_eq_append_getElem (by rw [List.length_drop];omega),List.getElem_drop]
theorem one_at {l:List UInt8} {a:Nat} (h:a < l.length):(l.drop a).take 1=[l[a]]:=by
 rw [List.drop_eq_getElem_cons h];rfl
set_option maxRecDepth 20000 in
set_option maxHeartbeats 4000000 in
theorem rtag_any (l:List UInt8) (hl:l.length<=1000000000000000) (w:World):Calls Tryz.prog 193 #[.string ⟨l.toArray⟩] w fun e w'=>e=.returned (tagV (Hm.tag l))/\w'=w:=by
 obtain ⟨I,hI⟩:∃ I,(l.takeWhile Hm.tgb).length=I:=⟨_,rfl⟩
 obtain ⟨hIl,hIi,hIe⟩:=Hm.run_at Hm.tgb l 0 I (Nat.zero_le _) (by rw [List.drop_zero];exact hI)
 have hIl:I<=l.length:=by omega
 have HII:Hid (∀ j,j < I->∃ h:j < l.length,Hm.tgb l[j]=true):=fun j hj=>Hm.run_pre hI hj
 have HIE:Hid (∀ h:I < l.length,Hm.tgb l[I]=false):=fun h=>by
  have:=hIe (by omega)
  have e:l[0+I]'(by omega)=l[I]:=by congr 1;omega
  rw [<-e];exact this
 clear hIi hIe
 have HI:=show Hid _ from hI
 clear hI
 obtain ⟨wd,hwd⟩:∃ b,Hm.word (l.take I) 16=b:=⟨_,rfl⟩
 have WD:Hid (∀ w,Calls Tryz.prog 162 #[.string ⟨(l.take I).toArray⟩,.int .i64 16] w fun e w'=>e=.returned (.bool wd)/\w'=w):=fun w=>by
  have:=rIsPlain_any (l.take I) (by rw [List.length_take];omega) 16 (by omega) w
  rwa [hwd] at this
 have HWD:=show Hid _ from hwd
 clear hwd
 obtain ⟨V,hV⟩:∃ V,tagV (Hm.tag l)=V:=⟨_,rfl⟩
 rw [hV]
 have HV:=show Hid _ from hV
 clear hV
 go_enter Tryz.func193,Tryz.ntmps193
 go_upto_block 0 with fail
 go_cut [5] (fun s5 wc=>s5=.int .i64 (I:Int)/\wc=w)
 case first=>
  go_wp2
  go_loopw [5] (fun s5 wr=>∃ j:Nat,j<=I/\s5=.int .i64 (j:Int)/\wr=w) (fun s5 _=>I - (intOf s5).toNat)
  case atStart=>exact ⟨0,Nat.zero_le _,rfl,rfl⟩
  case round=>
   obtain ⟨j,hj,rfl,hwr⟩:=hrel
   have hwr:=hwr.symm
   subst hwr
   by_cases hlt:j < I
   ·obtain ⟨h1,hp⟩:=HII.out j hlt
    have c0:(j:Int) < (l.length:Int):=by omega
    have hcc:((97:Int)<=(l[j].toNat:Int)/\(l[j].toNat:Int)<=122)∨(¬ (97:Int)<=(l[j].toNat:Int)/\(65:Int)<=(l[j].toNat:Int)/\(l[j].toNat:Int)<=90)∨(¬ (97:Int)<=(l[j].toNat:Int)/\¬ (65:Int)<=(l[j].toNat:Int)/\(48:Int)<=(l[j].toNat:Int)/\(l[j].toNat:Int)<=57)
      ∨ (l[j].toNat:Int)=45∨(l[j].toNat:Int)=95∨(l[j].toNat:Int)=46∨(l[j].toNat:Int)=47:=by
     simp [Hm.tgb,Hm.letr,Hm.dig] at hp
     omega
    clear hp
    rcases hcc with ⟨t1,t2⟩ | ⟨t1,t2,t3⟩ | ⟨t1,t2,t3,t4⟩ | t | t | t | t
    ·go_wp2
     go_roundw
     case rel=>exact ⟨j+1,by omega,int_eq (by simp),by first | rfl | trivial⟩
     case measure=>simp [intOf];omega
    ·go_wp2
     go_roundw
     case rel=>exact ⟨j+1,by omega,int_eq (by simp),by first | rfl | trivial⟩
     case measure=>simp [intOf];omega
    ·go_wp2
     go_roundw
     case rel=>exact ⟨j+1,by omega,int_eq (by simp),by first | rfl | trivial⟩
     case measure=>simp [intOf];omega
    ·have t1:¬ (97:Int)<=(l[j].toNat:Int):=by omega
     have t2:¬ (65:Int)<=(l[j].toNat:Int):=by omega
     have t3:¬ (48:Int)<=(l[j].toNat:Int):=by omega
     have t4:((l[j].toNat:Int) == 45)=true:=by simp;omega
     clear t
     go_wp2
     go_roundw
     case rel=>exact ⟨j+1,by omega,int_eq (by simp),by first | rfl | trivial⟩
     case measure=>simp [intOf];omega
    ·have t1:¬ (97:Int)<=(l[j].toNat:Int):=by omega
     have t2:(65:Int)<=(l[j].toNat:Int):=by omega
     have t2b:¬ (l[j].toNat:Int)<=90:=by omega
     have t3:(48:Int)<=(l[j].toNat:Int):=by omega
     have t3b:¬ (l[j].toNat:Int)<=57:=by omega
     have t4:((l[j].toNat:Int) == 45)=false:=by simp;omega
     have t5:((l[j].toNat:Int) == 95)=true:=by simp;omega
     clear t
     go_wp2
     go_roundw
     case rel=>exact ⟨j+1,by omega,int_eq (by simp),by first | rfl | trivial⟩
     case measure=>simp [intOf];omega
    ·have t1:¬ (97:Int)<=(l[j].toNat:Int):=by omega
     have t2:¬ (65:Int)<=(l[j].toNat:Int):=by omega
     have t3:¬ (48:Int)<=(l[j].toNat:Int):=by omega
     have t4:((l[j].toNat:Int) == 45)=false:=by simp;omega
     have t5:((l[j].toNat:Int) == 95)=false:=by simp;omega
     have t6:((l[j].toNat:Int) == 46)=true:=by simp;omega
     clear t
     go_wp2
     go_roundw
     case rel=>exact ⟨j+1,by omega,int_eq (by simp),by first | rfl | trivial⟩
     case measure=>simp [intOf];omega
    ·have t1:¬ (97:Int)<=(l[j].toNat:Int):=by omega
     have t2:¬ (65:Int)<=(l[j].toNat:Int):=by omega
     have t3:¬ (48:Int)<=(l[j].toNat:Int):=by omega
     have t4:((l[j].toNat:Int) == 45)=false:=by simp;omega
     have t5:((l[j].toNat:Int) == 95)=false:=by simp;omega
     have t6:((l[j].toNat:Int) == 46)=false:=by simp;omega
     have t7:((l[j].toNat:Int) == 47)=true:=by simp;omega
     clear t
     go_wp2
     go_roundw
     case rel=>exact ⟨j+1,by omega,int_eq (by simp),by first | rfl | trivial⟩
     case measure=>simp [intOf];omega
   ·have hjT:j=I:=by omega
    subst hjT
    by_cases hend:j < l.length
    case neg=>
     have c0:¬ (j:Int) < (l.length:Int):=by omega
     go_wp2
     go_meet
     case rel=>exact ⟨rfl,rfl⟩
    have c0:(j:Int) < (l.length:Int):=by omega
    have hf:=HIE.out hend
    have f1:¬ (l[j].toNat:Int)=45/\¬ (l[j].toNat:Int)=95/\¬ (l[j].toNat:Int)=46/\¬ (l[j].toNat:Int)=47:=by
     simp [Hm.tgb,Hm.letr,Hm.dig] at hf
     omega
    have hcc:(¬ (97:Int)<=(l[j].toNat:Int)/\¬ (65:Int)<=(l[j].toNat:Int)/\¬ (48:Int)<=(l[j].toNat:Int))∨(¬ (97:Int)<=(l[j].toNat:Int)/\¬ (65:Int)<=(l[j].toNat:Int)/\(48:Int)<=(l[j].toNat:Int)/\¬ (l[j].toNat:Int)<=57)
      ∨ (¬ (97:Int)<=(l[j].toNat:Int)/\(65:Int)<=(l[j].toNat:Int)/\¬ (l[j].toNat:Int)<=90/\(48:Int)<=(l[j].toNat:Int)/\¬ (l[j].toNat:Int)<=57)
      ∨ ((97:Int)<=(l[j].toNat:Int)/\¬ (l[j].toNat:Int)<=122/\(65:Int)<=(l[j].toNat:Int)/\¬ (l[j].toNat:Int)<=90/\(48:Int)<=(l[j].toNat:Int)/\¬ (l[j].toNat:Int)<=57):=by
     simp [Hm.tgb,Hm.letr,Hm.dig] at hf
     omega
    have t4:((l[j].toNat:Int) == 45)=false:=beq_eq_false_iff_ne.2 f1.1
    have t5:((l[j].toNat:Int) == 95)=false:=beq_eq_false_iff_ne.2 f1.2.1
    have t6:((l[j].toNat:Int) == 46)=false:=beq_eq_false_iff_ne.2 f1.2.2.1
    have t7:((l[j].toNat:Int) == 47)=false:=beq_eq_false_iff_ne.2 f1.2.2.2
    clear hf f1
    rcases hcc with ⟨u1,u2,u3⟩ | ⟨u1,u2,u3,u4⟩ | ⟨u1,u2,u3,u4,u5⟩ | ⟨u1,u2,u3,u4,u5,u6⟩
    all_goals (
     go_wp2
     go_meet
     case rel=>exact ⟨rfl,rfl⟩)
 case rest=>
  obtain ⟨rfl,hwc⟩:=hcut
  have hwc:=hwc.symm
  subst hwc
  go_wp2_with fail
  refine (WD.out _).mono ?_
  rintro e w1 ⟨rfl,hw1⟩
  have hw1:=hw1.symm
  subst hw1
  cases wd with
  | false=>
   have HE:Hid (V=.tuple #[.string ⟨#[]⟩,.string ⟨#[]⟩,.int .i64 0]):=by show _=_;rw [<-HV.out,Hm.tag_bad HI.out HWD.out];rfl
   go_wp2
   go_ret3
   exact ⟨by rw [HE.out];rfl,rfl⟩
  | true=>
   by_cases hend:I < l.length
   case neg=>
    have HE:Hid (V=.tuple #[.string ⟨#[]⟩,.string ⟨#[]⟩,.int .i64 0]):=by
     show _=_
     rw [<-HV.out,Hm.tag_shut HI.out HWD.out (fun ⟨h1,_⟩=>hend h1),Hm.tagRest_no (fun ⟨h1,_⟩=>hend h1)]
     rfl
    have c0:¬ (I:Int) < (l.length:Int):=by omega
    have c0b:(l.length:Int)<=(I:Int):=by omega
    go_wp2
    go_ret3
    exact ⟨by rw [HE.out];rfl,rfl⟩
   have c0:(I:Int) < (l.length:Int):=by omega
   obtain ⟨b91,hb91⟩:∃ b,((l[I].toNat:Int) == 91)=b:=⟨_,rfl⟩
   go_upto_if 91 with fail
   go_cut [5,8] (fun s5 s8 wc=>∃ (e:Nat) (p:List UInt8),e<=l.length/\s5=.int .i64 (e:Int)/\s8=Value.string (ByteArray.mk p.toArray)/\V=tagV (Hm.tagRest l (l.take I) p e)/\wc=w)
   case first=>
    cases b91 with
    | true=>
     have hc91:=beq_iff_eq.1 hb91
     have H91:Hid (∃ h:I < l.length,l[I].toNat=91):=⟨hend,by omega⟩
     clear hc91
     obtain ⟨J,hJ⟩:∃ J,((l.drop (I+1)).takeWhile Hm.dig).length=J:=⟨_,rfl⟩
     obtain ⟨hJl,hJi,hJe⟩:=Hm.run_at Hm.dig l (I+1) J (by omega) hJ
     have HJI:=show Hid _ from hJi
     have HJE:=show Hid _ from hJe
     have HJ:=show Hid _ from hJ
     clear hJ hJi hJe
     go_upto_block 2 with fail
     go_cut [5,8] (fun s5 s8 wc=>s5=.int .i64 ((I:Int)+1+(J:Int))/\s8=Value.string (ByteArray.mk ((l.drop (I+1)).take J).toArray)/\wc=w)
     case first=>
      go_wp2
      go_loopw [5,8] (fun s5 s8 wr=>∃ (j:Nat) (P:List UInt8),j<=J/\s5=.int .i64 ((I:Int)+1+(j:Int))/\s8=.string ⟨P.toArray⟩/\P=(l.drop (I+1)).take j/\wr=w) (fun s5 _ _=>I+1+J - (intOf s5).toNat)
      case atStart=>exact ⟨0,[],Nat.zero_le _,int_eq (by simp),rfl,rfl,rfl⟩
      case round=>
       obtain ⟨j,P,hj,rfl,rfl,hP,hwr⟩:=hrel
       have hwr:=hwr.symm
       subst hwr
       have HP:=show Hid _ from hP
       have hPl:P.length<=1000000000000000:=by rw [hP,List.length_take,List.length_drop];omega
       clear hP
       have htn:((I:Int)+1+(j:Int)).toNat=I+1+j:=by omega
       by_cases hlt:j < J
       ·obtain ⟨h1,hp⟩:=HJI.out j hlt
        have hp2:(48<=l[I+1+j].toNat/\l[I+1+j].toNat<=57):=by simpa [Hm.dig] using hp
        have d0:(I:Int)+1+(j:Int) < (l.length:Int):=by omega
        have d1:(48:Int)<=(l[I+1+j].toNat:Int):=by omega
        have d2:(l[I+1+j].toNat:Int)<=57:=by omega
        have HPN:Hid (P ++ [l[I+1+j]]=(l.drop (I+1)).take (j+1)):=by show _=_;rw [HP.out];exact take_more h1
        have ho:=one_at h1
        clear hp hp2
        have hcl:¬ 9223372036854775807 < P.length+1:=by omega
        go_wp2
        go_roundw
        case rel=>exact ⟨j+1,P ++ [l[I+1+j]],by omega,int_eq (by simp;omega),by first | rfl | trivial,HPN.out,by first | rfl | trivial⟩
        case measure=>simp [intOf];omega
       ·have hjT:j=J:=by omega
        subst hjT
        by_cases hend:I+1+j < l.length
        case neg=>
         have d0:¬ (I:Int)+1+(j:Int) < (l.length:Int):=by omega
         go_wp2
         go_meet
         case rel=>exact ⟨rfl,by rw [HP.out],rfl⟩
        have d0:(I:Int)+1+(j:Int) < (l.length:Int):=by omega
        have hf:=HJE.out hend
        have hcc:¬ (48:Int)<=(l[I+1+j].toNat:Int)∨((48:Int)<=(l[I+1+j].toNat:Int)/\¬ (l[I+1+j].toNat:Int)<=57):=by
         simp [Hm.dig] at hf
         omega
        clear hf
        rcases hcc with d1 | ⟨d1,d2⟩
        all_goals (
         go_wp2
         go_meet
         case rel=>exact ⟨rfl,by rw [HP.out],rfl⟩)
     case rest=>
      obtain ⟨rfl,rfl,hwc⟩:=hcut
      have hwc:=hwc.symm
      subst hwc
      obtain ⟨P,hP⟩:∃ P,(l.drop (I+1)).take J=P:=⟨_,rfl⟩
      have hPl:P.length=J:=by rw [<-hP,List.length_take,List.length_drop];omega
      rw [hP]
      have HP:=show Hid _ from hP
      clear hP HJI HJE
      have HPL:=show Hid _ from hPl
      have htn:((I:Int)+1+(J:Int)).toNat=I+1+J:=by omega
      by_cases j0:J=0
      ·have HE:Hid (V=.tuple #[.string ⟨#[]⟩,.string ⟨#[]⟩,.int .i64 0]):=by show _=_;rw [<-HV.out,Hm.tag_open_no HI.out HWD.out H91.out HJ.out (.inl j0)];rfl
       obtain rfl:P=[]:=List.eq_nil_of_length_eq_zero (by omega)
       clear hPl HPL HP HJ j0
       go_wp2
       go_ret3
       exact ⟨by rw [HE.out];rfl,rfl⟩
      have pb:(P == [])=false:=beq_eq_false_iff_ne.2 (fun e=>by rw [e] at hPl;simp at hPl;omega)
      by_cases j8:8 < J
      ·have HE:Hid (V=.tuple #[.string ⟨#[]⟩,.string ⟨#[]⟩,.int .i64 0]):=by show _=_;rw [<-HV.out,Hm.tag_open_no HI.out HWD.out H91.out HJ.out (.inr (.inl j8))];rfl
       have j8i:(8:Int) < (P.length:Int):=by omega
       clear hPl HPL HP HJ j0
       go_wp2
       go_ret3
       exact ⟨by rw [HE.out];rfl,rfl⟩
      have j8i:¬ (8:Int) < (P.length:Int):=by omega
      by_cases e0:I+1+J < l.length
      case neg=>
       have HE:Hid (V=.tuple #[.string ⟨#[]⟩,.string ⟨#[]⟩,.int .i64 0]):=by show _=_;rw [<-HV.out,Hm.tag_open_no HI.out HWD.out H91.out HJ.out (.inr (.inr (fun ⟨h,_⟩=>e0 h)))];rfl
       have e0i:(l.length:Int)<=(I:Int)+1+(J:Int):=by omega
       clear hPl HPL HP HJ j0
       go_wp2
       go_ret3
       exact ⟨by rw [HE.out];rfl,rfl⟩
      have e0i:¬ (l.length:Int)<=(I:Int)+1+(J:Int):=by omega
      by_cases e1:(l[I+1+J].toNat:Int)=93
      case neg=>
       have HE:Hid (V=.tuple #[.string ⟨#[]⟩,.string ⟨#[]⟩,.int .i64 0]):=by show _=_;rw [<-HV.out,Hm.tag_open_no HI.out HWD.out H91.out HJ.out (.inr (.inr (fun ⟨_,h⟩=>e1 (by omega))))];rfl
       have e1b:((l[I+1+J].toNat:Int) != 93)=true:=by simp;omega
       clear hPl HPL HP HJ j0
       go_wp2
       go_ret3
       exact ⟨by rw [HE.out];rfl,rfl⟩
      have HE:Hid (V=tagV (Hm.tagRest l (l.take I) P (I+1+J+1))):=by
       show _=_
       rw [<-HV.out,Hm.tag_open HI.out HWD.out H91.out HJ.out j0 j8 ⟨e0,by omega⟩,HP.out]
      have e1b:((l[I+1+J].toNat:Int) != 93)=false:=by simp;omega
      clear hPl HPL HP HJ j0 e1
      go_wp2
      go_meet
      case rel=>exact ⟨I+1+J+1,P,by omega,int_eq (by simp),rfl,HE.out,rfl⟩
    | false=>
     have HE:Hid (V=tagV (Hm.tagRest l (l.take I) [] I)):=by
      show _=_
      rw [<-HV.out,Hm.tag_shut HI.out HWD.out (fun ⟨h1,h2⟩=>beq_eq_false_iff_ne.1 hb91 (by omega))]
     go_wp2
     go_meet
     case rel=>exact ⟨I,[],hIl,rfl,rfl,HE.out,rfl⟩
   case rest=>
    obtain ⟨e,p,he,rfl,rfl,hv,hwc⟩:=hcut
    clear hb91 c0 hend
    have hwc:=hwc.symm
    subst hwc
    have HQ:=show Hid _ from hv
    clear hv
    by_cases e0:e < l.length
    case neg=>
     have HE:Hid (V=.tuple #[.string ⟨#[]⟩,.string ⟨#[]⟩,.int .i64 0]):=by show _=_;rw [HQ.out,Hm.tagRest_no (fun ⟨h,_⟩=>e0 h)];rfl
     have e0i:(l.length:Int)<=(e:Int):=by omega
     go_wp2
     go_ret3
     exact ⟨by rw [HE.out];rfl,rfl⟩
    have e0i:¬ (l.length:Int)<=(e:Int):=by omega
    by_cases e1:(l[e].toNat:Int)=58
    case neg=>
     have HE:Hid (V=.tuple #[.string ⟨#[]⟩,.string ⟨#[]⟩,.int .i64 0]):=by show _=_;rw [HQ.out,Hm.tagRest_no (fun ⟨_,h⟩=>e1 (by omega))];rfl
     have e1b:((l[e].toNat:Int) != 58)=true:=by simp;omega
     go_wp2
     go_ret3
     exact ⟨by rw [HE.out];rfl,rfl⟩
    have e1b:((l[e].toNat:Int) != 58)=false:=by simp;omega
    have H58:Hid (∃ h:e < l.length,l[e].toNat=58):=⟨e0,by omega⟩
    clear e1
    have HNO:Hid ((¬ ∃ h:e+1 < l.length,(l[e+1].toNat:Int)=32)->V=.tuple #[.string ⟨(l.take I).toArray⟩,.string ⟨p.toArray⟩,.int .i64 ((e:Int)+1)]):=fun h=>by
     rw [HQ.out,Hm.tagRest_1 H58.out (fun ⟨a,b⟩=>h ⟨a,by omega⟩)]
     simp [tagV]
    by_cases f0:e+1 < l.length
    case neg=>
     have HE:Hid (V=.tuple #[.string ⟨(l.take I).toArray⟩,.string ⟨p.toArray⟩,.int .i64 ((e:Int)+1)]):=HNO.out (fun ⟨h,_⟩=>f0 h)
     have f0i:¬ (e:Int)+1 < (l.length:Int):=by omega
     go_wp2
     go_ret3
     exact ⟨by rw [HE.out];rfl,rfl⟩
    have f0i:(e:Int)+1 < (l.length:Int):=by omega
    by_cases f1:(l[e+1].toNat:Int)=32
    case neg=>
     have HE:Hid (V=.tuple #[.string ⟨(l.take I).toArray⟩,.string ⟨p.toArray⟩,.int .i64 ((e:Int)+1)]):=HNO.out (fun ⟨_,h⟩=>f1 h)
     have f1b:((l[e+1].toNat:Int) == 32)=false:=beq_eq_false_iff_ne.2 f1
     go_wp2
     go_ret3
     exact ⟨by rw [HE.out];rfl,rfl⟩
    have HE:Hid (V=.tuple #[.string ⟨(l.take I).toArray⟩,.string ⟨p.toArray⟩,.int .i64 ((e:Int)+1+1)]):=by
     show _=_
     rw [HQ.out,Hm.tagRest_2 H58.out ⟨f0,by omega⟩]
     simp [tagV]
    have f1b:((l[e+1].toNat:Int) == 32)=true:=beq_iff_eq.2 f1
    clear f1
    go_wp2
    go_ret3
    exact ⟨by rw [HE.out];rfl,rfl⟩
end Go.Proofs.YtdlhbmncbmconaaGreatDoor

/- Pressed by program out of Cd. -/
import Derived.Test.YtdlhbmncbmconaaGreatDoorL17
import Derived.Deep.DeepCutAuto
import Derived.Deep.CutBlock
namespace Go.Hm
theorem lead_bd {b n least c:Nat} (h:lead b=some (n,least,c)):1<=n/\n<=3/\least<=65536/\c<=31:=by
 unfold lead at h
 split at h
 ·injection h with h;injection h with h1 h;injection h with h2 h3;omega
 ·split at h
  ·injection h with h;injection h with h1 h;injection h with h2 h3;omega
  ·split at h
   ·injection h with h;injection h with h1 h;injection h with h2 h3;omega
   ·cases h
theorem contv_cons {n:Nat} {t:List UInt8} {k:Nat} (hk:k < t.length) (c:Nat):contv (n+1) (t.drop k) c=if t[k].toNat < 128∨191 < t[k].toNat then none else contv n (t.drop (k+1)) (64 * c+t[k].toNat - 128):=by
 rw [List.drop_eq_getElem_cons hk,contv]
theorem contv_end {n:Nat} {t:List UInt8} {k:Nat} (hk:t.length<=k) (c:Nat):contv (n+1) (t.drop k) c=none:=by
 rw [List.drop_of_length_le hk,contv]
end Go.Hm
namespace Go.Proofs.YtdlhbmncbmconaaGreatDoor
open Go.RowKit Go.Sort
attribute [local go_sem] rbyte
set_option maxRecDepth 20000 in
set_option maxHeartbeats 4000000 in
theorem rClean_any (l:List UInt8) (hl:l.length<=1000000000000000) (w:World):Calls Tryz.prog 157 #[.string ⟨l.toArray⟩] w fun e w'=>e=.returned (.bool (Hm.plain l))/\w'=w:=by
 obtain ⟨P,hP⟩:∃ P,Hm.plain l=P:=⟨_,rfl⟩
 rw [hP]
 have HP:=show Hid _ from hP
 clear hP
 go_enter Tryz.func157,Tryz.ntmps157
 go_wp2
 go_loopw [3] (fun ix wr=>∃ j:Nat,j<=l.length/\ix=.int .i64 j/\P=Hm.plain (l.drop j)/\wr=w) (fun ix _=>l.length - (intOf ix).toNat)
 case atStart=>exact ⟨0,Nat.zero_le _,rfl,by rw [<-HP.out,List.drop_zero],rfl⟩
 case round=>
  obtain ⟨j,hj,rfl,hPj,rfl⟩:=hrel
  have HPJ:=show Hid _ from hPj
  clear hPj
  by_cases hlt:j < l.length
  rotate_left
  ·have hji:¬ (j:Int) < (l.length:Int):=by omega
   go_wp2
   go_ret
   exact ⟨by rw [HPJ.out,List.drop_of_length_le (by omega)];rfl,rfl⟩
  have hji:(j:Int) < (l.length:Int):=by omega
  have HDR:Hid (l.drop j=l[j] :: l.drop (j+1)):=List.drop_eq_getElem_cons hlt
  by_cases h32:l[j].toNat < 32∨l[j].toNat=127
  ·have HF:Hid (P=false):=by show _=_;rw [HPJ.out,HDR.out,Hm.plain_low h32]
   have hcc:(l[j].toNat:Int) < 32∨(¬ (l[j].toNat:Int) < 32/\(l[j].toNat:Int)=127):=by omega
   clear h32
   rcases hcc with c1 | ⟨c1,c2⟩
   all_goals (
    go_wp2
    go_ret
    exact ⟨by rw [HF.out];rfl,rfl⟩)
  have c1:¬ (l[j].toNat:Int) < 32:=by omega
  have c2:¬ (l[j].toNat:Int)=127:=by omega
  have c2b:((l[j].toNat:Int) == 127)=false:=by simp;omega
  by_cases h128:l[j].toNat < 128
  ·have HF:Hid (P=Hm.plain (l.drop (j+1))):=by show _=_;rw [HPJ.out,HDR.out,Hm.plain_asc h32 h128]
   have c3:(l[j].toNat:Int) < 128:=by omega
   clear h32 h128
   go_wp2
   go_roundw
   case rel=>exact ⟨j+1,by omega,int_eq (by simp),HF.out,by first | rfl | trivial⟩
   case measure=>simp [intOf];omega
  have c3:¬ (l[j].toNat:Int) < 128:=by omega
  have hw64:wrap64 (l[j].toNat:Int)=(l[j].toNat:Int):=by have:=l[j].toNat_lt;unfold wrap64;omega
  have HLD:=show Hid _ from Hm.plain_lead l[j] (l.drop (j+1)) (by omega)
  have H128:Hid (128<=l[j].toNat):=by show _<=_;omega
  clear h32 h128
  go_upto_block 2 with fail
  go_cut [3,4,5,6] (fun s3 s4 s5 s6 wc=>∃ n least c:Nat,Hm.lead l[j].toNat=some (n,least,c)/\s3=.int .i64 j/\s4=.int .i64 c/\s5=.int .i64 n/\s6=.int .i64 least/\wc=wr)
  case first=>
   by_cases k1:192<=l[j].toNat/\l[j].toNat < 224
   ·have HL:Hid (Hm.lead l[j].toNat=some (1,128,l[j].toNat - 192)):=by show _=_;unfold Hm.lead;rw [if_pos k1]
    have d1:(192:Int)<=(l[j].toNat:Int):=by omega
    have d2:(l[j].toNat:Int) < 224:=by omega
    have HKK:Hid (192<=l[j].toNat):=k1.1
    clear k1
    go_wp2
    go_meet
    case rel=>have:=HKK.out;exact ⟨1,128,l[j].toNat - 192,HL.out,rfl,int_eq (by omega),rfl,rfl,rfl⟩
   by_cases k2:224<=l[j].toNat/\l[j].toNat < 240
   ·have HL:Hid (Hm.lead l[j].toNat=some (2,2048,l[j].toNat - 224)):=by show _=_;unfold Hm.lead;rw [if_neg k1,if_pos k2]
    have d0:(192:Int)<=(l[j].toNat:Int):=by omega
    have d1:(224:Int)<=(l[j].toNat:Int):=by omega
    have d2:(l[j].toNat:Int) < 240:=by omega
    have d3:¬ (l[j].toNat:Int) < 224:=by omega
    have HKK:Hid (224<=l[j].toNat):=k2.1
    clear k1 k2
    go_wp2
    go_meet
    case rel=>have:=HKK.out;exact ⟨2,2048,l[j].toNat - 224,HL.out,rfl,int_eq (by omega),rfl,rfl,rfl⟩
   by_cases k3:240<=l[j].toNat/\l[j].toNat < 248
   ·have HL:Hid (Hm.lead l[j].toNat=some (3,65536,l[j].toNat - 240)):=by show _=_;unfold Hm.lead;rw [if_neg k1,if_neg k2,if_pos k3]
    have d0:(192:Int)<=(l[j].toNat:Int):=by omega
    have d1:(224:Int)<=(l[j].toNat:Int):=by omega
    have d2:(240:Int)<=(l[j].toNat:Int):=by omega
    have d3:¬ (l[j].toNat:Int) < 224:=by omega
    have d4:¬ (l[j].toNat:Int) < 240:=by omega
    have d5:(l[j].toNat:Int) < 248:=by omega
    have HKK:Hid (240<=l[j].toNat):=k3.1
    clear k1 k2 k3
    go_wp2
    go_meet
    case rel=>have:=HKK.out;exact ⟨3,65536,l[j].toNat - 240,HL.out,rfl,int_eq (by omega),rfl,rfl,rfl⟩
   ·have HF:Hid (P=false):=by
     show _=_
     rw [HPJ.out,HDR.out,HLD.out,show Hm.lead l[j].toNat=none by unfold Hm.lead;rw [if_neg k1,if_neg k2,if_neg k3]]
    have h128:=H128.out
    have hcc:(l[j].toNat:Int) < 192∨(248:Int)<=(l[j].toNat:Int):=by omega
    clear k1 k2 k3 h128
    rcases hcc with d1 | d1
    ·have d2:¬ (192:Int)<=(l[j].toNat:Int):=by omega
     have d3:¬ (224:Int)<=(l[j].toNat:Int):=by omega
     have d4:¬ (240:Int)<=(l[j].toNat:Int):=by omega
     go_wp2
     go_ret
     exact ⟨by rw [HF.out];rfl,rfl⟩
    ·have d0:(192:Int)<=(l[j].toNat:Int):=by omega
     have d2:(224:Int)<=(l[j].toNat:Int):=by omega
     have d3:(240:Int)<=(l[j].toNat:Int):=by omega
     have d4:¬ (l[j].toNat:Int) < 224:=by omega
     have d5:¬ (l[j].toNat:Int) < 240:=by omega
     have d6:¬ (l[j].toNat:Int) < 248:=by omega
     go_wp2
     go_ret
     exact ⟨by rw [HF.out];rfl,rfl⟩
  case rest=>
   obtain ⟨n,least,c,hld,rfl,rfl,rfl,rfl,rfl⟩:=hcut
   obtain ⟨n1,n3,hle,hc31⟩:=Hm.lead_bd hld
   have HPN:Hid (P=match Hm.contv n (l.drop (j+1)) c with
    | none=>false
    | some v=>if Hm.runeBad least v=true then false else Hm.plain ((l.drop (j+1)).drop n)):=by
    show _=_
    rw [HPJ.out,HDR.out,HLD.out,hld]
    rfl
   clear hld HLD c1 c2 c2b c3
   obtain ⟨T,hT⟩:∃ T,l.drop (j+1)=T:=⟨_,rfl⟩
   have hTl:T.length=l.length - (j+1):=by rw [<-hT,List.length_drop]
   have HTG:Hid (∀ q,(h:q < T.length)->∃ h':j+1+q < l.length,T[q]=l[j+1+q]):=fun q h=>by
    have h':j+1+q < l.length:=by omega
    refine ⟨h',?_⟩
    have:T[q]?=l[j+1+q]?:=by rw [<-hT,List.getElem?_drop]
    rw [List.getElem?_eq_getElem h,List.getElem?_eq_getElem h'] at this
    exact Option.some.inj this
   have HTD:Hid (T.drop n=l.drop (j+n+1)):=by
    show _=_
    rw [<-hT,List.drop_drop]
    congr 1
    omega
   rw [hT] at HPN
   clear hT
   go_wp2
   go_loopw [4,7] (fun s4 s7 wq=>∃ q v:Nat,q<=n/\q<=T.length/\v < 32 * 64 ^ q/\s7=.int .i64 ((q:Int)+1)/\s4=.int .i64 v/\Hm.contv n T c=Hm.contv (n - q) (T.drop q) v/\wq=wc) (fun _ s7 _=>n+1 - (intOf s7).toNat)
   case atStart=>exact ⟨0,c,by omega,by omega,by simp;omega,int_eq (by simp),rfl,by simp,rfl⟩
   case round=>
    obtain ⟨q,v,hq,hqT,hv,rfl,rfl,hcv,hwq⟩:=hrel
    have hwq:=hwq.symm
    subst hwq
    have HCV:=show Hid _ from hcv
    clear hcv
    have hM:64 ^ q<=262144:=by
     have:=Nat.pow_le_pow_right (n:=64) (by decide) (by omega:q<=3)
     simpa using this
    have HM1:Hid (64 ^ (q+1)=64 * 64 ^ q):=by show _=_;rw [Nat.pow_succ];omega
    have HVM:=show Hid _ from hv
    have hv2:v < 8388608:=by omega
    clear hv hM
    by_cases hqn:q < n
    ·have hqi:(q:Int)+1<=(n:Int):=by omega
     have htn:((j:Int)+((q:Int)+1)).toNat=j+1+q:=by omega
     by_cases hend:j+1+q < l.length
     rotate_left
     ·have HF:Hid (P=false):=by
       show _=_
       rw [HPN.out,HCV.out,show n - q=(n - q - 1)+1 by omega,Hm.contv_end (by omega)]
      have hendi:(l.length:Int)<=(j:Int)+((q:Int)+1):=by omega
      go_wp2
      go_ret
      exact ⟨by rw [HF.out];rfl,rfl⟩
     have hendi:¬ (l.length:Int)<=(j:Int)+((q:Int)+1):=by omega
     have hendj:(j:Int)+((q:Int)+1) < (l.length:Int):=by omega
     obtain ⟨_,hTq⟩:=HTG.out q (by omega)
     have hst:=Hm.contv_cons (n:=n - q - 1) (t:=T) (k:=q) (by omega) v
     rw [hTq] at hst
     have HST:=show Hid _ from hst
     have hx64:wrap64 (l[j+1+q].toNat:Int)=(l[j+1+q].toNat:Int):=by have:=l[j+1+q].toNat_lt;unfold wrap64;omega
     have hx256:(l[j+1+q].toNat:Int) < 256:=by have:=l[j+1+q].toNat_lt;omega
     clear hst hTq
     by_cases hb:l[j+1+q].toNat < 128∨191 < l[j+1+q].toNat
     ·have HF:Hid (P=false):=by
       show _=_
       rw [HPN.out,HCV.out,show n - q=(n - q - 1)+1 by omega,HST.out,if_pos hb]
      have hcc:(l[j+1+q].toNat:Int) < 128∨(¬ (l[j+1+q].toNat:Int) < 128/\(191:Int) < (l[j+1+q].toNat:Int)):=by omega
      clear hb
      rcases hcc with d1 | ⟨d1,d2⟩
      all_goals (
       go_wp2
       go_ret
       exact ⟨by rw [HF.out];rfl,rfl⟩)
     ·have HCN:Hid (Hm.contv n T c=Hm.contv (n - (q+1)) (T.drop (q+1)) (64 * v+l[j+1+q].toNat - 128)):=by
       show _=_
       rw [HCV.out,show n - q=(n - q - 1)+1 by omega,HST.out,if_neg hb,show n - q - 1=n - (q+1) by omega]
      have d1:¬ (l[j+1+q].toNat:Int) < 128:=by omega
      have d2:¬ (191:Int) < (l[j+1+q].toNat:Int):=by omega
      clear hb
      go_wp2
      go_roundw
      case rel=>exact ⟨q+1,64 * v+l[j+1+q].toNat - 128,by omega,by omega,by have:=HM1.out;have:=HVM.out;omega,int_eq (by simp),int_eq (by omega),HCN.out,by first | rfl | trivial⟩
      case measure=>simp [intOf];omega
    ·have hqi:¬ (q:Int)+1<=(n:Int):=by omega
     have HVS:Hid (Hm.contv n T c=some v):=by
      show _=_
      rw [HCV.out,show n - q=0 by omega,Hm.contv]
     have hqe:q=n:=by omega
     by_cases hrb:Hm.runeBad least v=true
     ·have HF:Hid (P=false):=by
       show _=_
       rw [HPN.out,HVS.out]
       dsimp only
       rw [if_pos hrb]
      have hrb2:v < least∨1114111 < v∨(55296<=v/\v<=57343):=by
       simpa [Hm.runeBad,or_assoc] using hrb
      have hcc:(v:Int) < (least:Int)∨(¬ (v:Int) < (least:Int)/\(1114111:Int) < (v:Int))∨(¬ (v:Int) < (least:Int)/\¬ (1114111:Int) < (v:Int)/\(55296:Int)<=(v:Int)/\(v:Int)<=57343):=by omega
      clear hrb hrb2
      rcases hcc with d1 | ⟨d1,d2⟩ | ⟨d1,d2,d3,d4⟩
      all_goals (
       go_wp2
       go_ret
       exact ⟨by rw [HF.out];rfl,rfl⟩)
     ·have HF:Hid (P=Hm.plain (l.drop (j+n+1))):=by
       show _=_
       rw [HPN.out,HVS.out]
       dsimp only
       rw [if_neg hrb,HTD.out]
      have hrb2:¬ (v < least∨1114111 < v∨(55296<=v/\v<=57343)):=by
       simpa [Hm.runeBad,or_assoc] using hrb
      have d1:¬ (v:Int) < (least:Int):=by omega
      have d2:¬ (1114111:Int) < (v:Int):=by omega
      have hcc:¬ (55296:Int)<=(v:Int)∨((55296:Int)<=(v:Int)/\¬ (v:Int)<=57343):=by omega
      clear hrb hrb2
      rcases hcc with d3 | ⟨d3,d4⟩
      all_goals (
       go_wp2
       go_roundw
       case rel=>exact ⟨j+n+1,by omega,int_eq (by simp),HF.out,by first | rfl | trivial⟩
       case measure=>simp [intOf];omega)
end Go.Proofs.YtdlhbmncbmconaaGreatDoor

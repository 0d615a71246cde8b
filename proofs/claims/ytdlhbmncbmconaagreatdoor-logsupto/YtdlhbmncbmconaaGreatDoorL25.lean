/- Pressed by program out of Co. -/
import Derived.Test.YtdlhbmncbmconaaGreatDoorL24
import Derived.Test.YtdlhbmncbmconaaGreatDoorL20
import Derived.Test.YtdlhbmncbmconaaGreatDoorL09
import Derived.Deep.DeepCutAuto
import Derived.Deep.CutBlock
namespace Go.Proofs.YtdlhbmncbmconaaGreatDoor
open Go.RowKit Go.Sort
attribute [local go_sem] app_mk rcut rbyte
theorem rword_neg {l:List UInt8} {a:Nat} (h:Hm.nrun l a=0∨12 < Hm.nrun l a):Hm.rword l a=-1:=by
 unfold Hm.rword
 exact if_pos h
theorem rword_pos {l:List UInt8} {a:Nat} (h:¬ (Hm.nrun l a=0∨12 < Hm.nrun l a)):Hm.rword l a=(a:Int)+(Hm.nrun l a:Int):=by
 unfold Hm.rword
 exact (if_neg h).trans (by show ((a+Hm.nrun l a:Nat):Int)=_;omega)
set_option maxRecDepth 20000 in
set_option maxHeartbeats 4000000 in
theorem rData_any (l:List UInt8) (hl:l.length<=4000000000) (w:World):Calls Tryz.prog 164 #[.string ⟨l.toArray⟩] w fun e w'=>e=.returned (.int .i64 (Hm.rdata l))/\Below w.heap.size w w':=by
 obtain ⟨N,hN⟩:∃ N,Hm.rdata l=N:=⟨_,rfl⟩
 rw [hN]
 have HN:=show Hid _ from hN
 clear hN
 have WO:Hid (∀ a:Nat,a<=l.length->∀ w,Calls Tryz.prog 197 #[.string ⟨l.toArray⟩,.int .i64 a] w fun e w'=>e=.returned (.int .i64 (Hm.rword l a))/\w'=w):=fun a ha w=>rword_any l (by omega) a ha w
 have CL:Hid (∀ i:Nat,i<=l.length->∀ w,Calls Tryz.prog 157 #[.string ⟨(l.take i).toArray⟩] w fun e w'=>e=.returned (.bool (Hm.plain (l.take i)))/\w'=w):=fun i hi w=>rClean_any (l.take i) (by rw [List.length_take];omega) w
 obtain ⟨i0,hi,hz0,hz1,hz2'⟩:=info_parts info_str
 go_enter Tryz.func164,Tryz.ntmps164
 go_wp2
 go_loopw [3,4] (fun v s4 wr=>∃ (i:Nat) (names:List (List UInt8)),s4=.int .i64 i/\Hm.DataI l i names/\wr.ownsRow w.heap.size 9 1 v names.length (names.map strV)/\Below w.heap.size w wr) (fun _ s4 _=>l.length - (intOf s4).toNat)
 case atStart=>exact ⟨0,[],rfl,Hm.dataI_start l,World.ownsRow_nil _ _ _ _,Below.refl _ _⟩
 case round=>
  obtain ⟨i,names,rfl,hD,hown,hB⟩:=hrel
  have hile:=hD.le
  have hcnt:=hD.count
  have HD:=show Hid _ from hD
  have HO:Hid (wr.ownsRow w.heap.size 9 1 u3 names.length (names.map strV)):=hown
  have HB:=show Hid _ from hB
  clear hD hown hB
  by_cases h91:∃ h:i < l.length,l[i].toNat=91
  case neg=>
   have HE:Hid (N=if Hm.plain (l.take i)=true then i else 0):=by show _=_;rw [<-HN.out];exact Hm.data_end HD.out h91
   have CLI:=show Hid _ from CL.out i hile
   generalize Hm.plain (l.take i)=pl at HE CLI
   by_cases hend:i < l.length
   ·have c0:(i:Int) < (l.length:Int):=by omega
    have c1:((l[i].toNat:Int) == 91)=false:=beq_eq_false_iff_ne.2 (fun e=>h91 ⟨hend,by omega⟩)
    clear h91 hcnt
    go_wp2_with fail
    refine (CLI.out _).mono ?_
    rintro e w1 ⟨rfl,hw1⟩
    have hw1:=hw1.symm
    subst hw1
    cases pl
    ·go_wp2
     go_ret
     exact ⟨by rw [HE.out];rfl,HB.out⟩
    ·go_wp2
     go_ret
     exact ⟨by rw [HE.out];rfl,HB.out⟩
   ·have c0:¬ (i:Int) < (l.length:Int):=by omega
    clear h91 hcnt
    go_wp2_with fail
    refine (CLI.out _).mono ?_
    rintro e w1 ⟨rfl,hw1⟩
    have hw1:=hw1.symm
    subst hw1
    cases pl
    ·go_wp2
     go_ret
     exact ⟨by rw [HE.out];rfl,HB.out⟩
    ·go_wp2
     go_ret
     exact ⟨by rw [HE.out];rfl,HB.out⟩
  have H91:=show Hid _ from h91
  obtain ⟨hend,h91c⟩:=h91
  have c0:(i:Int) < (l.length:Int):=by omega
  have c1:((l[i].toNat:Int) == 91)=true:=beq_iff_eq.2 (by omega)
  clear h91c
  have WOI:Hid (∀ w,Calls Tryz.prog 197 #[.string ⟨l.toArray⟩,.int .i64 ((i:Int)+1)] w fun e w'=>e=.returned (.int .i64 (Hm.rword l (i+1)))/\w'=w):=fun w=>by
   have:=WO.out (i+1) (by omega) w
   have e:((i+1:Nat):Int)=(i:Int)+1:=by omega
   rw [e] at this
   exact this
  by_cases hR:Hm.nrun l (i+1)=0∨12 < Hm.nrun l (i+1)
  ·have HE:Hid (N=0):=by show _=_;rw [<-HN.out];exact Hm.data_bad HD.out H91.out (Hm.elem_word hend hR)
   rw [rword_neg hR] at WOI
   clear hR
   go_wp2_with fail
   refine (WOI.out _).mono ?_
   rintro e w1 ⟨rfl,hw1⟩
   have hw1:=hw1.symm
   subst hw1
   go_wp2
   go_ret
   exact ⟨by rw [HE.out];rfl,HB.out⟩
  rw [rword_pos hR] at WOI
  have HR:=show Hid _ from hR
  have hRl:=Hm.nrun_le (l:=l) (a:=i+1) (by omega)
  have hR12:Hm.nrun l (i+1)<=12:=by omega
  have hR1:1<=Hm.nrun l (i+1):=by omega
  obtain ⟨R,hRR⟩:∃ R,Hm.nrun l (i+1)=R:=⟨_,rfl⟩
  rw [hRR] at WOI hRl hR12 hR1
  have HRR:=show Hid _ from hRR
  clear hR hRR
  obtain ⟨nm,hnm⟩:∃ nm,(l.drop (i+1)).take R=nm:=⟨_,rfl⟩
  have HNM:=show Hid _ from hnm
  have hcut1:(l.drop (i+1)).take (i+1+R - (i+1))=nm:=by rw [show i+1+R - (i+1)=R by omega];exact hnm
  clear hnm
  have d0:(i:Int)+1+(R:Int)<=(l.length:Int):=by omega
  have d1:((i:Int)+1+(R:Int)).toNat=i+1+R:=by omega
  go_wp2_with fail
  refine (WOI.out _).mono ?_
  rintro e w1 ⟨rfl,hw1⟩
  have hw1:=hw1.symm
  subst hw1
  have d2:¬ (i:Int)+1+(R:Int) < 0:=by omega
  go_upto_block 2 with fail
  rw [HNM.out]
  go_cut [7] (fun _ wc=>nm ∉ names/\wc=wr)
  case first=>
   have HDUP:Hid (nm ∈ names->N=0):=fun h=>by
    rw [<-HN.out]
    exact Hm.data_dup HD.out H91.out HR.out (by rw [HRR.out,HNM.out];exact h)
   rcases HO.out.2 with ⟨hnil,h0⟩ | ⟨g,cap,cur,hv,hg⟩
   ·have hnn:names=[]:=List.eq_nil_of_length_eq_zero h0
    subst hnn
    clear HO
    subst hnil
    go_wp2
    go_loopw [7] (fun s7 wq=>s7=.int .i64 0/\wq=wr) (fun _ _=>0)
    case atStart=>exact ⟨rfl,rfl⟩
    case round=>
     obtain ⟨rfl,hwq⟩:=hrel
     have hwq:=hwq.symm
     subst hwq
     go_wp2
     go_meet
     case rel=>exact ⟨by simp,rfl⟩
   ·rw [hv] at HO
    have HCE:Hid (∀ (k:Nat) x,names[k]?=some x->wr.cell? ⟨g,k,none⟩=some (.string ⟨x.toArray⟩)):=fun k x hx=>own_cells HO.out k ⟨x.toArray⟩ (by rw [List.getElem?_map,hx];rfl)
    clear hg HO
    subst hv
    go_wp2
    go_loopw [7] (fun s7 wq=>∃ k:Nat,k<=names.length/\s7=.int .i64 k/\nm ∉ names.take k/\wq=wr) (fun s7 _=>names.length - (intOf s7).toNat)
    case atStart=>exact ⟨0,Nat.zero_le _,rfl,by simp,rfl⟩
    case round=>
     obtain ⟨k,hk,rfl,hno,hwq⟩:=hrel
     have hwq:=hwq.symm
     subst hwq
     have HNO:=show Hid _ from hno
     clear hno
     by_cases hlt:k < names.length
     ·have hki:(k:Int) < (names.length:Int):=by omega
      obtain ⟨x,hx⟩:∃ x,names[k]?=some x:=⟨_,List.getElem?_eq_getElem hlt⟩
      have hce:=HCE.out k x hx
      have HX:=show Hid _ from hx
      clear hx
      by_cases he:x=nm
      ·have HE:Hid (N=0):=HDUP.out (by rw [<-he];exact List.mem_of_getElem? HX.out)
       subst he
       go_wp2
       go_ret
       exact ⟨by rw [HE.out];rfl,HB.out⟩
      ·have heb:(x == nm)=false:=beq_eq_false_iff_ne.2 he
       have HNX:Hid (nm ∉ names.take (k+1)):=by
        show ¬ _
        rw [List.take_add_one,HX.out]
        intro hm
        rcases List.mem_append.1 hm with hm | hm
        ·exact HNO.out hm
        ·simp at hm;exact he hm.symm
       clear he
       go_wp2
       go_roundw
       case rel=>exact ⟨k+1,by omega,int_eq (by simp),HNX.out,by first | rfl | trivial⟩
       case measure=>simp [intOf];omega
     ·have hki:¬ (k:Int) < (names.length:Int):=by omega
      have HNX:Hid (nm ∉ names):=by
       have:=HNO.out
       rw [List.take_of_length_le (by omega)] at this
       exact this
      go_wp2
      go_meet
      case rel=>exact ⟨HNX.out,rfl⟩
  case rest=>
   obtain ⟨hnot,hwc⟩:=hcut
   have hwc:=hwc.symm
   subst hwc
   have HNOT:=show Hid _ from hnot
   clear hnot
   go_upto_block 4 with (at_builtin;refine wpList_append_own _ rfl _ _ 42 rfl w.heap.size 9 i0 (.string ByteArray.empty) 1 16 Tryz.underlying42 hi hz0 hz1 hz2' rfl (by decide) _ _ _ rfl (HO.out.alloc _) ⟨wr.heap.size,0,none⟩ 1 1 [.string ⟨nm.toArray⟩] rfl rfl (cell_one_new _ _ _) (fun x hx=>by simp at hx;subst hx;rfl) (by unfold maxLen;omega) (by omega) (by have:=HB.out.size;simp;omega) ?_;intro v' w5 hown' hgrow hnil)
   have HO5:Hid (w5.ownsRow w.heap.size 9 1 v' (names ++ [nm]).length ((names ++ [nm]).map strV)):=by
    show World.ownsRow _ _ _ _ _ _ _
    rw [List.map_append,List.length_append]
    exact hown'
   have HB5:Hid (Below w.heap.size w w5):=(HB.out.alloc HB.out.size _).grown hgrow (by have:=HB.out.size;simp;omega) (fun q hq=>by have:=HO.out.lt q hq;omega)
   clear hown' hgrow hnil HO
   have WOJ:Hid (∀ j:Nat,j < l.length->∀ w,Calls Tryz.prog 197 #[.string ⟨l.toArray⟩,.int .i64 ((j:Int)+1)] w fun e w'=>e=.returned (.int .i64 (Hm.rword l (j+1)))/\w'=w):=fun j hj w=>by
    have:=WO.out (j+1) (by omega) w
    have e:((j+1:Nat):Int)=(j:Int)+1:=by omega
    rw [e] at this
    exact this
   have HBAD:Hid (Hm.pairs (l.length+1) (l.drop (i+1+R))=none->N=0):=fun h=>by
    rw [<-HN.out]
    exact Hm.data_bad HD.out H91.out (Hm.elem_none H91.out HR.out (by rw [HRR.out];exact h))
   clear WO WOI
   go_cut [4] (fun s4 wc=>∃ j:Nat,s4=.int .i64 j/\Hm.PairI l (i+1+R) j/\(¬ ∃ h:j < l.length,l[j].toNat=32)/\wc=w5)
   case first=>
    clear c1 d0 hcut1 CL HD HRR HNM HNOT HR H91 HB HN hcnt hi hz0 hz1 hz2' d2
    go_wp2
    clear d1
    go_loopw [4] (fun s4 wq=>∃ j:Nat,s4=.int .i64 j/\Hm.PairI l (i+1+R) j/\wq=w5) (fun s4 _=>l.length - (intOf s4).toNat)
    case atStart=>exact ⟨i+1+R,int_eq (by omega),Hm.pairI_start hRl,rfl⟩
    case round=>
     obtain ⟨j,rfl,hPI,hwq⟩:=hrel
     have hwq:=hwq.symm
     subst hwq
     have hjl:=hPI.2.1
     have HPI:Hid (Hm.PairI l (i+1+R) j):=hPI
     clear hPI
     by_cases h32:∃ h:j < l.length,l[j].toNat=32
     case neg=>
      have H32:=show Hid _ from h32
      by_cases hje:j < l.length
      ·have e0:(j:Int) < (l.length:Int):=by omega
       have e1:((l[j].toNat:Int) == 32)=false:=beq_eq_false_iff_ne.2 (fun e=>h32 ⟨hje,by omega⟩)
       clear h32
       go_wp2
       go_meet
       case rel=>exact ⟨j,rfl,HPI.out,H32.out,rfl⟩
      ·have e0:¬ (j:Int) < (l.length:Int):=by omega
       clear h32
       go_wp2
       go_meet
       case rel=>exact ⟨j,rfl,HPI.out,H32.out,rfl⟩
     have H32:=show Hid _ from h32
     obtain ⟨hje,h32c⟩:=h32
     have e0:(j:Int) < (l.length:Int):=by omega
     have e1:((l[j].toNat:Int) == 32)=true:=beq_iff_eq.2 (by omega)
     clear h32c
     have HPB:Hid (Hm.pair (l.drop (j+1))=0->N=0):=fun h=>HBAD.out (Hm.pairI_bad HPI.out H32.out h)
     have WJ:=show Hid _ from WOJ.out j hje
     by_cases hS:Hm.nrun l (j+1)=0∨12 < Hm.nrun l (j+1)
     ·have HE:Hid (N=0):=HPB.out (Hm.pair_word (by omega) hS)
      rw [rword_neg hS] at WJ
      clear hS
      go_wp2_with fail
      refine (WJ.out _).mono ?_
      rintro e w1 ⟨rfl,hw1⟩
      have hw1:=hw1.symm
      subst hw1
      go_wp2
      go_ret
      exact ⟨by rw [HE.out];rfl,HB5.out⟩
     rw [rword_pos hS] at WJ
     have HS:=show Hid _ from hS
     have hSl:=Hm.nrun_le (l:=l) (a:=j+1) (by omega)
     have hS1:1<=Hm.nrun l (j+1):=by omega
     obtain ⟨S,hSS⟩:∃ S,Hm.nrun l (j+1)=S:=⟨_,rfl⟩
     have HPE:Hid ((¬ ∃ h:j+1+S+1 < l.length,l[j+1+S].toNat=61/\l[j+1+S+1].toNat=34)->N=0):=fun h=>HPB.out (Hm.pair_eqS hSS HS.out h)
     have HPN:Hid ((∃ h:j+1+S+1 < l.length,l[j+1+S].toNat=61/\l[j+1+S+1].toNat=34)->Hm.value (l.drop (j+1+S+2))=none->N=0):=fun h hv=>HPB.out (Hm.pair_noneS hSS HS.out h hv)
     have HPS:Hid ((∃ h:j+1+S+1 < l.length,l[j+1+S].toNat=61/\l[j+1+S+1].toNat=34)->∀ v,Hm.value (l.drop (j+1+S+2))=some v->Hm.PairI l (i+1+R) (j+1+(S+2+v+1))):=fun h v hv=>Hm.pairI_step HPI.out H32.out (Hm.pair_someS hSS HS.out h hv) (by omega)
     rw [hSS] at WJ hSl hS1
     clear hS HS hSS
     have f0:((j:Int)+1+(S:Int)).toNat=j+1+S:=by omega
     have f1:((j:Int)+1+(S:Int)+1).toNat=j+1+S+1:=by omega
     have f2:¬ (j:Int)+1+(S:Int) < 0:=by omega
     by_cases g0:j+1+S+1 < l.length
     case neg=>
      have HE:Hid (N=0):=HPE.out (fun ⟨h,_⟩=>g0 h)
      have g0i:(l.length:Int)<=(j:Int)+1+(S:Int)+1:=by omega
      go_wp2_with fail
      refine (WJ.out _).mono ?_
      rintro e w1 ⟨rfl,hw1⟩
      have hw1:=hw1.symm
      subst hw1
      go_wp2
      go_ret
      exact ⟨by rw [HE.out];rfl,HB5.out⟩
     have g0i:¬ (l.length:Int)<=(j:Int)+1+(S:Int)+1:=by omega
     by_cases g1:l[j+1+S].toNat=61
     case neg=>
      have HE:Hid (N=0):=HPE.out (fun ⟨_,h,_⟩=>g1 h)
      have g1b:((l[j+1+S].toNat:Int) != 61)=true:=by simp;omega
      clear g1
      go_wp2_with fail
      refine (WJ.out _).mono ?_
      rintro e w1 ⟨rfl,hw1⟩
      have hw1:=hw1.symm
      subst hw1
      go_wp2
      go_ret
      exact ⟨by rw [HE.out];rfl,HB5.out⟩
     have g1b:((l[j+1+S].toNat:Int) != 61)=false:=by simp;omega
     by_cases g2:l[j+1+S+1].toNat=34
     case neg=>
      have HE:Hid (N=0):=HPE.out (fun ⟨_,_,h⟩=>g2 h)
      have g2b:((l[j+1+S+1].toNat:Int) != 34)=true:=by simp;omega
      clear g1 g2
      go_wp2_with fail
      refine (WJ.out _).mono ?_
      rintro e w1 ⟨rfl,hw1⟩
      have hw1:=hw1.symm
      subst hw1
      go_wp2
      go_ret
      exact ⟨by rw [HE.out];rfl,HB5.out⟩
     have g2b:((l[j+1+S+1].toNat:Int) != 34)=false:=by simp;omega
     have HPN2:=show Hid _ from HPN.out ⟨g0,g1,g2⟩
     have HPS2:=show Hid _ from HPS.out ⟨g0,g1,g2⟩
     clear g1 g2 HPE HPN HPS HPB H32 HPI
     obtain ⟨a,ha⟩:∃ a,j+1+S+2=a:=⟨_,rfl⟩
     rw [ha] at HPN2 HPS2
     have hal:a<=l.length:=by omega
     go_wp2_with fail
     refine (WJ.out _).mono ?_
     rintro e w1 ⟨rfl,hw1⟩
     have hw1:=hw1.symm
     subst hw1
     go_upto_block 6 with fail
     try clear WJ
     try clear f2
     try clear g1b
     try clear g2b
     try clear f1
     try clear f0
     try clear e1
     try clear e0
     go_cut [4] (fun s4 wc=>∃ v:Nat,s4=.int .i64 v/\v<=l.length/\Hm.ValI l a v/\(∀ h:v < l.length,l[v].toNat=34)/\wc=w5)
     case first=>
      go_wp2
      go_loopw [4] (fun s4 wq=>∃ v:Nat,s4=.int .i64 v/\v<=l.length/\Hm.ValI l a v/\wq=w5) (fun s4 _=>l.length - (intOf s4).toNat)
      case atStart=>exact ⟨a,int_eq (by omega),hal,Hm.val_start l a,rfl⟩
      case round=>
       obtain ⟨v,rfl,hvl,hVI,hwq⟩:=hrel
       have hwq:=hwq.symm
       subst hwq
       have HVI:Hid (Hm.ValI l a v):=hVI
       clear hVI
       by_cases k0:v < l.length
       case neg=>
        have k0i:¬ (v:Int) < (l.length:Int):=by omega
        go_wp2
        go_meet
        case rel=>exact ⟨v,rfl,hvl,HVI.out,fun h=>absurd h k0,rfl⟩
       have k0i:(v:Int) < (l.length:Int):=by omega
       by_cases k1:l[v].toNat=34
       ·have k1b:((l[v].toNat:Int) != 34)=false:=by simp;omega
        have HK1:=show Hid _ from k1
        clear k1
        go_wp2
        go_meet
        case rel=>exact ⟨v,rfl,hvl,HVI.out,fun _=>HK1.out,rfl⟩
       have k1b:((l[v].toNat:Int) != 34)=true:=by simp;omega
       by_cases k2:l[v].toNat=93
       ·have k2b:((l[v].toNat:Int) == 93)=true:=by simp;omega
        have HE:Hid (N=0):=HPN2.out (Hm.val_shut HVI.out k0 k2)
        clear k1 k2
        go_wp2
        go_ret
        exact ⟨by rw [HE.out];rfl,HB5.out⟩
       have k2b:((l[v].toNat:Int) == 93)=false:=by simp;omega
       by_cases k3:l[v].toNat=92
       case neg=>
        have k3b:((l[v].toNat:Int) == 92)=false:=by simp;omega
        have HN1:Hid (Hm.ValI l a (v+1)):=Hm.val_next HVI.out k0 k1 k2 k3
        clear k1 k2 k3
        go_wp2
        go_roundw
        case rel=>exact ⟨v+1,int_eq (by simp),by omega,HN1.out,by first | rfl | trivial⟩
        case measure=>simp [intOf];omega
       have k3b:((l[v].toNat:Int) == 92)=true:=by simp;omega
       by_cases k4:v+1 < l.length
       case neg=>
        have k4i:(l.length:Int)<=(v:Int)+1:=by omega
        have HE:Hid (N=0):=HPN2.out (Hm.val_esc0 HVI.out k0 k3 (fun ⟨h,_⟩=>k4 h))
        clear k1 k2 k3
        go_wp2
        go_ret
        exact ⟨by rw [HE.out];rfl,HB5.out⟩
       have k4i:¬ (l.length:Int)<=(v:Int)+1:=by omega
       have HN2:Hid (Hm.esc l[v+1]=true->Hm.ValI l a (v+2)):=Hm.val_esc HVI.out k4 k3
       have HNB:Hid (Hm.esc l[v+1]=false->N=0):=fun h=>HPN2.out (Hm.val_esc0 HVI.out k0 k3 (fun ⟨_,h2⟩=>by rw [h] at h2;cases h2))
       clear k1 k2 k3
       by_cases m1:l[v+1].toNat=34
       ·have m1b:((l[v+1].toNat:Int) != 34)=false:=by simp;omega
        have HN3:Hid (Hm.ValI l a (v+2)):=HN2.out (by simp [Hm.esc,m1])
        clear m1
        go_wp2
        go_roundw
        case rel=>exact ⟨v+2,int_eq (by simp;omega),by omega,HN3.out,by first | rfl | trivial⟩
        case measure=>simp [intOf];omega
       have m1b:((l[v+1].toNat:Int) != 34)=true:=by simp;omega
       by_cases m2:l[v+1].toNat=92
       ·have m2b:((l[v+1].toNat:Int) != 92)=false:=by simp;omega
        have HN3:Hid (Hm.ValI l a (v+2)):=HN2.out (by simp [Hm.esc,m2])
        clear m1 m2
        go_wp2
        go_roundw
        case rel=>exact ⟨v+2,int_eq (by simp;omega),by omega,HN3.out,by first | rfl | trivial⟩
        case measure=>simp [intOf];omega
       have m2b:((l[v+1].toNat:Int) != 92)=true:=by simp;omega
       by_cases m3:l[v+1].toNat=93
       ·have m3b:((l[v+1].toNat:Int) != 93)=false:=by simp;omega
        have HN3:Hid (Hm.ValI l a (v+2)):=HN2.out (by simp [Hm.esc,m3])
        clear m1 m2 m3
        go_wp2
        go_roundw
        case rel=>exact ⟨v+2,int_eq (by simp;omega),by omega,HN3.out,by first | rfl | trivial⟩
        case measure=>simp [intOf];omega
       ·have m3b:((l[v+1].toNat:Int) != 93)=true:=by simp;omega
        have HE:Hid (N=0):=HNB.out (by simp [Hm.esc,m1,m2,m3])
        clear m1 m2 m3
        go_wp2
        go_ret
        exact ⟨by rw [HE.out];rfl,HB5.out⟩
     case rest=>
      obtain ⟨v,rfl,hvl,hVI,hq,hwc⟩:=hcut
      have hwc:=hwc.symm
      subst hwc
      have hav:=hVI.1
      have HVI:Hid (Hm.ValI l a v):=hVI
      have HQ:=show Hid _ from hq
      clear hVI hq
      by_cases k0:v < l.length
      ·have HPX:Hid (Hm.PairI l (i+1+R) (v+1)):=by
        have:=HPS2.out _ (Hm.val_quote HVI.out k0 (HQ.out k0))
        rw [show j+1+(S+2+(v - a)+1)=v+1 by omega] at this
        exact this
       have k0i:¬ (l.length:Int)<=(v:Int):=by omega
       clear HPS2 HPN2 HVI HQ
       go_wp2
       go_roundw
       case rel=>exact ⟨v+1,int_eq (by simp),HPX.out,by first | rfl | trivial⟩
       case measure=>simp [intOf];omega
      ·have HE:Hid (N=0):=HPN2.out (Hm.val_end HVI.out (by omega))
       have k0i:(l.length:Int)<=(v:Int):=by omega
       clear HPS2 HPN2 HVI HQ
       go_wp2
       go_ret
       exact ⟨by rw [HE.out];rfl,HB5.out⟩
   case rest=>
    obtain ⟨j,rfl,hPI,hn32,hwc⟩:=hcut
    have hwc:=hwc.symm
    subst hwc
    have hjl:=hPI.2.1
    have hij:=hPI.1
    have HPK:Hid (Hm.pairs (l.length+1) (l.drop (i+1+R))=some (j - (i+1+R))):=Hm.pairI_end hPI hn32
    clear hPI hn32 c1 d0 hcut1 CL hcnt hi hz0 hz1 hz2' d2 HBAD
    have HOP:Hid ((¬ ∃ h:j < l.length,l[j].toNat=93)->N=0):=fun h=>by
     have he:i+1+R+(j - (i+1+R))=j:=by omega
     rw [<-HN.out]
     refine Hm.data_bad HD.out H91.out (Hm.elem_openS HRR.out H91.out HR.out HPK.out ?_)
     simp only [he]
     exact h
    have HST:Hid ((∃ h:j < l.length,l[j].toNat=93)->Hm.DataI l (j+1) (names ++ [nm])):=fun h=>by
     have he:i+1+R+(j - (i+1+R))=j:=by omega
     have h1:=Hm.elem_okS HRR.out H91.out HR.out HPK.out (by simp only [he];exact h)
     rw [HNM.out] at h1
     have h2:=Hm.data_step HD.out h1 (by omega) HNOT.out
     rw [show i+(1+R+(j - (i+1+R))+1)=j+1 by omega] at h2
     exact h2
    clear HD HRR HNM HNOT HR H91 HB HN HPK WOJ
    by_cases k0:j < l.length
    case neg=>
     have k0i:(l.length:Int)<=(j:Int):=by omega
     have HE:Hid (N=0):=HOP.out (fun ⟨h,_⟩=>k0 h)
     go_wp2
     go_ret
     exact ⟨by rw [HE.out];rfl,HB5.out⟩
    have k0i:¬ (l.length:Int)<=(j:Int):=by omega
    by_cases k1:l[j].toNat=93
    case neg=>
     have k1b:((l[j].toNat:Int) != 93)=true:=by simp;omega
     have HE:Hid (N=0):=HOP.out (fun ⟨_,h⟩=>k1 h)
     clear k1
     go_wp2
     go_ret
     exact ⟨by rw [HE.out];rfl,HB5.out⟩
    have k1b:((l[j].toNat:Int) != 93)=false:=by simp;omega
    have HNX:Hid (Hm.DataI l (j+1) (names ++ [nm])):=HST.out ⟨k0,k1⟩
    clear k1 HST HOP
    go_wp2
    go_roundw
    case rel=>exact ⟨j+1,names ++ [nm],int_eq (by simp),HNX.out,HO5.out,HB5.out⟩
    case measure=>simp [intOf];omega
end Go.Proofs.YtdlhbmncbmconaaGreatDoor

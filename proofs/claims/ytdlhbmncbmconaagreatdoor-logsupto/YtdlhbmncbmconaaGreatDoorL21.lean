/- Pressed by program out of Ce Cf Cg Ch Ci. -/
import Derived.Test.YtdlhbmncbmconaaGreatDoorL17
import Derived.Test.YtdlhbmncbmconaaGreatDoorL01
import Derived.Deep.DeepCutAuto
import Derived.Deep.CutBlock
namespace Go.Hm
theorem twe_all (p:UInt8->Bool):∀ (l:List UInt8),∀ c ∈ l.takeWhile p,p c=true
 | [],c,h=>by simp at h
 | a :: t,c,h=>by
  rw [List.takeWhile_cons] at h
  split at h
  ·next hp=>
   rcases List.mem_cons.1 h with h | h
   ·rw [h];exact hp
   ·exact twe_all p t c h
  ·simp at h
theorem twe_end (p:UInt8->Bool):∀ (l:List UInt8) (n:Nat),(l.takeWhile p).length=n->∀ h:n < l.length,p l[n]=false
 | [],n,_,h=>by simp at h
 | a :: t,n,hn,h=>by
  by_cases hp:p a=true
  ·rw [List.takeWhile_cons,if_pos hp,List.length_cons] at hn
   subst hn
   exact twe_end p t _ rfl (by simpa using h)
  ·rw [List.takeWhile_cons,if_neg hp,List.length_nil] at hn
   subst hn
   simpa using hp
theorem twe_len (p:UInt8->Bool) (l:List UInt8):(l.takeWhile p).length<=l.length:=by
 have:=(List.takeWhile_prefix (l:=l) p).length_le
 exact this
theorem run_at (p:UInt8->Bool) (l:List UInt8) (a T:Nat) (ha:a<=l.length) (hT:((l.drop a).takeWhile p).length=T) :
  a+T<=l.length/\(∀ j,j < T->∃ h:a+j < l.length,p l[a+j]=true)/\(∀ h:a+T < l.length,p l[a+T]=false):=by
 have hl:=twe_len p (l.drop a)
 rw [List.length_drop,hT] at hl
 refine ⟨by omega,fun j hj=>?_,fun h=>?_⟩
 ·have h1:a+j < l.length:=by omega
  refine ⟨h1,?_⟩
  have hp:(l.drop a).takeWhile p <+: l.drop a:=List.takeWhile_prefix p
  have hj':j < ((l.drop a).takeWhile p).length:=by omega
  have hg:((l.drop a).takeWhile p)[j]=l[a+j]:=by
   rw [List.IsPrefix.getElem hp hj',List.getElem_drop]
  rw [<-hg]
  exact twe_all p (l.drop a) _ (List.getElem_mem hj')
 ·have:=twe_end p (l.drop a) T hT (by rw [List.length_drop];omega)
  rwa [List.getElem_drop] at this
def rword (l:List UInt8) (a:Nat):Int:=if ((l.drop a).takeWhile nmb).length=0∨12 < ((l.drop a).takeWhile nmb).length then -1 else ((a+((l.drop a).takeWhile nmb).length:Nat):Int)
end Go.Hm
namespace Go.Proofs.YtdlhbmncbmconaaGreatDoor
open Go.RowKit Go.Sort
attribute [local go_sem] app_mk rcut rbyte
set_option maxRecDepth 20000 in
set_option maxHeartbeats 2000000 in
theorem rword_any (l:List UInt8) (hl:l.length<=1000000000000000) (a:Nat) (ha:a<=l.length) (w:World):Calls Tryz.prog 197 #[.string ⟨l.toArray⟩,.int .i64 a] w fun e w'=>e=.returned (.int .i64 (Hm.rword l a))/\w'=w:=by
 obtain ⟨T,hT⟩:∃ T,((l.drop a).takeWhile Hm.nmb).length=T:=⟨_,rfl⟩
 obtain ⟨hTl,hTi,hTe⟩:=Hm.run_at Hm.nmb l a T ha hT
 have HTI:=show Hid _ from hTi
 have HTE:=show Hid _ from hTe
 obtain ⟨V,hV⟩:∃ V,Hm.rword l a=V:=⟨_,rfl⟩
 rw [hV]
 unfold Hm.rword at hV
 rw [hT] at hV
 have HV:=show Hid _ from hV
 clear hT hTi hTe hV
 go_enter Tryz.func197,Tryz.ntmps197
 go_upto_block 0 with fail
 go_cut [5] (fun s5 wc=>s5=.int .i64 ((a:Int)+(T:Int))/\wc=w)
 case first=>
  go_wp2
  go_loopw [5] (fun s5 wr=>∃ j:Nat,j<=T/\s5=.int .i64 ((a:Int)+(j:Int))/\wr=w) (fun s5 _=>a+T - (intOf s5).toNat)
  case atStart=>exact ⟨0,Nat.zero_le _,int_eq (by simp),rfl⟩
  case round=>
   obtain ⟨j,hj,rfl,hwr⟩:=hrel
   have hwr:=hwr.symm
   subst hwr
   have htn:((a:Int)+(j:Int)).toNat=a+j:=by omega
   by_cases hlt:j < T
   ·obtain ⟨h1,hp⟩:=HTI.out j hlt
    have hp2:(33<=l[a+j].toNat/\l[a+j].toNat<=126)/\¬ l[a+j].toNat=61/\¬ l[a+j].toNat=93/\¬ l[a+j].toNat=34:=by
     simpa [Hm.nmb,Hm.vis,and_assoc] using hp
    have c0:(a:Int)+(j:Int) < (l.length:Int):=by omega
    have c1:(33:Int)<=(l[a+j].toNat:Int):=by omega
    have c2:(l[a+j].toNat:Int)<=126:=by omega
    have c3:((l[a+j].toNat:Int) != 61)=true:=by simp;omega
    have c4:((l[a+j].toNat:Int) != 93)=true:=by simp;omega
    have c5:((l[a+j].toNat:Int) != 34)=true:=by simp;omega
    clear hp hp2
    go_wp2
    go_roundw
    case rel=>exact ⟨j+1,by omega,int_eq (by simp;omega),by first | rfl | trivial⟩
    case measure=>simp [intOf];omega
   ·have hjT:j=T:=by omega
    subst hjT
    have hcc:(¬ (a:Int)+(j:Int) < (l.length:Int))∨∃ h:a+j < l.length,(¬ (33:Int)<=(l[a+j].toNat:Int))∨((33:Int)<=(l[a+j].toNat:Int)/\¬ (l[a+j].toNat:Int)<=126)∨(l[a+j].toNat:Int)=61∨(l[a+j].toNat:Int)=93∨(l[a+j].toNat:Int)=34:=by
     by_cases hend:a+j < l.length
     ·refine .inr ⟨hend,?_⟩
      have hf:=HTE.out hend
      have hn:¬ ((33<=l[a+j].toNat/\l[a+j].toNat<=126)/\¬ l[a+j].toNat=61/\¬ l[a+j].toNat=93/\¬ l[a+j].toNat=34):=by
       intro h
       have:Hm.nmb l[a+j]=true:=by simpa [Hm.nmb,Hm.vis,and_assoc] using h
       rw [this] at hf
       cases hf
      omega
     ·exact .inl (by omega)
    clear HTI HTE hlt hj
    rcases hcc with c0 | ⟨hend,c1 | ⟨c1,c2⟩ | c3 | c3 | c3⟩
    ·go_wp2
     go_meet
     case rel=>exact ⟨rfl,rfl⟩
    all_goals (
     have c0:(a:Int)+(j:Int) < (l.length:Int):=by omega
     go_wp2
     go_meet
     case rel=>exact ⟨rfl,rfl⟩)
 case rest=>
  obtain ⟨rfl,hwc⟩:=hcut
  have hwc:=hwc.symm
  subst hwc
  by_cases h0:T=0
  ·have HE:Hid (V=-1):=by show _=_;rw [<-HV.out,if_pos (.inl h0)]
   have h0b:((a:Int)+(T:Int) == (a:Int))=true:=by simp;omega
   have h0i:(a:Int)+(T:Int)=(a:Int):=by omega
   clear h0
   go_wp2
   go_ret
   exact ⟨by rw [HE.out];rfl,rfl⟩
  have h0b:((a:Int)+(T:Int) == (a:Int))=false:=by simp;omega
  have h0i:¬ (a:Int)+(T:Int)=(a:Int):=by omega
  by_cases h12:12 < T
  ·have HE:Hid (V=-1):=by show _=_;rw [<-HV.out,if_pos (.inr h12)]
   have h12i:(a:Int)+12 < (a:Int)+(T:Int):=by omega
   clear h0
   go_wp2
   go_ret
   exact ⟨by rw [HE.out];rfl,rfl⟩
  ·have HE:Hid (V=(a:Int)+(T:Int)):=by show _=_;rw [<-HV.out,if_neg (by omega)];omega
   have h12i:¬ (a:Int)+12 < (a:Int)+(T:Int):=by omega
   clear h0
   go_wp2
   go_ret
   exact ⟨by rw [HE.out];rfl,rfl⟩
end Go.Proofs.YtdlhbmncbmconaaGreatDoor
namespace Go.Hm
theorem pre_at (l:List UInt8) (a:Nat) (c:UInt8):Lib.hasPrefix (l.drop a) [c]=true ↔ ∃ h:a < l.length,l[a]=c:=by
 by_cases h:a < l.length
 ·rw [List.drop_eq_getElem_cons h]
  simp only [Lib.hasPrefix,List.isPrefixOf,Bool.and_true,beq_iff_eq]
  constructor
  ·intro e;exact ⟨h,e.symm⟩
  ·rintro ⟨_,e⟩;exact e.symm
 ·rw [List.drop_of_length_le (by omega)]
  simp [Lib.hasPrefix,h]
structure Acc (l:List UInt8) (n:Nat):Prop where
 dg:(rdigits l 1 n).2=true
 len:n+1 < l.length
 gt:l[n+1].toNat=62
 le:(rdigits l 1 n).1<=191
 zero:¬ (l[1]'(by omega)).toNat=48∨n=1
theorem acc_source {l:List UInt8} {n:Nat} (h0:∃ h:0 < l.length,l[0].toNat=60) (hn1:1<=n) (hn3:n<=3) (h:Acc l n):source l=((rdigits l 1 n).1,n+2):=by
 obtain ⟨h00,h0⟩:=h0
 obtain ⟨d1,d2,d3⟩:=rdigits_ok h.dg
 have hlen:=h.len
 have ha:ahead dig 3 (l.drop 1)=n:=by
  have hp:l.drop 1=(l.drop 1).take n ++ (l.drop 1).drop n:=(List.take_append_drop n _).symm
  have hl1:((l.drop 1).take n).length=n:=by rw [List.length_take,List.length_drop];omega
  rw [hp]
  have:=ahead_of (p:=dig) (b:=3) (a:=(l.drop 1).take n) (r:=(l.drop 1).drop n) (by omega) d2 (by
   right;right
   refine ⟨l[n+1],l.drop (n+2),?_,?_⟩
   ·rw [List.drop_drop,show 1+n=n+1 by omega,List.drop_eq_getElem_cons hlen]
   ·simp [dig,h.gt])
  rw [this,hl1]
 have e60:Lib.hasPrefix l [60]=true:=by
  have:=(pre_at l 0 60).2 ⟨h00,UInt8.toNat_inj.1 (by simpa using h0)⟩
  rwa [List.drop_zero] at this
 have e62:Lib.hasPrefix (l.drop (1+n)) [62]=true:=by
  rw [show 1+n=n+1 by omega]
  exact (pre_at l (n+1) 62).2 ⟨hlen,UInt8.toNat_inj.1 (by simpa using h.gt)⟩
 have g1:l.getD 1 0=l[1]'(by omega):=by rw [List.getD_eq_getElem?_getD,List.getElem?_eq_getElem (by omega)];rfl
 unfold source
 rw [ha,if_neg (by rw [e60];simp),if_neg (by rw [e62];simp;omega),if_neg (by
  rw [g1,<-d3]
  have h1:=h.zero
  have h2:=h.le
  omega),<-d3]
 congr 1
 omega
theorem source_acc {l:List UInt8} (hs:¬ (source l).2=0):(∃ h:0 < l.length,l[0].toNat=60)/\3<=l.length/\∃ n,1<=n/\n<=3/\Acc l n:=by
 unfold source at hs
 split at hs
 ·exact absurd rfl hs
 ·next c1=>
  split at hs
  ·exact absurd rfl hs
  ·next c2=>
   split at hs
   ·exact absurd rfl hs
   ·next c3=>
    have e60:Lib.hasPrefix (l.drop 0) [60]=true:=by rw [List.drop_zero];simpa using c1
    obtain ⟨h00,h0⟩:=(pre_at l 0 60).1 e60
    have hk:=ahead_le dig 3 (l.drop 1)
    have hd:=ahead_digits 3 (l.drop 1)
    generalize ahead dig 3 (l.drop 1)=k at c2 c3 hk hd
    have e62:Lib.hasPrefix (l.drop (1+k)) [62]=true:=by
     have:¬ Lib.hasPrefix (l.drop (1+k)) [62]=false:=fun e=>c2 (.inr e)
     simpa using this
    obtain ⟨h62,h63⟩:=(pre_at l (1+k) 62).1 e62
    have hk0:¬ k=0:=fun e=>c2 (.inl e)
    have hrd:=rdigits_of (l:=l) (a:=1) (n:=k) (by omega) (by omega) hd
    have g1:l.getD 1 0=l[1]'(by omega):=by rw [List.getD_eq_getElem?_getD,List.getElem?_eq_getElem (by omega)];rfl
    rw [g1] at c3
    refine ⟨⟨h00,by rw [h0];rfl⟩,by omega,k,by omega,hk.1,⟨by rw [hrd],by omega,?_,by rw [hrd];dsimp only;omega,by omega⟩⟩
    have:l[k+1]'(by omega)=l[1+k]:=by congr 1;omega
    rw [this,h63]
    rfl
end Go.Hm
namespace Go.Proofs.YtdlhbmncbmconaaGreatDoor
open Go.RowKit Go.Sort
attribute [local go_sem] app_mk rcut rbyte
def rsrcV (l:List UInt8):Value:=if (Hm.source l).2=0 then .tuple #[.int .i64 0,.int .i64 (-1)] else .tuple #[.int .i64 (Hm.source l).1,.int .i64 (Hm.source l).2]
theorem rsrc_acc {l:List UInt8} {n:Nat} (h0:∃ h:0 < l.length,l[0].toNat=60) (hn1:1<=n) (hn3:n<=3) (h:Hm.Acc l n):rsrcV l=.tuple #[.int .i64 (Hm.rdigits l 1 n).1,.int .i64 ((n:Int)+2)]:=by
 unfold rsrcV
 rw [Hm.acc_source h0 hn1 hn3 h,if_neg (by simp)]
 simp
theorem rsrc_none {l:List UInt8} (h:¬ ((∃ h:0 < l.length,l[0].toNat=60)/\3<=l.length/\∃ n,1<=n/\n<=3/\Hm.Acc l n)):rsrcV l=.tuple #[.int .i64 0,.int .i64 (-1)]:=by
 unfold rsrcV
 rw [if_pos (Classical.byContradiction fun h2=>h (Hm.source_acc h2))]
set_option maxRecDepth 20000 in
set_option maxHeartbeats 2000000 in
theorem rsource_any (l:List UInt8) (hl:l.length<=1000000000000000) (w:World):Calls Tryz.prog 155 #[.string ⟨l.toArray⟩] w fun e w'=>e=.returned (rsrcV l)/\w'=w:=by
 have hA0:=@rsrc_acc l
 have hN0:=@rsrc_none l
 obtain ⟨V,hV⟩:∃ V,rsrcV l=V:=⟨_,rfl⟩
 rw [hV] at hA0 hN0 ⊢
 clear hV
 have HA:=show Hid _ from @hA0
 have HN:=show Hid _ from hN0
 clear hA0 hN0
 by_cases h3:(l.length:Int) < 3
 ·have HE:Hid (V=.tuple #[.int .i64 0,.int .i64 (-1)]):=HN.out (fun h=>by have:=h.2.1;omega)
  go_enter Tryz.func155,Tryz.ntmps155
  go_wp2
  go_ret2
  exact ⟨by rw [HE.out];rfl,rfl⟩
 have h00:0 < l.length:=by omega
 have h01:1 < l.length:=by omega
 by_cases h60:(l[0].toNat:Int)=60
 case neg=>
  have HE:Hid (V=.tuple #[.int .i64 0,.int .i64 (-1)]):=HN.out (fun h=>by obtain ⟨⟨_,h⟩,_⟩:=h;omega)
  have h60b:((l[0].toNat:Int) != 60)=true:=by simp;omega
  go_enter Tryz.func155,Tryz.ntmps155
  go_wp2
  go_ret2
  exact ⟨by rw [HE.out];rfl,rfl⟩
 have H0:Hid (∃ h:0 < l.length,l[0].toNat=60):=⟨h00,by omega⟩
 have h60b:((l[0].toNat:Int) != 60)=false:=by simp;omega
 clear h60
 have D:Hid (∀ n:Nat,n<=3->∀ w,Calls Tryz.prog 190 #[.string ⟨l.toArray⟩,.int .i64 1,.int .i64 n] w fun e w'=>e=.returned (.tuple #[.int .i64 (Hm.rdigits l 1 n).1,.bool (Hm.rdigits l 1 n).2])/\w'=w):=fun n hn w=>rdigits_any l hl 1 n (by omega) (by omega) w
 go_enter Tryz.func155,Tryz.ntmps155
 go_wp2
 go_loopw [4] (fun s4 wr=>∃ n:Nat,1<=n/\n<=4/\s4=.int .i64 n/\(∀ m,1<=m->m < n->¬ Hm.Acc l m)/\wr=w) (fun s4 _=>4 - (intOf s4).toNat)
 case atStart=>exact ⟨1,by omega,by omega,rfl,fun m h1 h2=>by omega,rfl⟩
 case round=>
  obtain ⟨n,hn1,hn4,rfl,hno,hwr⟩:=hrel
  have hwr:=hwr.symm
  subst hwr
  have HNO:=show Hid _ from hno
  clear hno
  by_cases hn:n<=3
  case neg=>
   have hni:¬ (n:Int)<=3:=by omega
   have HE:Hid (V=.tuple #[.int .i64 0,.int .i64 (-1)]):=HN.out (fun h=>by obtain ⟨_,_,m,h1,h2,h3⟩:=h;exact HNO.out m h1 (by omega) h3)
   go_wp2
   go_ret2
   exact ⟨by rw [HE.out];rfl,rfl⟩
  have hni:(n:Int)<=3:=by omega
  have HNX:Hid (¬ Hm.Acc l n->∀ m,1<=m->m < n+1->¬ Hm.Acc l m):=fun h m h1 h2=>by
   by_cases hm:m=n
   ·subst hm;exact h
   ·exact HNO.out m h1 (by omega)
  have HYES:Hid (Hm.Acc l n->V=.tuple #[.int .i64 (Hm.rdigits l 1 n).1,.int .i64 ((n:Int)+2)]):=fun h=>HA.out H0.out hn1 hn h
  have DN:=show Hid _ from D.out n hn
  clear HNO HA HN D
  have hdg:∃ x b,Hm.rdigits l 1 n=(x,b):=⟨_,_,rfl⟩
  obtain ⟨x,b,hxb⟩:=hdg
  have hx:b=true->x < 1000:=by
   intro hb
   have h2:(Hm.rdigits l 1 n).2=true:=by rw [hxb];exact hb
   obtain ⟨_,d2,d3⟩:=Hm.rdigits_ok h2
   rw [hxb] at d3
   have:=Hm.dec_lt _ d2
   have h4:((l.drop 1).take n).length<=3:=by rw [List.length_take];omega
   have h5:10 ^ ((l.drop 1).take n).length<=10 ^ 3:=Nat.pow_le_pow_right (by omega) h4
   simp only at d3
   omega
  rw [hxb] at DN HYES
  have HXB:=show Hid _ from hxb
  clear hxb
  have hsay:(b=true/\Hm.Acc l n)∨¬ Hm.Acc l n:=by
   by_cases h:Hm.Acc l n
   ·left
    exact ⟨by have:=h.dg;rw [HXB.out] at this;exact this,h⟩
   ·exact .inr h
  go_wp2_with fail
  refine (DN.out _).mono ?_
  rintro e w1 ⟨rfl,rfl⟩
  cases b with
  | false=>
   have HNA:Hid (¬ Hm.Acc l n):=fun h=>by have:=h.dg;rw [HXB.out] at this;cases this
   clear HXB hsay hx
   go_wp2
   go_roundw
   case rel=>exact ⟨n+1,by omega,by omega,int_eq (by simp),HNX.out HNA.out,by first | rfl | trivial⟩
   case measure=>simp [intOf];omega
  | true=>
   have hx:=hx rfl
   by_cases c1:n+1 < l.length
   case neg=>
    have HNA:Hid (¬ Hm.Acc l n):=fun h=>c1 h.len
    have c1i:¬ (n:Int)+1 < (l.length:Int):=by omega
    clear HXB hsay
    go_wp2
    go_roundw
    case rel=>exact ⟨n+1,by omega,by omega,int_eq (by simp),HNX.out HNA.out,by first | rfl | trivial⟩
    case measure=>simp [intOf];omega
   have c1i:(n:Int)+1 < (l.length:Int):=by omega
   by_cases c2:(l[n+1].toNat:Int)=62
   case neg=>
    have HNA:Hid (¬ Hm.Acc l n):=fun h=>by have:=h.gt;omega
    clear HXB hsay
    go_wp2
    go_roundw
    case rel=>exact ⟨n+1,by omega,by omega,int_eq (by simp),HNX.out HNA.out,by first | rfl | trivial⟩
    case measure=>simp [intOf];omega
   have C2:Hid (l[n+1].toNat=62):=by show _=_;omega
   have c2b:((l[n+1].toNat:Int) == 62)=true:=by simp;omega
   clear c2
   by_cases c3:(x:Int)<=191
   case neg=>
    have HNA:Hid (¬ Hm.Acc l n):=fun h=>by have:=h.le;rw [HXB.out] at this;simp only at this;omega
    clear HXB hsay
    go_wp2
    go_roundw
    case rel=>exact ⟨n+1,by omega,by omega,int_eq (by simp),HNX.out HNA.out,by first | rfl | trivial⟩
    case measure=>simp [intOf];omega
   by_cases c4:(l[1].toNat:Int)=48
   ·have c4b:((l[1].toNat:Int) != 48)=false:=by simp;omega
    by_cases c5:n=1
    ·subst c5
     have HYA:Hid (V=.tuple #[.int .i64 x,.int .i64 3]):=HYES.out ⟨by rw [HXB.out],c1,C2.out,by rw [HXB.out];show x<=191;omega,.inr rfl⟩
     clear HXB hsay c4
     go_wp2
     go_ret2
     exact ⟨by rw [HYA.out];rfl,rfl⟩
    ·have HNA:Hid (¬ Hm.Acc l n):=fun h=>by have:=h.zero;omega
     have c5b:((n:Int) == 1)=false:=by simp;omega
     clear HXB hsay c4
     go_wp2
     go_roundw
     case rel=>exact ⟨n+1,by omega,by omega,int_eq (by simp),HNX.out HNA.out,by first | rfl | trivial⟩
     case measure=>simp [intOf];omega
   ·have c4b:((l[1].toNat:Int) != 48)=true:=by simp;omega
    have HYA:Hid (V=.tuple #[.int .i64 x,.int .i64 ((n:Int)+2)]):=HYES.out ⟨by rw [HXB.out],c1,C2.out,by rw [HXB.out];show x<=191;omega,.inl (by omega)⟩
    clear HXB hsay c4
    go_wp2
    go_ret2
    exact ⟨by rw [HYA.out];rfl,rfl⟩
end Go.Proofs.YtdlhbmncbmconaaGreatDoor
namespace Go.Hm
theorem ahead_min (p:UInt8->Bool):∀ (l:List UInt8) (b:Nat),ahead p b l=min b (l.takeWhile p).length
 | [],b=>by simp [ahead]
 | c :: t,0=>by simp [ahead]
 | c :: t,b+1=>by
  have ih:=ahead_min p t b
  unfold ahead at ih ⊢
  rw [List.take_succ_cons]
  by_cases hc:p c=true
  ·rw [List.takeWhile_cons,List.takeWhile_cons,if_pos hc,if_pos hc,List.length_cons,List.length_cons,ih]
   omega
  ·rw [List.takeWhile_cons,List.takeWhile_cons,if_neg hc,if_neg hc]
   simp
theorem take_run (p:UInt8->Bool) (l:List UInt8):l.take (l.takeWhile p).length=l.takeWhile p:=
 (List.prefix_iff_eq_take.1 (List.takeWhile_prefix p)).symm
theorem run_pre {l:List UInt8} {p:UInt8->Bool} {I k:Nat} (hI:(l.takeWhile p).length=I) (hk:k < I):∃ h:k < l.length,p l[k]=true:=by
 have:=(run_at p l 0 I (Nat.zero_le _) (by rw [List.drop_zero];exact hI)).2.1 k hk
 obtain ⟨h,hp⟩:=this
 refine ⟨by omega,?_⟩
 have e:l[0+k]=l[k]'(by omega):=by congr 1;omega
 rw [<-e];exact hp
theorem pre_no {l:List UInt8} {a:Nat} {c:UInt8} (h:¬ ∃ h:a < l.length,l[a].toNat=c.toNat):Lib.hasPrefix (l.drop a) [c]=false:=by
 cases hb:Lib.hasPrefix (l.drop a) [c] with
 | false=>rfl
 | true=>
  obtain ⟨h1,h2⟩:=(pre_at l a c).1 hb
  exact absurd ⟨h1,by rw [h2]⟩ h
theorem pre_yes {l:List UInt8} {a:Nat} {c:UInt8} (h:∃ h:a < l.length,l[a].toNat=c.toNat):Lib.hasPrefix (l.drop a) [c]=true:=by
 obtain ⟨h1,h2⟩:=h
 exact (pre_at l a c).2 ⟨h1,UInt8.toNat_inj.1 h2⟩
theorem tagRest_no {l a p:List UInt8} {e:Nat} (h:¬ ∃ h:e < l.length,l[e].toNat=58):tagRest l a p e=([],[],0):=by
 unfold tagRest
 rw [if_pos (pre_no (c:=58) h)]
theorem tagRest_1 {l a p:List UInt8} {e:Nat} (h:∃ h:e < l.length,l[e].toNat=58) (h2:¬ ∃ h:e+1 < l.length,l[e+1].toNat=32):tagRest l a p e=(a,p,e+1):=by
 unfold tagRest
 rw [if_neg (by rw [pre_yes (c:=58) h];simp),if_neg (by rw [pre_no (c:=32) h2];simp)]
theorem tagRest_2 {l a p:List UInt8} {e:Nat} (h:∃ h:e < l.length,l[e].toNat=58) (h2:∃ h:e+1 < l.length,l[e+1].toNat=32):tagRest l a p e=(a,p,e+1+1):=by
 unfold tagRest
 rw [if_neg (by rw [pre_yes (c:=58) h];simp),if_pos (pre_yes (c:=32) h2)]
theorem tag_bad {l:List UInt8} {I:Nat} (hI:(l.takeWhile tgb).length=I) (h:word (l.take I) 16=false):tag l=([],[],0):=by
 have ha:=ahead_min tgb l 16
 rw [hI] at ha
 by_cases hl:I<=16
 ·rw [Nat.min_eq_right hl] at ha
  unfold tag
  rw [ha]
  have hall:(l.take I).all vis=true:=by
   rw [List.all_eq_true]
   intro c hc
   rw [<-hI,take_run] at hc
   exact tgb_vis (twe_all tgb l c hc)
  have hlen:(l.take I).length=I:=by
   rw [List.length_take]
   have:=twe_len tgb l
   omega
  rw [if_pos]
  unfold word at h
  rw [hall,hlen,decide_eq_true hl,Bool.and_true,Bool.and_true] at h
  by_cases h0:I=0
  ·exact .inl h0
  ·right
   have hne:(l.take I).isEmpty=false:=by
    cases ht:l.take I with
    | nil=>rw [ht] at hlen;simp at hlen;omega
    | cons=>rfl
   rw [hne] at h
   simpa using h
 ·rw [Nat.min_eq_left (by omega)] at ha
  unfold tag
  obtain ⟨h16,hc⟩:=run_pre hI (show 16 < I by omega)
  have h91:¬ ∃ h:16 < l.length,l[16].toNat=91:=fun ⟨_,h⟩=>by simp [tgb,letr,dig] at hc;omega
  have h58:¬ ∃ h:16 < l.length,l[16].toNat=58:=fun ⟨_,h⟩=>by simp [tgb,letr,dig] at hc;omega
  rw [ha,if_neg (by
   rintro (h | h)
   ·omega
   ·have:=congrArg List.length h
    rw [List.length_take] at this
    simp at this
    omega),if_neg (by rw [pre_no (c:=91) h91];simp),tagRest_no h58]
theorem tag_word {l:List UInt8} {I:Nat} (hI:(l.takeWhile tgb).length=I) (h:word (l.take I) 16=true):ahead tgb 16 l=I/\¬ (I=0∨l.take I=[45]):=by
 have hl:=twe_len tgb l
 have h2:¬ I=0/\¬ l.take I=[45]/\(l.take I).length<=16:=by
  simp [word] at h
  refine ⟨fun e=>?_,h.1.1.2,?_⟩
  ·exact h.1.1.1.1 e
  ·rw [List.length_take];omega
 refine ⟨?_,fun e=>e.elim h2.1 h2.2.1⟩
 rw [ahead_min,hI]
 rw [List.length_take] at h2
 omega
theorem tag_shut {l:List UInt8} {I:Nat} (hI:(l.takeWhile tgb).length=I) (h:word (l.take I) 16=true) (h91:¬ ∃ h:I < l.length,l[I].toNat=91):tag l=tagRest l (l.take I) [] I:=by
 obtain ⟨ha,hn⟩:=tag_word hI h
 unfold tag
 rw [ha,if_neg hn,if_neg (by rw [pre_no (c:=91) h91];simp)]
theorem tag_open_no {l:List UInt8} {I J:Nat} (hI:(l.takeWhile tgb).length=I) (h:word (l.take I) 16=true) (h91:∃ h:I < l.length,l[I].toNat=91)
  (hJ:((l.drop (I+1)).takeWhile dig).length=J) (hb:J=0∨8 < J∨¬ ∃ h:I+1+J < l.length,l[I+1+J].toNat=93):tag l=([],[],0):=by
 obtain ⟨ha,hn⟩:=tag_word hI h
 unfold tag
 rw [ha,if_neg hn,if_pos (pre_yes (c:=91) h91),ahead_min,hJ]
 rw [if_pos]
 by_cases h8:8 < J
 ·right
  rw [Nat.min_eq_left (by omega)]
  have hr:=(run_at dig l (I+1) J (by obtain ⟨h1,_⟩:=h91;omega) hJ).2.1 8 h8
  obtain ⟨h1,hp⟩:=hr
  exact pre_no (c:=93) fun ⟨_,e⟩=>by
   have e2:l[I+(1+8)]'(by omega)=l[I+1+8]:=by congr 1
   simp [dig] at hp
   rw [e2] at e
   have:(93:UInt8).toNat=93:=rfl
   omega
 ·rw [Nat.min_eq_right (by omega)]
  rcases hb with hb | hb | hb
  ·exact .inl hb
  ·omega
  ·right
   rw [show I+(1+J)=I+1+J by omega]
   exact pre_no (c:=93) hb
theorem tag_open {l:List UInt8} {I J:Nat} (hI:(l.takeWhile tgb).length=I) (h:word (l.take I) 16=true) (h91:∃ h:I < l.length,l[I].toNat=91)
  (hJ:((l.drop (I+1)).takeWhile dig).length=J) (h0:¬ J=0) (h8:¬ 8 < J) (hb:∃ h:I+1+J < l.length,l[I+1+J].toNat=93):tag l=tagRest l (l.take I) ((l.drop (I+1)).take J) (I+1+J+1):=by
 obtain ⟨ha,hn⟩:=tag_word hI h
 unfold tag
 rw [ha,if_neg hn,if_pos (pre_yes (c:=91) h91),ahead_min,hJ,Nat.min_eq_right (by omega),if_neg,show I+(1+J)=I+1+J by omega]
 rintro (e | e)
 ·exact h0 e
 ·rw [show I+(1+J)=I+1+J by omega,pre_yes (c:=93) hb] at e
  cases e
end Go.Hm
namespace Go.Hm
theorem findFrom_dropC (l:List UInt8):∀ (ms:List (List UInt8)) (i k:Nat) (h:i < ms.length),findFrom l (ms.drop i) k=if ms[i]=l then k+1 else findFrom l (ms.drop (i+1)) (k+1):=by
 intro ms i k h
 rw [List.drop_eq_getElem_cons h,findFrom]
def janDec:List UInt8:=[74,97,110,70,101,98,77,97,114,65,112,114,77,97,121,74,117,110,74,117,108,65,117,103,83,101,112,79,99,116,78,111,118,68,101,99]
theorem jan_at:∀ i:Fin 12,(janDec.drop (3 * i.val)).take (3 * i.val+3 - 3 * i.val)=monthNames.getD i.val []:=by decide +kernel
end Go.Hm
namespace Go.Proofs.YtdlhbmncbmconaaGreatDoor
open Go.RowKit Go.Sort
theorem jan_cut (i:Nat) (h:i < 12):(⟨#[74,97,110,70,101,98,77,97,114,65,112,114,77,97,121,74,117,110,74,117,108,65,117,103,83,101,112,79,99,116,78,111,118,68,101,99]⟩:ByteArray).extract (3 * i) (3 * i+3)=⟨(Hm.monthNames.getD i []).toArray⟩:=by
 have h1:=rcut Hm.janDec (3 * i) (3 * i+3)
 rw [Hm.jan_at ⟨i,h⟩] at h1
 exact h1
set_option maxRecDepth 20000 in
theorem rmonth_any (l:List UInt8) (w:World):Calls Tryz.prog 218 #[.string ⟨l.toArray⟩] w fun e w'=>e=.returned (.int .i64 (Hm.month l))/\w'=w:=by
 obtain ⟨M,hM⟩:∃ M,Hm.month l=M:=⟨_,rfl⟩
 rw [hM]
 have HM:=show Hid _ from hM
 clear hM
 go_enter Tryz.func218,Tryz.ntmps218
 go_wp2
 go_loopw [4] (fun ix wr=>∃ i:Nat,i<=12/\ix=.int .i64 i/\M=Hm.findFrom l (Hm.monthNames.drop i) i/\wr=w) (fun ix _=>12 - (intOf ix).toNat)
 case atStart=>exact ⟨0,by omega,rfl,HM.out.symm,rfl⟩
 case round=>
  obtain ⟨i,hi,rfl,hf,rfl⟩:=hrel
  have HF:=show Hid _ from hf
  clear hf
  by_cases hlt:i < 12
  ·have hii:(i:Int) < 12:=by omega
   have hst:=Hm.findFrom_dropC l Hm.monthNames i i (by show i < 12;omega)
   have hg:Hm.monthNames[i]'(by show i < 12;omega)=Hm.monthNames.getD i []:=by
    rw [List.getD_eq_getElem?_getD,List.getElem?_eq_getElem (by show i < 12;omega)];rfl
   rw [hg] at hst
   have HST:=show Hid _ from hst
   have hjc:=jan_cut i hlt
   clear hst hg
   generalize Hm.monthNames.getD i []=mn at HST hjc
   by_cases he:mn=l
   ·subst he
    have HE:Hid (M=i+1):=by show _=_;rw [HF.out,HST.out,if_pos rfl]
    go_wp2
    go_ret
    exact ⟨by rw [HE.out];rfl,rfl⟩
   ·have heb:(mn == l)=false:=beq_eq_false_iff_ne.2 he
    have HE:Hid (M=Hm.findFrom l (Hm.monthNames.drop (i+1)) (i+1)):=by show _=_;rw [HF.out,HST.out,if_neg he]
    clear he
    go_wp2
    go_roundw
    case rel=>exact ⟨i+1,by omega,int_eq (by simp),HE.out,by first | rfl | trivial⟩
    case measure=>simp [intOf];omega
  ·have hii:¬ (i:Int) < 12:=by omega
   have HE:Hid (M=0):=by
    show _=_
    rw [HF.out,List.drop_of_length_le (by show 12<=i;omega)]
    rfl
   go_wp2
   go_ret
   exact ⟨by rw [HE.out];rfl,rfl⟩
end Go.Proofs.YtdlhbmncbmconaaGreatDoor

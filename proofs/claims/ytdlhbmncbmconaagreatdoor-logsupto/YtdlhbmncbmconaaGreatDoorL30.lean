/- Pressed by program out of Ea Eb Ec Ed Ee. -/
import Derived.Test.YtdlhbmncbmconaaGreatDoorL00
import Derived.Test.YtdlhbmncbmconaaGreatDoorL09
import Derived.Test.YtdlhbmncbmconaaGreatDoorL10
import Derived.Test.YtdlhbmncbmconaaGreatDoorL02
import Derived.Test.YtdlhbmncbmconaaGreatDoorL11
namespace Go.Hm
def splitOf (b:Nat) (l:List UInt8):List (List UInt8) × Nat:=(((Frs.fresh b).feed l).2,((Frs.fresh b).feed l).1.head+((Frs.fresh b).feed l).1.own.length)
end Go.Hm
namespace Go.Proofs.YtdlhbmncbmconaaGreatDoor
open Go.RowKit Go.Sort
attribute [local go_sem] app_mk rcut rbyte
attribute [local go_sem high] run_cut_l
def rfrCells (b:Nat) (A:List UInt8) (T:Nat):Array Value:=#[.int .i64 b,.string ⟨A.toArray⟩,.int .i64 T]
theorem rNewFrames_yes (n:Nat) (h1:1<=n) (h2:n<=200) (w:World):Calls Tryz.prog 106 #[.int .i64 n] w fun e w'=>e=.returned (.tuple #[.pointer (some ⟨w.heap.size,0,none⟩),.int .i64 0])/\w'.heap[w.heap.size]?=some (.cells (rfrCells n [] 0) 216 (0,0))/\Below w.heap.size w w':=by
 have i1:¬ (n:Int) < 1:=by omega
 have i2:¬ 200 < (n:Int):=by omega
 go_enter Tryz.func106,Tryz.ntmps106
 go_wp2
 go_ret2
 exact ⟨rfl,heap_alloc_new _ _,(Below.refl _ _).alloc (Nat.le_refl _) _⟩
theorem set_getD {L:Array Bool} {i j:Nat} (h:j ≠ i):(L.setIfInBounds i true).getD j false=L.getD j false:=by
 simp [Array.getD_eq_getD_getElem?,Ne.symm h]
end Go.Proofs.YtdlhbmncbmconaaGreatDoor
namespace Go.Hm
def rfind (c:UInt8) (l:List UInt8):Int:=if (cutB c l).2.2=true then ((cutB c l).1.length:Int) else -1
theorem rfind_yes {c:UInt8} {l:List UInt8} {i:Nat} (hi:i < l.length) (h:l[i]=c) (hn:c ∉ l.take i):rfind c l=i:=by
 have e:l=l.take i ++ c :: l.drop (i+1):=by
  rw [<-h,<-List.drop_eq_getElem_cons hi]
  exact (List.take_append_drop i l).symm
 have hc:cutB c l=(l.take i,l.drop (i+1),true):=by
  conv=>lhs;rw [e]
  exact cutB_app c _ _ hn
 unfold rfind
 rw [hc,if_pos rfl]
 simp
 omega
theorem rfind_no {c:UInt8} {l:List UInt8} (hn:c ∉ l):rfind c l=-1:=by
 unfold rfind
 rw [cutB_all c l hn,if_neg (by simp)]
theorem rfind_cut {c:UInt8} {l:List UInt8}:(rfind c l=-1/\cutB c l=(l,[],false))∨∃ i:Nat,rfind c l=i/\i < l.length/\cutB c l=(l.take i,l.drop (i+1),true):=by
 cases h:(cutB c l).2.2 with
 | false=>exact .inl ⟨by unfold rfind;rw [h,if_neg (by simp)],cutB_none c l h⟩
 | true=>
  refine .inr ⟨(cutB c l).1.length,by unfold rfind;rw [if_pos h],?_,?_⟩
  ·have:=congrArg List.length (cutB_some c l h)
   simp at this
   omega
  ·have e:=cutB_some c l h
   generalize cutB c l=X at h e
   obtain ⟨a,b,f⟩:=X
   dsimp only at h e
   subst h
   rw [e]
   simp
theorem findFrom_drop {l:List UInt8} {ns:List (List UInt8)} {k:Nat} {x:List UInt8} (h:ns[k]?=some x):findFrom l (ns.drop k) k=if x=l then k+1 else findFrom l (ns.drop (k+1)) (k+1):=by
 obtain ⟨hk,hx⟩:=List.getElem?_eq_some_iff.1 h
 rw [List.drop_eq_getElem_cons hk,findFrom,hx]
end Go.Hm
namespace Go.Proofs.YtdlhbmncbmconaaGreatDoor
open Go.RowKit Go.Sort
attribute [local go_sem] app_mk rcut rbyte
theorem rfind_any (l:List UInt8) (hl:l.length<=1000000000000000) (c:UInt8) (w:World):Calls Tryz.prog 151 #[.string ⟨l.toArray⟩,.int .u8 c.toNat] w fun e w'=>e=.returned (.int .i64 (Hm.rfind c l))/\w'=w:=by
 obtain ⟨R,hR⟩:∃ R,Hm.rfind c l=R:=⟨_,rfl⟩
 rw [hR]
 have HR:=show Hid _ from hR
 clear hR
 go_enter Tryz.func151,Tryz.ntmps151
 go_wp2
 go_loopw [5] (fun s5 wr=>∃ i:Nat,s5=.int .i64 i/\i<=l.length/\c ∉ l.take i/\wr=w) (fun s5 _=>l.length - (intOf s5).toNat)
 case atStart=>exact ⟨0,rfl,Nat.zero_le _,by simp,rfl⟩
 case round=>
  obtain ⟨i,rfl,hil,hno,hwr⟩:=hrel
  have hwr:=hwr.symm
  subst hwr
  have HNO:=show Hid _ from hno
  clear hno
  by_cases hlt:i < l.length
  case neg=>
   have hii:¬ (i:Int) < (l.length:Int):=by omega
   have HE:Hid (R=-1):=by
    show _=_
    rw [<-HR.out]
    have:=HNO.out
    rw [List.take_of_length_le (by omega)] at this
    exact Hm.rfind_no this
   go_wp2
   go_ret
   exact ⟨by rw [HE.out];rfl,rfl⟩
  have hii:(i:Int) < (l.length:Int):=by omega
  by_cases hc:l[i]=c
  ·have hcb:((l[i].toNat:Int) == (c.toNat:Int))=true:=by rw [hc];simp
   have HE:Hid (R=i):=by show _=_;rw [<-HR.out];exact Hm.rfind_yes hlt hc HNO.out
   clear hc
   go_wp2
   go_ret
   exact ⟨by rw [HE.out];rfl,rfl⟩
  ·have hcb:((l[i].toNat:Int) == (c.toNat:Int))=false:=beq_eq_false_iff_ne.2 (fun e=>hc (UInt8.toNat_inj.1 (by omega)))
   have HN2:Hid (c ∉ l.take (i+1)):=by
    show ¬ _
    rw [List.take_add_one,List.getElem?_eq_getElem hlt]
    intro hm
    rcases List.mem_append.1 hm with hm | hm
    ·exact HNO.out hm
    ·simp at hm;exact hc hm.symm
   clear hc
   go_wp2
   go_roundw
   case rel=>exact ⟨i+1,int_eq (by simp),by omega,HN2.out,by first | rfl | trivial⟩
   case measure=>simp [intOf];omega
theorem row_at {w:World} {g:Nat} {ns:List (List UInt8)} {t:TypeId} {fr:Nat × Nat} (h:w.heap[g]?=some (.cells (ns.map strV).toArray t fr)) (k:Nat) (x:List UInt8) (hk:ns[k]?=some x):w.cell? ⟨g,k,none⟩=some (.string ⟨x.toArray⟩):=by
 simp [World.cell?,h,hk,strV]
set_option maxRecDepth 20000 in
set_option maxHeartbeats 2000000 in
theorem rSeverity_any (l:List UInt8) (w:World):Calls Tryz.prog 189 #[.string ⟨l.toArray⟩] w fun e w'=>e=.returned (.int .i64 ((Hm.findFrom l Hm.severityNames 0:Nat) - 1:Int))/\Below w.heap.size w w':=by
 obtain ⟨R,hR⟩:∃ R,Hm.findFrom l Hm.severityNames 0=R:=⟨_,rfl⟩
 rw [hR]
 have HR:=show Hid _ from hR
 clear hR
 have hlen:Hm.severityNames.length=8:=by rfl
 go_enter Tryz.func189,Tryz.ntmps189
 go_wp2
 have HROW:Hid ((w.alloc (.cells (Hm.severityNames.map strV).toArray 9)).heap[w.heap.size]?=some (.cells (Hm.severityNames.map strV).toArray 9 (0,0))):=heap_alloc_new _ _
 have HB1:Hid (Below w.heap.size w (w.alloc (.cells (Hm.severityNames.map strV).toArray 9))):=(Below.refl _ _).alloc (Nat.le_refl _) _
 obtain ⟨W,hW⟩:∃ W,w.alloc (.cells (Hm.severityNames.map strV).toArray 9)=W:=⟨_,rfl⟩
 rw [hW] at HROW HB1
 have HCE:Hid (∀ k x,Hm.severityNames[k]?=some x->W.cell? ⟨w.heap.size,k,none⟩=some (.string ⟨x.toArray⟩)):=fun k x h=>row_at HROW.out k x h
 go_loopw [4] (fun s4 wr=>∃ k:Nat,s4=.int .i64 k/\k<=8/\R=Hm.findFrom l (Hm.severityNames.drop k) k/\wr=W) (fun s4 _=>8 - (intOf s4).toNat)
 case atStart=>exact ⟨0,rfl,Nat.zero_le _,HR.out.symm,hW⟩
 case round=>
  obtain ⟨k,rfl,hk,hf,hwr⟩:=hrel
  have hwr:=hwr.symm
  subst hwr
  have HF:=show Hid _ from hf
  clear hf hW HROW
  by_cases hlt:k < 8
  case neg=>
   have hki:¬ (k:Int) < 8:=by omega
   have HE:Hid (R=0):=by
    show _=_
    rw [HF.out,List.drop_eq_nil_of_le (by rw [hlen];omega)]
    rfl
   go_wp2
   go_ret
   exact ⟨by rw [HE.out];rfl,HB1.out⟩
  have hki:(k:Int) < 8:=by omega
  obtain ⟨x,hx⟩:∃ x,Hm.severityNames[k]?=some x:=⟨_,List.getElem?_eq_getElem (by rw [hlen];exact hlt)⟩
  have hce:=HCE.out k x hx
  have HS:Hid (R=if x=l then k+1 else Hm.findFrom l (Hm.severityNames.drop (k+1)) (k+1)):=HF.out.trans (Hm.findFrom_drop hx)
  clear hx
  by_cases he:x=l
  ·have HE:Hid (R=k+1):=HS.out.trans (if_pos he)
   subst he
   go_wp2
   go_ret
   exact ⟨by rw [HE.out];exact congrArg (fun z=>Ending.returned (Value.int .i64 z)) (by omega),HB1.out⟩
  ·have heb:(x == l)=false:=beq_eq_false_iff_ne.2 he
   have HE:Hid (R=Hm.findFrom l (Hm.severityNames.drop (k+1)) (k+1)):=HS.out.trans (if_neg he)
   clear he
   go_wp2
   go_roundw
   case rel=>exact ⟨k+1,int_eq (by simp),by omega,HE.out,by first | rfl | trivial⟩
   case measure=>simp [intOf];omega
set_option maxRecDepth 20000 in
set_option maxHeartbeats 2000000 in
theorem rFacility_any (l:List UInt8) (w:World):Calls Tryz.prog 188 #[.string ⟨l.toArray⟩] w fun e w'=>e=.returned (.int .i64 ((Hm.findFrom l Hm.facNames 0:Nat) - 1:Int))/\Below w.heap.size w w':=by
 obtain ⟨R,hR⟩:∃ R,Hm.findFrom l Hm.facNames 0=R:=⟨_,rfl⟩
 rw [hR]
 have HR:=show Hid _ from hR
 clear hR
 have hlen:Hm.facNames.length=24:=by rfl
 go_enter Tryz.func188,Tryz.ntmps188
 go_wp2
 have HROW:Hid ((w.alloc (.cells (Hm.facNames.map strV).toArray 9)).heap[w.heap.size]?=some (.cells (Hm.facNames.map strV).toArray 9 (0,0))):=heap_alloc_new _ _
 have HB1:Hid (Below w.heap.size w (w.alloc (.cells (Hm.facNames.map strV).toArray 9))):=(Below.refl _ _).alloc (Nat.le_refl _) _
 obtain ⟨W,hW⟩:∃ W,w.alloc (.cells (Hm.facNames.map strV).toArray 9)=W:=⟨_,rfl⟩
 rw [hW] at HROW HB1
 have HCE:Hid (∀ k x,Hm.facNames[k]?=some x->W.cell? ⟨w.heap.size,k,none⟩=some (.string ⟨x.toArray⟩)):=fun k x h=>row_at HROW.out k x h
 go_loopw [4] (fun s4 wr=>∃ k:Nat,s4=.int .i64 k/\k<=24/\R=Hm.findFrom l (Hm.facNames.drop k) k/\wr=W) (fun s4 _=>24 - (intOf s4).toNat)
 case atStart=>exact ⟨0,rfl,Nat.zero_le _,HR.out.symm,by rw [<-hW];exact congrArg (fun c=>w.alloc (Obj.cells c 9)) (by kernel_rfl)⟩
 case round=>
  obtain ⟨k,rfl,hk,hf,hwr⟩:=hrel
  have hwr:=hwr.symm
  subst hwr
  have HF:=show Hid _ from hf
  clear hf hW HROW
  by_cases hlt:k < 24
  case neg=>
   have hki:¬ (k:Int) < 24:=by omega
   have HE:Hid (R=0):=by
    show _=_
    rw [HF.out,List.drop_eq_nil_of_le (by rw [hlen];omega)]
    rfl
   go_wp2
   go_ret
   exact ⟨by rw [HE.out];rfl,HB1.out⟩
  have hki:(k:Int) < 24:=by omega
  obtain ⟨x,hx⟩:∃ x,Hm.facNames[k]?=some x:=⟨_,List.getElem?_eq_getElem (by rw [hlen];exact hlt)⟩
  have hce:=HCE.out k x hx
  have HS:Hid (R=if x=l then k+1 else Hm.findFrom l (Hm.facNames.drop (k+1)) (k+1)):=HF.out.trans (Hm.findFrom_drop hx)
  clear hx
  by_cases he:x=l
  ·have HE:Hid (R=k+1):=HS.out.trans (if_pos he)
   subst he
   go_wp2
   go_ret
   exact ⟨by rw [HE.out];exact congrArg (fun z=>Ending.returned (Value.int .i64 z)) (by omega),HB1.out⟩
  ·have heb:(x == l)=false:=beq_eq_false_iff_ne.2 he
   have HE:Hid (R=Hm.findFrom l (Hm.facNames.drop (k+1)) (k+1)):=HS.out.trans (if_neg he)
   clear he
   go_wp2
   go_roundw
   case rel=>exact ⟨k+1,int_eq (by simp),by omega,HE.out,by first | rfl | trivial⟩
   case measure=>simp [intOf];omega
end Go.Proofs.YtdlhbmncbmconaaGreatDoor
namespace Go.Hm
structure RR where
 facs:List Nat
 lo:Int
 hi:Int
 keep:Bool
def Alike (r:Rl) (q:RR):Prop:=r.keep=q.keep/\(∀ f ∈ q.facs,f < 24)/\∀ f s:Nat,f < 24->s < 8->(r.fits f s=true ↔ (f ∈ q.facs/\q.lo<=(s:Int)/\(s:Int)<=q.hi))
def bitsOf (F:List Nat):Nat:=F.foldl (fun b f=>b ||| 2 ^ f) 0
theorem bits_snoc (F:List Nat) (f:Nat):bitsOf (F ++ [f])=bitsOf F ||| 2 ^ f:=by
 unfold bitsOf
 rw [List.foldl_append]
 rfl
theorem bits_test (F:List Nat) (f:Nat):(bitsOf F).testBit f=true ↔ f ∈ F:=by
 have key:∀ (G:List Nat) (b:Nat),(G.foldl (fun b f=>b ||| 2 ^ f) b).testBit f=true ↔ (b.testBit f=true∨f ∈ G):=by
  intro G
  induction G with
  | nil=>intro b;simp
  | cons g t ih=>
   intro b
   rw [List.foldl_cons,ih,Nat.testBit_or,Nat.testBit_two_pow]
   simp
   constructor
   ·rintro ((h | h) | h)
    ·exact .inl h
    ·exact .inr (.inl h.symm)
    ·exact .inr (.inr h)
   ·rintro (h | h | h)
    ·exact .inl (.inl h)
    ·exact .inl (.inr h.symm)
    ·exact .inr h
 unfold bitsOf
 rw [key]
 simp
theorem bits_pos {F:List Nat} (h:¬ F=[]):¬ bitsOf F=0:=by
 intro e
 match F,h with
 | f :: t,_=>
  have:=(bits_test (f :: t) f).2 (by simp)
  rw [e] at this
  simp at this
def FcI (l names:List UInt8) (F:List Nat):Prop:=(∀ f ∈ F,f < 24)/\facFold (splitC 44 l) 0=facFold (splitC 44 names) (bitsOf F)
theorem fc_start (l:List UInt8):FcI l l []:=⟨by simp,rfl⟩
theorem fac_idx (n:List UInt8):findFrom n facNames 0<=24:=by
 have:=findFrom_le n facNames 0
 have h24:facNames.length=24:=rfl
 omega
theorem fc_bad_more {l names:List UInt8} {F:List Nat} (h:FcI l names F) (hc:(cutB 44 names).2.2=true) (h0:findFrom (cutB 44 names).1 facNames 0=0):facFold (splitC 44 l) 0=0:=by
 rw [h.2,splitC_cut,if_pos hc,facFold,if_pos h0]
theorem fc_bad_last {l names:List UInt8} {F:List Nat} (h:FcI l names F) (hc:(cutB 44 names).2.2=false) (h0:findFrom (cutB 44 names).1 facNames 0=0):facFold (splitC 44 l) 0=0:=by
 rw [h.2,splitC_cut,if_neg (by rw [hc];decide),facFold,if_pos h0]
theorem fc_more {l names:List UInt8} {F:List Nat} (h:FcI l names F) (hc:(cutB 44 names).2.2=true) (h0:¬ findFrom (cutB 44 names).1 facNames 0=0):FcI l (cutB 44 names).2.1 (F ++ [findFrom (cutB 44 names).1 facNames 0 - 1]):=by
 refine ⟨?_,?_⟩
 ·intro f hf
  rcases List.mem_append.1 hf with hf | hf
  ·exact h.1 f hf
  ·have:=fac_idx (cutB 44 names).1
   simp at hf
   omega
 ·rw [h.2,splitC_cut,if_pos hc,facFold,if_neg h0,bits_snoc]
theorem fc_last {l names:List UInt8} {F:List Nat} (h:FcI l names F) (hc:(cutB 44 names).2.2=false) (h0:¬ findFrom (cutB 44 names).1 facNames 0=0):(∀ f ∈ F ++ [findFrom (cutB 44 names).1 facNames 0 - 1],f < 24)/\facFold (splitC 44 l) 0=bitsOf (F ++ [findFrom (cutB 44 names).1 facNames 0 - 1]):=by
 refine ⟨?_,?_⟩
 ·intro f hf
  rcases List.mem_append.1 hf with hf | hf
  ·exact h.1 f hf
  ·have:=fac_idx (cutB 44 names).1
   simp at hf
   omega
 ·rw [h.2,splitC_cut,if_neg (by rw [hc];decide),facFold,if_neg h0,bits_snoc]
  rfl
def FcOk (l:List UInt8) (F:List Nat):Prop:=(∀ f ∈ F,f < 24)/\¬ facBits l=0/\∀ f,f < 24->((facBits l).testBit f=true ↔ f ∈ F)
theorem fcok_star {F:List Nat} (h:F=List.range 24):FcOk [42] F:=by
 subst h
 refine ⟨by simp,by decide,?_⟩
 intro f hf
 constructor
 ·intro _;simpa using hf
 ·intro _
  have:∀ f,f < 24->(facBits [42]).testBit f=true:=by decide
  exact this f hf
theorem fcok_names {l:List UInt8} {F:List Nat} (h42:¬ l=[42]) (hF:∀ f ∈ F,f < 24) (hn:¬ F=[]) (h:facFold (splitC 44 l) 0=bitsOf F):FcOk l F:=by
 have e:facBits l=bitsOf F:=by unfold facBits;rw [if_neg h42];exact h
 refine ⟨hF,by rw [e];exact bits_pos hn,fun f _=>?_⟩
 rw [e]
 exact bits_test F f
theorem fac_bad {l:List UInt8} (h42:¬ l=[42]) (h:facFold (splitC 44 l) 0=0):facBits l=0:=by unfold facBits;rw [if_neg h42];exact h
def SvOk (g:List UInt8) (lo hi:Int):Prop:=¬ sevBits g=0/\∀ s,s < 8->((sevBits g).testBit s=true ↔ (lo<=(s:Int)/\(s:Int)<=hi))
theorem svok_star:SvOk [42] 0 7:=by
 refine ⟨by decide,?_⟩
 intro s hs
 have:∀ s,s < 8->(sevBits [42]).testBit s=true:=by decide
 exact ⟨fun _=>⟨by omega,by omega⟩,fun _=>this s hs⟩
theorem trim_eq (x:List UInt8):Lib.trimPrefix (61 :: x) [61]=x:=by simp [Lib.trimPrefix,Lib.hasPrefix,List.isPrefixOf]
theorem pre_eq (x:List UInt8):Lib.hasPrefix (61 :: x) [61]=true:=by simp [Lib.hasPrefix,List.isPrefixOf]
theorem pre_ne {g:List UInt8} (h:∀ x,¬ g=61 :: x):Lib.hasPrefix g [61]=false:=by
 match g,h with
 | [],_=>rfl
 | c :: t,h=>
  have:¬ c=61:=fun e=>h t (by rw [e])
  simp [Lib.hasPrefix,List.isPrefixOf,Ne.symm this]
theorem trim_ne {g:List UInt8} (h:∀ x,¬ g=61 :: x):Lib.trimPrefix g [61]=g:=by
 unfold Lib.trimPrefix
 rw [pre_ne h]
 rfl
theorem sev_one (x:List UInt8):sevBits (61 :: x)=if findFrom x severityNames 0=0 then 0 else 2 ^ (findFrom x severityNames 0 - 1):=by
 unfold sevBits
 rw [if_neg (by simp),trim_eq,pre_eq]
 simp
theorem sev_up {g:List UInt8} (h42:¬ g=[42]) (h:∀ x,¬ g=61 :: x):sevBits g=if findFrom g severityNames 0=0 then 0 else 2 ^ findFrom g severityNames 0 - 1:=by
 unfold sevBits
 rw [if_neg h42,trim_ne h,pre_ne h]
 simp
theorem svok_one {x:List UInt8} {k:Nat} (h:findFrom x severityNames 0=k+1):SvOk (61 :: x) k k:=by
 have e:sevBits (61 :: x)=2 ^ k:=by rw [sev_one,if_neg (by omega),h];simp
 refine ⟨by rw [e];exact Nat.ne_of_gt (Nat.pow_pos (by decide)),fun s _=>?_⟩
 rw [e,Nat.testBit_two_pow]
 simp
 omega
theorem svok_up {g:List UInt8} {k:Nat} (h42:¬ g=[42]) (hx:∀ x,¬ g=61 :: x) (h:findFrom g severityNames 0=k+1):SvOk g 0 k:=by
 have e:sevBits g=2 ^ (k+1) - 1:=by rw [sev_up h42 hx,if_neg (by omega),h]
 refine ⟨?_,fun s _=>?_⟩
 ·rw [e]
  have:2 ^ 1<=2 ^ (k+1):=Nat.pow_le_pow_right (by decide) (by omega)
  omega
 ·rw [e,Nat.testBit_two_pow_sub_one]
  simp
  omega
theorem rule_none_blank {l:List UInt8} (h:rfind 32 l=-1):readRule l=none:=by
 rcases rfind_cut (c:=32) (l:=l) with ⟨_,hc⟩ | ⟨i,hi,_⟩
 ·unfold readRule ruleOf
  rw [hc]
  apply if_pos
  exact .inr (.inr (by dsimp only;decide))
 ·omega
theorem sev_nil:sevBits []=0:=by decide
theorem rule_none_dot {l:List UInt8} {b:Nat} (hb:rfind 32 l=b) (h:rfind 46 l=-1∨(b:Int) < rfind 46 l):readRule l=none:=by
 rcases rfind_cut (c:=32) (l:=l) with ⟨h1,_⟩ | ⟨i,hi,hil,hc⟩
 ·omega
 ·have ei:i=b:=by omega
  subst ei
  have hno:(46:UInt8) ∉ l.take i:=by
   rcases rfind_cut (c:=46) (l:=l) with ⟨h1,hc2⟩ | ⟨j,hj,hjl,hc2⟩
   ·have:=cutB_not 46 l
    rw [hc2] at this
    exact fun hm=>this (List.mem_of_mem_take hm)
   ·have:=cutB_not 46 l
    rw [hc2] at this
    have hij:i < j:=by omega
    intro hm
    apply this
    have e:l.take i=(l.take j).take i:=by rw [List.take_take,Nat.min_eq_left (by omega)]
    rw [e] at hm
    exact List.mem_of_mem_take hm
  unfold readRule ruleOf
  rw [hc]
  dsimp only
  rw [cutB_all 46 _ hno]
  apply if_pos
  exact .inr (.inl sev_nil)
theorem rule_parts {l:List UInt8} {b d:Nat} (hb:rfind 32 l=b) (hd:rfind 46 l=d) (hdb:d<=b):d < b/\b < l.length/\readRule l=ruleOf (facBits (l.take d)) (sevBits ((l.drop (d+1)).take (b - (d+1)))) (l.drop (b+1)):=by
 rcases rfind_cut (c:=32) (l:=l) with ⟨h1,_⟩ | ⟨i,hi,hil,hc⟩
 ·omega
 rcases rfind_cut (c:=46) (l:=l) with ⟨h1,_⟩ | ⟨j,hj,hjl,hc2⟩
 ·omega
 have ei:i=b:=by omega
 have ej:j=d:=by omega
 subst ei ej
 have hne:j < i:=by
  by_cases e:j=i
  ·subst e
   have e1:=cutB_some 32 l (by rw [hc])
   have e2:=cutB_some 46 l (by rw [hc2])
   rw [hc] at e1
   rw [hc2] at e2
   have:=e1.symm.trans e2
   simp at this
  ·omega
 refine ⟨hne,hil,?_⟩
 have hcc:cutB 46 (l.take i)=(l.take j,(l.drop (j+1)).take (i - (j+1)),true):=by
  have hj46:l[j]=46:=by
   have e2:=cutB_some 46 l (by rw [hc2])
   rw [hc2] at e2
   have:=congrArg (fun x:List UInt8=>x[j]?) e2
   simp only [List.getElem?_eq_getElem hjl] at this
   rw [List.getElem?_append_right (by simp;omega)] at this
   simp [Nat.min_eq_left (Nat.le_of_lt hjl)] at this
   exact this
  have e:l.take i=l.take j ++ 46 :: (l.drop (j+1)).take (i - (j+1)):=by
   conv=>lhs;rw [show i=j+(1+(i - (j+1))) by omega]
   rw [List.take_add,List.take_add,List.drop_drop]
   rw [List.drop_eq_getElem_cons hjl,hj46]
   simp
  rw [e]
  have hnot:(46:UInt8) ∉ l.take j:=by
   have:=cutB_not 46 l
   rwa [hc2] at this
  exact cutB_app 46 _ _ hnot
 unfold readRule
 rw [hc]
 dsimp only
 rw [hcc]
theorem rule_word {fb sb:Nat} {v:List UInt8} (h1:¬ v=kKeep) (h2:¬ v=kDrop):ruleOf fb sb v=none:=by
 unfold ruleOf
 exact if_pos (.inr (.inr ⟨h1,h2⟩))
theorem rule_fac {fb sb:Nat} {v:List UInt8} (h1:fb=0):ruleOf fb sb v=none:=by
 unfold ruleOf
 exact if_pos (.inl h1)
theorem rule_sev {fb sb:Nat} {v:List UInt8} (h1:sb=0):ruleOf fb sb v=none:=by
 unfold ruleOf
 exact if_pos (.inr (.inl h1))
theorem rule_some {n g v:List UInt8} {F:List Nat} {lo hi:Int} (h1:FcOk n F) (h2:SvOk g lo hi) (hv:v=kKeep∨v=kDrop):∃ r,ruleOf (facBits n) (sevBits g) v=some r/\Alike r ⟨F,lo,hi,decide (v=kKeep)⟩:=by
 refine ⟨⟨facBits n,sevBits g,decide (v=kKeep)⟩,?_,rfl,h1.1,fun f s hf hs=>?_⟩
 ·unfold ruleOf
  apply if_neg
  rintro (h | h | ⟨h3,h4⟩)
  ·exact h1.2.1 h
  ·exact h2.1 h
  ·rcases hv with hv | hv
   ·exact h3 hv
   ·exact h4 hv
 ·unfold Rl.fits
  dsimp only
  rw [Bool.and_eq_true,h1.2.2 f hf,h2.2 s hs]
end Go.Hm

/- Pressed by program out of Cn. -/
import Derived.Test.YtdlhbmncbmconaaGreatDoorL21
namespace Go.Hm
def ValI (l:List UInt8) (a v:Nat):Prop:=a<=v/\value (l.drop a)=(value (l.drop v)).map (·+(v - a))
theorem val_start (l:List UInt8) (a:Nat):ValI l a a:=⟨Nat.le_refl _,by simp⟩
theorem val_next {l:List UInt8} {a v:Nat} (h:ValI l a v) (hv:v < l.length) (h1:¬ l[v].toNat=34) (h2:¬ l[v].toNat=93) (h3:¬ l[v].toNat=92):ValI l a (v+1):=by
 refine ⟨by have:=h.1;omega,?_⟩
 rw [h.2,List.drop_eq_getElem_cons hv,value_other h1 h2 h3,Option.map_map]
 congr 1
 funext x
 have:=h.1
 simp
 omega
theorem val_esc {l:List UInt8} {a v:Nat} (h:ValI l a v) (hv:v+1 < l.length) (h1:l[v].toNat=92) (h2:esc l[v+1]=true):ValI l a (v+2):=by
 refine ⟨by have:=h.1;omega,?_⟩
 rw [h.2,List.drop_eq_getElem_cons (show v < l.length by omega),List.drop_eq_getElem_cons hv,value_esc2 h1 h2,Option.map_map]
 congr 1
 funext x
 have:=h.1
 simp
 omega
theorem val_shut {l:List UInt8} {a v:Nat} (h:ValI l a v) (hv:v < l.length) (h1:l[v].toNat=93):value (l.drop a)=none:=by
 rw [h.2,List.drop_eq_getElem_cons hv,value_shut h1];rfl
theorem val_esc0 {l:List UInt8} {a v:Nat} (h:ValI l a v) (hv:v < l.length) (h1:l[v].toNat=92) (h2:¬ ∃ h:v+1 < l.length,esc l[v+1]=true):value (l.drop a)=none:=by
 rw [h.2,List.drop_eq_getElem_cons hv]
 by_cases h3:v+1 < l.length
 ·rw [List.drop_eq_getElem_cons h3,value_esc1 h1 (by cases he:esc l[v+1] with | false=>rfl | true=>exact absurd ⟨h3,he⟩ h2)];rfl
 ·rw [List.drop_of_length_le (show l.length<=v+1 by omega),value_esc0 h1];rfl
theorem val_end {l:List UInt8} {a v:Nat} (h:ValI l a v) (hv:l.length<=v):value (l.drop a)=none:=by
 rw [h.2,List.drop_of_length_le hv,value_nil];rfl
theorem val_quote {l:List UInt8} {a v:Nat} (h:ValI l a v) (hv:v < l.length) (h1:l[v].toNat=34):value (l.drop a)=some (v - a):=by
 rw [h.2,List.drop_eq_getElem_cons hv,value_quote h1];simp
def nrun (l:List UInt8) (a:Nat):Nat:=((l.drop a).takeWhile nmb).length
theorem name_min (l:List UInt8) (a:Nat):nameLen (l.drop a)=min 12 (nrun l a):=ahead_min nmb (l.drop a) 12
theorem nrun_at {l:List UInt8} {a k:Nat} (ha:a<=l.length) (hk:k < nrun l a):∃ h:a+k < l.length,nmb l[a+k]=true:=(run_at nmb l a _ ha rfl).2.1 k hk
theorem nrun_le {l:List UInt8} {a:Nat} (ha:a<=l.length):a+nrun l a<=l.length:=(run_at nmb l a _ ha rfl).1
theorem pre2 (l:List UInt8) (a:Nat):Lib.hasPrefix (l.drop a) [61,34]=true ↔ ∃ h:a+1 < l.length,l[a].toNat=61/\l[a+1].toNat=34:=by
 by_cases h:a+1 < l.length
 ·rw [List.drop_eq_getElem_cons (show a < l.length by omega),List.drop_eq_getElem_cons h]
  simp only [Lib.hasPrefix,List.isPrefixOf,Bool.and_true,Bool.and_eq_true,beq_iff_eq]
  constructor
  ·rintro ⟨e1,e2⟩;exact ⟨h,by rw [<-e1];rfl,by rw [<-e2];rfl⟩
  ·rintro ⟨_,e1,e2⟩
   exact ⟨(UInt8.toNat_inj.1 e1).symm,(UInt8.toNat_inj.1 e2).symm⟩
 ·constructor
  ·intro hp
   have:=prefix_len hp
   rw [List.length_drop] at this
   simp at this
   omega
  ·rintro ⟨h2,_⟩;exact absurd h2 h
theorem pair_word {l:List UInt8} {q:Nat} (hq:q<=l.length) (h:nrun l q=0∨12 < nrun l q):pair (l.drop q)=0:=by
 unfold pair
 rw [name_min,if_pos]
 rcases h with h | h
 ·left;rw [h];rfl
 ·right
  rw [Nat.min_eq_left (by omega),List.drop_drop]
  cases hb:Lib.hasPrefix (l.drop (q+12)) [61,34] with
  | false=>rfl
  | true=>
   obtain ⟨h1,h2,_⟩:=(pre2 _ _).1 hb
   obtain ⟨h3,h4⟩:=nrun_at hq h
   simp [nmb] at h4
   omega
theorem pair_eq {l:List UInt8} {q:Nat} (h:¬ (nrun l q=0∨12 < nrun l q)) (h2:¬ ∃ h:q+nrun l q+1 < l.length,l[q+nrun l q].toNat=61/\l[q+nrun l q+1].toNat=34):pair (l.drop q)=0:=by
 unfold pair
 rw [name_min,Nat.min_eq_right (by omega),List.drop_drop,if_pos]
 right
 cases hb:Lib.hasPrefix (l.drop (q+nrun l q)) [61,34] with
 | false=>rfl
 | true=>exact absurd ((pre2 _ _).1 hb) h2
theorem pair_val {l:List UInt8} {q:Nat} (h:¬ (nrun l q=0∨12 < nrun l q)) (h2:∃ h:q+nrun l q+1 < l.length,l[q+nrun l q].toNat=61/\l[q+nrun l q+1].toNat=34) :
  pair (l.drop q)=match value (l.drop (q+nrun l q+2)) with | none=>0 | some v=>nrun l q+2+v+1:=by
 unfold pair
 rw [name_min,Nat.min_eq_right (by omega),List.drop_drop,if_neg (by rw [(pre2 _ _).2 h2];simp;omega),List.drop_drop,show q+(nrun l q+2)=q+nrun l q+2 by omega]
 cases value (l.drop (q+nrun l q+2))<;>rfl
theorem pair_eqS {l:List UInt8} {q S:Nat} (hS:nrun l q=S) (h:¬ (nrun l q=0∨12 < nrun l q)) (h2:¬ ∃ h:q+S+1 < l.length,l[q+S].toNat=61/\l[q+S+1].toNat=34):pair (l.drop q)=0:=by
 subst hS
 exact pair_eq h h2
theorem pair_valS {l:List UInt8} {q S:Nat} (hS:nrun l q=S) (h:¬ (nrun l q=0∨12 < nrun l q)) (h2:∃ h:q+S+1 < l.length,l[q+S].toNat=61/\l[q+S+1].toNat=34) :
  pair (l.drop q)=match value (l.drop (q+S+2)) with | none=>0 | some v=>S+2+v+1:=by
 subst hS
 exact pair_val h h2
theorem pair_noneS {l:List UInt8} {q S:Nat} (hS:nrun l q=S) (h:¬ (nrun l q=0∨12 < nrun l q)) (h2:∃ h:q+S+1 < l.length,l[q+S].toNat=61/\l[q+S+1].toNat=34) (hv:value (l.drop (q+S+2))=none):pair (l.drop q)=0:=by
 rw [pair_valS hS h h2,hv]
theorem pair_someS {l:List UInt8} {q S v:Nat} (hS:nrun l q=S) (h:¬ (nrun l q=0∨12 < nrun l q)) (h2:∃ h:q+S+1 < l.length,l[q+S].toNat=61/\l[q+S+1].toNat=34) (hv:value (l.drop (q+S+2))=some v):pair (l.drop q)=S+2+v+1:=by
 rw [pair_valS hS h h2,hv]
def PairI (l:List UInt8) (a j:Nat):Prop:=a<=j/\j<=l.length/\pairs (l.length+1) (l.drop a)=(pairs (l.length+1) (l.drop j)).map (·+(j - a))
theorem pairI_start {l:List UInt8} {a:Nat} (h:a<=l.length):PairI l a a:=⟨Nat.le_refl _,h,by simp⟩
theorem pairI_step {l:List UInt8} {a j n:Nat} (h:PairI l a j) (h32:∃ h:j < l.length,l[j].toNat=32) (hp:pair (l.drop (j+1))=n) (hn:¬ n=0):PairI l a (j+1+n):=by
 have hle:=pair_le (l.drop (j+1))
 rw [hp,List.length_drop] at hle
 obtain ⟨hj,_⟩:=id h32
 refine ⟨by have:=h.1;omega,by omega,?_⟩
 have hd:(l.drop j).drop 1=l.drop (j+1):=by rw [List.drop_drop]
 rw [h.2.2,pairs_step (by rw [List.length_drop];omega) (pre_yes (c:=32) h32) (by rw [hd,hp];exact hn),hd,hp,Option.map_map,List.drop_drop,show j+(1+n)=j+1+n by omega]
 congr 1
 funext x
 have:=h.1
 simp
 omega
theorem pairI_bad {l:List UInt8} {a j:Nat} (h:PairI l a j) (h32:∃ h:j < l.length,l[j].toNat=32) (hp:pair (l.drop (j+1))=0):pairs (l.length+1) (l.drop a)=none:=by
 have hd:(l.drop j).drop 1=l.drop (j+1):=by rw [List.drop_drop]
 rw [h.2.2,pairs_bad (by rw [List.length_drop];omega) (pre_yes (c:=32) h32) (by rw [hd,hp])]
 rfl
theorem pairI_end {l:List UInt8} {a j:Nat} (h:PairI l a j) (h32:¬ ∃ h:j < l.length,l[j].toNat=32):pairs (l.length+1) (l.drop a)=some (j - a):=by
 rw [h.2.2,pairs_end (by rw [List.length_drop];omega) (pre_no (c:=32) h32)]
 simp
theorem elem_word {l:List UInt8} {i:Nat} (hi:i < l.length) (h:nrun l (i+1)=0∨12 < nrun l (i+1)):(element (l.drop i)).2=0:=by
 unfold element
 split
 ·rfl
 ·rw [List.drop_drop,name_min]
  rcases h with h | h
  ·rw [if_pos (by rw [h];rfl)]
  ·rw [Nat.min_eq_left (by omega),if_neg (by omega),List.drop_drop,show i+(1+12)=i+1+12 by omega]
   obtain ⟨h1,h2⟩:=nrun_at (show i+1<=l.length by omega) h
   have h3:33<=l[i+1+12].toNat/\¬ l[i+1+12].toNat=93:=by
    simp [nmb,vis] at h2
    omega
   rw [pairs_end (by rw [List.length_drop,List.length_drop];omega) (pre_no (c:=32) (fun ⟨_,e⟩=>by have:(32:UInt8).toNat=32:=rfl;omega))]
   dsimp only
   rw [List.drop_drop,show i+(1+12+0)=i+1+12 by omega,if_pos (pre_no (c:=93) (fun ⟨_,e⟩=>by have:(93:UInt8).toNat=93:=rfl;omega))]
theorem elem_pairs {l:List UInt8} {i:Nat} (h91:∃ h:i < l.length,l[i].toNat=91) (h:¬ (nrun l (i+1)=0∨12 < nrun l (i+1))) :
  element (l.drop i)=match pairs (l.length+1) (l.drop (i+1+nrun l (i+1))) with
   | none=>([],0)
   | some k=>if Lib.hasPrefix (l.drop (i+1+nrun l (i+1)+k)) [93]=false then ([],0) else ((l.drop (i+1)).take (nrun l (i+1)),1+nrun l (i+1)+k+1):=by
 unfold element
 rw [if_neg (by rw [pre_yes (c:=91) h91];simp),List.drop_drop,name_min,Nat.min_eq_right (by omega),if_neg (by omega),List.drop_drop,show i+(1+nrun l (i+1))=i+1+nrun l (i+1) by omega,
  pairs_fuel _ (l.drop (i+1+nrun l (i+1))) (l.length+1) (by rw [List.length_drop,List.length_drop];omega) (by rw [List.length_drop];omega)]
 cases pairs (l.length+1) (l.drop (i+1+nrun l (i+1))) with
 | none=>rfl
 | some k=>
  dsimp only
  rw [List.drop_drop,show i+(1+nrun l (i+1)+k)=i+1+nrun l (i+1)+k by omega]
theorem elem_none {l:List UInt8} {i:Nat} (h91:∃ h:i < l.length,l[i].toNat=91) (h:¬ (nrun l (i+1)=0∨12 < nrun l (i+1))) (hp:pairs (l.length+1) (l.drop (i+1+nrun l (i+1)))=none):(element (l.drop i)).2=0:=by
 rw [elem_pairs h91 h,hp]
theorem elem_open {l:List UInt8} {i k:Nat} (h91:∃ h:i < l.length,l[i].toNat=91) (h:¬ (nrun l (i+1)=0∨12 < nrun l (i+1))) (hp:pairs (l.length+1) (l.drop (i+1+nrun l (i+1)))=some k)
  (h93:¬ ∃ h:i+1+nrun l (i+1)+k < l.length,l[i+1+nrun l (i+1)+k].toNat=93):(element (l.drop i)).2=0:=by
 rw [elem_pairs h91 h,hp]
 dsimp only
 rw [if_pos (pre_no (c:=93) h93)]
theorem elem_ok {l:List UInt8} {i k:Nat} (h91:∃ h:i < l.length,l[i].toNat=91) (h:¬ (nrun l (i+1)=0∨12 < nrun l (i+1))) (hp:pairs (l.length+1) (l.drop (i+1+nrun l (i+1)))=some k)
  (h93:∃ h:i+1+nrun l (i+1)+k < l.length,l[i+1+nrun l (i+1)+k].toNat=93):element (l.drop i)=((l.drop (i+1)).take (nrun l (i+1)),1+nrun l (i+1)+k+1):=by
 rw [elem_pairs h91 h,hp]
 dsimp only
 rw [if_neg (by rw [pre_yes (c:=93) h93];simp)]
theorem elem_openS {l:List UInt8} {i k R:Nat} (hR:nrun l (i+1)=R) (h91:∃ h:i < l.length,l[i].toNat=91) (h:¬ (nrun l (i+1)=0∨12 < nrun l (i+1))) (hp:pairs (l.length+1) (l.drop (i+1+R))=some k)
  (h93:¬ ∃ h:i+1+R+k < l.length,l[i+1+R+k].toNat=93):(element (l.drop i)).2=0:=by
 subst hR
 exact elem_open h91 h hp h93
theorem elem_okS {l:List UInt8} {i k R:Nat} (hR:nrun l (i+1)=R) (h91:∃ h:i < l.length,l[i].toNat=91) (h:¬ (nrun l (i+1)=0∨12 < nrun l (i+1))) (hp:pairs (l.length+1) (l.drop (i+1+R))=some k)
  (h93:∃ h:i+1+R+k < l.length,l[i+1+R+k].toNat=93):element (l.drop i)=((l.drop (i+1)).take R,1+R+k+1):=by
 subst hR
 exact elem_ok h91 h hp h93
theorem elem_not {l:List UInt8} {i:Nat} (h91:¬ ∃ h:i < l.length,l[i].toNat=91):(element (l.drop i)).2=0:=by
 unfold element
 rw [if_pos (pre_no (c:=91) h91)]
theorem elem_name {l:List UInt8} {i:Nat} (h91:∃ h:i < l.length,l[i].toNat=91) (h:¬ (nrun l (i+1)=0∨12 < nrun l (i+1))) (h0:¬ (element (l.drop i)).2=0):(element (l.drop i)).1=(l.drop (i+1)).take (nrun l (i+1)):=by
 rw [elem_pairs h91 h] at h0 ⊢
 split at h0
 ·exact absurd rfl h0
 ·next k hk=>
  split at h0
  ·exact absurd rfl h0
  ·next hn=>rw [if_neg hn]
def rdata (l:List UInt8):Nat:=if Lib.hasPrefix (l.drop (lastEnd (elems (l.length+1) l 0))) [91]=true then 0 else dataLen l
structure DataI (l:List UInt8) (i:Nat) (names:List (List UInt8)):Prop where
 le:i<=l.length
 done:∃ d:List (List UInt8 × Nat),names=d.map (·.1)/\elems (l.length+1) l 0=d ++ elems (l.length+1) l i/\i=lastEnd d
 nodup:names.Nodup
 count:names.length<=i
theorem dataI_start (l:List UInt8):DataI l 0 []:=⟨Nat.zero_le _,⟨[],rfl,rfl,rfl⟩,List.nodup_nil,Nat.le_refl _⟩
theorem data_end {l:List UInt8} {i:Nat} {names:List (List UInt8)} (h:DataI l i names) (h91:¬ ∃ h:i < l.length,l[i].toNat=91):rdata l=if plain (l.take i)=true then i else 0:=by
 obtain ⟨hle,⟨d,rfl,he,rfl⟩,hnd,_⟩:=h
 rw [elems_end (by omega) hle (elem_not h91),List.append_nil] at he
 unfold rdata dataLen dataOf
 rw [he,if_neg (by rw [pre_no (c:=91) h91];simp),if_pos hnd]
theorem data_bad {l:List UInt8} {i:Nat} {names:List (List UInt8)} (h:DataI l i names) (h91:∃ h:i < l.length,l[i].toNat=91) (h0:(element (l.drop i)).2=0):rdata l=0:=by
 obtain ⟨hle,⟨d,rfl,he,rfl⟩,hnd,_⟩:=h
 rw [elems_end (by omega) hle h0,List.append_nil] at he
 unfold rdata
 rw [he,if_pos (pre_yes (c:=91) h91)]
theorem data_dup {l:List UInt8} {i:Nat} {names:List (List UInt8)} (h:DataI l i names) (h91:∃ h:i < l.length,l[i].toNat=91) (hr:¬ (nrun l (i+1)=0∨12 < nrun l (i+1)))
  (hm:(l.drop (i+1)).take (nrun l (i+1)) ∈ names):rdata l=0:=by
 by_cases h0:(element (l.drop i)).2=0
 ·exact data_bad h h91 h0
 ·have hn:=elem_name h91 hr h0
  obtain ⟨hle,⟨d,rfl,he,hi⟩,hnd,_⟩:=h
  rw [elems_step (by omega) hle h0,hn] at he
  unfold rdata
  split
  ·rfl
  ·unfold dataLen dataOf
   rw [he,if_neg]
   intro hnd2
   rw [List.map_append,List.map_cons] at hnd2
   have:=(List.nodup_append.1 hnd2).2.2
   exact this _ hm _ List.mem_cons_self rfl
theorem data_step {l:List UInt8} {i n:Nat} {name:List UInt8} {names:List (List UInt8)} (h:DataI l i names) (he:element (l.drop i)=(name,n)) (hn:¬ n=0) (hm:name ∉ names):DataI l (i+n) (names ++ [name]):=by
 have hle2:=element_le (l.drop i)
 rw [he,List.length_drop] at hle2
 dsimp only at hle2
 obtain ⟨hle,⟨d,rfl,hel,hi⟩,hnd,hc⟩:=h
 refine ⟨by omega,⟨d ++ [(name,i+n)],by simp,?_,?_⟩,?_,?_⟩
 ·rw [hel,elems_step (by omega) hle (by rw [he];exact hn),he]
  simp
 ·simp [lastEnd]
 ·rw [List.nodup_append]
  refine ⟨hnd,by simp,?_⟩
  intro a ha b hb
  obtain rfl:=List.mem_singleton.1 hb
  rintro rfl
  exact hm ha
 ·rw [List.length_append,List.length_singleton]
  omega
end Go.Hm

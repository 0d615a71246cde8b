/- Pressed by program out of Cp. -/
import Derived.Test.YtdlhbmncbmconaaGreatDoorL24
import Derived.Test.YtdlhbmncbmconaaGreatDoorL23
import Derived.Test.YtdlhbmncbmconaaGreatDoorL00
namespace Go.Hm
def pend (l:List UInt8) (a:Nat):Nat:=a+((l.drop a).takeWhile fun c=>!decide (c.toNat=32)).length
theorem rtw_take {α:Type} (p:α->Bool):∀ d:List α,d.take (d.takeWhile p).length=d.takeWhile p
 | []=>rfl
 | c :: t=>by
  rw [List.takeWhile_cons]
  split
  ·rw [List.length_cons,List.take_succ_cons,rtw_take p t]
  ·rfl
theorem rtw_le {α:Type} (p:α->Bool) (d:List α):(d.takeWhile p).length<=d.length:=by
 have:=congrArg List.length (rtw_take p d)
 rw [List.length_take] at this
 omega
theorem pend_le (l:List UInt8) (a:Nat) (ha:a<=l.length):a<=pend l a/\pend l a<=l.length:=by
 have:=rtw_le (fun c:UInt8=>!decide (c.toNat=32)) (l.drop a)
 rw [List.length_drop] at this
 unfold pend
 omega
theorem part_pend (l:List UInt8) (a:Nat) (ha:a<=l.length):part l a=((l.drop a).take (pend l a - a),min (pend l a+1) l.length):=by
 have h:=cut_run (l.drop a)
 have hle:=rtw_le (fun c:UInt8=>!decide (c.toNat=32)) (l.drop a)
 have ht:=rtw_take (fun c:UInt8=>!decide (c.toNat=32)) (l.drop a)
 unfold part pend
 rw [show a+((l.drop a).takeWhile fun c=>!decide (c.toNat=32)).length - a=((l.drop a).takeWhile fun c=>!decide (c.toNat=32)).length by omega,ht,h.1]
 generalize ((l.drop a).takeWhile fun c=>!decide (c.toNat=32))=T at h hle
 rw [List.length_drop] at h hle
 refine Prod.ext rfl ?_
 dsimp only
 cases hc:(Lib.cut (l.drop a) [32]).2.2
 ·have:=h.2.1 hc
  simp
  omega
 ·have:¬ T.length=l.length - a:=fun e=>by rw [h.2.2 e] at hc;cases hc
  simp
  omega
theorem pre_get {l:List UInt8} {a:Nat} {c:UInt8} (h:Lib.hasPrefix (l.drop a) [c]=true):∃ h:a < l.length,l[a].toNat=c.toNat:=by
 by_cases hx:∃ h:a < l.length,l[a].toNat=c.toNat
 ·exact hx
 ·rw [pre_no (c:=c) hx] at h
  cases h
theorem rdata_cases (d:List UInt8):rdata d=dataLen d∨(rdata d=0/\(dataLen d=0∨∃ h:dataLen d < d.length,d[dataLen d].toNat=91)):=by
 unfold rdata
 split
 ·next h=>
  right
  refine ⟨rfl,?_⟩
  obtain ⟨h1,h2⟩:=pre_get (c:=91) h
  unfold dataLen dataOf
  split
  ·split
   ·right;exact ⟨h1,h2⟩
   ·left;rfl
  ·left;rfl
 ·left;rfl
theorem rdata_le (d:List UInt8):rdata d<=d.length:=by
 have:=dataLen_le d
 rcases rdata_cases d with h | h<;>omega
theorem rdata_all (d:List UInt8):rdata d=d.length ↔ (d=[]∨isData d=true):=by
 have hle:=dataLen_le d
 have hc:=rdata_cases d
 unfold isData
 constructor
 ·intro h
  by_cases h0:d=[]
  ·exact .inl h0
  ·right
   have hd:¬ d.length=0:=fun e=>h0 (List.eq_nil_of_length_eq_zero e)
   rcases hc with hc | ⟨hc,_⟩
   ·rw [hc] at h
    simp [h0,h]
   ·omega
 ·rintro (h | h)
  ·subst h
   have:=rdata_le []
   simp at this ⊢
   exact this
  ·simp at h
   rcases hc with hc | ⟨_,hc | ⟨hc,_⟩⟩
   ·rw [hc];exact h.2
   ·have:d=[]:=List.eq_nil_of_length_eq_zero (by omega)
    exact absurd this h.1
   ·omega
def rtold (d:List UInt8):Nat:=if Lib.hasPrefix d [45]=true then 1 else rdata d
def rdat (d:List UInt8):List UInt8:=if Lib.hasPrefix d [45]=true then [] else d.take (rdata d)
theorem rtold_le (d:List UInt8):rtold d<=d.length:=by
 unfold rtold
 split
 ·rename_i h;have:=prefix_len h;simpa using this
 ·exact rdata_le d
theorem getD_drop (l:List UInt8) (a k:Nat):l.getD (a+k) 0=(l.drop a).getD k 0:=by
 simp [List.getD_eq_getElem?_getD,List.getElem?_drop]
theorem dt_bad {l:List UInt8} {a:Nat} (ha:a<=l.length) (h:rtold (l.drop a)=0∨(a+rtold (l.drop a) < l.length/\¬ (l.getD (a+rtold (l.drop a)) 0).toNat=32)) (m:Msg):dataText m l a=(Msg.none,8,a):=by
 unfold dataText
 apply if_pos
 unfold rtold at h
 unfold toldOrData
 by_cases h45:Lib.hasPrefix (l.drop a) [45]=true
 ·rw [if_pos h45] at h ⊢;exact h
 ·rw [if_neg h45] at h ⊢
  rcases rdata_cases (l.drop a) with hc | ⟨_,hc | ⟨hc,h91⟩⟩
  ·rw [hc] at h;exact h
  ·exact .inl hc
  ·right
   have hc2:=hc
   rw [List.length_drop] at hc2
   refine ⟨by omega,?_⟩
   rw [getD_drop,List.getD_eq_getElem?_getD,List.getElem?_eq_getElem hc]
   dsimp only [Option.getD]
   omega
theorem dt_told {l:List UInt8} {a:Nat} (h:¬ (rtold (l.drop a)=0∨(a+rtold (l.drop a) < l.length/\¬ (l.getD (a+rtold (l.drop a)) 0).toNat=32))):toldOrData (l.drop a)=rtold (l.drop a)/\(if (l.drop a).take (rtold (l.drop a))=[45] then [] else (l.drop a).take (rtold (l.drop a)))=rdat (l.drop a):=by
 have h0:¬ rtold (l.drop a)=0:=fun e=>h (.inl e)
 unfold rtold at h0 ⊢
 unfold toldOrData rdat
 generalize l.drop a=d at h0 ⊢
 by_cases h45:Lib.hasPrefix d [45]=true
 ·rw [if_pos h45,if_pos h45,if_pos h45]
  refine ⟨rfl,?_⟩
  obtain ⟨h1,h2⟩:=pre_get (l:=d) (a:=0) (c:=45) h45
  match d,h1,h2 with
  | c :: t,_,h2=>
   have:c=45:=UInt8.toNat_inj.1 h2
   subst this
   rfl
 ·rw [if_neg h45,if_neg h45,if_neg h45]
  rw [if_neg h45] at h0
  have hc:rdata d=dataLen d:=by
   rcases rdata_cases d with hc | ⟨hc,_⟩
   ·exact hc
   ·exact absurd hc h0
  refine ⟨hc.symm,?_⟩
  rw [if_neg]
  intro e
  apply h45
  have hl:0 < d.length:=by have:=rdata_le d;omega
  refine pre_yes (l:=d) (a:=0) (c:=45) ⟨hl,?_⟩
  have:=congrArg (fun x:List UInt8=>x[0]?) e
  simp only [List.getElem?_take,List.getElem?_eq_getElem hl] at this
  rw [if_pos (by omega)] at this
  simp at this
  rw [this]
theorem dt_end {l:List UInt8} {a:Nat} (h:¬ (rtold (l.drop a)=0∨(a+rtold (l.drop a) < l.length/\¬ (l.getD (a+rtold (l.drop a)) 0).toNat=32))) (_ha:a<=l.length) (he:l.length<=a+rtold (l.drop a)+1) (f s:Int) (tm w0 w1 w2 w3:List UInt8) :
  dataText ⟨f,s,tm,w0,w1,w2,w3,[],[]⟩ l a=(⟨f,s,tm,w0,w1,w2,w3,rdat (l.drop a),[]⟩,0,0):=by
 obtain ⟨h1,h2⟩:=dt_told h
 have hle:=rtold_le (l.drop a)
 rw [List.length_drop] at hle
 unfold dataText
 rw [h1,if_neg h,<-h2]
 by_cases e:a+rtold (l.drop a)=l.length
 ·rw [if_pos e]
  split<;>rfl
 ·have hd:l.drop (a+rtold (l.drop a)+1)=[]:=List.drop_eq_nil_of_le (by omega)
  rw [if_neg e,hd,if_neg (by decide)]
  split<;>rfl
theorem dt_text {l:List UInt8} {a:Nat} (h:¬ (rtold (l.drop a)=0∨(a+rtold (l.drop a) < l.length/\¬ (l.getD (a+rtold (l.drop a)) 0).toNat=32))) (he:a+rtold (l.drop a)+1 < l.length) (f s:Int) (tm w0 w1 w2 w3:List UInt8) :
  dataText ⟨f,s,tm,w0,w1,w2,w3,[],[]⟩ l a=if plain (l.drop (a+rtold (l.drop a)+1))=false then (Msg.none,9,a+rtold (l.drop a)+1) else (⟨f,s,tm,w0,w1,w2,w3,rdat (l.drop a),l.drop (a+rtold (l.drop a)+1)⟩,0,0):=by
 obtain ⟨h1,h2⟩:=dt_told h
 unfold dataText
 rw [h1,if_neg h,<-h2,if_neg (by omega)]
 split
 ·rfl
 ·split<;>rfl
theorem timeOf_none {p:List UInt8} (h:readTime p=none) (h2:¬ p=[45]):timeOf p=none:=by unfold timeOf;rw [if_neg h2];exact h
theorem readTime_dash:readTime [45]=none:=by decide
theorem timeOf_some {p t:List UInt8} (h:readTime p=some t):timeOf p=some t:=by
 unfold timeOf
 by_cases h2:p=[45]
 ·subst h2;rw [readTime_dash] at h;cases h
 ·rw [if_neg h2];exact h
end Go.Hm

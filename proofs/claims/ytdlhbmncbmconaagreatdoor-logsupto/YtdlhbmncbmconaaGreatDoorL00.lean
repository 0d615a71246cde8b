/- Pressed by program out of Mp Ma Mx My. -/
import Derived.Lib.Strings
import Derived.Lib.IndexMore
import Derived.Lib.ItoaNum
import Derived.Lib.ValidU
import Derived.Lib.TrimByte
import Derived.Lib.Repeat
import Derived.Lib.Join
import GoSem.Op.String
namespace Go.Hm
def dig (c:UInt8):Bool:=decide (48<=c.toNat) && decide (c.toNat<=57)
def letr (c:UInt8):Bool:=(decide (65<=c.toNat) && decide (c.toNat<=90)) || (decide (97<=c.toNat) && decide (c.toNat<=122))
def vis (c:UInt8):Bool:=decide (33<=c.toNat) && decide (c.toNat<=126)
def nmb (c:UInt8):Bool:=vis c && !(c.toNat == 61) && !(c.toNat == 93) && !(c.toNat == 34)
def tgb (c:UInt8):Bool:=letr c || dig c || c.toNat == 45 || c.toNat == 95 || c.toNat == 46 || c.toNat == 47
def esc (c:UInt8):Bool:=c.toNat == 34 || c.toNat == 92 || c.toNat == 93
def isYear (y:Int):Bool:=decide (1<=y) && decide (y<=9999)
def isSource (f s:Int):Bool:=decide (0<=f) && decide (f < 24) && decide (0<=s) && decide (s < 8)
def leap (y:Int):Bool:=decide (y % 4=0) && (!decide (y % 100=0) || decide (y % 400=0))
def monthDays:List Int:=[31,28,31,30,31,30,31,31,30,31,30,31]
def daysOf (y m:Int):Int:=if m=2/\leap y=true then 29 else monthDays.getD (m - 1).toNat 0
def ownNames:List (List UInt8):=[[107,101,114,110],[117,115,101,114],[109,97,105,108],[100,97,101,109,111,110],[97,117,116,104],[115,121,115,108,111,103],[108,112,114],[110,101,119,115],[117,117,99,112],[99,114,111,110],[97,117,116,104,112,114,105,118],[102,116,112],[110,116,112],[97,117,100,105,116],[97,108,101,114,116],[99,108,111,99,107]]
def severityNames:List (List UInt8):=[[101,109,101,114,103],[97,108,101,114,116],[99,114,105,116],[101,114,114],[119,97,114,110,105,110,103],[110,111,116,105,99,101],[105,110,102,111],[100,101,98,117,103]]
def monthNames:List (List UInt8):=[[74,97,110],[70,101,98],[77,97,114],[65,112,114],[77,97,121],[74,117,110],[74,117,108],[65,117,103],[83,101,112],[79,99,116],[78,111,118],[68,101,99]]
def ahead (p:UInt8->Bool) (b:Nat) (l:List UInt8):Nat:=((l.take b).takeWhile p).length
def dec (l:List UInt8):Nat:=l.foldl (fun n c=>10 * n+(c.toNat - 48)) 0
def shp (c s:UInt8):Bool:=if s=48 then dig c else s == c
def shape:List UInt8->List UInt8->Bool
 | [],[]=>true
 | c :: t,s :: u=>shp c s && shape t u
 | _,_=>false
def word (l:List UInt8) (most:Nat):Bool:=!l.isEmpty && !(l == [45]) && decide (l.length<=most) && l.all vis
def low (c:UInt8):Bool:=decide (c.toNat < 32) || c.toNat == 127
def plain (l:List UInt8):Bool:=l.all (fun c=>!low c) && Lib.validD l
theorem take_snoc (s:ByteArray) (k:Nat) (h:k < s.size):s.data.toList.take (k+1)=s.data.toList.take k ++ [s[k]]:=by
 rw [List.take_succ_eq_append_getElem (by simpa using h)];rfl
theorem takeWhile_all (p:UInt8->Bool) (l:List UInt8) (h:∀ c ∈ l,p c=true):l.takeWhile p=l:=by
 induction l with
 | nil=>rfl
 | cons a l ih=>
  rw [List.takeWhile_cons_of_pos (h a (by simp)),ih fun c hc=>h c (by simp [hc])]
theorem ahead_le (p:UInt8->Bool) (b:Nat) (l:List UInt8):ahead p b l<=b/\ahead p b l<=l.length:=by
 unfold ahead
 have h1:=List.Sublist.length_le (List.takeWhile_sublist p (l:=l.take b))
 have h2:(l.take b).length=min b l.length:=List.length_take
 omega
theorem ahead_eq (p:UInt8->Bool) (b:Nat) (l:List UInt8) (k:Nat) (hk:k<=l.length) (hb:k<=b) (h:∀ c ∈ l.take k,p c=true)
  (hend:k=l.length∨k=b∨∃ c,l[k]?=some c/\p c=false):ahead p b l=k:=by
 unfold ahead
 have e:l.take b=l.take k ++ (l.drop k).take (b - k):=by
  rw [show b=k+(b - k) by omega,List.take_add];simp
 have hw:(l.take k).takeWhile p=l.take k:=takeWhile_all p _ h
 rw [e,List.takeWhile_append_of_pos h]
 have hl:(l.take k).length=k:=by simp;omega
 rw [List.length_append,hl]
 suffices hs:(((l.drop k).take (b - k)).takeWhile p)=[] by rw [hs];rfl
 rcases hend with h1 | h1 | ⟨c,h1,h2⟩
 ·rw [List.drop_of_length_le (by omega)];simp
 ·rw [show b - k=0 by omega];simp
 ·have hd:(l.drop k)=c :: l.drop (k+1):=by
   rw [List.getElem?_eq_some_iff] at h1
   obtain ⟨hlt,rfl⟩:=h1
   exact List.drop_eq_getElem_cons hlt
  rw [hd]
  cases b - k with
  | zero=>simp
  | succ n=>simp [h2]
theorem dec_snoc (l:List UInt8) (c:UInt8):dec (l ++ [c])=10 * dec l+(c.toNat - 48):=by unfold dec;rw [List.foldl_append];rfl
theorem decFrom_lt (l:List UInt8):∀ n:Nat,(∀ c ∈ l,dig c=true)->l.foldl (fun n c=>10 * n+(c.toNat - 48)) n < (n+1) * 10 ^ l.length:=by
 induction l with
 | nil=>intro n _;simp
 | cons a l ih=>
  intro n h
  have ha:=h a (by simp)
  unfold dig at ha
  simp only [Bool.and_eq_true,decide_eq_true_eq] at ha
  have:=ih (10 * n+(a.toNat - 48)) fun c hc=>h c (by simp [hc])
  rw [List.foldl_cons,List.length_cons,Nat.pow_succ]
  refine Nat.lt_of_lt_of_le this ?_
  rw [Nat.mul_comm (10 ^ l.length) 10,<-Nat.mul_assoc]
  exact Nat.mul_le_mul_right _ (by omega)
theorem dec_lt (l:List UInt8) (h:∀ c ∈ l,dig c=true):dec l < 10 ^ l.length:=by
 have:=decFrom_lt l 0 h
 simpa [dec] using this
def value:List UInt8->Option Nat
 | []=>none
 | a :: t=>if a.toNat=34 then some 0 else if a.toNat=93 then none else if a.toNat=92 then (match t with | []=>none | c :: u=>if esc c then (value u).map (·+2) else none) else (value t).map (·+1)
def nameLen (l:List UInt8):Nat:=ahead nmb 12 l
def pair (l:List UInt8):Nat:=
 if nameLen l=0∨Lib.hasPrefix (l.drop (nameLen l)) [61,34]=false then 0 else
 match value (l.drop (nameLen l+2)) with
 | none=>0
 | some v=>nameLen l+2+v+1
def pairs:Nat->List UInt8->Option Nat
 | 0,_=>none
 | f+1,l=>if Lib.hasPrefix l [32]=true then (if pair (l.drop 1)=0 then none else (pairs f (l.drop (1+pair (l.drop 1)))).map (·+(1+pair (l.drop 1)))) else some 0
def element (l:List UInt8):List UInt8 × Nat:=
 if Lib.hasPrefix l [91]=false then ([],0) else
 if nameLen (l.drop 1)=0 then ([],0) else
 match pairs (l.length+1) (l.drop (1+nameLen (l.drop 1))) with
 | none=>([],0)
 | some k=>if Lib.hasPrefix (l.drop (1+nameLen (l.drop 1)+k)) [93]=false then ([],0) else ((l.drop 1).take (nameLen (l.drop 1)),1+nameLen (l.drop 1)+k+1)
theorem drop_ex (s:ByteArray) (a:Nat):(s.extract a s.size).data.toList=s.data.toList.drop a:=by
 rw [Lib.extract_data,List.take_of_length_le]
 simp
theorem len (s:ByteArray):s.data.toList.length=s.size:=by simp
theorem drop_cons (s:ByteArray) (k:Nat) (h:k < s.size):s.data.toList.drop k=s[k] :: s.data.toList.drop (k+1):=by
 rw [List.drop_eq_getElem_cons (by rw [len];exact h)];rfl
theorem value_lt (l:List UInt8):∀ v,value l=some v->v < l.length:=by
 suffices h:∀ n (l:List UInt8),l.length<=n->∀ v,value l=some v->v < l.length from h _ l (Nat.le_refl _)
 intro n
 induction n with
 | zero=>intro l hl v hv;cases l with | nil=>simp [value] at hv | cons a t=>simp at hl
 | succ n ih=>
  intro l hl v hv
  cases l with
  | nil=>simp [value] at hv
  | cons a t=>
   simp only [List.length_cons] at hl ⊢
   unfold value at hv
   split at hv
   ·simp at hv;omega
   ·split at hv
    ·simp at hv
    ·split at hv
     ·cases t with
      | nil=>simp at hv
      | cons c u=>
       simp only at hv
       split at hv
       ·simp only [Option.map_eq_some_iff] at hv
        obtain ⟨x,hx,rfl⟩:=hv
        simp only [List.length_cons] at hl ⊢
        have:=ih u (by omega) x hx
        omega
       ·simp at hv
     ·simp only [Option.map_eq_some_iff] at hv
      obtain ⟨x,hx,rfl⟩:=hv
      have:=ih t (by omega) x hx
      omega
theorem nameLen_le (l:List UInt8):nameLen l<=12/\nameLen l<=l.length:=ahead_le _ _ _
theorem prefix_len {l p:List UInt8} (h:Lib.hasPrefix l p=true):p.length<=l.length:=by
 unfold Lib.hasPrefix at h
 exact List.IsPrefix.length_le (List.isPrefixOf_iff_prefix.1 h)
theorem pair_le (l:List UInt8):pair l<=l.length:=by
 unfold pair
 split
 ·omega
 ·split
  ·omega
  ·rename_i v hv
   have:=value_lt _ _ hv
   simp at this
   omega
theorem element_le (l:List UInt8):(element l).2<=l.length:=by
 unfold element
 split
 ·simp
 ·split
  ·simp
  ·split
   ·simp
   ·split
    ·simp
    ·rename_i h
     simp only [Bool.not_eq_false] at h
     have:=prefix_len h
     simp at this ⊢
     omega
theorem ahead_all (p:UInt8->Bool) (m:Nat) (l:List UInt8) (h:l.length<=m):(ahead p m l=l.length) ↔ l.all p=true:=by
 unfold ahead
 rw [List.take_of_length_le h]
 constructor
 ·intro he
  have:l.takeWhile p=l:=(List.takeWhile_sublist p).eq_of_length he
  rw [<-this]
  exact List.all_takeWhile
 ·intro ha
  rw [takeWhile_all p l (by simpa using ha)]
theorem value_nil:value []=none:=rfl
theorem value_quote {a:UInt8} {t:List UInt8} (h:a.toNat=34):value (a :: t)=some 0:=by rw [value.eq_def];simp only [];rw [if_pos h]
theorem value_shut {a:UInt8} {t:List UInt8} (h:a.toNat=93):value (a :: t)=none:=by rw [value.eq_def];simp only [];rw [if_neg (by omega),if_pos h]
theorem value_esc0 {a:UInt8} (h:a.toNat=92):value [a]=none:=by rw [value.eq_def];simp only [];rw [if_neg (by omega),if_neg (by omega),if_pos h]
theorem value_esc1 {a c:UInt8} {t:List UInt8} (h:a.toNat=92) (hc:esc c=false):value (a :: c :: t)=none:=by rw [value.eq_def];simp only [];rw [if_neg (by omega),if_neg (by omega),if_pos h];simp [hc]
theorem value_esc2 {a c:UInt8} {t:List UInt8} (h:a.toNat=92) (hc:esc c=true):value (a :: c :: t)=(value t).map (·+2):=by rw [value.eq_def];simp only [];rw [if_neg (by omega),if_neg (by omega),if_pos h];simp [hc]
theorem value_other {a:UInt8} {t:List UInt8} (h1:¬ a.toNat=34) (h2:¬ a.toNat=93) (h3:¬ a.toNat=92):value (a :: t)=(value t).map (·+1):=by rw [value.eq_def];simp only [];rw [if_neg h1,if_neg h2,if_neg h3]
theorem word_empty {l:List UInt8} (m:Nat) (h:l=[]):word l m=false:=by subst h;rfl
theorem word_dash {l:List UInt8} (m:Nat) (h:l=[45]):word l m=false:=by subst h;rfl
theorem word_long {l:List UInt8} (m:Nat) (h:m < l.length):word l m=false:=by simp [word];intros;omega
theorem word_rest {l:List UInt8} (m:Nat) (h1:¬ l=[]) (h2:¬ l=[45]) (h:l.length<=m):word l m=(ahead vis m l == l.length):=by
 rw [Bool.eq_iff_iff,beq_iff_eq,ahead_all vis m l h]
 simp [word,h1,h2,h]
end Go.Hm
namespace Go.Hm
theorem pairs_fuel (f:Nat):∀ (l:List UInt8) g,l.length < f->l.length < g->pairs f l=pairs g l:=by
 induction f with
 | zero=>intro l g h;omega
 | succ f ih=>
  intro l g hf hg
  obtain ⟨g,rfl⟩:∃ g',g=g'+1:=⟨g - 1,by omega⟩
  unfold pairs
  split
  ·rename_i hp
   have h1:=prefix_len hp
   simp only [List.length_cons,List.length_nil] at h1
   split
   ·rfl
   ·rw [ih _ g]
    ·simp only [List.length_drop];omega
    ·simp only [List.length_drop];omega
  ·rfl
theorem pairs_step {l:List UInt8} {f:Nat} (hf:l.length < f) (hp:Lib.hasPrefix l [32]=true) (h0:¬ pair (l.drop 1)=0) :
  pairs f l=(pairs f (l.drop (1+pair (l.drop 1)))).map (·+(1+pair (l.drop 1))):=by
 obtain ⟨f,rfl⟩:∃ g,f=g+1:=⟨f - 1,by omega⟩
 rw [pairs,if_pos hp,if_neg h0]
 have h1:=prefix_len hp
 simp only [List.length_cons,List.length_nil] at h1
 rw [pairs_fuel f _ (f+1)]
 ·simp only [List.length_drop];omega
 ·simp only [List.length_drop];omega
theorem pairs_bad {l:List UInt8} {f:Nat} (hf:l.length < f) (hp:Lib.hasPrefix l [32]=true) (h0:pair (l.drop 1)=0):pairs f l=none:=by
 obtain ⟨f,rfl⟩:∃ g,f=g+1:=⟨f - 1,by omega⟩
 rw [pairs,if_pos hp,if_pos h0]
theorem pairs_end {l:List UInt8} {f:Nat} (hf:l.length < f) (hp:Lib.hasPrefix l [32]=false):pairs f l=some 0:=by
 obtain ⟨f,rfl⟩:∃ g,f=g+1:=⟨f - 1,by omega⟩
 rw [pairs,if_neg (by simp [hp])]
end Go.Hm
namespace Go.Hm
def dayBefore (y mo d:Int):Int × Int × Int:=
 if d - 1 < 1 then (if mo - 1 < 1 then (y - 1,12,daysOf (y - 1) 12) else (y,mo - 1,daysOf y (mo - 1))) else (y,mo,d - 1)
def dayAfter (y mo d:Int):Int × Int × Int:=
 if daysOf y mo < d+1 then (if 12 < mo+1 then (y+1,1,1) else (y,mo+1,1)) else (y,mo,d+1)
def exists_ (y mo d h mi s:Int):Bool:=
 isYear y && decide (1<=mo) && decide (mo<=12) && decide (1<=d) && decide (d<=daysOf y mo) && decide (h<=23) && decide (mi<=59) && decide (s<=59)
def earlier (y mo d h mi k:Int):(Int × Int × Int) × Int:=
 if 60 * h+mi - k < 0 then (dayBefore y mo d,60 * h+mi - k+1440)
 else if 1440<=60 * h+mi - k then (dayAfter y mo d,60 * h+mi - k - 1440)
 else ((y,mo,d),60 * h+mi - k)
def d2 (n:Nat):List UInt8:=[UInt8.ofNat (48+n / 10),UInt8.ofNat (48+n % 10)]
def d4 (n:Nat):List UInt8:=d2 (n / 100) ++ d2 (n % 100)
def pad (n w:Nat):List UInt8:=Lib.repeatL [48] (w - (Lib.decDigits n).length) ++ Lib.decDigits n
def stampText (y mo d h mi s:Nat):List UInt8:=d4 y ++ [45] ++ d2 mo ++ [45] ++ d2 d ++ [84] ++ d2 h ++ [58] ++ d2 mi ++ [58] ++ d2 s
theorem dd1 {n:Nat} (h:n < 10):Lib.decDigits n=[UInt8.ofNat (48+n)]:=by rw [Lib.decDigits,dif_pos h]
theorem dd2 {n:Nat} (h:¬ n < 10):Lib.decDigits n=Lib.decDigits (n / 10) ++ [UInt8.ofNat (48+n % 10)]:=by rw [Lib.decDigits,dif_neg h]
theorem dd_len2 {n:Nat} (h:n < 100):(Lib.decDigits n).length<=2:=by
 by_cases h1:n < 10
 ·rw [dd1 h1];simp
 ·rw [dd2 h1,dd1 (by omega)];simp
theorem dd_len4 {n:Nat} (h:n < 10000):(Lib.decDigits n).length<=4:=by
 by_cases h1:n < 100
 ·have:=dd_len2 h1;omega
 ·rw [dd2 (by omega),dd2 (by omega)]
  have:=dd_len2 (n:=n / 10 / 10) (by omega)
  simp only [List.length_append,List.length_cons,List.length_nil];omega
theorem pad2 {n:Nat} (h:n < 100):pad n 2=d2 n:=by
 unfold pad d2
 by_cases h1:n < 10
 ·rw [dd1 h1,Nat.div_eq_of_lt h1,Nat.mod_eq_of_lt h1];rfl
 ·rw [dd2 h1,dd1 (by omega)];rfl
theorem pad4 {n:Nat} (h:n < 10000):pad n 4=d4 n:=by
 unfold pad d4 d2
 by_cases h1:n < 10
 ·rw [dd1 h1,show n / 100 / 10=0 by omega,show n / 100 % 10=0 by omega,show n % 100 / 10=0 by omega,show n % 100 % 10=n by omega];rfl
 ·by_cases h2:n < 100
  ·rw [dd2 h1,dd1 (by omega),show n / 100 / 10=0 by omega,show n / 100 % 10=0 by omega,show n % 100 / 10=n / 10 by omega,show n % 100 % 10=n % 10 by omega];rfl
  ·by_cases h3:n < 1000
   ·rw [dd2 h1,dd2 (by omega),dd1 (by omega),show n / 100 / 10=0 by omega,show n / 100 % 10=n / 10 / 10 by omega,show n % 100 / 10=n / 10 % 10 by omega,show n % 100 % 10=n % 10 by omega];rfl
   ·rw [dd2 h1,dd2 (by omega),dd2 (by omega),dd1 (by omega),show n / 100 / 10=n / 10 / 10 / 10 by omega,show n / 100 % 10=n / 10 / 10 % 10 by omega,show n % 100 / 10=n / 10 % 10 by omega,show n % 100 % 10=n % 10 by omega];rfl
def fraction (l:List UInt8):List UInt8 × List UInt8:=
 if Lib.hasPrefix l [46]=false then ([],l) else
 if ahead dig 6 (l.drop 1)=0 then ([],l) else
 (if Lib.trimRightB (l.take (1+ahead dig 6 (l.drop 1))) 48=[46] then [] else Lib.trimRightB (l.take (1+ahead dig 6 (l.drop 1))) 48,l.drop (1+ahead dig 6 (l.drop 1)))
def plusShape:List UInt8:=[43,48,48,58,48,48]
def minusShape:List UInt8:=[45,48,48,58,48,48]
def difference (z:List UInt8):Option Int:=
 if z=[90] then some 0 else
 if shape z plusShape=false/\shape z minusShape=false then none else
 if 23 < dec ((z.drop 1).take 2)∨59 < dec ((z.drop 4).take 2) then none else
 if (z.getD 0 0).toNat=45 then some (-(60 * dec ((z.drop 1).take 2)+dec ((z.drop 4).take 2):Int)) else some (60 * dec ((z.drop 1).take 2)+dec ((z.drop 4).take 2):Int)
def momentShape:List UInt8:=[48,48,48,48,45,48,48,45,48,48,84,48,48,58,48,48,58,48,48]
def num (l:List UInt8) (a b:Nat):Nat:=dec ((l.drop a).take (b - a))
def readTime (l:List UInt8):Option (List UInt8):=
 if l.length < 19∨shape (l.take 19) momentShape=false then none else
 match difference (fraction (l.drop 19)).2 with
 | none=>none
 | some k=>
  if exists_ (num l 0 4) (num l 5 7) (num l 8 10) (num l 11 13) (num l 14 16) (num l 17 19)=false then none else
  if isYear (earlier (num l 0 4) (num l 5 7) (num l 8 10) (num l 11 13) (num l 14 16) k).1.1=false then none else
  some (stampText (earlier (num l 0 4) (num l 5 7) (num l 8 10) (num l 11 13) (num l 14 16) k).1.1.toNat
   (earlier (num l 0 4) (num l 5 7) (num l 8 10) (num l 11 13) (num l 14 16) k).1.2.1.toNat
   (earlier (num l 0 4) (num l 5 7) (num l 8 10) (num l 11 13) (num l 14 16) k).1.2.2.toNat
   ((earlier (num l 0 4) (num l 5 7) (num l 8 10) (num l 11 13) (num l 14 16) k).2 / 60).toNat
   ((earlier (num l 0 4) (num l 5 7) (num l 8 10) (num l 11 13) (num l 14 16) k).2 % 60).toNat
   (num l 17 19) ++ (fraction (l.drop 19)).1 ++ [90])
def isTime (l:List UInt8):Bool:=readTime l == some l
end Go.Hm
namespace Go.Hm
theorem shape_at:∀ (t s:List UInt8),shape t s=true->∀ (j:Nat) (c d:UInt8),t[j]?=some c->s[j]?=some d->shp c d=true
 | [],[],_,j,c,d,h,_=>by simp at h
 | [],_ :: _,h,_,_,_,_,_=>by simp [shape] at h
 | _ :: _,[],h,_,_,_,_,_=>by simp [shape] at h
 | a :: t,b :: s,h,j,c,d,h1,h2=>by
  simp only [shape,Bool.and_eq_true] at h
  cases j with
  | zero=>simp at h1 h2;subst h1 h2;exact h.1
  | succ j=>exact shape_at t s h.2 j c d (by simpa using h1) (by simpa using h2)
theorem mem_part {l:List UInt8} {a b:Nat} {c:UInt8} (h:c ∈ (l.drop a).take (b - a)):∃ j,a<=j/\j < b/\l[j]?=some c:=by
 obtain ⟨i,hi⟩:=List.getElem?_of_mem h
 rw [List.getElem?_take] at hi
 split at hi
 ·rw [List.getElem?_drop] at hi
  exact ⟨a+i,by omega,by omega,hi⟩
 ·cases hi
theorem shape_digits {l s:List UInt8} {n:Nat} (h:shape (l.take n) s=true) (a b:Nat) (hb:b<=n) (h48:∀ j,a<=j->j < b->s[j]?=some 48) :
  ∀ c ∈ (l.drop a).take (b - a),dig c=true:=fun c hc=>by
 obtain ⟨j,h1,h2,h3⟩:=mem_part hc
 have h4:(l.take n)[j]?=some c:=by rw [List.getElem?_take,if_pos (by omega)];exact h3
 have:=shape_at _ _ h j c 48 h4 (h48 j h1 h2)
 simpa [shp] using this
end Go.Hm
namespace Go.Hm
theorem daysOf_bd (y m:Int) (h1:1<=m) (h2:m<=12):28<=daysOf y m/\daysOf y m<=31:=by
 unfold daysOf
 split
 ·omega
 ·rcases (by omega:m=1∨m=2∨m=3∨m=4∨m=5∨m=6∨m=7∨m=8∨m=9∨m=10∨m=11∨m=12) with h | h | h | h | h | h | h | h | h | h | h | h<;>subst h<;>decide
theorem exists_bd {y mo d h mi s:Int} (he:exists_ y mo d h mi s=true):1<=y/\y<=9999/\1<=mo/\mo<=12/\1<=d/\d<=31/\d<=daysOf y mo/\h<=23/\mi<=59/\s<=59:=by
 simp only [exists_,isYear,Bool.and_eq_true,decide_eq_true_eq] at he
 obtain ⟨⟨⟨⟨⟨⟨⟨⟨a,b⟩,c⟩,d'⟩,e⟩,f⟩,g⟩,i⟩,j⟩:=he
 have:=daysOf_bd y mo c d'
 exact ⟨a,b,c,d',e,by omega,f,g,i,j⟩
theorem difference_bd {z:List UInt8} {k:Int} (h:difference z=some k):-1439<=k/\k<=1439:=by
 unfold difference at h
 split at h
 ·simp at h;omega
 ·split at h
  ·simp at h
  ·split at h
   ·simp at h
   ·split at h<;>simp only [Option.some.injEq] at h<;>omega
theorem earlier_bd (y mo d h mi k:Int) (hy:1<=y) (hy2:y<=9999) (hm:1<=mo) (hm2:mo<=12) (hd:1<=d) (hd2:d<=daysOf y mo)
  (hh:0<=h) (hh2:h<=23) (hmi:0<=mi) (hmi2:mi<=59) (hk:-1439<=k) (hk2:k<=1439) :
  0<=(earlier y mo d h mi k).1.1/\(earlier y mo d h mi k).1.1<=10000/\1<=(earlier y mo d h mi k).1.2.1/\(earlier y mo d h mi k).1.2.1<=12 /\
   1<=(earlier y mo d h mi k).1.2.2/\(earlier y mo d h mi k).1.2.2<=daysOf (earlier y mo d h mi k).1.1 (earlier y mo d h mi k).1.2.1/\0<=(earlier y mo d h mi k).2/\(earlier y mo d h mi k).2 < 1440:=by
 have hb:=daysOf_bd y mo hm hm2
 unfold earlier
 split
 ·unfold dayBefore
  split
  ·split
   ·have:=daysOf_bd (y - 1) 12 (by omega) (by omega)
    exact ⟨by show 0<=y - 1;omega,by show y - 1<=10000;omega,by show (1:Int)<=12;omega,by show (12:Int)<=12;omega,by show 1<=daysOf (y - 1) 12;omega,Int.le_refl _,by show 0<=60 * h+mi - k+1440;omega,by show 60 * h+mi - k+1440 < 1440;omega⟩
   ·have:=daysOf_bd y (mo - 1) (by omega) (by omega)
    exact ⟨by show 0<=y;omega,by show y<=10000;omega,by show 1<=mo - 1;omega,by show mo - 1<=12;omega,by show 1<=daysOf y (mo - 1);omega,Int.le_refl _,by show 0<=60 * h+mi - k+1440;omega,by show 60 * h+mi - k+1440 < 1440;omega⟩
  ·exact ⟨by show 0<=y;omega,by show y<=10000;omega,hm,hm2,by show 1<=d - 1;omega,by show d - 1<=daysOf y mo;omega,by show 0<=60 * h+mi - k+1440;omega,by show 60 * h+mi - k+1440 < 1440;omega⟩
 ·split
  ·unfold dayAfter
   split
   ·split
    ·have:=daysOf_bd (y+1) 1 (by omega) (by omega)
     exact ⟨by show 0<=y+1;omega,by show y+1<=10000;omega,by show (1:Int)<=1;omega,by show (1:Int)<=12;omega,by show (1:Int)<=1;omega,by show 1<=daysOf (y+1) 1;omega,by show 0<=60 * h+mi - k - 1440;omega,by show 60 * h+mi - k - 1440 < 1440;omega⟩
    ·have:=daysOf_bd y (mo+1) (by omega) (by omega)
     exact ⟨by show 0<=y;omega,by show y<=10000;omega,by show 1<=mo+1;omega,by show mo+1<=12;omega,by show (1:Int)<=1;omega,by show 1<=daysOf y (mo+1);omega,by show 0<=60 * h+mi - k - 1440;omega,by show 60 * h+mi - k - 1440 < 1440;omega⟩
   ·exact ⟨by show 0<=y;omega,by show y<=10000;omega,hm,hm2,by show 1<=d+1;omega,by show d+1<=daysOf y mo;omega,by show 0<=60 * h+mi - k - 1440;omega,by show 60 * h+mi - k - 1440 < 1440;omega⟩
  ·exact ⟨by show 0<=y;omega,by show y<=10000;omega,hm,hm2,hd,hd2,by show 0<=60 * h+mi - k;omega,by show 60 * h+mi - k < 1440;omega⟩
end Go.Hm
namespace Go.Hm
def elems:Nat->List UInt8->Nat->List (List UInt8 × Nat)
 | 0,_,_=>[]
 | f+1,l,e=>if (element (l.drop e)).2=0 then [] else ((element (l.drop e)).1,e+(element (l.drop e)).2) :: elems f l (e+(element (l.drop e)).2)
def lastEnd (es:List (List UInt8 × Nat)):Nat:=(es.getLast?.map (·.2)).getD 0
def dataOf (l:List UInt8) (es:List (List UInt8 × Nat)):Nat:=
 if (es.map (·.1)).Nodup then (if plain (l.take (lastEnd es))=true then lastEnd es else 0) else 0
def dataLen (l:List UInt8):Nat:=dataOf l (elems (l.length+1) l 0)
theorem elems_fuel:∀ (f g:Nat) (l:List UInt8) (e:Nat),l.length < f+e->l.length < g+e->e<=l.length->elems f l e=elems g l e:=by
 intro f
 induction f with
 | zero=>intro g l e h1 h2 h3;omega
 | succ f ih=>
  intro g l e h1 h2 h3
  cases g with
  | zero=>omega
  | succ g=>
   unfold elems
   split
   ·rfl
   ·rename_i h0
    have:=element_le (l.drop e)
    rw [List.length_drop] at this
    rw [ih g l _ (by omega) (by omega) (by omega)]
theorem elems_end {f:Nat} {l:List UInt8} {e:Nat} (hf:l.length < f+e) (he:e<=l.length) (h:(element (l.drop e)).2=0):elems f l e=[]:=by
 obtain ⟨f,rfl⟩:∃ g,f=g+1:=⟨f - 1,by omega⟩
 rw [elems,if_pos h]
theorem elems_step {f:Nat} {l:List UInt8} {e:Nat} (hf:l.length < f+e) (he:e<=l.length) (h:¬ (element (l.drop e)).2=0) :
  elems f l e=((element (l.drop e)).1,e+(element (l.drop e)).2) :: elems f l (e+(element (l.drop e)).2):=by
 have h1:=element_le (l.drop e)
 rw [List.length_drop] at h1
 obtain ⟨f,rfl⟩:∃ g,f=g+1:=⟨f - 1,by omega⟩
 rw [elems,if_neg h,elems_fuel f (f+1) l _ (by omega) (by omega) (by omega)]
theorem elems_bd:∀ (f:Nat) (l:List UInt8) (e:Nat),e<=l.length->∀ x ∈ elems f l e,x.1.length<=l.length/\x.2<=l.length:=by
 intro f
 induction f with
 | zero=>intro l e _ x hx;simp [elems] at hx
 | succ f ih=>
  intro l e he x hx
  have h1:=element_le (l.drop e)
  rw [List.length_drop] at h1
  unfold elems at hx
  split at hx
  ·simp at hx
  ·rcases List.mem_cons.1 hx with h | h
   ·subst h
    refine ⟨?_,by simp only [];omega⟩
    unfold element
    split
    ·simp
    ·split
     ·simp
     ·split
      ·simp
      ·split
       ·simp
       ·simp only [List.length_take,List.length_drop];omega
   ·exact ih l _ (by omega) x h
theorem elems_count:∀ (f:Nat) (l:List UInt8) (e:Nat),e<=l.length->(elems f l e).length+e<=l.length:=by
 intro f
 induction f with
 | zero=>intro l e he;simpa [elems] using he
 | succ f ih=>
  intro l e he
  have h1:=element_le (l.drop e)
  rw [List.length_drop] at h1
  unfold elems
  split
  ·simpa using he
  ·rename_i h0
   have:=ih l (e+(element (l.drop e)).2) (by omega)
   simp only [List.length_cons]
   omega
abbrev El:={ x:List UInt8 × Nat // x.1.length<=9000000000/\x.2<=9000000000 }
theorem els:∀ (es:List (List UInt8 × Nat)),(∀ x ∈ es,x.1.length<=9000000000/\x.2<=9000000000)->∃ xs:List El,xs.map (·.1)=es
 | [],_=>⟨[],rfl⟩
 | x :: es,h=>by
  obtain ⟨xs,hx⟩:=els es fun y hy=>h y (by simp [hy])
  exact ⟨⟨x,h x (by simp)⟩ :: xs,by simp [hx]⟩
end Go.Hm
namespace Go.Hm
def isData (l:List UInt8):Bool:=!l.isEmpty && (dataLen l == l.length)
def toldOrData (l:List UInt8):Nat:=if Lib.hasPrefix l [45]=true then 1 else dataLen l
def part (l:List UInt8) (a:Nat):List UInt8 × Nat:=
 ((Lib.cut (l.drop a) [32]).1,a+(Lib.cut (l.drop a) [32]).1.length+if (Lib.cut (l.drop a) [32]).2.2=true then 1 else 0)
def source (l:List UInt8):Nat × Nat:=
 if Lib.hasPrefix l [60]=false then (13,0) else
 if ahead dig 3 (l.drop 1)=0∨Lib.hasPrefix (l.drop (1+ahead dig 3 (l.drop 1))) [62]=false then (13,0) else
 if (((l.getD 1 0).toNat=48/\1 < ahead dig 3 (l.drop 1))∨191 < dec ((l.drop 1).take (ahead dig 3 (l.drop 1)))) then (13,0) else
 (dec ((l.drop 1).take (ahead dig 3 (l.drop 1))),1+ahead dig 3 (l.drop 1)+1)
theorem ahead_digits (b:Nat) (l:List UInt8):∀ c ∈ l.take (ahead dig b l),dig c=true:=by
 intro c hc
 have h:l.take (ahead dig b l)=(l.take b).takeWhile dig:=by
  unfold ahead
  have hp:(l.take b).takeWhile dig <+: l:=(List.takeWhile_prefix dig).trans (List.take_prefix b l)
  exact (List.prefix_iff_eq_take.1 hp).symm
 rw [h] at hc
 have:=List.all_takeWhile (p:=dig) (l:=l.take b)
 rw [List.all_eq_true] at this
 exact this c hc
theorem cut_len (l:List UInt8) (c:List UInt8):(Lib.cut l c).1.length<=l.length:=by
 unfold Lib.cut
 split
 ·simp only [List.length_take];omega
 ·exact Nat.le_refl _
end Go.Hm
namespace Go.Hm
def cutB (c:UInt8):List UInt8->List UInt8 × List UInt8 × Bool
 | []=>([],[],false)
 | a :: t=>if a=c then ([],t,true) else (a :: (cutB c t).1,(cutB c t).2.1,(cutB c t).2.2)
theorem index_one (c:UInt8):∀ l:List UInt8,(0<=Lib.index l [c]/\cutB c l=(l.take (Lib.index l [c]).toNat,l.drop ((Lib.index l [c]).toNat+1),true))∨(Lib.index l [c]=-1/\cutB c l=(l,[],false))
 | []=>by right;exact ⟨rfl,rfl⟩
 | a :: t=>by
  by_cases h:a=c
  ·subst h
   left
   have:Lib.index (a :: t) [a]=0:=Lib.index_first (i:=0) (by simp) (by simp [Lib.occAt]) (by intro j hj;omega)
   rw [this]
   simp [cutB]
  ·have hu:Lib.index (a :: t) [c]=if Lib.index t [c] == -1 then -1 else Lib.index t [c]+1:=by
    rw [Lib.index,if_neg]
    simp [List.isPrefixOf,Ne.symm h]
   rcases index_one c t with ⟨h1,h2⟩ | ⟨h1,h2⟩
   ·left
    have h3:Lib.index (a :: t) [c]=Lib.index t [c]+1:=by rw [hu,if_neg (by simp;omega)]
    refine ⟨by omega,?_⟩
    rw [cutB,if_neg h,h2,h3,show (Lib.index t [c]+1).toNat=(Lib.index t [c]).toNat+1 by omega]
    rfl
   ·right
    refine ⟨by rw [hu,if_pos (by simp [h1])],?_⟩
    rw [cutB,if_neg h,h2]
theorem cut_eq (l:List UInt8) (c:UInt8):Lib.cut l [c]=cutB c l:=by
 unfold Lib.cut
 rcases index_one c l with ⟨h1,h2⟩ | ⟨h1,h2⟩
 ·rw [if_pos h1,h2];rfl
 ·rw [if_neg (by omega),h2]
theorem cutB_some (c:UInt8):∀ l:List UInt8,(cutB c l).2.2=true->l=(cutB c l).1 ++ c :: (cutB c l).2.1
 | [],h=>by simp [cutB] at h
 | a :: t,h=>by
  unfold cutB at h ⊢
  split
  ·rename_i h1;subst h1;rfl
  ·rename_i h1
   rw [if_neg h1] at h
   have:=cutB_some c t h
   simp only [List.cons_append]
   rw [<-this]
theorem cutB_none (c:UInt8):∀ l:List UInt8,(cutB c l).2.2=false->cutB c l=(l,[],false)
 | [],_=>rfl
 | a :: t,h=>by
  unfold cutB at h ⊢
  split
  ·rename_i h1;rw [if_pos h1] at h;cases h
  ·rename_i h1
   rw [if_neg h1] at h
   rw [cutB_none c t h]
theorem cutB_not (c:UInt8):∀ l:List UInt8,c ∉ (cutB c l).1
 | []=>by simp [cutB]
 | a :: t=>by
  unfold cutB
  split
  ·simp
  ·rename_i h1
   have:=cutB_not c t
   simp only [List.mem_cons,not_or]
   exact ⟨fun h=>h1 h.symm,this⟩
theorem cutB_app (c:UInt8):∀ (l r:List UInt8),c ∉ l->cutB c (l ++ c :: r)=(l,r,true)
 | [],r,_=>by simp [cutB]
 | a :: t,r,h=>by
  simp only [List.mem_cons,not_or] at h
  rw [List.cons_append,cutB,if_neg (fun e=>h.1 e.symm),cutB_app c t r h.2]
theorem cutB_all (c:UInt8):∀ (l:List UInt8),c ∉ l->cutB c l=(l,[],false)
 | [],_=>rfl
 | a :: t,h=>by
  simp only [List.mem_cons,not_or] at h
  rw [cutB,if_neg (fun e=>h.1 e.symm),cutB_all c t h.2]
end Go.Hm
namespace Go.Hm
def findFrom (l:List UInt8):List (List UInt8)->Nat->Nat
 | [],_=>0
 | m :: ms,k=>if m=l then k+1 else findFrom l ms (k+1)
def month (l:List UInt8):Nat:=findFrom l monthNames 0
theorem findFrom_le (l:List UInt8):∀ (ms:List (List UInt8)) (k:Nat),findFrom l ms k<=k+ms.length
 | [],k=>by simp [findFrom]
 | m :: ms,k=>by
  unfold findFrom
  split
  ·simp only [List.length_cons];omega
  ·have:=findFrom_le l ms (k+1)
   simp only [List.length_cons];omega
theorem month_le (l:List UInt8):month l<=12:=findFrom_le l monthNames 0
def tagRest (l app proc:List UInt8) (e:Nat):List UInt8 × List UInt8 × Nat:=
 if Lib.hasPrefix (l.drop e) [58]=false then ([],[],0) else
 if Lib.hasPrefix (l.drop (e+1)) [32]=true then (app,proc,e+1+1) else (app,proc,e+1)
def tag (l:List UInt8):List UInt8 × List UInt8 × Nat:=
 if ahead tgb 16 l=0∨l.take (ahead tgb 16 l)=[45] then ([],[],0) else
 if Lib.hasPrefix (l.drop (ahead tgb 16 l)) [91]=true then
  (if ahead dig 8 (l.drop (ahead tgb 16 l+1))=0∨Lib.hasPrefix (l.drop (ahead tgb 16 l+(1+ahead dig 8 (l.drop (ahead tgb 16 l+1))))) [93]=false then ([],[],0) else
   tagRest l (l.take (ahead tgb 16 l)) ((l.drop (ahead tgb 16 l+1)).take (ahead dig 8 (l.drop (ahead tgb 16 l+1)))) (ahead tgb 16 l+(1+ahead dig 8 (l.drop (ahead tgb 16 l+1)))+1))
 else tagRest l (l.take (ahead tgb 16 l)) [] (ahead tgb 16 l)
def oldDay (l:List UInt8):List UInt8:=if (l.getD 4 0).toNat=32 then [48] ++ ((l.drop 4).take 2).drop 1 else (l.drop 4).take 2
def oldText (l:List UInt8) (y:Nat):List UInt8:=d4 y ++ [45] ++ d2 (month (l.take 3)) ++ [45] ++ oldDay l ++ [84] ++ l.drop 7 ++ [90]
def oldTime (l:List UInt8) (y:Nat):List UInt8 × Bool:=
 if month (l.take 3)=0∨¬ (l.getD 3 0).toNat=32∨¬ (l.getD 6 0).toNat=32∨(l.getD 4 0).toNat=48 then ([],false) else (oldText l y,isTime (oldText l y))
def stamp (l:List UInt8) (y:Nat):List UInt8 × List UInt8 × Nat:=
 if l.length < 16∨¬ (l.getD 15 0).toNat=32 then ([],[],0) else
 if (oldTime (l.take 15) y).2=false∨(Lib.cut (l.drop 16) [32]).2.2=false∨word (Lib.cut (l.drop 16) [32]).1 32=false then ([],[],0) else
 ((oldTime (l.take 15) y).1,(Lib.cut (l.drop 16) [32]).1,16+(Lib.cut (l.drop 16) [32]).1.length+1)
end Go.Hm
namespace Go.Hm
structure Msg where
 fac:Int
 sev:Int
 time:List UInt8
 host:List UInt8
 app:List UInt8
 proc:List UInt8
 id:List UInt8
 data:List UInt8
 text:List UInt8
def Msg.none:Msg:=⟨0,0,[],[],[],[],[],[],[]⟩
def Msg.of (f s:Int):Msg:=⟨f,s,[],[],[],[],[],[],[]⟩
def readOld (m:Msg) (l:List UInt8) (y:Nat):Msg:=
 if 0 < (stamp l y).2.2 then
  { m with time:=(stamp l y).1,host:=(stamp l y).2.1,app:=(tag (l.drop (stamp l y).2.2)).1,proc:=(tag (l.drop (stamp l y).2.2)).2.1,text:=(l.drop (stamp l y).2.2).drop (tag (l.drop (stamp l y).2.2)).2.2 }
 else { m with app:=(tag l).1,proc:=(tag l).2.1,text:=l.drop (tag l).2.2 }
theorem tag_le (l:List UInt8):(tag l).2.2<=l.length:=by
 have hr:∀ app proc e,e<=l.length->(tagRest l app proc e).2.2<=l.length:=fun app proc e he=>by
  unfold tagRest
  split
  ·simp
  ·rename_i h
   have h1:=prefix_len (by simpa using h:Lib.hasPrefix (l.drop e) [58]=true)
   simp only [List.length_drop,List.length_cons,List.length_nil] at h1
   split
   ·rename_i h2
    have h3:=prefix_len h2
    simp only [List.length_drop,List.length_cons,List.length_nil] at h3
    simp only [];omega
   ·simp only [];omega
 have h16:=(ahead_le tgb 16 l).2
 unfold tag
 split
 ·simp
 ·split
  ·split
   ·simp
   ·rename_i h
    have h5:Lib.hasPrefix (l.drop (ahead tgb 16 l+(1+ahead dig 8 (l.drop (ahead tgb 16 l+1))))) [93]=true:=by
     cases h6:Lib.hasPrefix (l.drop (ahead tgb 16 l+(1+ahead dig 8 (l.drop (ahead tgb 16 l+1))))) [93]
     ·exact (h (.inr h6)).elim
     ·rfl
    have h7:=prefix_len h5
    simp only [List.length_drop,List.length_cons,List.length_nil] at h7
    exact hr _ _ _ (by omega)
  ·exact hr _ _ _ h16
theorem stamp_le (l:List UInt8) (y:Nat):(stamp l y).2.2<=l.length:=by
 unfold stamp
 split
 ·simp
 ·rename_i h
  split
  ·simp
  ·rename_i h2
   have hc:(Lib.cut (l.drop 16) [32]).2.2=true:=by
    cases h3:(Lib.cut (l.drop 16) [32]).2.2
    ·exact (h2 (.inr (.inl h3))).elim
    ·rfl
   have hl:(Lib.cut (l.drop 16) [32]).1.length+1<=l.length - 16:=by
    rw [cut_eq] at hc ⊢
    have:=congrArg List.length (cutB_some 32 _ hc)
    simp only [List.length_drop,List.length_append,List.length_cons] at this
    omega
   simp only [];omega
def dataText (m:Msg) (l:List UInt8) (a:Nat):Msg × Nat × Nat:=
 if toldOrData (l.drop a)=0∨(a+toldOrData (l.drop a) < l.length/\¬ (l.getD (a+toldOrData (l.drop a)) 0).toNat=32) then (Msg.none,8,a) else
 if a+toldOrData (l.drop a)=l.length then ((if (l.drop a).take (toldOrData (l.drop a))=[45] then m else { m with data:=(l.drop a).take (toldOrData (l.drop a)) }),0,0) else
 if plain (l.drop (a+toldOrData (l.drop a)+1))=false then (Msg.none,9,a+toldOrData (l.drop a)+1) else
 ({ (if (l.drop a).take (toldOrData (l.drop a))=[45] then m else { m with data:=(l.drop a).take (toldOrData (l.drop a)) }) with text:=l.drop (a+toldOrData (l.drop a)+1) },0,0)
theorem lastEnd_le (l:List UInt8) (f:Nat):lastEnd (elems f l 0)<=l.length:=by
 unfold lastEnd
 cases hl:(elems f l 0).getLast? with
 | none=>simp
 | some x=>
  have:=(elems_bd f l 0 (Nat.zero_le _) x (List.mem_of_getLast? hl)).2
  simpa using this
theorem dataLen_le (l:List UInt8):dataLen l<=l.length:=by
 unfold dataLen dataOf
 have:=lastEnd_le l (l.length+1)
 split
 ·split
  ·exact this
  ·omega
 ·omega
theorem toldOrData_le (l:List UInt8):toldOrData l<=l.length:=by
 unfold toldOrData
 split
 ·rename_i h;have:=prefix_len h;simpa using this
 ·exact dataLen_le l
end Go.Hm
namespace Go.Hm
def kinds:List (Nat × Nat):=[(32,4),(16,5),(16,6),(12,7)]
def wordsFrom (l:List UInt8):List (Nat × Nat)->Nat->Option (Nat × Nat) × List (List UInt8) × Nat
 | [],nx=>(none,[],nx)
 | k :: ks,nx=>
  if (part l nx).1=[45] then ((wordsFrom l ks (part l nx).2).1,[] :: (wordsFrom l ks (part l nx).2).2.1,(wordsFrom l ks (part l nx).2).2.2)
  else if word (part l nx).1 k.1=false then (some (k.2,nx),[],0)
  else ((wordsFrom l ks (part l nx).2).1,(part l nx).1 :: (wordsFrom l ks (part l nx).2).2.1,(wordsFrom l ks (part l nx).2).2.2)
def timeOf (p:List UInt8):Option (List UInt8):=if p=[45] then some [] else readTime p
def afterTime (f s:Int) (tm l:List UInt8) (nx:Nat):Msg × Nat × Nat:=
 match (wordsFrom l kinds nx).1 with
 | some e=>(Msg.none,e.1,e.2)
 | none=>dataText ⟨f,s,tm,(wordsFrom l kinds nx).2.1.getD 0 [],(wordsFrom l kinds nx).2.1.getD 1 [],(wordsFrom l kinds nx).2.1.getD 2 [],(wordsFrom l kinds nx).2.1.getD 3 [],[],[]⟩ l (wordsFrom l kinds nx).2.2
def readNew (f s:Int) (l:List UInt8) (a:Nat):Msg × Nat × Nat:=
 match timeOf (part l a).1 with
 | none=>(Msg.none,3,a)
 | some tm=>afterTime f s tm l (part l a).2
theorem afterTime_err {f s:Int} {tm l:List UInt8} {nx:Nat} {e:Nat × Nat} (h:(wordsFrom l kinds nx).1=some e):afterTime f s tm l nx=(Msg.none,e.1,e.2):=by unfold afterTime;rw [h]
theorem afterTime_ok {f s:Int} {tm l:List UInt8} {nx:Nat} (h:(wordsFrom l kinds nx).1=none):afterTime f s tm l nx=dataText ⟨f,s,tm,(wordsFrom l kinds nx).2.1.getD 0 [],(wordsFrom l kinds nx).2.1.getD 1 [],(wordsFrom l kinds nx).2.1.getD 2 [],(wordsFrom l kinds nx).2.1.getD 3 [],[],[]⟩ l (wordsFrom l kinds nx).2.2:=by unfold afterTime;rw [h]
theorem readNew_none {f s:Int} {l p:List UInt8} {a n:Nat} (h:part l a=(p,n)) (ht:timeOf p=none):readNew f s l a=(Msg.none,3,a):=by unfold readNew;rw [h];simp only [];rw [ht]
theorem readNew_some {f s:Int} {l p tm:List UInt8} {a n:Nat} (h:part l a=(p,n)) (ht:timeOf p=some tm):readNew f s l a=afterTime f s tm l n:=by unfold readNew;rw [h];simp only [];rw [ht]
def read (l:List UInt8) (y:Int):Msg × Nat × Nat:=
 if 200 < l.length then (Msg.none,1,0) else
 if isYear y=false then (Msg.none,10,0) else
 if 0 < (source l).2/\Lib.hasPrefix (l.drop (source l).2) [49,32]=true then readNew ((source l).1 / 8) ((source l).1 % 8) l ((source l).2+2) else
 if plain (l.drop (source l).2)=false then (Msg.none,9,(source l).2) else
 (readOld (Msg.of ((source l).1 / 8) ((source l).1 % 8)) (l.drop (source l).2) y.toNat,0,0)
theorem part_le (l:List UInt8) (a:Nat) (h:a<=l.length):(part l a).2<=l.length/\(part l a).1.length<=l.length:=by
 unfold part
 rw [cut_eq]
 cases hb:(cutB 32 (l.drop a)).2.2
 ·have:=cutB_none 32 _ hb
  rw [this]
  simp only [List.length_drop]
  simp
  omega
 ·have:=congrArg List.length (cutB_some 32 _ hb)
  simp only [List.length_drop,List.length_append,List.length_cons] at this
  simp only [if_true]
  omega
def WInv (l:List UInt8) (n0:Nat) (ws:List (List UInt8)) (n:Nat):Prop:=
 (wordsFrom l kinds n0).1=(wordsFrom l (kinds.drop ws.length) n).1 /\
 ((wordsFrom l (kinds.drop ws.length) n).1=none->(wordsFrom l kinds n0).2=(ws ++ (wordsFrom l (kinds.drop ws.length) n).2.1,(wordsFrom l (kinds.drop ws.length) n).2.2))
theorem WInv_start (l:List UInt8) (n0:Nat):WInv l n0 [] n0:=⟨rfl,fun _=>rfl⟩
theorem kinds_drop {k:Nat} (h:k < 4):kinds.drop k=kinds.getD k (0,0) :: kinds.drop (k+1):=by
 rcases (by omega:k=0∨k=1∨k=2∨k=3) with h | h | h | h<;>subst h<;>rfl
theorem WInv_dash {l:List UInt8} {n0 n n2:Nat} {ws:List (List UInt8)} (hk:ws.length < 4) (hp:part l n=([45],n2)) (h:WInv l n0 ws n):WInv l n0 (ws ++ [[]]) n2:=by
 obtain ⟨h1,h2⟩:=h
 rw [kinds_drop hk,wordsFrom,hp,if_pos rfl] at h1 h2
 dsimp only at h1 h2
 rw [WInv,List.length_append]
 refine ⟨h1,fun hn=>?_⟩
 rw [h2 hn,List.append_assoc]
 rfl
theorem WInv_word {l p:List UInt8} {n0 n n2:Nat} {ws:List (List UInt8)} (hk:ws.length < 4) (hp:part l n=(p,n2)) (hd:¬ p=[45]) (hw:word p (kinds.getD ws.length (0,0)).1=true) (h:WInv l n0 ws n):WInv l n0 (ws ++ [p]) n2:=by
 obtain ⟨h1,h2⟩:=h
 rw [kinds_drop hk,wordsFrom,hp,if_neg hd,if_neg (fun h=>by rw [hw] at h;cases h)] at h1 h2
 dsimp only at h1 h2
 rw [WInv,List.length_append]
 refine ⟨h1,fun hn=>?_⟩
 rw [h2 hn,List.append_assoc]
 rfl
theorem WInv_bad {l p:List UInt8} {n0 n n2:Nat} {ws:List (List UInt8)} (hk:ws.length < 4) (hp:part l n=(p,n2)) (hd:¬ p=[45]) (hw:word p (kinds.getD ws.length (0,0)).1=false) (h:WInv l n0 ws n) :
  (wordsFrom l kinds n0).1=some ((kinds.getD ws.length (0,0)).2,n):=by
 obtain ⟨h1,_⟩:=h
 rw [kinds_drop hk,wordsFrom,hp,if_neg hd,if_pos hw] at h1
 exact h1
theorem WInv_end {l:List UInt8} {n0 n:Nat} {ws:List (List UInt8)} (hk:ws.length=4) (h:WInv l n0 ws n):(wordsFrom l kinds n0).1=none/\(wordsFrom l kinds n0).2=(ws,n):=by
 obtain ⟨h1,h2⟩:=h
 rw [hk,show kinds.drop 4=[] from rfl,wordsFrom] at h1 h2
 exact ⟨h1,by rw [h2 rfl,List.append_nil]⟩
end Go.Hm
namespace Go.Hm
theorem source_le (l:List UInt8):(source l).1<=191/\(source l).2<=l.length:=by
 unfold source
 split
 ·exact ⟨by omega,Nat.zero_le _⟩
 ·split
  ·exact ⟨by omega,Nat.zero_le _⟩
  ·next h2=>
   split
   ·exact ⟨by omega,Nat.zero_le _⟩
   ·next h3=>
    refine ⟨by omega,?_⟩
    have hp:Lib.hasPrefix (l.drop (1+ahead dig 3 (l.drop 1))) [62]=true:=by
     cases h:Lib.hasPrefix (l.drop (1+ahead dig 3 (l.drop 1))) [62]
     ·exact absurd (.inr h) h2
     ·rfl
    have:=prefix_len hp
    simp only [List.length_drop,List.length_cons,List.length_nil] at this
    show 1+ahead dig 3 (l.drop 1)+1<=_
    omega
theorem prefix_le (l:List UInt8) (a:Nat) (h:Lib.hasPrefix (l.drop a) [49,32]=true):a+2<=l.length:=by
 have:=prefix_len h
 simp only [List.length_drop,List.length_cons,List.length_nil] at this
 omega
end Go.Hm
namespace Go.Hm
structure Frs where
 bound:Nat
 stage:Nat
 head:Nat
 number:Nat
 own:List UInt8
def Frs.fresh (b:Nat):Frs:=⟨b,0,0,0,[]⟩
def Frs.endBad (f:Frs) (c:UInt8):Frs × List UInt8:=(⟨f.bound,if c=10 then 0 else 4,0,0,[]⟩,[33])
def Frs.endFrame (f:Frs):Frs × List UInt8:=(Frs.fresh f.bound,61 :: f.own)
def Frs.takeNumber (f:Frs) (c:UInt8):Frs × List UInt8:=
 if dig c=true then
  if f.bound < 10 * f.number+(c.toNat - 48) then f.endBad c else (⟨f.bound,f.stage,f.head+1,10 * f.number+(c.toNat - 48),f.own⟩,[])
 else if c=32 then (⟨f.bound,2,f.head+1,f.number,f.own⟩,[])
 else f.endBad c
def Frs.takeCounted (f:Frs) (c:UInt8):Frs × List UInt8:=
 if f.own.length+1 < f.number then (⟨f.bound,f.stage,f.head,f.number,f.own ++ [c]⟩,[]) else (Frs.fresh f.bound,61 :: (f.own ++ [c]))
def Frs.takeLine (f:Frs) (c:UInt8):Frs × List UInt8:=
 if c=10 then if f.own=[] then (⟨f.bound,0,f.head,f.number,f.own⟩,[]) else f.endFrame
 else if f.own.length=f.bound then f.endBad c else (⟨f.bound,f.stage,f.head,f.number,f.own ++ [c]⟩,[])
def Frs.begun (f:Frs) (c:UInt8):Frs:=if f.stage=0 then ⟨f.bound,if dig c=true/\c ≠ 48 then 1 else 3,f.head,f.number,f.own⟩ else f
def Frs.goes (f:Frs) (c:UInt8):Frs × List UInt8:=
 if f.stage=1 then f.takeNumber c else if f.stage=2 then f.takeCounted c else if f.stage=3 then f.takeLine c
 else (⟨f.bound,if c=10 then 0 else f.stage,f.head,f.number,f.own⟩,[])
def Frs.take (f:Frs) (c:UInt8):Frs × List UInt8:=(f.begun c).goes c
def Frs.feed:Frs->List UInt8->Frs × List (List UInt8)
 | f,[]=>(f,[])
 | f,c :: t=>(((f.take c).1.feed t).1,if (f.take c).2=[] then ((f.take c).1.feed t).2 else (f.take c).2 :: ((f.take c).1.feed t).2)
end Go.Hm
namespace Go.Hm
def wordsFault:List (Nat × Nat)->List (List UInt8)->Option Nat
 | k :: ks,x :: xs=>if ¬ x=[]/\word x k.1=false then some k.2 else wordsFault ks xs
 | _,_=>none
def fault (m:Msg):Nat:=
 if isSource m.fac m.sev=false then 2 else
 if ¬ m.time=[]/\isTime m.time=false then 3 else
 match wordsFault kinds [m.host,m.app,m.proc,m.id] with
 | some e=>e
 | none=>
  if ¬ m.data=[]/\isData m.data=false then 8 else
  if plain m.text=false then 9 else 0
def faultRest (h ap p i d x:List UInt8):Nat:=
 match wordsFault kinds [h,ap,p,i] with
 | some e=>e
 | none=>
  if ¬ d=[]/\isData d=false then 8 else
  if plain x=false then 9 else 0
theorem faultRest_some {h ap p i d x:List UInt8} {e:Nat} (hw:wordsFault kinds [h,ap,p,i]=some e):faultRest h ap p i d x=e:=by unfold faultRest;rw [hw]
theorem faultRest_none {h ap p i d x:List UInt8} (hw:wordsFault kinds [h,ap,p,i]=none):faultRest h ap p i d x=if ¬ d=[]/\isData d=false then 8 else if plain x=false then 9 else 0:=by unfold faultRest;rw [hw]
def told (x:List UInt8):List UInt8:=if x=[] then [45] else x
def partsOf (m:Msg):List (List UInt8):=
 (60 :: Lib.decDigits (8 * m.fac+m.sev).toNat ++ [62,49]) :: ([m.time,m.host,m.app,m.proc,m.id,m.data].map told ++ if m.text=[] then [] else [m.text])
def joinedLen (l:List (List UInt8)):Int:=(l.map (fun x:List UInt8=>(x.length:Int))).sum+l.length - 1
def line (m:Msg):List UInt8 × Nat:=
 if ¬ fault m=0 then ([],fault m) else
 if 200 < joinedLen (partsOf m) then ([],1) else (Lib.join (partsOf m) [32],0)
theorem wordsFault_step {k:Nat} {ws:List (List UInt8)} (hk:k < 4) (hl:ws.length=4) :
  wordsFault (kinds.drop k) (ws.drop k)=if ¬ ws.getD k []=[]/\word (ws.getD k []) (kinds.getD k (0,0)).1=false then some (kinds.getD k (0,0)).2 else wordsFault (kinds.drop (k+1)) (ws.drop (k+1)):=by
 match ws,hl with
 | [a,b,c,d],_=>
  rcases (by omega:k=0∨k=1∨k=2∨k=3) with h | h | h | h<;>subst h<;>rfl
end Go.Hm
namespace Go.Hm
theorem join_cons2 (a b:List UInt8) (l:List (List UInt8)):Lib.join (a :: b :: l) [32]=a ++ 32 :: Lib.join (b :: l) [32]:=by
 simp [Lib.join,List.intercalate,List.intersperse]
theorem join_length (a:List UInt8) (l:List (List UInt8)):((Lib.join (a :: l) [32]).length:Int)=joinedLen (a :: l):=by
 induction l generalizing a with
 | nil=>simp [Lib.join,List.intercalate,List.intersperse,joinedLen]
 | cons b l ih=>
  have:=ih b
  rw [join_cons2]
  simp only [joinedLen,List.map_cons,List.sum_cons,List.length_cons,List.length_append] at this ⊢
  omega
theorem fault_source {m:Msg} (h:fault m=0):0<=m.fac/\m.fac < 24/\0<=m.sev/\m.sev < 8:=by
 unfold fault at h
 split at h
 ·omega
 ·next h1=>
  have h2:isSource m.fac m.sev=true:=by cases h3:isSource m.fac m.sev;exact absurd h3 h1;rfl
  unfold isSource at h2
  simp only [Bool.and_eq_true,decide_eq_true_eq] at h2
  omega
theorem wordsFault_lt (l:List (Nat × Nat)) (hl:∀ k ∈ l,k.2 < 100) (ws:List (List UInt8)) (e:Nat) (h:wordsFault l ws=some e):e < 100:=by
 induction l generalizing ws with
 | nil=>cases ws<;>cases h
 | cons k ks ih=>
  cases ws with
  | nil=>cases h
  | cons x xs=>
   unfold wordsFault at h
   split at h
   ·cases h;exact hl k List.mem_cons_self
   ·exact ih (fun k hk=>hl k (List.mem_cons_of_mem _ hk)) xs h
theorem fault_lt (m:Msg):fault m < 100:=by
 unfold fault
 split
 ·omega
 ·split
  ·omega
  ·split
   ·next e he=>exact wordsFault_lt kinds (by decide) _ e he
   ·split
    ·omega
    ·split<;>omega
end Go.Hm
namespace Go.Hm
def sums:Nat->Nat->List UInt8->Nat × Nat
 | a,b,[]=>(a,b)
 | a,b,c :: t=>sums ((a+c.toNat) % 251) ((b+(a+c.toNat) % 251) % 251) t
def check (l:List UInt8):List UInt8:=[UInt8.ofNat (sums 1 0 l).1,UInt8.ofNat (sums 1 0 l).2]
def twoB (n:Nat):List UInt8:=[UInt8.ofNat (n / 256),UInt8.ofNat n]
def numB (l:List UInt8):Nat:=256 * (l.getD 0 0).toNat+(l.getD 1 0).toNat
def aheadRec (k:UInt8) (bs:List UInt8):List UInt8:=k :: (twoB bs.length ++ bs)
def writeRec (k:UInt8) (bs:List UInt8):List UInt8:=aheadRec k bs ++ check (aheadRec k bs)
def readRec (l:List UInt8):Option (UInt8 × List UInt8 × Nat):=
 if l.length < 3 then none else
 if l.length < 3+numB (l.drop 1)+2 then none else
 if (l.drop (3+numB (l.drop 1))).take 2 ≠ check (l.take (3+numB (l.drop 1))) then none else
 some (l.getD 0 0,(l.drop 3).take (numB (l.drop 1)),3+numB (l.drop 1)+2)
def recsF:Nat->List UInt8->List (UInt8 × List UInt8)
 | 0,_=>[]
 | k+1,l=>match readRec l with
  | none=>[]
  | some (x,bs,n)=>(x,bs) :: recsF k (l.drop n)
def recs (l:List UInt8):List (UInt8 × List UInt8):=recsF (l.length+1) l
structure Lg where
 room:Nat
 records:List UInt8
 had:Nat
 waiting:List (List UInt8)
def Lg.fresh (room:Nat):Lg:=⟨room,[],0,[]⟩
def Lg.messages (g:Lg):Nat:=g.had+g.waiting.length
def Lg.add (g:Lg) (l:List UInt8):Lg:=⟨g.room,g.records ++ writeRec 80 l,g.had,g.waiting ++ [l]⟩
def Lg.ackTo (g:Lg) (n:Nat):Lg:=⟨g.room,g.records ++ writeRec 65 (twoB n),n,g.waiting.drop (n - g.had)⟩
def Lg.ack (g:Lg) (n:Int):Lg × Nat:=if n<=g.had∨(g.messages:Int) < n then (g,10) else (g.ackTo n.toNat,0)
def Lg.put (g:Lg) (m:Msg):Lg × Nat × Nat:=
 if ¬ (line m).2=0 then (g,0,(line m).2) else
 if g.room<=g.waiting.length∨65535<=g.messages then (g,0,12) else (g.add (line m).1,g.messages+1,0)
def again (l:List UInt8):Bool:=decide ((read l 1).2.1=0) && decide (line (read l 1).1=(l,0))
def Lg.back (g:Lg) (r:UInt8 × List UInt8):Lg × Bool:=
 if r.1=80 then if again r.2=true/\g.messages < 65535 then (g.add r.2,true) else (g,false) else
 if r.1=65 then if r.2.length=2/\(g.ack (numB r.2)).2=0 then ((g.ack (numB r.2)).1,true) else (g,false) else (g,false)
def Lg.backs:Lg->List (UInt8 × List UInt8)->Lg
 | g,[]=>g
 | g,r :: rs=>if (g.back r).2=true then (g.back r).1.backs rs else g
def opens (l:List UInt8) (room:Nat):Lg:=(Lg.fresh room).backs (recs l)
theorem check_length (l:List UInt8):(check l).length=2:=rfl
theorem twoB_length (n:Nat):(twoB n).length=2:=rfl
theorem numB_two {n:Nat} (h:n < 65536) (t:List UInt8):numB (twoB n ++ t)=n:=by
 simp [numB,twoB]
 omega
theorem aheadRec_length (k:UInt8) (bs:List UInt8):(aheadRec k bs).length=bs.length+3:=by simp [aheadRec,twoB]
theorem writeRec_length (k:UInt8) (bs:List UInt8):(writeRec k bs).length=bs.length+5:=by simp [writeRec,aheadRec_length,check_length]
end Go.Hm
namespace Go.Hm
def Msg.Small (m:Msg):Prop:=m.time.length<=4000/\m.host.length<=4000/\m.app.length<=4000/\m.proc.length<=4000/\m.id.length<=4000/\m.data.length<=4000/\m.text.length<=4000
theorem none_small:Msg.none.Small:=by simp [Msg.none,Msg.Small]
theorem cutB_len (c:UInt8) (l:List UInt8):(cutB c l).1.length<=l.length:=by
 cases h:(cutB c l).2.2
 ·rw [cutB_none c l h];exact Nat.le_refl _
 ·have:=congrArg List.length (cutB_some c l h)
  simp only [List.length_append,List.length_cons] at this
  omega
theorem trim_le (l:List UInt8) (c:UInt8):(Lib.trimRightB l c).length<=l.length:=by
 unfold Lib.trimRightB
 have:=(List.dropWhile_suffix (fun x=>x == c) (l:=l.reverse)).length_le
 simpa using this
theorem fraction_le (l:List UInt8):(fraction l).1.length<=l.length:=by
 unfold fraction
 repeat' split
 ·simp
 ·simp
 ·simp
 ·exact Nat.le_trans (trim_le _ _) (by simp;omega)
theorem readTime_le {l t:List UInt8} (h:readTime l=some t):t.length<=l.length+40:=by
 unfold readTime at h
 split at h
 ·cases h
 ·split at h
  ·cases h
  ·split at h
   ·cases h
   ·split at h
    ·cases h
    ·cases h
     have:=fraction_le (l.drop 19)
     simp only [List.length_drop] at this
     simp [stampText,d4,d2]
     omega
theorem part_len (l:List UInt8) (a:Nat):(part l a).1.length<=l.length:=by
 unfold part
 rw [cut_eq]
 have:=cutB_len 32 (l.drop a)
 simp only [List.length_drop] at this
 dsimp only
 omega
theorem wordsFrom_le (l:List UInt8):∀ (ks:List (Nat × Nat)) (nx:Nat),∀ x ∈ (wordsFrom l ks nx).2.1,x.length<=l.length
 | [],_=>by simp [wordsFrom]
 | k :: ks,nx=>by
  intro x hx
  unfold wordsFrom at hx
  split at hx
  ·simp only [List.mem_cons] at hx
   rcases hx with rfl | hx
   ·simp
   ·exact wordsFrom_le l ks _ x hx
  ·split at hx
   ·simp at hx
   ·simp only [List.mem_cons] at hx
    rcases hx with rfl | hx
    ·exact part_len l nx
    ·exact wordsFrom_le l ks _ x hx
theorem getD_le {xs:List (List UInt8)} {n:Nat} (h:∀ x ∈ xs,x.length<=n) (i:Nat):(xs.getD i []).length<=n:=by
 rw [List.getD_eq_getElem?_getD]
 cases hx:xs[i]? with
 | none=>simp
 | some x=>exact h x (List.mem_of_getElem? hx)
theorem timeOf_le {p t:List UInt8} (h:timeOf p=some t):t.length<=p.length+40:=by
 unfold timeOf at h
 split at h
 ·cases h;simp
 ·exact readTime_le h
theorem dataText_small {m:Msg} {l:List UInt8} {a:Nat} (hm:m.Small) (hl:l.length<=200):(dataText m l a).1.Small:=by
 obtain ⟨h1,h2,h3,h4,h5,h6,h7⟩:=hm
 unfold dataText
 repeat' split
 all_goals first | exact none_small | (refine ⟨h1,h2,h3,h4,h5,?_,?_⟩<;>first | exact h6 | exact h7 | (simp;omega))
theorem afterTime_small {f s:Int} {tm l:List UInt8} {nx:Nat} (ht:tm.length<=300) (hl:l.length<=200):(afterTime f s tm l nx).1.Small:=by
 unfold afterTime
 split
 ·exact none_small
 ·have hw:=wordsFrom_le l kinds nx
  refine dataText_small ⟨by dsimp only;omega,?_,?_,?_,?_,by simp,by simp⟩ hl
  all_goals (have:=getD_le hw;dsimp only)
  ·have:=this 0;omega
  ·have:=this 1;omega
  ·have:=this 2;omega
  ·have:=this 3;omega
theorem tag_parts (l:List UInt8):(tag l).1.length<=l.length/\(tag l).2.1.length<=l.length:=by
 unfold tag tagRest
 repeat' split
 all_goals (simp<;>omega)
theorem stamp_parts (l:List UInt8) (y:Nat):(stamp l y).1.length<=l.length+40/\(stamp l y).2.1.length<=l.length:=by
 unfold stamp
 split
 ·simp
 ·split
  ·simp
  ·rw [cut_eq]
   have h1:=cutB_len 32 (l.drop 16)
   simp only [List.length_drop] at h1
   refine ⟨?_,by dsimp only;omega⟩
   unfold oldTime
   split
   ·simp
   ·unfold oldText oldDay
    split<;>(simp [d4,d2];omega)
theorem readOld_small {m:Msg} {l:List UInt8} {y:Nat} (hm:m.Small) (hl:l.length<=200):(readOld m l y).Small:=by
 obtain ⟨h1,h2,h3,h4,h5,h6,h7⟩:=hm
 have hs:=stamp_parts l y
 unfold readOld
 split
 ·have ht:=tag_parts (l.drop (stamp l y).2.2)
  simp only [List.length_drop] at ht
  refine ⟨by dsimp only;omega,by dsimp only;omega,by dsimp only;omega,by dsimp only;omega,h5,h6,by simp;omega⟩
 ·have ht:=tag_parts l
  refine ⟨h1,h2,by dsimp only;omega,by dsimp only;omega,h5,h6,by simp;omega⟩
theorem read_small (l:List UInt8) (y:Int):(read l y).1.Small:=by
 unfold read
 split
 ·exact none_small
 ·split
  ·exact none_small
  ·split
   ·unfold readNew
    split
    ·exact none_small
    ·next tm ht=>
     have h1:=timeOf_le ht
     have h2:=part_len l ((source l).2+2)
     exact afterTime_small (by omega) (by omega)
   ·split
    ·exact none_small
    ·exact readOld_small (by simp [Msg.of,Msg.Small]) (by simp;omega)
end Go.Hm
namespace Go.Hm
def pick (c:Int) (n:Nat):Nat:=((if c < 0 then -(c+1) else c) % (n:Int)).toNat
theorem pick_lt (c:Int) {n:Nat} (h:0 < n):pick c n < n:=by
 unfold pick
 have h1:0<=(if c < 0 then -(c+1) else c) % (n:Int):=Int.emod_nonneg _ (by omega)
 have h2:(if c < 0 then -(c+1) else c) % (n:Int) < n:=Int.emod_lt_of_pos _ (by omega)
 omega
end Go.Hm

/- Pressed by program out of Ma Mx My Mp. -/
import Derived.Test.YtdlhbmncbmconaaGreatDoorA00
import Derived.Lib.IndexMore
import Derived.Lib.ItoaNum
import Derived.Lib.ValidU
import Derived.Lib.TrimByte
import Derived.Lib.Repeat
import Derived.Lib.Join
namespace Go.Hm
def aH(c:UInt8):Bool:=decide (48<=c.toNat)&&decide (c.toNat<=57)
def nZ(c:UInt8):Bool:=(decide (65<=c.toNat)&&decide (c.toNat<=90))||(decide (97<=c.toNat)&&decide (c.toNat<=122))
def fO(c:UInt8):Bool:=decide (33<=c.toNat)&&decide (c.toNat<=126)
def gR(c:UInt8):Bool:=fO c&&!(c.toNat==61)&&!(c.toNat==93)&&!(c.toNat==34)
def cE(c:UInt8):Bool:=nZ c||aH c||c.toNat==45||c.toNat==95||c.toNat==46||c.toNat==47
def jO(c:UInt8):Bool:=c.toNat==34||c.toNat==92||c.toNat==93
def dB(y:Int):Bool:=decide (1<=y)&&decide (y<=9999)
def fH(f s:Int):Bool:=decide (0<=f)&&decide (f<24)&&decide (0<=s)&&decide (s<8)
def jZ(y:Int):Bool:=decide (y%4=0)&&(!decide (y%100=0)||decide (y%400=0))
def oT:List Int:=[31,28,31,30,31,30,31,31,30,31,30,31]
def dO(y m:Int):Int:=if m=2/\jZ y=true then 29 else oT.getD (m-1).toNat 0
def rW:List (List UInt8):=[[107,101,114,110],[117,115,101,114],[109,97,105,108],[100,97,101,109,111,110],[97,117,116,104],[115,121,115,108,111,103],[108,112,114],[110,101,119,115],[117,117,99,112],[99,114,111,110],[97,117,116,104,112,114,105,118],[102,116,112],[110,116,112],[97,117,100,105,116],[97,108,101,114,116],[99,108,111,99,107]]
def cL:List (List UInt8):=[[101,109,101,114,103],[97,108,101,114,116],[99,114,105,116],[101,114,114],[119,97,114,110,105,110,103],[110,111,116,105,99,101],[105,110,102,111],[100,101,98,117,103]]
def gS:List (List UInt8):=[[74,97,110],[70,101,98],[77,97,114],[65,112,114],[77,97,121],[74,117,110],[74,117,108],[65,117,103],[83,101,112],[79,99,116],[78,111,118],[68,101,99]]
def aZ(p:UInt8->Bool)(b:Nat)(l:List UInt8):Nat:=((l.take b).takeWhile p).length
def cB(l:List UInt8):Nat:=l.foldl (fun n c=>10*n+(c.toNat-48)) 0
def jI(c s:UInt8):Bool:=if s=48 then aH c else s==c
def bZ:List UInt8->List UInt8->Bool
 |[],[]=>true
 |c::t,s::u=>jI c s&&bZ t u
 | _,_=>false
def bX(l:List UInt8)(most:Nat):Bool:=!l.isEmpty&&!(l==[45])&&decide (l.length<=most)&&l.all fO
def kQ(c:UInt8):Bool:=decide (c.toNat<32)||c.toNat==127
def bO(l:List UInt8):Bool:=l.all (fun c=>!kQ c)&&Lib.validD l
theorem yE(s:ByteArray)(k:Nat)(h:k<s.size):s.data.toList.take (k+1)=s.data.toList.take k++[s[k]]:=by
 rw[List.take_succ_eq_append_getElem (by simpa using h)];rfl
theorem yF(p:UInt8->Bool)(l:List UInt8)(h:∀c∈l,p c=true):l.takeWhile p=l:=by
 induction l with
 |nil=>rfl
 |cons a l ih=>
  rw[List.takeWhile_cons_of_pos (h a (by simp)),ih fun c b=>h c (by simp[b])]
theorem nN(p:UInt8->Bool)(b:Nat)(l:List UInt8):aZ p b l<=b/\aZ p b l<=l.length:=by
 unfold aZ;have h1:=List.Sublist.length_le (List.takeWhile_sublist p (l:=l.take b));have h2:(l.take b).length=min b l.length:=eJ;omega
theorem vC(p:UInt8->Bool)(b:Nat)(l:List UInt8)(k:Nat)(j:k<=l.length)(m:k<=b)(h:∀c∈l.take k,p c=true)(a:k=l.length∨k=b∨∃c,l[k]?=some c/\p c=false):aZ p b l=k:=by
 unfold aZ;have e:l.take b=l.take k++(l.drop k).take (b-k):=by
  rw[show b=k+(b-k) by omega,List.take_add];simp
 have hw:(l.take k).takeWhile p=l.take k:=yF p _ h;rw[e,List.takeWhile_append_of_pos h];have f:(l.take k).length=k:=by simp;omega
 rw[dL,f]
 suffices g:(((l.drop k).take (b-k)).takeWhile p)=[] by rw[g];rfl
 rcases a with h1|h1|⟨c,h1,h2⟩
 ·rw[gH (by omega)];simp
 ·rw[show b-k=0 by omega];simp
 ·have i:(l.drop k)=c::l.drop (k+1):=by
   rw[iY]at h1;obtain⟨d,rfl⟩:=h1;exact eE d
  rw[i];cases b-k with
  |zero=>simp
  |succ n=>simp[h2]
theorem yG(l:List UInt8)(c:UInt8):cB (l++[c])=10*cB l+(c.toNat-48):=by unfold cB;rw[List.foldl_append];rfl
theorem SB(l:List UInt8):∀n:Nat,(∀c∈l,aH c=true)->l.foldl (fun n c=>10*n+(c.toNat-48)) n<(n+1)*10^l.length:=by
 induction l with
 |nil=>intro n _;simp
 |cons a l ih=>
  intro n h;have b:=h a (by simp);unfold aH at b;simp only[gP,mN]at b;have:=ih (10*n+(a.toNat-48)) fun c d=>h c (by simp[d]);rw[List.foldl_cons,bU,Nat.pow_succ];refine oQ this ?_;rw[Nat.mul_comm (10^l.length) 10,<-Nat.mul_assoc];exact Nat.mul_le_mul_right _ (by omega)
theorem rX(l:List UInt8)(h:∀c∈l,aH c=true):cB l<10^l.length:=by
 have:=SB l 0 h;simpa[cB]using this
def dA:List UInt8->Option Nat
 |[]=>none
 |a::t=>if a.toNat=34 then some 0 else if a.toNat=93 then none else if a.toNat=92 then(match t with|[]=>none|c::u=>if jO c then(dA u).map (· + 2)else none)else(dA t).map (· + 1)
def fW(l:List UInt8):Nat:=aZ gR 12 l
def eG(l:List UInt8):Nat:=
 if fW l=0∨Lib.hasPrefix (l.drop (fW l)) [61,34]=false then 0 else
 match dA (l.drop (fW l+2))with
 |none=>0
 |some v=>fW l+2+v+1
def eK:Nat->List UInt8->Option Nat
 |0,_=>none
 |f+1,l=>if Lib.hasPrefix l [32]=true then(if eG (l.drop 1)=0 then none else(eK f (l.drop (1+eG (l.drop 1)))).map (· + (1+eG (l.drop 1))))else some 0
def dE(l:List UInt8):List UInt8×Nat:=
 if Lib.hasPrefix l [91]=false then([],0)else
 if fW (l.drop 1)=0 then([],0)else
 match eK (l.length+1) (l.drop (1+fW (l.drop 1)))with
 |none=>([],0)
 |some k=>if Lib.hasPrefix (l.drop (1+fW (l.drop 1)+k)) [93]=false then([],0)else((l.drop 1).take (fW (l.drop 1)),1+fW (l.drop 1)+k+1)
theorem cP(s:ByteArray)(a:Nat):(s.extract a s.size).data.toList=s.data.toList.drop a:=by
 rw[Lib.extract_data,fV];simp
theorem len(s:ByteArray):s.data.toList.length=s.size:=by simp
theorem vD(s:ByteArray)(k:Nat)(h:k<s.size):s.data.toList.drop k=s[k]::s.data.toList.drop (k+1):=by
 rw[eE (by rw[len];exact h)];rfl
theorem DR(l:List UInt8):∀v,dA l=some v->v<l.length:=by
 suffices h:∀n(l:List UInt8),l.length<=n->∀v,dA l=some v->v<l.length from h _ l (aC _)
 intro n;induction n with
 |zero=>intro l d v b;cases l with|nil=>simp[dA]at b|cons a t=>simp at d
 |succ n ih=>
  intro l d v b;cases l with
  |nil=>simp[dA]at b
  |cons a t=>
   simp only[bU]at d⊢;unfold dA at b;split at b
   ·simp at b;omega
   ·split at b
    ·simp at b
    ·split at b
     ·cases t with
      |nil=>simp at b
      |cons c u=>
       simp only at b;split at b
       ·simp only[rU]at b;obtain⟨x,e,rfl⟩:=b;simp only[bU]at d⊢;have:=ih u (by omega) x e;omega
       ·simp at b
     ·simp only[rU]at b;obtain⟨x,e,rfl⟩:=b;have:=ih t (by omega) x e;omega
theorem yH(l:List UInt8):fW l<=12/\fW l<=l.length:=nN _ _ _
theorem iA{l p:List UInt8}(h:Lib.hasPrefix l p=true):p.length<=l.length:=by
 unfold Lib.hasPrefix at h;exact List.IsPrefix.length_le (List.isPrefixOf_iff_prefix.1 h)
theorem DT(l:List UInt8):eG l<=l.length:=by
 unfold eG;split
 ·omega
 ·split
  ·omega
  ·rename_i v a;have:=DR _ _ a;simp at this;omega
theorem rY(l:List UInt8):(dE l).2<=l.length:=by
 unfold dE;split
 ·simp
 ·split
  ·simp
  ·split
   ·simp
   ·split
    ·simp
    ·rename_i h;simp only[Bool.not_eq_false]at h;have:=iA h;simp at this⊢;omega
theorem SC(p:UInt8->Bool)(m:Nat)(l:List UInt8)(h:l.length<=m):(aZ p m l=l.length)↔l.all p=true:=by
 unfold aZ;rw[fV h];constructor
 ·intro a;have:l.takeWhile p=l:=(List.takeWhile_sublist p).eq_of_length a;rw[<-this];exact List.all_takeWhile
 ·intro b;rw[yF p l (by simpa using b)]
theorem DU:dA []=none:=rfl
theorem vE{a:UInt8}{t:List UInt8}(h:a.toNat=34):dA (a::t)=some 0:=by rw[dA.eq_def];simp only[];rw[aD h]
theorem yI{a:UInt8}{t:List UInt8}(h:a.toNat=93):dA (a::t)=none:=by rw[dA.eq_def];simp only[];rw[aB (by omega),aD h]
theorem yJ{a:UInt8}(h:a.toNat=92):dA [a]=none:=by rw[dA.eq_def];simp only[];rw[aB (by omega),aB (by omega),aD h]
theorem yK{a c:UInt8}{t:List UInt8}(h:a.toNat=92)(b:jO c=false):dA (a::c::t)=none:=by rw[dA.eq_def];simp only[];rw[aB (by omega),aB (by omega),aD h];simp[b]
theorem vF{a c:UInt8}{t:List UInt8}(h:a.toNat=92)(b:jO c=true):dA (a::c::t)=(dA t).map (· + 2):=by rw[dA.eq_def];simp only[];rw[aB (by omega),aB (by omega),aD h];simp[b]
theorem vG{a:UInt8}{t:List UInt8}(h1:¬a.toNat=34)(h2:¬a.toNat=93)(h3:¬a.toNat=92):dA (a::t)=(dA t).map (· + 1):=by rw[dA.eq_def];simp only[];rw[aB h1,aB h2,aB h3]
theorem SD{l:List UInt8}(m:Nat)(h:l=[]):bX l m=false:=by subst h;rfl
theorem DV{l:List UInt8}(m:Nat)(h:l=[45]):bX l m=false:=by subst h;rfl
theorem SE{l:List UInt8}(m:Nat)(h:m<l.length):bX l m=false:=by simp[bX];intros;omega
theorem SG{l:List UInt8}(m:Nat)(h1:¬l=[])(h2:¬l=[45])(h:l.length<=m):bX l m=(aZ fO m l==l.length):=by
 rw[Bool.eq_iff_iff,dZ,SC fO m l h];simp[bX,h1,h2,h]
theorem DW(f:Nat):∀(l:List UInt8) g,l.length<f->l.length<g->eK f l=eK g l:=by
 induction f with
 |zero=>intro l g h;omega
 |succ f ih=>
  intro l g c d;obtain⟨g,rfl⟩:∃a,g=a+1:=⟨g-1,by omega⟩;unfold eK;split
  ·rename_i b;have h1:=iA b;simp only[bU,dS]at h1;split
   ·rfl
   ·rw[ih _ g]
    ·simp only[bC];omega
    ·simp only[bC];omega
  ·rfl
theorem yL{l:List UInt8}{f:Nat}(b:l.length<f)(a:Lib.hasPrefix l [32]=true)(h0:¬eG (l.drop 1)=0):
  eK f l=(eK f (l.drop (1+eG (l.drop 1)))).map (· + (1+eG (l.drop 1))):=by
 obtain⟨f,rfl⟩:∃g,f=g+1:=⟨f-1,by omega⟩;rw[eK,aD a,aB h0];have h1:=iA a;simp only[bU,dS]at h1;rw[DW f _ (f+1)]
 ·simp only[bC];omega
 ·simp only[bC];omega
theorem yM{l:List UInt8}{f:Nat}(b:l.length<f)(a:Lib.hasPrefix l [32]=true)(h0:eG (l.drop 1)=0):eK f l=none:=by
 obtain⟨f,rfl⟩:∃g,f=g+1:=⟨f-1,by omega⟩;rw[eK,aD a,aD h0]
theorem tK{l:List UInt8}{f:Nat}(b:l.length<f)(a:Lib.hasPrefix l [32]=false):eK f l=some 0:=by
 obtain⟨f,rfl⟩:∃g,f=g+1:=⟨f-1,by omega⟩;rw[eK,aB (by simp[a])]
def fX(y mo d:Int):Int×Int×Int:=
 if d-1<1 then(if mo-1<1 then(y-1,12,dO (y-1) 12)else(y,mo-1,dO y (mo-1)))else(y,mo,d-1)
def fY(y mo d:Int):Int×Int×Int:=
 if dO y mo<d+1 then(if 12<mo+1 then(y+1,1,1)else(y,mo+1,1))else(y,mo,d+1)
def fL(y mo d h mi s:Int):Bool:=
 dB y&&decide (1<=mo)&&decide (mo<=12)&&decide (1<=d)&&decide (d<=dO y mo)&&decide (h<=23)&&decide (mi<=59)&&decide (s<=59)
def bY(y mo d h mi k:Int):(Int×Int×Int)×Int:=
 if 60*h+mi-k<0 then(fX y mo d,60*h+mi-k+1440)
 else if 1440<=60*h+mi-k then(fY y mo d,60*h+mi-k-1440)
 else((y,mo,d),60*h+mi-k)
def d2(n:Nat):List UInt8:=[UInt8.ofNat (48+n/10),UInt8.ofNat (48+n%10)]
def fP(n:Nat):List UInt8:=d2 (n/100)++d2 (n%100)
def pT(n w:Nat):List UInt8:=Lib.repeatL [48] (w-(Lib.decDigits n).length)++Lib.decDigits n
def eT(y mo d h mi s:Nat):List UInt8:=fP y++[45]++d2 mo++[45]++d2 d++[84]++d2 h++[58]++d2 mi++[58]++d2 s
theorem kA{n:Nat}(h:n<10):Lib.decDigits n=[UInt8.ofNat (48+n)]:=by rw[Lib.decDigits,dif_pos h]
theorem jP{n:Nat}(h:¬n<10):Lib.decDigits n=Lib.decDigits (n/10)++[UInt8.ofNat (48+n%10)]:=by rw[Lib.decDigits,dif_neg h]
theorem pU{n:Nat}(h:n<100):(Lib.decDigits n).length<=2:=by
 by_cases h1:n<10
 ·rw[kA h1];simp
 ·rw[jP h1,kA (by omega)];simp
theorem SI{n:Nat}(h:n<10000):(Lib.decDigits n).length<=4:=by
 by_cases h1:n<100
 ·have:=pU h1;omega
 ·rw[jP (by omega),jP (by omega)];have:=pU (n:=n/10/10) (by omega);simp only[dL,bU,dS];omega
theorem SJ{n:Nat}(h:n<100):pT n 2=d2 n:=by
 unfold pT d2;by_cases h1:n<10
 ·rw[kA h1,Nat.div_eq_of_lt h1,Nat.mod_eq_of_lt h1];rfl
 ·rw[jP h1,kA (by omega)];rfl
theorem SL{n:Nat}(h:n<10000):pT n 4=fP n:=by
 unfold pT fP d2;by_cases h1:n<10
 ·rw[kA h1,show n/100/10=0 by omega,show n/100%10=0 by omega,show n%100/10=0 by omega,show n%100%10=n by omega];rfl
 ·by_cases h2:n<100
  ·rw[jP h1,kA (by omega),show n/100/10=0 by omega,show n/100%10=0 by omega,show n%100/10=n/10 by omega,show n%100%10=n%10 by omega];rfl
  ·by_cases h3:n<1000
   ·rw[jP h1,jP (by omega),kA (by omega),show n/100/10=0 by omega,show n/100%10=n/10/10 by omega,show n%100/10=n/10%10 by omega,show n%100%10=n%10 by omega];rfl
   ·rw[jP h1,jP (by omega),jP (by omega),kA (by omega),show n/100/10=n/10/10/10 by omega,show n/100%10=n/10/10%10 by omega,show n%100/10=n/10%10 by omega,show n%100%10=n%10 by omega];rfl
def dT(l:List UInt8):List UInt8×List UInt8:=
 if Lib.hasPrefix l [46]=false then([],l)else
 if aZ aH 6 (l.drop 1)=0 then([],l)else
 (if Lib.trimRightB (l.take (1+aZ aH 6 (l.drop 1))) 48=[46]then[]else Lib.trimRightB (l.take (1+aZ aH 6 (l.drop 1))) 48,l.drop (1+aZ aH 6 (l.drop 1)))
def oU:List UInt8:=[43,48,48,58,48,48]
def oV:List UInt8:=[45,48,48,58,48,48]
def eZ(z:List UInt8):Option Int:=
 if z=[90]then some 0 else
 if bZ z oU=false/\bZ z oV=false then none else
 if 23<cB ((z.drop 1).take 2)∨59<cB ((z.drop 4).take 2)then none else
 if(z.getD 0 0).toNat=45 then some (-(60*cB ((z.drop 1).take 2)+cB ((z.drop 4).take 2):Int))else some (60*cB ((z.drop 1).take 2)+cB ((z.drop 4).take 2):Int)
def jQ:List UInt8:=[48,48,48,48,45,48,48,45,48,48,84,48,48,58,48,48,58,48,48]
def aK(l:List UInt8)(a b:Nat):Nat:=cB ((l.drop a).take (b-a))
def dK(l:List UInt8):Option (List UInt8):=
 if l.length<19∨bZ (l.take 19) jQ=false then none else
 match eZ (dT (l.drop 19)).2 with
 |none=>none
 |some k=>
  if fL (aK l 0 4) (aK l 5 7) (aK l 8 10) (aK l 11 13) (aK l 14 16) (aK l 17 19)=false then none else
  if dB (bY (aK l 0 4) (aK l 5 7) (aK l 8 10) (aK l 11 13) (aK l 14 16) k).1.1=false then none else
  some (eT (bY (aK l 0 4) (aK l 5 7) (aK l 8 10) (aK l 11 13) (aK l 14 16) k).1.1.toNat
   (bY (aK l 0 4) (aK l 5 7) (aK l 8 10) (aK l 11 13) (aK l 14 16) k).1.2.1.toNat
   (bY (aK l 0 4) (aK l 5 7) (aK l 8 10) (aK l 11 13) (aK l 14 16) k).1.2.2.toNat
   ((bY (aK l 0 4) (aK l 5 7) (aK l 8 10) (aK l 11 13) (aK l 14 16) k).2/60).toNat
   ((bY (aK l 0 4) (aK l 5 7) (aK l 8 10) (aK l 11 13) (aK l 14 16) k).2%60).toNat
   (aK l 17 19)++(dT (l.drop 19)).1++[90])
def eF(l:List UInt8):Bool:=dK l==some l
theorem yN:∀(t s:List UInt8),bZ t s=true->∀(j:Nat)(c d:UInt8),t[j]?=some c->s[j]?=some d->jI c d=true
 |[],[],_,j,c,d,h,_=>by simp at h
 |[],_::_,h,_,_,_,_,_=>by simp[bZ]at h
 | _::_,[],h,_,_,_,_,_=>by simp[bZ]at h
 |a::t,b::s,h,j,c,d,h1,h2=>by
  simp only[bZ,gP]at h;cases j with
  |zero=>simp at h1 h2;subst h1 h2;exact h.1
  |succ j=>exact yN t s h.2 j c d (by simpa using h1) (by simpa using h2)
theorem SN{l:List UInt8}{a b:Nat}{c:UInt8}(h:c∈(l.drop a).take (b-a)):∃j,a<=j/\j<b/\l[j]?=some c:=by
 obtain⟨i,hi⟩:=List.getElem?_of_mem h;rw[List.getElem?_take]at hi;split at hi
 ·rw[nM]at hi;exact⟨a+i,by omega,by omega,hi⟩
 ·cases hi
theorem qV{l s:List UInt8}{n:Nat}(h:bZ (l.take n) s=true)(a b:Nat)(e:b<=n)(h48:∀j,a<=j->j<b->s[j]?=some 48):
  ∀c∈(l.drop a).take (b-a),aH c=true:=fun c d=>by
 obtain⟨j,h1,h2,h3⟩:=SN d;have h4:(l.take n)[j]?=some c:=by rw[List.getElem?_take,aD (by omega)];exact h3
 have:=yN _ _ h j c 48 h4 (h48 j h1 h2);simpa[jI]using this
theorem qX(y m:Int)(h1:1<=m)(h2:m<=12):28<=dO y m/\dO y m<=31:=by
 unfold dO;split
 ·omega
 ·rcases(by omega:m=1∨m=2∨m=3∨m=4∨m=5∨m=6∨m=7∨m=8∨m=9∨m=10∨m=11∨m=12)with h|h|h|h|h|h|h|h|h|h|h|h <;> subst h <;> decide
theorem vH{y mo d h mi s:Int}(k:fL y mo d h mi s=true):1<=y/\y<=9999/\1<=mo/\mo<=12/\1<=d/\d<=31/\d<=dO y mo/\h<=23/\mi<=59/\s<=59:=by
 simp only[fL,dB,gP,mN]at k;obtain⟨⟨⟨⟨⟨⟨⟨⟨a,b⟩,c⟩,l⟩,e⟩,f⟩,g⟩,i⟩,j⟩:=k;have:=qX y mo c l;exact⟨a,b,c,l,e,by omega,f,g,i,j⟩
theorem DY{z:List UInt8}{k:Int}(h:eZ z=some k): -1439<=k/\k<=1439:=by
 unfold eZ at h;split at h
 ·simp at h;omega
 ·split at h
  ·simp at h
  ·split at h
   ·simp at h
   ·split at h <;> simp only[Option.some.injEq]at h <;> omega
theorem DZ(y mo d h mi k:Int)(m:1<=y)(f:y<=9999)(b:1<=mo)(a:mo<=12)(g:1<=d)(c:d<=dO y mo)(n:0<=h)(i:h<=23)(j:0<=mi)(e:mi<=59)(o: -1439<=k)(l:k<=1439):
  0<=(bY y mo d h mi k).1.1/\(bY y mo d h mi k).1.1<=10000/\1<=(bY y mo d h mi k).1.2.1/\(bY y mo d h mi k).1.2.1<=12/\
   1<=(bY y mo d h mi k).1.2.2/\(bY y mo d h mi k).1.2.2<=dO (bY y mo d h mi k).1.1 (bY y mo d h mi k).1.2.1/\0<=(bY y mo d h mi k).2/\(bY y mo d h mi k).2<1440:=by
 have p:=qX y mo b a;unfold bY;split
 ·unfold fX;split
  ·split
   ·have:=qX (y-1) 12 (by omega) (by omega);exact⟨by show 0<=y-1;omega,by show y-1<=10000;omega,by show(1:Int)<=12;omega,by show(12:Int)<=12;omega,by show 1<=dO (y-1) 12;omega,Int.le_refl _,by show 0<=60*h+mi-k+1440;omega,by show 60*h+mi-k+1440<1440;omega⟩
   ·have:=qX y (mo-1) (by omega) (by omega);exact⟨by show 0<=y;omega,by show y<=10000;omega,by show 1<=mo-1;omega,by show mo-1<=12;omega,by show 1<=dO y (mo-1);omega,Int.le_refl _,by show 0<=60*h+mi-k+1440;omega,by show 60*h+mi-k+1440<1440;omega⟩
  ·exact⟨by show 0<=y;omega,by show y<=10000;omega,b,a,by show 1<=d-1;omega,by show d-1<=dO y mo;omega,by show 0<=60*h+mi-k+1440;omega,by show 60*h+mi-k+1440<1440;omega⟩
 ·split
  ·unfold fY;split
   ·split
    ·have:=qX (y+1) 1 (by omega) (by omega);exact⟨by show 0<=y+1;omega,by show y+1<=10000;omega,by show(1:Int)<=1;omega,by show(1:Int)<=12;omega,by show(1:Int)<=1;omega,by show 1<=dO (y+1) 1;omega,by show 0<=60*h+mi-k-1440;omega,by show 60*h+mi-k-1440<1440;omega⟩
    ·have:=qX y (mo+1) (by omega) (by omega);exact⟨by show 0<=y;omega,by show y<=10000;omega,by show 1<=mo+1;omega,by show mo+1<=12;omega,by show(1:Int)<=1;omega,by show 1<=dO y (mo+1);omega,by show 0<=60*h+mi-k-1440;omega,by show 60*h+mi-k-1440<1440;omega⟩
   ·exact⟨by show 0<=y;omega,by show y<=10000;omega,b,a,by show 1<=d+1;omega,by show d+1<=dO y mo;omega,by show 0<=60*h+mi-k-1440;omega,by show 60*h+mi-k-1440<1440;omega⟩
  ·exact⟨by show 0<=y;omega,by show y<=10000;omega,b,a,g,c,by show 0<=60*h+mi-k;omega,by show 60*h+mi-k<1440;omega⟩
def fI:Nat->List UInt8->Nat->List (List UInt8×Nat)
 |0,_,_=>[]
 |f+1,l,e=>if(dE (l.drop e)).2=0 then[]else((dE (l.drop e)).1,e+(dE (l.drop e)).2)::fI f l (e+(dE (l.drop e)).2)
def jR(es:List (List UInt8×Nat)):Nat:=(es.getLast?.map (·.2)).getD 0
def mQ(l:List UInt8)(es:List (List UInt8×Nat)):Nat:=
 if(es.map (·.1)).Nodup then(if bO (l.take (jR es))=true then jR es else 0)else 0
def iO(l:List UInt8):Nat:=mQ l (fI (l.length+1) l 0)
theorem SQ:∀(f g:Nat)(l:List UInt8)(e:Nat),l.length<f+e->l.length<g+e->e<=l.length->fI f l e=fI g l e:=by
 intro f;induction f with
 |zero=>intro g l e h1 h2 h3;omega
 |succ f ih=>
  intro g l e h1 h2 h3;cases g with
  |zero=>omega
  |succ g=>
   unfold fI;split
   ·rfl
   ·rename_i h0;have:=rY (l.drop e);rw[bC]at this;rw[ih g l _ (by omega) (by omega) (by omega)]
theorem vI{f:Nat}{l:List UInt8}{e:Nat}(a:l.length<f+e)(b:e<=l.length)(h:(dE (l.drop e)).2=0):fI f l e=[]:=by
 obtain⟨f,rfl⟩:∃g,f=g+1:=⟨f-1,by omega⟩;rw[fI,aD h]
theorem vJ{f:Nat}{l:List UInt8}{e:Nat}(a:l.length<f+e)(b:e<=l.length)(h:¬(dE (l.drop e)).2=0):
  fI f l e=((dE (l.drop e)).1,e+(dE (l.drop e)).2)::fI f l (e+(dE (l.drop e)).2):=by
 have h1:=rY (l.drop e);rw[bC]at h1;obtain⟨f,rfl⟩:∃g,f=g+1:=⟨f-1,by omega⟩;rw[fI,aB h,SQ f (f+1) l _ (by omega) (by omega) (by omega)]
theorem yO:∀(f:Nat)(l:List UInt8)(e:Nat),e<=l.length->∀x∈fI f l e,x.1.length<=l.length/\x.2<=l.length:=by
 intro f;induction f with
 |zero=>intro l e _ x a;simp[fI]at a
 |succ f ih=>
  intro l e b x a;have h1:=rY (l.drop e);rw[bC]at h1;unfold fI at a;split at a
  ·simp at a
  ·rcases jY.1 a with h|h
   ·subst h;refine⟨?_,by simp only[];omega⟩;unfold dE;split
    ·simp
    ·split
     ·simp
     ·split
      ·simp
      ·split
       ·simp
       ·simp only[eJ,bC];omega
   ·exact ih l _ (by omega) x h
theorem SR:∀(f:Nat)(l:List UInt8)(e:Nat),e<=l.length->(fI f l e).length+e<=l.length:=by
 intro f;induction f with
 |zero=>intro l e a;simpa[fI]using a
 |succ f ih=>
  intro l e a;have h1:=rY (l.drop e);rw[bC]at h1;unfold fI;split
  ·simpa using a
  ·rename_i h0;have:=ih l (e+(dE (l.drop e)).2) (by omega);simp only[bU];omega
abbrev oW:={x:List UInt8×Nat // x.1.length<=9000000000/\x.2<=9000000000}
theorem EA:∀(a:List (List UInt8×Nat)),(∀x∈a,x.1.length<=9000000000/\x.2<=9000000000)->∃xs:List oW,xs.map (·.1)=a
 |[],_=>⟨[],rfl⟩
 |x::a,h=>by
  obtain⟨xs,b⟩:=EA a fun y c=>h y (by simp[c]);exact⟨⟨x,h x (by simp)⟩::xs,by simp[b]⟩
def jA(l:List UInt8):Bool:=!l.isEmpty&&(iO l==l.length)
def fJ(l:List UInt8):Nat:=if Lib.hasPrefix l [45]=true then 1 else iO l
def eU(l:List UInt8)(a:Nat):List UInt8×Nat:=
 ((Lib.cut (l.drop a) [32]).1,a+(Lib.cut (l.drop a) [32]).1.length+if(Lib.cut (l.drop a) [32]).2.2=true then 1 else 0)
def cS(l:List UInt8):Nat×Nat:=
 if Lib.hasPrefix l [60]=false then(13,0)else
 if aZ aH 3 (l.drop 1)=0∨Lib.hasPrefix (l.drop (1+aZ aH 3 (l.drop 1))) [62]=false then(13,0)else
 if(((l.getD 1 0).toNat=48/\1<aZ aH 3 (l.drop 1))∨191<cB ((l.drop 1).take (aZ aH 3 (l.drop 1))))then(13,0)else
 (cB ((l.drop 1).take (aZ aH 3 (l.drop 1))),1+aZ aH 3 (l.drop 1)+1)
theorem EB(b:Nat)(l:List UInt8):∀c∈l.take (aZ aH b l),aH c=true:=by
 intro c a;have h:l.take (aZ aH b l)=(l.take b).takeWhile aH:=by
  unfold aZ;have d:(l.take b).takeWhile aH <+: l:=(List.takeWhile_prefix aH).trans (List.take_prefix b l);exact(List.prefix_iff_eq_take.1 d).symm
 rw[h]at a;have:=List.all_takeWhile (p:=aH) (l:=l.take b);rw[nL]at this;exact this c a
theorem EC(l:List UInt8)(c:List UInt8):(Lib.cut l c).1.length<=l.length:=by
 unfold Lib.cut;split
 ·simp only[eJ];omega
 ·exact aC _
def bE(c:UInt8):List UInt8->List UInt8×List UInt8×Bool
 |[]=>([],[],false)
 |a::t=>if a=c then([],t,true)else(a::(bE c t).1,(bE c t).2.1,(bE c t).2.2)
theorem yP(c:UInt8):∀l:List UInt8,(0<=Lib.index l [c]/\bE c l=(l.take (Lib.index l [c]).toNat,l.drop ((Lib.index l [c]).toNat+1),true))∨(Lib.index l [c]= -1/\bE c l=(l,[],false))
 |[]=>by right;exact⟨rfl,rfl⟩
 |a::t=>by
  by_cases h:a=c
  ·subst h;left;have:Lib.index (a::t) [a]=0:=Lib.index_first (i:=0) (by simp) (by simp[Lib.occAt]) (by intro j d;omega);rw[this];simp[bE]
  ·have b:Lib.index (a::t) [c]=if Lib.index t [c]== -1 then -1 else Lib.index t [c]+1:=by
    rw[Lib.index,aB];simp[List.isPrefixOf,Ne.symm h]
   rcases yP c t with⟨h1,h2⟩|⟨h1,h2⟩
   ·left;have h3:Lib.index (a::t) [c]=Lib.index t [c]+1:=by rw[b,aB (by simp;omega)]
    refine⟨by omega,?_⟩;rw[bE,aB h,h2,h3,show(Lib.index t [c]+1).toNat=(Lib.index t [c]).toNat+1 by omega];rfl
   ·right;refine⟨by rw[b,aD (by simp[h1])],?_⟩;rw[bE,aB h,h2]
theorem pV(l:List UInt8)(c:UInt8):Lib.cut l [c]=bE c l:=by
 unfold Lib.cut;rcases yP c l with⟨h1,h2⟩|⟨h1,h2⟩
 ·rw[aD h1,h2];rfl
 ·rw[aB (by omega),h2]
theorem nB(c:UInt8):∀l:List UInt8,(bE c l).2.2=true->l=(bE c l).1++c::(bE c l).2.1
 |[],h=>by simp[bE]at h
 |a::t,h=>by
  unfold bE at h⊢;split
  ·rename_i h1;subst h1;rfl
  ·rename_i h1;rw[aB h1]at h;have:=nB c t h;simp only[eN];rw[<-this]
theorem rZ(c:UInt8):∀l:List UInt8,(bE c l).2.2=false->bE c l=(l,[],false)
 |[],_=>rfl
 |a::t,h=>by
  unfold bE at h⊢;split
  ·rename_i h1;rw[aD h1]at h;cases h
  ·rename_i h1;rw[aB h1]at h;rw[rZ c t h]
theorem sA(c:UInt8):∀l:List UInt8,c∉(bE c l).1
 |[]=>by simp[bE]
 |a::t=>by
  unfold bE;split
  ·simp
  ·rename_i h1;have:=sA c t;simp only[jY,not_or];exact⟨fun h=>h1 h.symm,this⟩
theorem vK(c:UInt8):∀(l r:List UInt8),c∉l->bE c (l++c::r)=(l,r,true)
 |[],r,_=>by simp[bE]
 |a::t,r,h=>by
  simp only[jY,not_or]at h;rw[eN,bE,aB (fun e=>h.1 e.symm),vK c t r h.2]
theorem yQ(c:UInt8):∀(l:List UInt8),c∉l->bE c l=(l,[],false)
 |[],_=>rfl
 |a::t,h=>by
  simp only[jY,not_or]at h;rw[bE,aB (fun e=>h.1 e.symm),yQ c t h.2]
def bF(l:List UInt8):List (List UInt8)->Nat->Nat
 |[],_=>0
 |m::ms,k=>if m=l then k+1 else bF l ms (k+1)
def iB(l:List UInt8):Nat:=bF l gS 0
theorem yR(l:List UInt8):∀(a:List (List UInt8))(k:Nat),bF l a k<=k+a.length
 |[],k=>by simp[bF]
 |m::a,k=>by
  unfold bF;split
  ·simp only[bU];omega
  ·have:=yR l a (k+1);simp only[bU];omega
theorem yS(l:List UInt8):iB l<=12:=yR l gS 0
def fC(l app proc:List UInt8)(e:Nat):List UInt8×List UInt8×Nat:=
 if Lib.hasPrefix (l.drop e) [58]=false then([],[],0)else
 if Lib.hasPrefix (l.drop (e+1)) [32]=true then(app,proc,e+1+1)else(app,proc,e+1)
def dG(l:List UInt8):List UInt8×List UInt8×Nat:=
 if aZ cE 16 l=0∨l.take (aZ cE 16 l)=[45]then([],[],0)else
 if Lib.hasPrefix (l.drop (aZ cE 16 l)) [91]=true then
  (if aZ aH 8 (l.drop (aZ cE 16 l+1))=0∨Lib.hasPrefix (l.drop (aZ cE 16 l+(1+aZ aH 8 (l.drop (aZ cE 16 l+1))))) [93]=false then([],[],0)else
   fC l (l.take (aZ cE 16 l)) ((l.drop (aZ cE 16 l+1)).take (aZ aH 8 (l.drop (aZ cE 16 l+1)))) (aZ cE 16 l+(1+aZ aH 8 (l.drop (aZ cE 16 l+1)))+1))
 else fC l (l.take (aZ cE 16 l)) [] (aZ cE 16 l)
def sB(l:List UInt8):List UInt8:=if(l.getD 4 0).toNat=32 then[48]++((l.drop 4).take 2).drop 1 else(l.drop 4).take 2
def lX(l:List UInt8)(y:Nat):List UInt8:=fP y++[45]++d2 (iB (l.take 3))++[45]++sB l++[84]++l.drop 7++[90]
def gI(l:List UInt8)(y:Nat):List UInt8×Bool:=
 if iB (l.take 3)=0∨¬(l.getD 3 0).toNat=32∨¬(l.getD 6 0).toNat=32∨(l.getD 4 0).toNat=48 then([],false)else(lX l y,eF (lX l y))
def cM(l:List UInt8)(y:Nat):List UInt8×List UInt8×Nat:=
 if l.length<16∨¬(l.getD 15 0).toNat=32 then([],[],0)else
 if(gI (l.take 15) y).2=false∨(Lib.cut (l.drop 16) [32]).2.2=false∨bX (Lib.cut (l.drop 16) [32]).1 32=false then([],[],0)else
 ((gI (l.take 15) y).1,(Lib.cut (l.drop 16) [32]).1,16+(Lib.cut (l.drop 16) [32]).1.length+1)
structure aO where
 fac:Int
 sev:Int
 time:List UInt8
 host:List UInt8
 app:List UInt8
 proc:List UInt8
 id:List UInt8
 data:List UInt8
 text:List UInt8
def aO.none:aO:=⟨0,0,[],[],[],[],[],[],[]⟩
def aO.of(f s:Int):aO:=⟨f,s,[],[],[],[],[],[],[]⟩
def jB(m:aO)(l:List UInt8)(y:Nat):aO:=
 if 0<(cM l y).2.2 then
  {m with time:=(cM l y).1,host:=(cM l y).2.1,app:=(dG (l.drop (cM l y).2.2)).1,proc:=(dG (l.drop (cM l y).2.2)).2.1,text:=(l.drop (cM l y).2.2).drop (dG (l.drop (cM l y).2.2)).2.2}
 else{m with app:=(dG l).1,proc:=(dG l).2.1,text:=l.drop (dG l).2.2}
theorem yT(l:List UInt8):(dG l).2.2<=l.length:=by
 have a:∀app proc e,e<=l.length->(fC l app proc e).2.2<=l.length:=fun app proc e b=>by
  unfold fC;split
  ·simp
  ·rename_i h;have h1:=iA (by simpa using h:Lib.hasPrefix (l.drop e) [58]=true);simp only[bC,bU,dS]at h1;split
   ·rename_i h2;have h3:=iA h2;simp only[bC,bU,dS]at h3;simp only[];omega
   ·simp only[];omega
 have h16:=(nN cE 16 l).2;unfold dG;split
 ·simp
 ·split
  ·split
   ·simp
   ·rename_i h;have h5:Lib.hasPrefix (l.drop (aZ cE 16 l+(1+aZ aH 8 (l.drop (aZ cE 16 l+1))))) [93]=true:=by
     cases h6:Lib.hasPrefix (l.drop (aZ cE 16 l+(1+aZ aH 8 (l.drop (aZ cE 16 l+1))))) [93]
     ·exact(h (.inr h6)).elim
     ·rfl
    have h7:=iA h5;simp only[bC,bU,dS]at h7;exact a _ _ _ (by omega)
  ·exact a _ _ _ h16
theorem ED(l:List UInt8)(y:Nat):(cM l y).2.2<=l.length:=by
 unfold cM;split
 ·simp
 ·rename_i h;split
  ·simp
  ·rename_i h2;have a:(Lib.cut (l.drop 16) [32]).2.2=true:=by
    cases h3:(Lib.cut (l.drop 16) [32]).2.2
    ·exact(h2 (.inr (.inl h3))).elim
    ·rfl
   have b:(Lib.cut (l.drop 16) [32]).1.length+1<=l.length-16:=by
    rw[pV]at a⊢;have:=aQ List.length (nB 32 _ a);simp only[bC,dL,bU]at this;omega
   simp only[];omega
def eH(m:aO)(l:List UInt8)(a:Nat):aO×Nat×Nat:=
 if fJ (l.drop a)=0∨(a+fJ (l.drop a)<l.length/\¬(l.getD (a+fJ (l.drop a)) 0).toNat=32)then(aO.none,8,a)else
 if a+fJ (l.drop a)=l.length then((if(l.drop a).take (fJ (l.drop a))=[45]then m else{m with data:=(l.drop a).take (fJ (l.drop a))}),0,0)else
 if bO (l.drop (a+fJ (l.drop a)+1))=false then(aO.none,9,a+fJ (l.drop a)+1)else
 ({(if(l.drop a).take (fJ (l.drop a))=[45]then m else{m with data:=(l.drop a).take (fJ (l.drop a))})with text:=l.drop (a+fJ (l.drop a)+1)},0,0)
theorem SS(l:List UInt8)(f:Nat):jR (fI f l 0)<=l.length:=by
 unfold jR;cases a:(fI f l 0).getLast? with
 |none=>simp
 |some x=>
  have:=(yO f l 0 (dM _) x (List.mem_of_getLast? a)).2;simpa using this
theorem yU(l:List UInt8):iO l<=l.length:=by
 unfold iO mQ;have:=SS l (l.length+1);split
 ·split
  ·exact this
  ·omega
 ·omega
theorem SU(l:List UInt8):fJ l<=l.length:=by
 unfold fJ;split
 ·rename_i h;have:=iA h;simpa using this
 ·exact yU l
def aX:List (Nat×Nat):=[(32,4),(16,5),(16,6),(12,7)]
def dH(l:List UInt8):List (Nat×Nat)->Nat->Option (Nat×Nat)×List (List UInt8)×Nat
 |[],nx=>(none,[],nx)
 |k::ks,nx=>
  if(eU l nx).1=[45]then((dH l ks (eU l nx).2).1,[]::(dH l ks (eU l nx).2).2.1,(dH l ks (eU l nx).2).2.2)
  else if bX (eU l nx).1 k.1=false then(some (k.2,nx),[],0)
  else((dH l ks (eU l nx).2).1,(eU l nx).1::(dH l ks (eU l nx).2).2.1,(dH l ks (eU l nx).2).2.2)
def iP(p:List UInt8):Option (List UInt8):=if p=[45]then some []else dK p
def lC(f s:Int)(tm l:List UInt8)(nx:Nat):aO×Nat×Nat:=
 match(dH l aX nx).1 with
 |some e=>(aO.none,e.1,e.2)
 |none=>eH ⟨f,s,tm,(dH l aX nx).2.1.getD 0 [],(dH l aX nx).2.1.getD 1 [],(dH l aX nx).2.1.getD 2 [],(dH l aX nx).2.1.getD 3 [],[],[]⟩ l (dH l aX nx).2.2
def eV(f s:Int)(l:List UInt8)(a:Nat):aO×Nat×Nat:=
 match iP (eU l a).1 with
 |none=>(aO.none,3,a)
 |some tm=>lC f s tm l (eU l a).2
theorem vL{f s:Int}{b l:List UInt8}{a:Nat}{e:Nat×Nat}(h:(dH l aX a).1=some e):lC f s b l a=(aO.none,e.1,e.2):=by unfold lC;rw[h]
theorem sC{f s:Int}{b l:List UInt8}{a:Nat}(h:(dH l aX a).1=none):lC f s b l a=eH ⟨f,s,b,(dH l aX a).2.1.getD 0 [],(dH l aX a).2.1.getD 1 [],(dH l aX a).2.1.getD 2 [],(dH l aX a).2.1.getD 3 [],[],[]⟩ l (dH l aX a).2.2:=by unfold lC;rw[h]
theorem vM{f s:Int}{l p:List UInt8}{a n:Nat}(h:eU l a=(p,n))(b:iP p=none):eV f s l a=(aO.none,3,a):=by unfold eV;rw[h];simp only[];rw[b]
theorem sD{f s:Int}{l p b:List UInt8}{a n:Nat}(h:eU l a=(p,n))(c:iP p=some b):eV f s l a=lC f s b l n:=by unfold eV;rw[h];simp only[];rw[c]
def bH(l:List UInt8)(y:Int):aO×Nat×Nat:=
 if 200<l.length then(aO.none,1,0)else
 if dB y=false then(aO.none,10,0)else
 if 0<(cS l).2/\Lib.hasPrefix (l.drop (cS l).2) [49,32]=true then eV ((cS l).1/8) ((cS l).1%8) l ((cS l).2+2)else
 if bO (l.drop (cS l).2)=false then(aO.none,9,(cS l).2)else
 (jB (aO.of ((cS l).1/8) ((cS l).1%8)) (l.drop (cS l).2) y.toNat,0,0)
theorem yV(l:List UInt8)(a:Nat)(h:a<=l.length):(eU l a).2<=l.length/\(eU l a).1.length<=l.length:=by
 unfold eU;rw[pV];cases b:(bE 32 (l.drop a)).2.2
 ·have:=rZ 32 _ b;rw[this];simp only[bC];simp;omega
 ·have:=aQ List.length (nB 32 _ b);simp only[bC,dL,bU]at this;simp only[if_true];omega
def kB(l:List UInt8)(n0:Nat)(ws:List (List UInt8))(n:Nat):Prop:=
 (dH l aX n0).1=(dH l (aX.drop ws.length) n).1/\
 ((dH l (aX.drop ws.length) n).1=none->(dH l aX n0).2=(ws++(dH l (aX.drop ws.length) n).2.1,(dH l (aX.drop ws.length) n).2.2))
theorem yW(l:List UInt8)(a:Nat):kB l a [] a:=⟨rfl,fun _=>rfl⟩
theorem yX{k:Nat}(h:k<4):aX.drop k=aX.getD k (0,0)::aX.drop (k+1):=by
 rcases(by omega:k=0∨k=1∨k=2∨k=3)with h|h|h|h <;> subst h <;> rfl
theorem yY{l:List UInt8}{b n c:Nat}{a:List (List UInt8)}(d:a.length<4)(e:eU l n=([45],c))(h:kB l b a n):kB l b (a++[[]]) c:=by
 obtain⟨h1,h2⟩:=h;rw[yX d,dH,e,aD rfl]at h1 h2;dsimp only at h1 h2;rw[kB,dL];refine⟨h1,fun f=>?_⟩;rw[h2 f,jH];rfl
theorem yZ{l p:List UInt8}{b n c:Nat}{a:List (List UInt8)}(d:a.length<4)(e:eU l n=(p,c))(f:¬p=[45])(hw:bX p (aX.getD a.length (0,0)).1=true)(h:kB l b a n):kB l b (a++[p]) c:=by
 obtain⟨h1,h2⟩:=h;rw[yX d,dH,e,aB f,aB (fun h=>by rw[hw]at h;cases h)]at h1 h2;dsimp only at h1 h2;rw[kB,dL];refine⟨h1,fun g=>?_⟩;rw[h2 g,jH];rfl
theorem zA{l p:List UInt8}{b n c:Nat}{a:List (List UInt8)}(d:a.length<4)(e:eU l n=(p,c))(f:¬p=[45])(hw:bX p (aX.getD a.length (0,0)).1=false)(h:kB l b a n):
  (dH l aX b).1=some ((aX.getD a.length (0,0)).2,n):=by
 obtain⟨h1,_⟩:=h;rw[yX d,dH,e,aB f,aD hw]at h1;exact h1
theorem zB{l:List UInt8}{a n:Nat}{b:List (List UInt8)}(c:b.length=4)(h:kB l a b n):(dH l aX a).1=none/\(dH l aX a).2=(b,n):=by
 obtain⟨h1,h2⟩:=h;rw[c,show aX.drop 4=[]from rfl,dH]at h1 h2;exact⟨h1,by rw[h2 rfl,kZ]⟩
theorem pW(l:List UInt8):(cS l).1<=191/\(cS l).2<=l.length:=by
 unfold cS;split
 ·exact⟨by omega,dM _⟩
 ·split
  ·exact⟨by omega,dM _⟩
  ·next h2=>
   split
   ·exact⟨by omega,dM _⟩
   ·next h3=>
    refine⟨by omega,?_⟩;have a:Lib.hasPrefix (l.drop (1+aZ aH 3 (l.drop 1))) [62]=true:=by
     cases h:Lib.hasPrefix (l.drop (1+aZ aH 3 (l.drop 1))) [62]
     ·exact absurd (.inr h) h2
     ·rfl
    have:=iA a;simp only[bC,bU,dS]at this;show 1+aZ aH 3 (l.drop 1)+1<=_;omega
theorem SX(l:List UInt8)(a:Nat)(h:Lib.hasPrefix (l.drop a) [49,32]=true):a+2<=l.length:=by
 have:=iA h;simp only[bC,bU,dS]at this;omega
structure aE where
 bound:Nat
 stage:Nat
 head:Nat
 number:Nat
 own:List UInt8
def aE.fresh(b:Nat):aE:=⟨b,0,0,0,[]⟩
def aE.endBad(f:aE)(c:UInt8):aE×List UInt8:=(⟨f.bound,if c=10 then 0 else 4,0,0,[]⟩,[33])
def aE.endFrame(f:aE):aE×List UInt8:=(aE.fresh f.bound,61::f.own)
def aE.takeNumber(f:aE)(c:UInt8):aE×List UInt8:=
 if aH c=true then
  if f.bound<10*f.number+(c.toNat-48)then f.endBad c else(⟨f.bound,f.stage,f.head+1,10*f.number+(c.toNat-48),f.own⟩,[])
 else if c=32 then(⟨f.bound,2,f.head+1,f.number,f.own⟩,[])
 else f.endBad c
def aE.takeCounted(f:aE)(c:UInt8):aE×List UInt8:=
 if f.own.length+1<f.number then(⟨f.bound,f.stage,f.head,f.number,f.own++[c]⟩,[])else(aE.fresh f.bound,61::(f.own++[c]))
def aE.takeLine(f:aE)(c:UInt8):aE×List UInt8:=
 if c=10 then if f.own=[]then(⟨f.bound,0,f.head,f.number,f.own⟩,[])else f.endFrame
 else if f.own.length=f.bound then f.endBad c else(⟨f.bound,f.stage,f.head,f.number,f.own++[c]⟩,[])
def aE.begun(f:aE)(c:UInt8):aE:=if f.stage=0 then⟨f.bound,if aH c=true/\c≠48 then 1 else 3,f.head,f.number,f.own⟩else f
def aE.goes(f:aE)(c:UInt8):aE×List UInt8:=
 if f.stage=1 then f.takeNumber c else if f.stage=2 then f.takeCounted c else if f.stage=3 then f.takeLine c
 else(⟨f.bound,if c=10 then 0 else f.stage,f.head,f.number,f.own⟩,[])
def aE.take(f:aE)(c:UInt8):aE×List UInt8:=(f.begun c).goes c
def aE.feed:aE->List UInt8->aE×List (List UInt8)
 |f,[]=>(f,[])
 |f,c::t=>(((f.take c).1.feed t).1,if(f.take c).2=[]then((f.take c).1.feed t).2 else(f.take c).2::((f.take c).1.feed t).2)
structure aE.Ok(f:aE):Prop where
 b1:1<=f.bound
 b2:f.bound<=200
 st:(f.stage=0/\f.head=0/\f.number=0/\f.own=[])∨(f.stage=1/\f.own=[]/\1<=f.head/\10^(f.head-1)<=f.number/\f.number<=f.bound)∨
  (f.stage=2/\2<=f.head/\10^(f.head-2)<=f.number/\f.number<=f.bound/\f.own.length<f.number)∨
  (f.stage=3/\f.head=0/\f.number=0/\1<=f.own.length/\f.own.length<=f.bound)∨(f.stage=4/\f.head=0/\f.number=0/\f.own=[])
theorem aE.fresh_ok{b:Nat}(h1:1<=b)(h2:b<=200):(aE.fresh b).Ok:=⟨h1,h2,.inl ⟨rfl,rfl,rfl,rfl⟩⟩
theorem aE.endBad_ok{f:aE}(h1:1<=f.bound)(h2:f.bound<=200)(c:UInt8):(f.endBad c).1.Ok:=by
 refine⟨h1,h2,?_⟩;by_cases h:c=10
 ·left;simp[aE.endBad,h]
 ·right;right;right;right;simp[aE.endBad,h]
theorem EE{k n:Nat}(h:10^k<=n)(b:n<=200):k<=2:=by
 by_cases a:k<=2
 ·exact a
 ·have:10^3<=10^k:=qQ (by decide) (by omega);omega
theorem aE.Ok.head{f:aE}(h:f.Ok):f.head<=4/\f.stage<=4/\f.number<=f.bound/\f.own.length<=f.bound/\f.head+f.own.length<=f.bound+4:=by
 obtain⟨b1,b2,h⟩:=h;rcases h with⟨h1,h2,h3,h4⟩|⟨h1,h2,h3,h4,h5⟩|⟨h1,h2,h3,h4,h5⟩|⟨h1,h2,h3,h4,h5⟩|⟨h1,h2,h3,h4⟩
 ·simp[h1,h2,h3,h4]
 ·have:=EE h4 (by omega);simp[h1,h2];omega
 ·have:=EE h3 (by omega);omega
 ·omega
 ·simp[h1,h2,h3,h4]
theorem zC(c:UInt8):aH c=true↔48<=c.toNat/\c.toNat<=57:=by simp[aH]
theorem aE.takeNumber_ok{f:aE}{c:UInt8}(b1:1<=f.bound)(b2:f.bound<=200)(b:f.stage=1)(a:f.own=[])(h:(f.head=0/\f.number=0/\aH c=true/\c≠48)∨(1<=f.head/\10^(f.head-1)<=f.number/\f.number<=f.bound)):(f.takeNumber c).1.Ok:=by
 unfold aE.takeNumber;split
 ·next hd=>
  split
  ·exact endBad_ok b1 b2 c
  ·next hle=>
   refine⟨b1,b2,.inr (.inl ⟨b,a,by simp,?_,by simp;omega⟩)⟩;rcases h with⟨h1,h2,h3,h4⟩|⟨h1,h2,h3⟩
   ·simp only[h1,h2];have h5:=(zC c).1 hd;have h6:c.toNat≠48:=fun e=>h4 (eY.1 (by simpa using e));simp;omega
   ·simp only[Nat.add_sub_cancel];obtain⟨k,d⟩:∃k,f.head=k+1:=⟨f.head-1,by omega⟩;rw[d]at h2⊢;rw[Nat.add_sub_cancel]at h2;rw[Nat.pow_succ];omega
 ·next hd=>
  split
  ·refine⟨b1,b2,.inr (.inr (.inl ⟨rfl,?_⟩))⟩;rcases h with⟨h1,h2,h3,h4⟩|⟨h1,h2,h3⟩
   ·exact absurd h3 hd
   ·have h4:0<10^(f.head-1):=Nat.pow_pos (by decide);refine⟨by simp;omega,by simpa using h2,h3,by simp[a];omega⟩
  ·exact endBad_ok b1 b2 c
theorem aE.take_ok{f:aE}(h:f.Ok)(c:UInt8):(f.take c).1.Ok:=by
 obtain⟨b1,b2,h⟩:=h;unfold aE.take;rcases h with⟨h1,h2,h3,h4⟩|⟨h1,h2,h3,h4,h5⟩|⟨h1,h2,h3,h4,h5⟩|⟨h1,h2,h3,h4,h5⟩|⟨h1,h2,h3,h4⟩
 ·unfold aE.begun;rw[aD h1];by_cases b:aH c=true/\c≠48
  ·rw[aD b];unfold aE.goes;rw[aD rfl];exact takeNumber_ok b1 b2 rfl h4 (.inl ⟨h2,h3,b⟩)
  ·rw[aB b];unfold aE.goes;rw[aB (by simp),aB (by simp),aD rfl];unfold aE.takeLine;by_cases a:c=10
   ·rw[aD a,aD h4];exact⟨b1,b2,.inl ⟨rfl,h2,h3,h4⟩⟩
   ·rw[aB a,aB (by simp[h4];omega)];exact⟨b1,b2,.inr (.inr (.inr (.inl ⟨rfl,h2,h3,by simp,by simp[h4];omega⟩)))⟩
 ·unfold aE.begun;rw[aB (by omega)];unfold aE.goes;rw[aD h1];exact takeNumber_ok b1 b2 h1 h2 (.inr ⟨h3,h4,h5⟩)
 ·unfold aE.begun;rw[aB (by omega)];unfold aE.goes;rw[aB (by omega),aD h1];unfold aE.takeCounted;split
  ·exact⟨b1,b2,.inr (.inr (.inl ⟨h1,h2,h3,h4,by simp;omega⟩))⟩
  ·exact fresh_ok b1 b2
 ·unfold aE.begun;rw[aB (by omega)];unfold aE.goes;rw[aB (by omega),aB (by omega),aD h1];unfold aE.takeLine;split
  ·split
   ·next he=>simp[he]at h4
   ·exact fresh_ok b1 b2
  ·split
   ·exact endBad_ok b1 b2 c
   ·exact⟨b1,b2,.inr (.inr (.inr (.inl ⟨h1,h2,h3,by simp,by simp;omega⟩)))⟩
 ·unfold aE.begun;rw[aB (by omega)];unfold aE.goes;rw[aB (by omega),aB (by omega),aB (by omega)];refine⟨b1,b2,?_⟩;by_cases a:c=10
  ·left;simp[a,h2,h3,h4]
  ·right;right;right;right;simp[a,h1,h2,h3,h4]
theorem aE.feed_ok(l:List UInt8):∀{f:aE},f.Ok->(f.feed l).1.Ok:=by
 induction l with
 |nil=>intro f h;exact h
 |cons c t ih=>intro f h;exact ih (f.take_ok h c)
theorem aE.take_bound(f:aE)(c:UInt8):(f.take c).1.bound=f.bound:=by
 have a:(f.begun c).bound=f.bound:=by unfold aE.begun;split <;> rfl
 unfold aE.take;rw[<-a];generalize f.begun c=f;unfold aE.goes aE.takeNumber aE.takeCounted aE.takeLine
 repeat' split
 all_goals rfl
theorem aE.feed_bound(l:List UInt8):∀f:aE,(f.feed l).1.bound=f.bound:=by
 induction l with
 |nil=>intro f;rfl
 |cons c t ih=>intro f;exact(ih _).trans (f.take_bound c)
theorem aE.feed_append(a b:List UInt8):∀f:aE,f.feed (a++b)=(((f.feed a).1.feed b).1,(f.feed a).2++((f.feed a).1.feed b).2):=by
 induction a with
 |nil=>intro f;rfl
 |cons c t ih=>
  intro f;rw[eN];simp only[aE.feed,ih];split <;> simp
theorem aE.feed_cons(f:aE)(c:UInt8)(t:List UInt8):f.feed (c::t)=(((f.take c).1.feed t).1,if(f.take c).2=[]then((f.take c).1.feed t).2 else(f.take c).2::((f.take c).1.feed t).2):=rfl
theorem EF{b h n:Nat}{c:UInt8}(a:aH c=true)(d:10*n+(c.toNat-48)<=b):(aE.mk b 1 h n []).take c=(aE.mk b 1 (h+1) (10*n+(c.toNat-48)) [],[]):=by
 unfold aE.take aE.begun;rw[aB (by simp)];unfold aE.goes;rw[aD rfl];unfold aE.takeNumber;rw[aD a,aB (by simp;omega)]
theorem EG{b:Nat}{c:UInt8}(a:aH c=true)(h0:c≠48)(d:c.toNat-48<=b):(aE.fresh b).take c=(aE.mk b 1 1 (c.toNat-48) [],[]):=by
 unfold aE.take aE.begun;rw[aD (show(aE.fresh b).stage=0 from rfl),aD ⟨a,h0⟩];unfold aE.goes;rw[aD rfl];unfold aE.takeNumber;rw[aD a,aB (by simp[aE.fresh];omega)];simp[aE.fresh]
theorem EH{b h n:Nat}:(aE.mk b 1 h n []).take 32=(aE.mk b 2 (h+1) n [],[]):=by
 unfold aE.take aE.begun;rw[aB (by simp)];unfold aE.goes;rw[aD rfl];unfold aE.takeNumber;rw[aB (by decide),aD rfl]
theorem EI(a:List UInt8)(n:Nat):n<=a.foldl (fun n c=>10*n+(c.toNat-48)) n:=by
 induction a generalizing n with
 |nil=>exact aC _
 |cons c t ih=>exact cH (by omega) (ih (10*n+(c.toNat-48)))
theorem EJ{b:Nat}:∀(a:List UInt8)(h n:Nat),(∀c∈a,aH c=true)->a.foldl (fun n c=>10*n+(c.toNat-48)) n<=b->
  (aE.mk b 1 h n []).feed a=(aE.mk b 1 (h+a.length) (a.foldl (fun n c=>10*n+(c.toNat-48)) n) [],[])
 |[],h,n,_,_=>rfl
 |c::t,h,n,hd,hle=>by
  have h1:=EI t (10*n+(c.toNat-48));rw[List.foldl_cons]at hle;rw[aE.feed_cons,EF (hd c (by simp)) (by omega)];rw[EJ t (h+1) _ (fun c d=>hd c (by simp[d])) hle];simp;omega
theorem zD{b h n:Nat}:∀(t o:List UInt8),t≠[]->o.length+t.length=n->(aE.mk b 2 h n o).feed t=(aE.fresh b,[61::(o++t)])
 |[],_,h0,_=>absurd rfl h0
 |c::t,o,_,hl=>by
  have e:(aE.mk b 2 h n o).take c=if o.length+1<n then(aE.mk b 2 h n (o++[c]),[])else(aE.fresh b,61::(o++[c])):=by
   unfold aE.take aE.begun;rw[aB (by simp)];unfold aE.goes;rw[aB (by simp),aD rfl];rfl
  rw[bU]at hl;rw[aE.feed_cons,e];cases t with
  |nil=>rw[aB (by simp at hl;omega)];simp[aE.feed]
  |cons d t=>
   rw[aD (by simp at hl;omega)];dsimp only;rw[zD (d::t) (o++[c]) (by simp) (by simp at hl⊢;omega)];simp
theorem SY{b:Nat}(a t:List UInt8)(c:UInt8)(e:∀c∈a,aH c=true)(f:aH c=true)(h0:c≠48)(g:cB (c::a)=t.length)(h1:t≠[])(h2:t.length<=b):
  (aE.fresh b).feed (c::a++32::t)=(aE.fresh b,[61::t]):=by
 have d:a.foldl (fun n c=>10*n+(c.toNat-48)) (c.toNat-48)=t.length:=by
  rw[<-g];simp[cB]
 have h:=EI a (c.toNat-48);rw[eN,aE.feed_cons,EG f h0 (by omega)];dsimp only;rw[aE.feed_append,EJ a 1 _ e (by omega),d];dsimp only;rw[aE.feed_cons,EH];dsimp only;rw[zD t [] h1 (by simp)];simp
theorem EK{b:Nat}{o:List UInt8}{c:UInt8}(a:c≠10)(d:o.length<b):(aE.mk b 3 0 0 o).take c=(aE.mk b 3 0 0 (o++[c]),[]):=by
 unfold aE.take aE.begun;rw[aB (by simp)];unfold aE.goes;rw[aB (by simp),aB (by simp),aD rfl];unfold aE.takeLine;rw[aB a,aB (by simp;omega)]
theorem EL{b:Nat}{o:List UInt8}(a:o≠[]):(aE.mk b 3 0 0 o).take 10=(aE.fresh b,61::o):=by
 unfold aE.take aE.begun;rw[aB (by simp)];unfold aE.goes;rw[aB (by simp),aB (by simp),aD rfl];unfold aE.takeLine;rw[aD rfl,aB a];rfl
theorem EM{b:Nat}:∀(t o:List UInt8),o≠[]->(∀c∈t,c≠10)->o.length+t.length<=b->(aE.mk b 3 0 0 o).feed (t++[10])=(aE.fresh b,[61::(o++t)])
 |[],o,h0,_,_=>by rw[iR,aE.feed_cons,EL h0];simp[aE.feed]
 |c::t,o,h0,hn,hl=>by
  rw[bU]at hl;rw[eN,aE.feed_cons,EK (hn c (by simp)) (by omega)];dsimp only;rw[EM t (o++[c]) (by simp) (fun c a=>hn c (by simp[a])) (by simp;omega)];simp
theorem SZ{b:Nat}(c:UInt8)(t:List UInt8)(h0:¬(aH c=true/\c≠48))(a:∀x∈c::t,x≠10)(d:(c::t).length<=b):(aE.fresh b).feed (c::t++[10])=(aE.fresh b,[61::c::t]):=by
 rw[bU]at d;have e:(aE.fresh b).take c=(aE.mk b 3 0 0 [c],[]):=by
  unfold aE.take aE.begun;rw[aD (show(aE.fresh b).stage=0 from rfl),aB h0];unfold aE.goes;rw[aB (by simp),aB (by simp),aD rfl];unfold aE.takeLine;rw[aB (a c (by simp)),aB (by simp[aE.fresh];omega)];rfl
 rw[eN,aE.feed_cons,e];dsimp only;rw[EM t [c] (by simp) (fun x f=>a x (by simp[f])) (by simp;omega)];simp
def vN(b:Nat)(x:List UInt8):Prop:=x=[33]∨∃o:List UInt8,x=61::o/\o.length<=b
theorem TC{f:aE}(h:f.Ok)(c:UInt8):(f.take c).2=[]∨vN f.bound (f.take c).2:=by
 have d:(f.begun c).bound=f.bound/\(f.begun c).own=f.own/\(f.begun c).number=f.number/\((f.begun c).stage=2->f.stage=2):=by
  unfold aE.begun;split
  ·refine⟨rfl,rfl,rfl,fun e=>?_⟩;dsimp only at e;split at e <;> cases e
  ·exact⟨rfl,rfl,rfl,fun e=>e⟩
 obtain⟨h1,h2,h3,h4⟩:=d;have a:=h.head;have b:f.stage=2->f.own.length<f.number:=by
  intro e;obtain⟨_,_,h⟩:=h;rcases h with h|h|h|h|h <;> omega
 unfold aE.take;rw[<-h1]at a⊢;rw[<-h2,<-h3]at a b;generalize f.begun c=g at a b h4⊢;unfold aE.goes;split
 ·unfold aE.takeNumber
  repeat' split
  all_goals first|exact .inl rfl|exact .inr (.inl rfl)
 ·split
  ·next e=>
   unfold aE.takeCounted;split
   ·exact .inl rfl
   ·exact .inr (.inr ⟨_,rfl,by have:=b (h4 e);simp;omega⟩)
  ·split
   ·unfold aE.takeLine
    repeat' split
    all_goals first|exact .inl rfl|exact .inr (.inl rfl)|exact .inr (.inr ⟨_,rfl,by omega⟩)
   ·exact .inl rfl
theorem EN(l:List UInt8):∀{f:aE},f.Ok->∀x∈(f.feed l).2,vN f.bound x:=by
 induction l with
 |nil=>intro f _ x a;simp[aE.feed]at a
 |cons c t ih=>
  intro f h x a;have hi:=ih (aE.take_ok h c);rw[aE.take_bound]at hi;rw[aE.feed_cons]at a;dsimp only at a;rcases TC h c with e|e
  ·rw[aD e]at a;exact hi x a
  ·split at a
   ·exact hi x a
   ·rcases jY.1 a with rfl|a
    ·exact e
    ·exact hi x a
def cY:List (Nat×Nat)->List (List UInt8)->Option Nat
 |k::ks,x::xs=>if¬x=[]/\bX x k.1=false then some k.2 else cY ks xs
 | _,_=>none
def eP(m:aO):Nat:=
 if fH m.fac m.sev=false then 2 else
 if¬m.time=[]/\eF m.time=false then 3 else
 match cY aX [m.host,m.app,m.proc,m.id]with
 |some e=>e
 |none=>
  if¬m.data=[]/\jA m.data=false then 8 else
  if bO m.text=false then 9 else 0
def lK(h ap p i d x:List UInt8):Nat:=
 match cY aX [h,ap,p,i]with
 |some e=>e
 |none=>
  if¬d=[]/\jA d=false then 8 else
  if bO x=false then 9 else 0
theorem FV{h a p i d x:List UInt8}{e:Nat}(hw:cY aX [h,a,p,i]=some e):lK h a p i d x=e:=by unfold lK;rw[hw]
theorem FW{h a p i d x:List UInt8}(hw:cY aX [h,a,p,i]=none):lK h a p i d x=if¬d=[]/\jA d=false then 8 else if bO x=false then 9 else 0:=by unfold lK;rw[hw]
def told(x:List UInt8):List UInt8:=if x=[]then[45]else x
def mA(m:aO):List (List UInt8):=
 (60::Lib.decDigits (8*m.fac+m.sev).toNat++[62,49])::([m.time,m.host,m.app,m.proc,m.id,m.data].map told++if m.text=[]then[]else[m.text])
def mH(l:List (List UInt8)):Int:=(l.map (fun x:List UInt8=>(x.length:Int))).sum+l.length-1
def cA(m:aO):List UInt8×Nat:=
 if¬eP m=0 then([],eP m)else
 if 200<mH (mA m)then([],1)else(Lib.join (mA m) [32],0)
theorem zL{k:Nat}{e:List (List UInt8)}(g:k<4)(f:e.length=4):
  cY (aX.drop k) (e.drop k)=if¬e.getD k []=[]/\bX (e.getD k []) (aX.getD k (0,0)).1=false then some (aX.getD k (0,0)).2 else cY (aX.drop (k+1)) (e.drop (k+1)):=by
 match e,f with
 |[a,b,c,d],_=>
  rcases(by omega:k=0∨k=1∨k=2∨k=3)with h|h|h|h <;> subst h <;> rfl
theorem tX(a b:List UInt8)(l:List (List UInt8)):Lib.join (a::b::l) [32]=a++32::Lib.join (b::l) [32]:=by
 simp[Lib.join,List.intercalate,List.intersperse]
theorem vX(a:List UInt8)(l:List (List UInt8)):((Lib.join (a::l) [32]).length:Int)=mH (a::l):=by
 induction l generalizing a with
 |nil=>simp[Lib.join,List.intercalate,List.intersperse,mH]
 |cons b l ih=>
  have:=ih b;rw[tX];simp only[mH,jX,List.sum_cons,bU,dL]at this⊢;omega
theorem FX{m:aO}(h:eP m=0):0<=m.fac/\m.fac<24/\0<=m.sev/\m.sev<8:=by
 unfold eP at h;split at h
 ·omega
 ·next h1=>
  have h2:fH m.fac m.sev=true:=by cases h3:fH m.fac m.sev;exact absurd h3 h1;rfl
  unfold fH at h2;simp only[gP,mN]at h2;omega
theorem VS(l:List (Nat×Nat))(b:∀k∈l,k.2<100)(a:List (List UInt8))(e:Nat)(h:cY l a=some e):e<100:=by
 induction l generalizing a with
 |nil=>cases a <;> cases h
 |cons k ks ih=>
  cases a with
  |nil=>cases h
  |cons x xs=>
   unfold cY at h;split at h
   ·cases h;exact b k List.mem_cons_self
   ·exact ih (fun k c=>b k (List.mem_cons_of_mem _ c)) xs h
theorem FY(m:aO):eP m<100:=by
 unfold eP;split
 ·omega
 ·split
  ·omega
  ·split
   ·next e he=>exact VS aX (by decide) _ e he
   ·split
    ·omega
    ·split <;> omega
def mB:Nat->Nat->List UInt8->Nat×Nat
 |a,b,[]=>(a,b)
 |a,b,c::t=>mB ((a+c.toNat)%251) ((b+(a+c.toNat)%251)%251) t
def lL(l:List UInt8):List UInt8:=[UInt8.ofNat (mB 1 0 l).1,UInt8.ofNat (mB 1 0 l).2]
def iC(n:Nat):List UInt8:=[UInt8.ofNat (n/256),UInt8.ofNat n]
def cT(l:List UInt8):Nat:=256*(l.getD 0 0).toNat+(l.getD 1 0).toNat
def jD(k:UInt8)(bs:List UInt8):List UInt8:=k::(iC bs.length++bs)
def bM(k:UInt8)(bs:List UInt8):List UInt8:=jD k bs++lL (jD k bs)
def gU(l:List UInt8):Option (UInt8×List UInt8×Nat):=
 if l.length<3 then none else
 if l.length<3+cT (l.drop 1)+2 then none else
 if(l.drop (3+cT (l.drop 1))).take 2≠lL (l.take (3+cT (l.drop 1)))then none else
 some (l.getD 0 0,(l.drop 3).take (cT (l.drop 1)),3+cT (l.drop 1)+2)
def kC:Nat->List UInt8->List (UInt8×List UInt8)
 |0,_=>[]
 |k+1,l=>match gU l with
  |none=>[]
  |some (x,bs,n)=>(x,bs)::kC k (l.drop n)
def recs(l:List UInt8):List (UInt8×List UInt8):=kC (l.length+1) l
structure aG where
 room:Nat
 records:List UInt8
 had:Nat
 waiting:List (List UInt8)
def aG.fresh(room:Nat):aG:=⟨room,[],0,[]⟩
def aG.messages(g:aG):Nat:=g.had+g.waiting.length
def aG.add(g:aG)(l:List UInt8):aG:=⟨g.room,g.records++bM 80 l,g.had,g.waiting++[l]⟩
def aG.ackTo(g:aG)(n:Nat):aG:=⟨g.room,g.records++bM 65 (iC n),n,g.waiting.drop (n-g.had)⟩
def aG.ack(g:aG)(n:Int):aG×Nat:=if n<=g.had∨(g.messages:Int)<n then(g,10)else(g.ackTo n.toNat,0)
def aG.put(g:aG)(m:aO):aG×Nat×Nat:=
 if¬(cA m).2=0 then(g,0,(cA m).2)else
 if g.room<=g.waiting.length∨65535<=g.messages then(g,0,12)else(g.add (cA m).1,g.messages+1,0)
def iU(l:List UInt8):Bool:=decide ((bH l 1).2.1=0)&&decide (cA (bH l 1).1=(l,0))
def aG.back(g:aG)(r:UInt8×List UInt8):aG×Bool:=
 if r.1=80 then if iU r.2=true/\g.messages<65535 then(g.add r.2,true)else(g,false)else
 if r.1=65 then if r.2.length=2/\(g.ack (cT r.2)).2=0 then((g.ack (cT r.2)).1,true)else(g,false)else(g,false)
def aG.backs:aG->List (UInt8×List UInt8)->aG
 |g,[]=>g
 |g,r::rs=>if(g.back r).2=true then(g.back r).1.backs rs else g
def iQ(l:List UInt8)(room:Nat):aG:=(aG.fresh room).backs (recs l)
theorem FZ(l:List UInt8):(lL l).length=2:=rfl
theorem vY(n:Nat):(iC n).length=2:=rfl
theorem VT{n:Nat}(h:n<65536)(t:List UInt8):cT (iC n++t)=n:=by
 simp[cT,iC];omega
theorem vZ(k:UInt8)(a:List UInt8):(jD k a).length=a.length+3:=by simp[jD,iC]
theorem mS(k:UInt8)(a:List UInt8):(bM k a).length=a.length+5:=by simp[bM,vZ,FZ]
def aO.Small(m:aO):Prop:=m.time.length<=4000/\m.host.length<=4000/\m.app.length<=4000/\m.proc.length<=4000/\m.id.length<=4000/\m.data.length<=4000/\m.text.length<=4000
theorem sM:aO.none.Small:=by simp[aO.none,aO.Small]
theorem GA(c:UInt8)(l:List UInt8):(bE c l).1.length<=l.length:=by
 cases h:(bE c l).2.2
 ·rw[rZ c l h];exact aC _
 ·have:=aQ List.length (nB c l h);simp only[dL,bU]at this;omega
theorem VU(l:List UInt8)(c:UInt8):(Lib.trimRightB l c).length<=l.length:=by
 unfold Lib.trimRightB;have:=(List.dropWhile_suffix (fun x=>x==c) (l:=l.reverse)).length_le;simpa using this
theorem VV(l:List UInt8):(dT l).1.length<=l.length:=by
 unfold dT
 repeat' split
 ·simp
 ·simp
 ·simp
 ·exact cH (VU _ _) (by simp;omega)
theorem VW{l t:List UInt8}(h:dK l=some t):t.length<=l.length+40:=by
 unfold dK at h;split at h
 ·cases h
 ·split at h
  ·cases h
  ·split at h
   ·cases h
   ·split at h
    ·cases h
    ·cases h;have:=VV (l.drop 19);simp only[bC]at this;simp[eT,fP,d2];omega
theorem GB(l:List UInt8)(a:Nat):(eU l a).1.length<=l.length:=by
 unfold eU;rw[pV];have:=GA 32 (l.drop a);simp only[bC]at this;dsimp only;omega
theorem zM(l:List UInt8):∀(b:List (Nat×Nat))(nx:Nat),∀x∈(dH l b nx).2.1,x.length<=l.length
 |[],_=>by simp[dH]
 |k::b,nx=>by
  intro x a;unfold dH at a;split at a
  ·simp only[jY]at a;rcases a with rfl|a
   ·simp
   ·exact zM l b _ x a
  ·split at a
   ·simp at a
   ·simp only[jY]at a;rcases a with rfl|a
    ·exact GB l nx
    ·exact zM l b _ x a
theorem VX{xs:List (List UInt8)}{n:Nat}(h:∀x∈xs,x.length<=n)(i:Nat):(xs.getD i []).length<=n:=by
 rw[gQ];cases a:xs[i]? with
 |none=>simp
 |some x=>exact h x (fG a)
theorem VY{p t:List UInt8}(h:iP p=some t):t.length<=p.length+40:=by
 unfold iP at h;split at h
 ·cases h;simp
 ·exact VW h
theorem VZ{m:aO}{l:List UInt8}{a:Nat}(b:m.Small)(c:l.length<=200):(eH m l a).1.Small:=by
 obtain⟨h1,h2,h3,h4,h5,h6,h7⟩:=b;unfold eH
 repeat' split
 all_goals first|exact sM|(refine⟨h1,h2,h3,h4,h5,?_,?_⟩ <;> first|exact h6|exact h7|(simp;omega))
theorem WA{f s:Int}{a l:List UInt8}{b:Nat}(d:a.length<=300)(c:l.length<=200):(lC f s a l b).1.Small:=by
 unfold lC;split
 ·exact sM
 ·have hw:=zM l aX b;refine VZ ⟨by dsimp only;omega,?_,?_,?_,?_,by simp,by simp⟩ c;all_goals(have:=VX hw;dsimp only)
  ·have:=this 0;omega
  ·have:=this 1;omega
  ·have:=this 2;omega
  ·have:=this 3;omega
theorem GC(l:List UInt8):(dG l).1.length<=l.length/\(dG l).2.1.length<=l.length:=by
 unfold dG fC
 repeat' split
 all_goals(simp <;> omega)
theorem WB(l:List UInt8)(y:Nat):(cM l y).1.length<=l.length+40/\(cM l y).2.1.length<=l.length:=by
 unfold cM;split
 ·simp
 ·split
  ·simp
  ·rw[pV];have h1:=GA 32 (l.drop 16);simp only[bC]at h1;refine⟨?_,by dsimp only;omega⟩;unfold gI;split
   ·simp
   ·unfold lX sB;split <;> (simp[fP,d2];omega)
theorem WC{m:aO}{l:List UInt8}{y:Nat}(b:m.Small)(c:l.length<=200):(jB m l y).Small:=by
 obtain⟨h1,h2,h3,h4,h5,h6,h7⟩:=b;have d:=WB l y;unfold jB;split
 ·have a:=GC (l.drop (cM l y).2.2);simp only[bC]at a;refine⟨by dsimp only;omega,by dsimp only;omega,by dsimp only;omega,by dsimp only;omega,h5,h6,by simp;omega⟩
 ·have a:=GC l;refine⟨h1,h2,by dsimp only;omega,by dsimp only;omega,h5,h6,by simp;omega⟩
theorem tY(l:List UInt8)(y:Int):(bH l y).1.Small:=by
 unfold bH;split
 ·exact sM
 ·split
  ·exact sM
  ·split
   ·unfold eV;split
    ·exact sM
    ·next tm ht=>
     have h1:=VY ht;have h2:=GB l ((cS l).2+2);exact WA (by omega) (by omega)
   ·split
    ·exact sM
    ·exact WC (by simp[aO.of,aO.Small]) (by simp;omega)
def iV(c:Int)(n:Nat):Nat:=((if c<0 then -(c+1)else c)%(n:Int)).toNat
theorem pF(c:Int){n:Nat}(h:0<n):iV c n<n:=by
 unfold iV;have h1:0<=(if c<0 then -(c+1)else c)%(n:Int):=Int.emod_nonneg _ (by omega);have h2:(if c<0 then -(c+1)else c)%(n:Int)<n:=Int.emod_lt_of_pos _ (by omega);omega
end Go.Hm

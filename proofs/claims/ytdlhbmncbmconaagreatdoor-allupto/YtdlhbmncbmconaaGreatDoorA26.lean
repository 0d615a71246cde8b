/- Pressed by program out of Cn Cp. -/
import Derived.Test.YtdlhbmncbmconaaGreatDoorA25
namespace Go.Hm
def kO(l:List UInt8)(a v:Nat):Prop:=a<=v/\dA (l.drop a)=(dA (l.drop v)).map (· + (v-a))
theorem Z0(l:List UInt8)(a:Nat):kO l a a:=⟨aC _,by simp⟩
theorem Z1{l:List UInt8}{a v:Nat}(h:kO l a v)(b:v<l.length)(h1:¬l[v].toNat=34)(h2:¬l[v].toNat=93)(h3:¬l[v].toNat=92):kO l a (v+1):=by
 refine⟨by have:=h.1;omega,?_⟩;rw[h.2,eE b,vG h1 h2 h3,Option.map_map];congr 1;funext x;have:=h.1;simp;omega
theorem Z2{l:List UInt8}{a v:Nat}(h:kO l a v)(b:v+1<l.length)(h1:l[v].toNat=92)(h2:jO l[v+1]=true):kO l a (v+2):=by
 refine⟨by have:=h.1;omega,?_⟩;rw[h.2,eE (show v<l.length by omega),eE b,vF h1 h2,Option.map_map];congr 1;funext x;have:=h.1;simp;omega
theorem Z3{l:List UInt8}{a v:Nat}(h:kO l a v)(b:v<l.length)(h1:l[v].toNat=93):dA (l.drop a)=none:=by
 rw[h.2,eE b,yI h1];rfl
theorem OG{l:List UInt8}{a v:Nat}(h:kO l a v)(b:v<l.length)(h1:l[v].toNat=92)(h2:¬∃h:v+1<l.length,jO l[v+1]=true):dA (l.drop a)=none:=by
 rw[h.2,eE b];by_cases h3:v+1<l.length
 ·rw[eE h3,yK h1 (by cases c:jO l[v+1]with|false=>rfl|true=>exact absurd ⟨h3,c⟩ h2)];rfl
 ·rw[gH (show l.length<=v+1 by omega),yJ h1];rfl
theorem Z4{l:List UInt8}{a v:Nat}(h:kO l a v)(b:l.length<=v):dA (l.drop a)=none:=by
 rw[h.2,gH b,DU];rfl
theorem Z5{l:List UInt8}{a v:Nat}(h:kO l a v)(b:v<l.length)(h1:l[v].toNat=34):dA (l.drop a)=some (v-a):=by
 rw[h.2,eE b,vE h1];simp
def bN(l:List UInt8)(a:Nat):Nat:=((l.drop a).takeWhile gR).length
theorem uR(l:List UInt8)(a:Nat):fW (l.drop a)=min 12 (bN l a):=tB gR (l.drop a) 12
theorem OH{l:List UInt8}{a k:Nat}(b:a<=l.length)(c:k<bN l a):∃h:a+k<l.length,gR l[a+k]=true:=(qN gR l a _ b rfl).2.1 k c
theorem OI{l:List UInt8}{a:Nat}(b:a<=l.length):a+bN l a<=l.length:=(qN gR l a _ b rfl).1
theorem BR(l:List UInt8)(a:Nat):Lib.hasPrefix (l.drop a) [61,34]=true↔∃h:a+1<l.length,l[a].toNat=61/\l[a+1].toNat=34:=by
 by_cases h:a+1<l.length
 ·rw[eE (show a<l.length by omega),eE h];simp only[Lib.hasPrefix,List.isPrefixOf,Bool.and_true,gP,dZ];constructor
  ·rintro⟨b,c⟩;exact⟨h,by rw[<-b];rfl,by rw[<-c];rfl⟩
  ·rintro⟨_,b,c⟩;exact⟨(eY.1 b).symm,(eY.1 c).symm⟩
 ·constructor
  ·intro d;have:=iA d;rw[bC]at this;simp at this;omega
  ·rintro⟨h2,_⟩;exact absurd h2 h
theorem Z6{l:List UInt8}{q:Nat}(a:q<=l.length)(h:bN l q=0∨12<bN l q):eG (l.drop q)=0:=by
 unfold eG;rw[uR,aD];rcases h with h|h
 ·left;rw[h];rfl
 ·right;rw[Nat.min_eq_left (by omega),dW];cases b:Lib.hasPrefix (l.drop (q+12)) [61,34]with
  |false=>rfl
  |true=>
   obtain⟨h1,h2,_⟩:=(BR _ _).1 b;obtain⟨h3,h4⟩:=OH a h;simp[gR]at h4;omega
theorem Z7{l:List UInt8}{q:Nat}(h:¬(bN l q=0∨12<bN l q))(h2:¬∃h:q+bN l q+1<l.length,l[q+bN l q].toNat=61/\l[q+bN l q+1].toNat=34):eG (l.drop q)=0:=by
 unfold eG;rw[uR,Nat.min_eq_right (by omega),dW,aD];right;cases a:Lib.hasPrefix (l.drop (q+bN l q)) [61,34]with
 |false=>rfl
 |true=>exact absurd ((BR _ _).1 a) h2
theorem Z8{l:List UInt8}{q:Nat}(h:¬(bN l q=0∨12<bN l q))(h2:∃h:q+bN l q+1<l.length,l[q+bN l q].toNat=61/\l[q+bN l q+1].toNat=34):
  eG (l.drop q)=match dA (l.drop (q+bN l q+2))with|none=>0|some v=>bN l q+2+v+1:=by
 unfold eG;rw[uR,Nat.min_eq_right (by omega),dW,aB (by rw[(BR _ _).2 h2];simp;omega),dW,show q+(bN l q+2)=q+bN l q+2 by omega];cases dA (l.drop (q+bN l q+2)) <;> rfl
theorem Z9{l:List UInt8}{q S:Nat}(a:bN l q=S)(h:¬(bN l q=0∨12<bN l q))(h2:¬∃h:q+S+1<l.length,l[q+S].toNat=61/\l[q+S+1].toNat=34):eG (l.drop q)=0:=by
 subst a;exact Z7 h h2
theorem OJ{l:List UInt8}{q S:Nat}(a:bN l q=S)(h:¬(bN l q=0∨12<bN l q))(h2:∃h:q+S+1<l.length,l[q+S].toNat=61/\l[q+S+1].toNat=34):
  eG (l.drop q)=match dA (l.drop (q+S+2))with|none=>0|some v=>S+2+v+1:=by
 subst a;exact Z8 h h2
theorem aAa{l:List UInt8}{q S:Nat}(a:bN l q=S)(h:¬(bN l q=0∨12<bN l q))(h2:∃h:q+S+1<l.length,l[q+S].toNat=61/\l[q+S+1].toNat=34)(b:dA (l.drop (q+S+2))=none):eG (l.drop q)=0:=by
 rw[OJ a h h2,b]
theorem aAb{l:List UInt8}{q S v:Nat}(a:bN l q=S)(h:¬(bN l q=0∨12<bN l q))(h2:∃h:q+S+1<l.length,l[q+S].toNat=61/\l[q+S+1].toNat=34)(b:dA (l.drop (q+S+2))=some v):eG (l.drop q)=S+2+v+1:=by
 rw[OJ a h h2,b]
def oO(l:List UInt8)(a j:Nat):Prop:=a<=j/\j<=l.length/\eK (l.length+1) (l.drop a)=(eK (l.length+1) (l.drop j)).map (· + (j-a))
theorem aAc{l:List UInt8}{a:Nat}(h:a<=l.length):oO l a a:=⟨aC _,h,by simp⟩
theorem aAd{l:List UInt8}{a j n:Nat}(h:oO l a j)(h32:∃h:j<l.length,l[j].toNat=32)(b:eG (l.drop (j+1))=n)(f:¬n=0):oO l a (j+1+n):=by
 have d:=DT (l.drop (j+1));rw[b,bC]at d;obtain⟨g,_⟩:=id h32;refine⟨by have:=h.1;omega,by omega,?_⟩;have e:(l.drop j).drop 1=l.drop (j+1):=by rw[dW]
 rw[h.2.2,yL (by rw[bC];omega) (mZ (c:=32) h32) (by rw[e,b];exact f),e,b,Option.map_map,dW,show j+(1+n)=j+1+n by omega];congr 1;funext x;have:=h.1;simp;omega
theorem aAe{l:List UInt8}{a j:Nat}(h:oO l a j)(h32:∃h:j<l.length,l[j].toNat=32)(b:eG (l.drop (j+1))=0):eK (l.length+1) (l.drop a)=none:=by
 have d:(l.drop j).drop 1=l.drop (j+1):=by rw[dW]
 rw[h.2.2,yM (by rw[bC];omega) (mZ (c:=32) h32) (by rw[d,b])];rfl
theorem aAf{l:List UInt8}{a j:Nat}(h:oO l a j)(h32:¬∃h:j<l.length,l[j].toNat=32):eK (l.length+1) (l.drop a)=some (j-a):=by
 rw[h.2.2,tK (by rw[bC];omega) (mY (c:=32) h32)];simp
theorem aAg{l:List UInt8}{i:Nat}(hi:i<l.length)(h:bN l (i+1)=0∨12<bN l (i+1)):(dE (l.drop i)).2=0:=by
 unfold dE;split
 ·rfl
 ·rw[dW,uR];rcases h with h|h
  ·rw[aD (by rw[h];rfl)]
  ·rw[Nat.min_eq_left (by omega),aB (by omega),dW,show i+(1+12)=i+1+12 by omega];obtain⟨h1,h2⟩:=OH (show i+1<=l.length by omega) h;have h3:33<=l[i+1+12].toNat/\¬l[i+1+12].toNat=93:=by
    simp[gR,fO]at h2;omega
   rw[tK (by rw[bC,bC];omega) (mY (c:=32) (fun⟨_,e⟩=>by have:(32:UInt8).toNat=32:=rfl;omega))];dsimp only;rw[dW,show i+(1+12+0)=i+1+12 by omega,aD (mY (c:=93) (fun⟨_,e⟩=>by have:(93:UInt8).toNat=93:=rfl;omega))]
theorem xQ{l:List UInt8}{i:Nat}(h91:∃h:i<l.length,l[i].toNat=91)(h:¬(bN l (i+1)=0∨12<bN l (i+1))):
  dE (l.drop i)=match eK (l.length+1) (l.drop (i+1+bN l (i+1)))with
   |none=>([],0)
   |some k=>if Lib.hasPrefix (l.drop (i+1+bN l (i+1)+k)) [93]=false then([],0)else((l.drop (i+1)).take (bN l (i+1)),1+bN l (i+1)+k+1):=by
 unfold dE;rw[aB (by rw[mZ (c:=91) h91];simp),dW,uR,Nat.min_eq_right (by omega),aB (by omega),dW,show i+(1+bN l (i+1))=i+1+bN l (i+1) by omega,
  DW _ (l.drop (i+1+bN l (i+1))) (l.length+1) (by rw[bC,bC];omega) (by rw[bC];omega)]
 cases eK (l.length+1) (l.drop (i+1+bN l (i+1)))with
 |none=>rfl
 |some k=>
  dsimp only;rw[dW,show i+(1+bN l (i+1)+k)=i+1+bN l (i+1)+k by omega]
theorem aAh{l:List UInt8}{i:Nat}(h91:∃h:i<l.length,l[i].toNat=91)(h:¬(bN l (i+1)=0∨12<bN l (i+1)))(a:eK (l.length+1) (l.drop (i+1+bN l (i+1)))=none):(dE (l.drop i)).2=0:=by
 rw[xQ h91 h,a]
theorem aAi{l:List UInt8}{i k:Nat}(h91:∃h:i<l.length,l[i].toNat=91)(h:¬(bN l (i+1)=0∨12<bN l (i+1)))(a:eK (l.length+1) (l.drop (i+1+bN l (i+1)))=some k)(h93:¬∃h:i+1+bN l (i+1)+k<l.length,l[i+1+bN l (i+1)+k].toNat=93):(dE (l.drop i)).2=0:=by
 rw[xQ h91 h,a];dsimp only;rw[aD (mY (c:=93) h93)]
theorem aAj{l:List UInt8}{i k:Nat}(h91:∃h:i<l.length,l[i].toNat=91)(h:¬(bN l (i+1)=0∨12<bN l (i+1)))(a:eK (l.length+1) (l.drop (i+1+bN l (i+1)))=some k)(h93:∃h:i+1+bN l (i+1)+k<l.length,l[i+1+bN l (i+1)+k].toNat=93):dE (l.drop i)=((l.drop (i+1)).take (bN l (i+1)),1+bN l (i+1)+k+1):=by
 rw[xQ h91 h,a];dsimp only;rw[aB (by rw[mZ (c:=93) h93];simp)]
theorem aAk{l:List UInt8}{i k R:Nat}(a:bN l (i+1)=R)(h91:∃h:i<l.length,l[i].toNat=91)(h:¬(bN l (i+1)=0∨12<bN l (i+1)))(b:eK (l.length+1) (l.drop (i+1+R))=some k)(h93:¬∃h:i+1+R+k<l.length,l[i+1+R+k].toNat=93):(dE (l.drop i)).2=0:=by
 subst a;exact aAi h91 h b h93
theorem aAl{l:List UInt8}{i k R:Nat}(a:bN l (i+1)=R)(h91:∃h:i<l.length,l[i].toNat=91)(h:¬(bN l (i+1)=0∨12<bN l (i+1)))(b:eK (l.length+1) (l.drop (i+1+R))=some k)(h93:∃h:i+1+R+k<l.length,l[i+1+R+k].toNat=93):dE (l.drop i)=((l.drop (i+1)).take R,1+R+k+1):=by
 subst a;exact aAj h91 h b h93
theorem aAm{l:List UInt8}{i:Nat}(h91:¬∃h:i<l.length,l[i].toNat=91):(dE (l.drop i)).2=0:=by
 unfold dE;rw[aD (mY (c:=91) h91)]
theorem aAn{l:List UInt8}{i:Nat}(h91:∃h:i<l.length,l[i].toNat=91)(h:¬(bN l (i+1)=0∨12<bN l (i+1)))(h0:¬(dE (l.drop i)).2=0):(dE (l.drop i)).1=(l.drop (i+1)).take (bN l (i+1)):=by
 rw[xQ h91 h]at h0⊢;split at h0
 ·exact absurd rfl h0
 ·next k hk=>
  split at h0
  ·exact absurd rfl h0
  ·next hn=>rw[aB hn]
def gE(l:List UInt8):Nat:=if Lib.hasPrefix (l.drop (jR (fI (l.length+1) l 0))) [91]=true then 0 else iO l
structure pP(l:List UInt8)(i:Nat)(names:List (List UInt8)):Prop where
 le:i<=l.length
 done:∃d:List (List UInt8×Nat),names=d.map (·.1)/\fI (l.length+1) l 0=d++fI (l.length+1) l i/\i=jR d
 nodup:names.Nodup
 count:names.length<=i
theorem aAo(l:List UInt8):pP l 0 []:=⟨dM _,⟨[],rfl,rfl,rfl⟩,List.nodup_nil,aC _⟩
theorem aAp{l:List UInt8}{i:Nat}{a:List (List UInt8)}(h:pP l i a)(h91:¬∃h:i<l.length,l[i].toNat=91):gE l=if bO (l.take i)=true then i else 0:=by
 obtain⟨b,⟨d,rfl,f,rfl⟩,e,_⟩:=h;rw[vI (by omega) b (aAm h91),kZ]at f;unfold gE iO mQ;rw[f,aB (by rw[mY (c:=91) h91];simp),aD e]
theorem xR{l:List UInt8}{i:Nat}{a:List (List UInt8)}(h:pP l i a)(h91:∃h:i<l.length,l[i].toNat=91)(h0:(dE (l.drop i)).2=0):gE l=0:=by
 obtain⟨b,⟨d,rfl,e,rfl⟩,f,_⟩:=h;rw[vI (by omega) b h0,kZ]at e;unfold gE;rw[e,aD (mZ (c:=91) h91)]
theorem aAq{l:List UInt8}{i:Nat}{a:List (List UInt8)}(h:pP l i a)(h91:∃h:i<l.length,l[i].toNat=91)(f:¬(bN l (i+1)=0∨12<bN l (i+1)))(g:(l.drop (i+1)).take (bN l (i+1))∈a):gE l=0:=by
 by_cases h0:(dE (l.drop i)).2=0
 ·exact xR h h91 h0
 ·have j:=aAn h91 f h0;obtain⟨c,⟨d,rfl,e,hi⟩,k,_⟩:=h;rw[vJ (by omega) c h0,j]at e;unfold gE;split
  ·rfl
  ·unfold iO mQ;rw[e,aB];intro b;rw[iN,jX]at b;have:=(List.nodup_append.1 b).2.2;exact this _ g _ List.mem_cons_self rfl
theorem aAr{l:List UInt8}{i n:Nat}{e:List UInt8}{c:List (List UInt8)}(h:pP l i c)(g:dE (l.drop i)=(e,n))(o:¬n=0)(p:e∉c):pP l (i+n) (c++[e]):=by
 have f:=rY (l.drop i);rw[g,bC]at f;dsimp only at f;obtain⟨j,⟨d,rfl,k,hi⟩,m,s⟩:=h;refine⟨by omega,⟨d++[(e,i+n)],by simp,?_,?_⟩,?_,?_⟩
 ·rw[k,vJ (by omega) j (by rw[g];exact o),g];simp
 ·simp[jR]
 ·rw[List.nodup_append];refine⟨m,by simp,?_⟩;intro a q b r;obtain rfl:=qR.1 r;rintro rfl;exact p q
 ·rw[dL,List.length_singleton];omega
def pQ(l:List UInt8)(a:Nat):Nat:=a+((l.drop a).takeWhile fun c=>!decide (c.toNat=32)).length
theorem BV{α:Type}(p:α->Bool):∀d:List α,d.take (d.takeWhile p).length=d.takeWhile p
 |[]=>rfl
 |c::t=>by
  rw[lB];split
  ·rw[bU,mG,BV p t]
  ·rfl
theorem OQ{α:Type}(p:α->Bool)(d:List α):(d.takeWhile p).length<=d.length:=by
 have:=aQ List.length (BV p d);rw[eJ]at this;omega
theorem OS(l:List UInt8)(a:Nat)(b:a<=l.length):a<=pQ l a/\pQ l a<=l.length:=by
 have:=OQ (fun c:UInt8=>!decide (c.toNat=32)) (l.drop a);rw[bC]at this;unfold pQ;omega
theorem OT(l:List UInt8)(a:Nat)(g:a<=l.length):eU l a=((l.drop a).take (pQ l a-a),min (pQ l a+1) l.length):=by
 have h:=OK (l.drop a);have b:=OQ (fun c:UInt8=>!decide (c.toNat=32)) (l.drop a);have f:=BV (fun c:UInt8=>!decide (c.toNat=32)) (l.drop a);unfold eU pQ;rw[show a+((l.drop a).takeWhile fun c=>!decide (c.toNat=32)).length-a=((l.drop a).takeWhile fun c=>!decide (c.toNat=32)).length by omega,f,h.1];generalize((l.drop a).takeWhile fun c=>!decide (c.toNat=32))=T at h b;rw[bC]at h b;refine Prod.ext rfl ?_;dsimp only;cases d:(Lib.cut (l.drop a) [32]).2.2
 ·have:=h.2.1 d;simp;omega
 ·have:¬T.length=l.length-a:=fun e=>by rw[h.2.2 e]at d;cases d
  simp;omega
theorem xT{l:List UInt8}{a:Nat}{c:UInt8}(h:Lib.hasPrefix (l.drop a) [c]=true):∃h:a<l.length,l[a].toNat=c.toNat:=by
 by_cases b:∃h:a<l.length,l[a].toNat=c.toNat
 ·exact b
 ·rw[mY (c:=c) b]at h;cases h
theorem xU(d:List UInt8):gE d=iO d∨(gE d=0/\(iO d=0∨∃h:iO d<d.length,d[iO d].toNat=91)):=by
 unfold gE;split
 ·next h=>
  right;refine⟨rfl,?_⟩;obtain⟨h1,h2⟩:=xT (c:=91) h;unfold iO mQ;split
  ·split
   ·right;exact⟨h1,h2⟩
   ·left;rfl
  ·left;rfl
 ·left;rfl
theorem BW(d:List UInt8):gE d<=d.length:=by
 have:=yU d;rcases xU d with h|h <;> omega
theorem aAz(d:List UInt8):gE d=d.length↔(d=[]∨jA d=true):=by
 have b:=yU d;have a:=xU d;unfold jA;constructor
 ·intro h;by_cases h0:d=[]
  ·exact .inl h0
  ·right;have c:¬d.length=0:=fun e=>h0 (tJ e);rcases a with a|⟨a,_⟩
   ·rw[a]at h;simp[h0,h]
   ·omega
 ·rintro(h|h)
  ·subst h;have:=BW [];simp at this⊢;exact this
  ·simp at h;rcases a with a|⟨_,a|⟨a,_⟩⟩
   ·rw[a];exact h.2
   ·have:d=[]:=tJ (by omega);exact absurd this h.1
   ·omega
def dQ(d:List UInt8):Nat:=if Lib.hasPrefix d [45]=true then 1 else gE d
def nW(d:List UInt8):List UInt8:=if Lib.hasPrefix d [45]=true then[]else d.take (gE d)
theorem OU(d:List UInt8):dQ d<=d.length:=by
 unfold dQ;split
 ·rename_i h;have:=iA h;simpa using this
 ·exact BW d
theorem aAA(l:List UInt8)(a k:Nat):l.getD (a+k) 0=(l.drop a).getD k 0:=by
 simp[List.getD_eq_getElem?_getD,List.getElem?_drop]
theorem aAB{l:List UInt8}{a:Nat}(d:a<=l.length)(h:dQ (l.drop a)=0∨(a+dQ (l.drop a)<l.length/\¬(l.getD (a+dQ (l.drop a)) 0).toNat=32))(m:aO):eH m l a=(aO.none,8,a):=by
 unfold eH;apply aD;unfold dQ at h;unfold fJ;by_cases h45:Lib.hasPrefix (l.drop a) [45]=true
 ·rw[aD h45]at h⊢;exact h
 ·rw[aB h45]at h⊢;rcases xU (l.drop a)with b|⟨_,b|⟨b,h91⟩⟩
  ·rw[b]at h;exact h
  ·exact .inl b
  ·right;have c:=b;rw[bC]at c;refine⟨by omega,?_⟩;rw[aAA,gQ,dP b];dsimp only[Option.getD];omega
theorem OV{l:List UInt8}{a:Nat}(h:¬(dQ (l.drop a)=0∨(a+dQ (l.drop a)<l.length/\¬(l.getD (a+dQ (l.drop a)) 0).toNat=32))):fJ (l.drop a)=dQ (l.drop a)/\(if(l.drop a).take (dQ (l.drop a))=[45]then[]else(l.drop a).take (dQ (l.drop a)))=nW (l.drop a):=by
 have h0:¬dQ (l.drop a)=0:=fun e=>h (.inl e);unfold dQ at h0⊢;unfold fJ nW;generalize l.drop a=d at h0⊢;by_cases h45:Lib.hasPrefix d [45]=true
 ·rw[aD h45,aD h45,aD h45];refine⟨rfl,?_⟩;obtain⟨h1,h2⟩:=xT (l:=d) (a:=0) (c:=45) h45;match d,h1,h2 with
  |c::t,_,h2=>
   have:c=45:=eY.1 h2;subst this;rfl
 ·rw[aB h45,aB h45,aB h45];rw[aB h45]at h0;have b:gE d=iO d:=by
   rcases xU d with b|⟨b,_⟩
   ·exact b
   ·exact absurd b h0
  refine⟨b.symm,?_⟩;rw[aB];intro e;apply h45;have f:0<d.length:=by have:=BW d;omega
  refine mZ (l:=d) (a:=0) (c:=45) ⟨f,?_⟩;have:=aQ (fun x:List UInt8=>x[0]?) e;simp only[List.getElem?_take,dP f]at this;rw[aD (by omega)]at this;simp at this;rw[this]
theorem aAC{l:List UInt8}{a:Nat}(h:¬(dQ (l.drop a)=0∨(a+dQ (l.drop a)<l.length/\¬(l.getD (a+dQ (l.drop a)) 0).toNat=32)))(_ha:a<=l.length)(m:l.length<=a+dQ (l.drop a)+1)(f s:Int)(c d g i j:List UInt8):
  eH ⟨f,s,c,d,g,i,j,[],[]⟩ l a=(⟨f,s,c,d,g,i,j,nW (l.drop a),[]⟩,0,0):=by
 obtain⟨h1,h2⟩:=OV h;have b:=OU (l.drop a);rw[bC]at b;unfold eH;rw[h1,aB h,<-h2];by_cases e:a+dQ (l.drop a)=l.length
 ·rw[aD e];split <;> rfl
 ·have k:l.drop (a+dQ (l.drop a)+1)=[]:=List.drop_eq_nil_of_le (by omega);rw[aB e,k,aB (by decide)];split <;> rfl
theorem aAD{l:List UInt8}{a:Nat}(h:¬(dQ (l.drop a)=0∨(a+dQ (l.drop a)<l.length/\¬(l.getD (a+dQ (l.drop a)) 0).toNat=32)))(i:a+dQ (l.drop a)+1<l.length)(f s:Int)(b c d e g:List UInt8):
  eH ⟨f,s,b,c,d,e,g,[],[]⟩ l a=if bO (l.drop (a+dQ (l.drop a)+1))=false then(aO.none,9,a+dQ (l.drop a)+1)else(⟨f,s,b,c,d,e,g,nW (l.drop a),l.drop (a+dQ (l.drop a)+1)⟩,0,0):=by
 obtain⟨h1,h2⟩:=OV h;unfold eH;rw[h1,aB h,<-h2,aB (by omega)];split
 ·rfl
 ·split <;> rfl
theorem aAE{p:List UInt8}(h:dK p=none)(h2:¬p=[45]):iP p=none:=by unfold iP;rw[aB h2];exact h
theorem aAF:dK [45]=none:=by decide
theorem aAG{p t:List UInt8}(h:dK p=some t):iP p=some t:=by
 unfold iP;by_cases h2:p=[45]
 ·subst h2;rw[aAF]at h;cases h
 ·rw[aB h2];exact h
end Go.Hm

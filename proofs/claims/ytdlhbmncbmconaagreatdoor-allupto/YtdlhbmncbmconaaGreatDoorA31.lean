/- Pressed by program out of Ea Eb Ec Ed Ee. -/
import Derived.Test.YtdlhbmncbmconaaGreatDoorA13
namespace Go.Hm
theorem sR{c d:UInt8}(h:c.toNat=d.toNat):c=d:=eY.1 h
def iE(b:Nat)(l:List UInt8)(i:Nat):aE×List (List UInt8):=(aE.fresh b).feed (l.take i)
theorem XY(b:Nat)(l:List UInt8):iE b l 0=(aE.fresh b,[]):=rfl
theorem uB(b:Nat)(l:List UInt8){i:Nat}(h:l.length<=i):iE b l i=(aE.fresh b).feed l:=by
 unfold iE;rw[fV h]
theorem mJ{b:Nat}{l:List UInt8}{i:Nat}{f a:aE}{out:List (List UInt8)}{x:List UInt8}(h:i<l.length)(c:iE b l i=(f,out))(d:f.take l[i]=(a,x)):
  iE b l (i+1)=(a,if x=[]then out else out++[x]):=by
 unfold iE at c⊢;rw[pS,dP h,aE.feed_append,c];dsimp only[Option.toList];rw[aE.feed_cons,d];simp only[aE.feed];split <;> simp
theorem ID{b:Nat}{l:List UInt8}{i k:Nat}{f a:aE}{out c:List (List UInt8)}(d:iE b l i=(f,out))(e:f.feed ((l.drop i).take k)=(a,c)):
  iE b l (i+k)=(a,out++c):=by
 unfold iE at d⊢;rw[List.take_add,aE.feed_append,d];dsimp only;rw[e]
theorem XZ{b:Nat}{c:UInt8}(h:c.toNat=10):(aE.fresh b).take c=(aE.fresh b,[]):=by
 have e:c=10:=sR h;subst e;rfl
theorem YA{b:Nat}{c:UInt8}(h:¬c.toNat=10):(aE.mk b 4 0 0 []).take c=(aE.mk b 4 0 0 [],[]):=by
 have e:c≠10:=fun e=>h (by rw[e];rfl);unfold aE.take aE.begun;rw[aB (by simp)];unfold aE.goes;rw[aB (by simp),aB (by simp),aB (by simp),aB e]
theorem YB{b:Nat}{c:UInt8}(h:c.toNat=10):(aE.mk b 4 0 0 []).take c=(aE.fresh b,[]):=by
 have e:c=10:=sR h;subst e;rfl
theorem IE{c:UInt8}:(aH c=true/\c≠48)↔(49<=c.toNat/\c.toNat<=57):=by
 unfold aH;constructor
 ·rintro⟨h1,h2⟩;simp at h1;have:¬c.toNat=48:=fun e=>h2 (sR e);omega
 ·intro h;refine⟨by simp;omega,fun e=>?_⟩;rw[e]at h;simp at h
theorem YC{b:Nat}{c:UInt8}(a:1<=b)(h:¬(49<=c.toNat/\c.toNat<=57))(h10:¬c.toNat=10):(aE.fresh b).take c=(aE.mk b 3 0 0 [c],[]):=by
 have e:c≠10:=fun e=>h10 (by rw[e];rfl);unfold aE.take aE.begun;rw[aD (show(aE.fresh b).stage=0 from rfl),aB (fun q=>h (IE.1 q))];unfold aE.goes;rw[aB (by simp),aB (by simp),aD rfl];unfold aE.takeLine;rw[aB e,aB (by simp[aE.fresh];omega)];rfl
theorem YD{b:Nat}{o:List UInt8}{c:UInt8}(h10:¬c.toNat=10)(a:o.length=b):(aE.mk b 3 0 0 o).take c=(aE.mk b 4 0 0 [],[33]):=by
 have e:c≠10:=fun e=>h10 (by rw[e];rfl);unfold aE.take aE.begun;rw[aB (by simp)];unfold aE.goes;rw[aB (by simp),aB (by simp),aD rfl];unfold aE.takeLine;rw[aB e,aD a];unfold aE.endBad;rw[aB e]
theorem YE{b:Nat}{o:List UInt8}{c:UInt8}(h10:c.toNat=10)(a:¬o=[]):(aE.mk b 3 0 0 o).take c=(aE.fresh b,61::o):=by
 have e:c=10:=sR h10;subst e;exact EL a
theorem IF{b:Nat}{c:UInt8}(h:49<=c.toNat/\c.toNat<=57):(aE.fresh b).take c=if b<c.toNat-48 then(aE.mk b 4 0 0 [],[33])else(aE.mk b 1 1 (c.toNat-48) [],[]):=by
 obtain⟨h1,h2⟩:=IE.2 h;have e:c≠10:=fun e=>by rw[e]at h;simp at h
 by_cases a:b<c.toNat-48
 ·rw[aD a];unfold aE.take aE.begun;rw[aD (show(aE.fresh b).stage=0 from rfl),aD ⟨h1,h2⟩];unfold aE.goes;rw[aD rfl];unfold aE.takeNumber;rw[aD h1,aD (by simp[aE.fresh];omega)];unfold aE.endBad;rw[aB e];rfl
 ·rw[aB a,EG h1 h2 (by omega)]
theorem zX{c:UInt8}:aH c=true↔(48<=c.toNat/\c.toNat<=57):=by unfold aH;simp
theorem IG{b h n:Nat}{c:UInt8}(a:48<=c.toNat/\c.toNat<=57):(aE.mk b 1 h n []).take c=if b<10*n+(c.toNat-48)then(aE.mk b 4 0 0 [],[33])else(aE.mk b 1 (h+1) (10*n+(c.toNat-48)) [],[]):=by
 have e:c≠10:=fun e=>by rw[e]at a;simp at a
 by_cases d:b<10*n+(c.toNat-48)
 ·rw[aD d];unfold aE.take aE.begun;rw[aB (by simp)];unfold aE.goes;rw[aD rfl];unfold aE.takeNumber;rw[aD (zX.2 a),aD (by simp;omega)];unfold aE.endBad;rw[aB e]
 ·rw[aB d,EF (zX.2 a) (by omega)]
theorem IH{b h n:Nat}{c:UInt8}(a:c.toNat=32):(aE.mk b 1 h n []).take c=(aE.mk b 2 (h+1) n [],[]):=by
 have e:c=32:=sR a;subst e;exact EH
theorem YF{b h n:Nat}{c:UInt8}(d:¬(48<=c.toNat/\c.toNat<=57))(f:¬c.toNat=32):(aE.mk b 1 h n []).take c=(if c.toNat=10 then aE.fresh b else aE.mk b 4 0 0 [],[33]):=by
 have e:c≠32:=fun e=>f (by rw[e];rfl);unfold aE.take aE.begun;rw[aB (by simp)];unfold aE.goes;rw[aD rfl];unfold aE.takeNumber;rw[aB (fun q=>d (zX.1 q)),aB e];unfold aE.endBad;by_cases h10:c.toNat=10
 ·have a:c=10:=sR h10;rw[aD h10,aD a];rfl
 ·have a:c≠10:=fun e=>h10 (by rw[e];rfl);rw[aB h10,aB a]
theorem II{b h n:Nat}:∀(t o:List UInt8),o.length+t.length<n->(aE.mk b 2 h n o).feed t=(aE.mk b 2 h n (o++t),[])
 |[],o,_=>by simp[aE.feed]
 |c::t,o,hl=>by
  rw[bU]at hl;have e:(aE.mk b 2 h n o).take c=(aE.mk b 2 h n (o++[c]),[]):=by
   unfold aE.take aE.begun;rw[aB (by simp)];unfold aE.goes;rw[aB (by simp),aD rfl];unfold aE.takeCounted;rw[aD (by simp;omega)]
  rw[aE.feed_cons,e];dsimp only;rw[II t (o++[c]) (by simp;omega)];simp
def lN(b:Nat)(l:List UInt8)(i:Nat)(out:List (List UInt8)):Prop:=i<=l.length/\(iE b l i=(aE.fresh b,out)∨(i=l.length/\iE b l i=(aE.mk b 4 0 0 [],out)))
def eC(b:Nat)(l:List UInt8):List (List UInt8)×Nat:=(((aE.fresh b).feed l).2,((aE.fresh b).feed l).1.head+((aE.fresh b).feed l).1.own.length)
theorem YG(b:Nat)(l:List UInt8):lN b l 0 []:=⟨dM _,.inl (XY b l)⟩
theorem YH{b:Nat}{l:List UInt8}{i:Nat}{out:List (List UInt8)}(h:lN b l i out)(hi:l.length<=i):eC b l=(out,0):=by
 obtain⟨a,h⟩:=h;have e:i=l.length:=by omega
 unfold eC;rcases h with h|⟨_,h⟩
 ·rw[uB b l (by omega)]at h;rw[h];rfl
 ·rw[uB b l (by omega)]at h;rw[h];rfl
theorem zY{b:Nat}{l:List UInt8}{i:Nat}{out:List (List UInt8)}(h:lN b l i out)(hi:i<l.length):iE b l i=(aE.fresh b,out):=by
 rcases h.2 with h|⟨e,_⟩
 ·exact h
 ·omega
theorem YI{b:Nat}{l:List UInt8}{i:Nat}{out:List (List UInt8)}(h:lN b l i out)(hi:i<l.length)(h10:l[i].toNat=10):lN b l (i+1) out:=by
 have:=mJ hi (zY h hi) (XZ h10);rw[aD rfl]at this;exact⟨by omega,.inl this⟩
def nD(b:Nat)(l:List UInt8)(a e:Nat)(out:List (List UInt8)):Prop:=
 a<=e/\e<=l.length/\((e=a/\iE b l e=(aE.fresh b,out))∨(a<e/\e<=a+b/\iE b l e=(aE.mk b 3 0 0 ((l.drop a).take (e-a)),out))∨(e=a+b+1/\(∀h:e-1<l.length,¬l[e-1].toNat=10)/\iE b l e=(aE.mk b 4 0 0 [],out++[[33]])))
theorem YJ{b:Nat}{l:List UInt8}{a:Nat}{out:List (List UInt8)}(h:lN b l a out)(c:a<l.length):nD b l a a out:=⟨aC _,by omega,.inl ⟨rfl,zY h c⟩⟩
theorem IJ(l:List UInt8)(a e:Nat)(c:a<=e)(b:e<l.length):(l.drop a).take (e+1-a)=(l.drop a).take (e-a)++[l[e]]:=by
 rw[show e+1-a=e-a+1 by omega,pS,nM,show a+(e-a)=e by omega,dP b];rfl
theorem uC(l:List UInt8)(a e:Nat)(b:e<=l.length):((l.drop a).take (e-a)).length=e-a:=by
 rw[eJ,bC];omega
theorem YK{b:Nat}{l:List UInt8}{a e:Nat}{out:List (List UInt8)}(g:1<=b)(h:nD b l a e out)(c:e<l.length)(h10:¬l[e].toNat=10)(i:e-a<=b)(h0:∀h:a<l.length,¬(49<=l[a].toNat/\l[a].toNat<=57)):nD b l a (e+1) out:=by
 obtain⟨h1,h2,h|⟨h3,h4,h⟩|⟨h3,h⟩⟩:=h
 ·obtain⟨rfl,h⟩:=h;have:=mJ c h (YC g (h0 c) h10);rw[aD rfl]at this;refine⟨by omega,by omega,.inr (.inl ⟨by omega,by omega,?_⟩)⟩;rw[this,IJ l e e (by omega) c];simp
 ·by_cases d:e-a=b
  ·have:=mJ c h (YD h10 (by rw[uC l a e h2];exact d));rw[aB (by simp)]at this;exact⟨by omega,by omega,.inr (.inr ⟨by omega,fun h=>by simp only[Nat.add_sub_cancel];exact h10,this⟩)⟩
  ·have f:l[e]≠10:=fun q=>h10 (by rw[q];rfl);have:=mJ c h (EK f (by rw[uC l a e h2];omega));rw[aD rfl]at this;refine⟨by omega,by omega,.inr (.inl ⟨by omega,by omega,?_⟩)⟩;rw[this,IJ l a e h1 c]
 ·omega
theorem IK{b:Nat}{l:List UInt8}{a e:Nat}{out:List (List UInt8)}(h:nD b l a e out)(c:b<e-a):iE b l e=(aE.mk b 4 0 0 [],out++[[33]])/\∀h:e-1<l.length,¬l[e-1].toNat=10:=by
 obtain⟨h1,h2,h|⟨h3,h4,h⟩|⟨h3,h4,h⟩⟩:=h
 ·omega
 ·omega
 ·exact⟨h,h4⟩
theorem YL{b:Nat}{l:List UInt8}{a e:Nat}{out:List (List UInt8)}(h:nD b l a e out)(d:¬b<e-a)(c:a<l.length)(f:e=l.length):eC b l=(out,e-a):=by
 obtain⟨h1,h2,h|⟨h3,h4,h⟩|⟨h3,h⟩⟩:=h
 ·omega
 ·rw[uB b l (by omega)]at h;unfold eC;rw[h];dsimp only;rw[uC l a e h2,Nat.zero_add]
 ·omega
theorem YM{b:Nat}{l:List UInt8}{a e:Nat}{out:List (List UInt8)}(h:nD b l a e out)(f:¬b<e-a)(c:a<e)(d:e<l.length)(h10:l[e].toNat=10):lN b l (e+1) (out++[61::(l.drop a).take (e-a)]):=by
 obtain⟨h1,h2,h|⟨h3,h4,h⟩|⟨h3,h⟩⟩:=h
 ·omega
 ·have:=mJ d h (YE h10 (fun q=>by have:=aQ List.length q;rw[uC l a e h2]at this;simp at this;omega));rw[aB (by simp)]at this;exact⟨by omega,.inl this⟩
 ·omega
def lO(b:Nat)(l:List UInt8)(a i n:Nat)(out:List (List UInt8)):Prop:=
 a<=i/\i<=l.length/\((i=a/\n=0/\iE b l i=(aE.fresh b,out))∨(a<i/\1<=n/\n<=b/\iE b l i=(aE.mk b 1 (i-a) n [],out))∨(a<i/\b<n/\n<=10*b+9/\(∀h:i-1<l.length,¬l[i-1].toNat=10)/\iE b l i=(aE.mk b 4 0 0 [],out++[[33]])))
theorem YN{b:Nat}{l:List UInt8}{a:Nat}{out:List (List UInt8)}(h:lN b l a out)(c:a<l.length):lO b l a a 0 out:=⟨aC _,by omega,.inl ⟨rfl,rfl,zY h c⟩⟩
theorem IL{b:Nat}{l:List UInt8}{a i n:Nat}{out:List (List UInt8)}(h:lO b l a i n out):n<=10*b+9:=by
 obtain⟨h1,h2,h|h|h⟩:=h <;> omega
theorem YO{b:Nat}{l:List UInt8}{a i n:Nat}{out:List (List UInt8)}(h:lO b l a i n out)(hi:i<l.length)(d:48<=l[i].toNat/\l[i].toNat<=57)(e:n<=b)(h0:∀h:a<l.length,49<=l[a].toNat/\l[a].toNat<=57):lO b l a (i+1) (10*n+(l[i].toNat-48)) out:=by
 have h10:∀h:i+1-1<l.length,¬l[i+1-1].toNat=10:=fun h=>by simp only[Nat.add_sub_cancel];omega
 obtain⟨h1,h2,h|⟨h3,h4,h5,h⟩|⟨h3,h4,_⟩⟩:=h
 ·obtain⟨rfl,rfl,h⟩:=h;have h00:=h0 hi;by_cases c:b<l[i].toNat-48
  ·have:=mJ hi h ((IF h00).trans (aD c));rw[aB (by simp)]at this;exact⟨by omega,by omega,.inr (.inr ⟨by omega,by omega,by omega,h10,this⟩)⟩
  ·have:=mJ hi h ((IF h00).trans (aB c));rw[aD rfl]at this;refine⟨by omega,by omega,.inr (.inl ⟨by omega,by omega,by omega,?_⟩)⟩;rw[this,show i+1-i=1 by omega,show 10*0+(l[i].toNat-48)=l[i].toNat-48 by omega]
 ·by_cases c:b<10*n+(l[i].toNat-48)
  ·have:=mJ hi h ((IG d).trans (aD c));rw[aB (by simp)]at this;exact⟨by omega,by omega,.inr (.inr ⟨by omega,by omega,by omega,h10,this⟩)⟩
  ·have:=mJ hi h ((IG d).trans (aB c));rw[aD rfl]at this;refine⟨by omega,by omega,.inr (.inl ⟨by omega,by omega,by omega,?_⟩)⟩;rw[this,show i+1-a=i-a+1 by omega]
 ·omega
theorem YP{b:Nat}{l:List UInt8}{a i n:Nat}{out:List (List UInt8)}(h:lO b l a i n out)(c:b<n):a<i/\iE b l i=(aE.mk b 4 0 0 [],out++[[33]])/\∀h:i-1<l.length,¬l[i-1].toNat=10:=by
 obtain⟨h1,h2,h|⟨h3,h4,h5,h⟩|⟨h3,h4,_,h5,h⟩⟩:=h
 ·omega
 ·omega
 ·exact⟨h3,h,h5⟩
theorem sS{b:Nat}{l:List UInt8}{a i n:Nat}{out:List (List UInt8)}(h:lO b l a i n out)(d:¬b<n)(c:a<i):1<=n/\iE b l i=(aE.mk b 1 (i-a) n [],out):=by
 obtain⟨h1,h2,h|⟨h3,h4,h5,h⟩|⟨h3,h4,_⟩⟩:=h
 ·omega
 ·exact⟨h4,h⟩
 ·omega
theorem YQ{b:Nat}{l:List UInt8}{a i n:Nat}{out:List (List UInt8)}(h:lO b l a i n out)(d:¬b<n)(c:a<i)(hi:i=l.length):eC b l=(out,i-a):=by
 have:=(sS h d c).2;rw[uB b l (by omega)]at this;unfold eC;rw[this];rfl
theorem YR{b:Nat}{l:List UInt8}{a i n:Nat}{out:List (List UInt8)}(h:lO b l a i n out)(d:¬b<n)(c:a<i)(hi:i<l.length)(e:¬(48<=l[i].toNat/\l[i].toNat<=57))(f:¬l[i].toNat=32):
  iE b l (i+1)=(if l[i].toNat=10 then aE.fresh b else aE.mk b 4 0 0 [],out++[[33]]):=by
 have h1:=YF (b:=b) (h:=i-a) (n:=n) e f;generalize(if l[i].toNat=10 then aE.fresh b else aE.mk b 4 0 0 [])=F at h1⊢;have:=mJ hi (sS h d c).2 h1;rw[aB (by simp)]at this;exact this
theorem YS{b:Nat}{l:List UInt8}{a i n:Nat}{out:List (List UInt8)}(h:lO b l a i n out)(d:¬b<n)(c:a<i)(hi:i<l.length)(e:l[i].toNat=32)(f:l.length<i+1+n):eC b l=(out,l.length-a):=by
 have h1:=mJ hi (sS h d c).2 (IH e);rw[aD rfl]at h1;have h2:=ID (k:=l.length-(i+1)) h1 (II ((l.drop (i+1)).take (l.length-(i+1))) [] (by rw[eJ,bC];simp;omega));rw[kZ,uB b l (by omega)]at h2;unfold eC;rw[h2];refine Prod.ext rfl ?_;simp;omega
theorem YT{b:Nat}{l:List UInt8}{a i n:Nat}{out:List (List UInt8)}(h:lO b l a i n out)(e:¬b<n)(d:a<i)(hi:i<l.length)(f:l[i].toNat=32)(g:i+1+n<=l.length):lN b l (i+1+n) (out++[61::(l.drop (i+1)).take n]):=by
 have h1:=mJ hi (sS h e d).2 (IH f);rw[aD rfl]at h1;have j:=(sS h e d).1;have c:((l.drop (i+1)).take n).length=n:=by rw[eJ,bC];omega
 have h2:=ID (k:=n) h1 (zD ((l.drop (i+1)).take n) [] (fun q=>by rw[q]at c;simp at c;omega) (by rw[c];simp));exact⟨g,.inl (by rw[h2];simp)⟩
def oE(b:Nat)(l:List UInt8)(j:Nat)(out:List (List UInt8)):Prop:=j<=l.length/\iE b l j=(aE.mk b 4 0 0 [],out)
theorem YU{b:Nat}{l:List UInt8}{j:Nat}{out:List (List UInt8)}(h:oE b l j out)(a:j<l.length)(h10:¬l[j].toNat=10):oE b l (j+1) out:=by
 have:=mJ a h.2 (YA h10);rw[aD rfl]at this;exact⟨by omega,this⟩
theorem YV{b:Nat}{l:List UInt8}{j:Nat}{out:List (List UInt8)}(h:oE b l j out)(a:j<l.length)(h10:l[j].toNat=10):lN b l (j+1) out:=by
 have:=mJ a h.2 (YB h10);rw[aD rfl]at this;exact⟨by omega,.inl this⟩
theorem YW{b:Nat}{l:List UInt8}{j:Nat}{out:List (List UInt8)}(h:oE b l j out)(a:l.length<=j):lN b l j out:=⟨h.1,.inr ⟨by have:=h.1;omega,h.2⟩⟩
def uD(l:List UInt8)(a j:Nat):Prop:=a<=j/\j<=l.length/\∀k(h:k<l.length),a<=k->k<j->¬l[k].toNat=10
def pB(l:List UInt8)(a r:Nat):Prop:=(r=l.length/\uD l a r)∨∃j,∃h:j<l.length,r=j+1/\l[j].toNat=10/\uD l a j
theorem IM{b:Nat}{l:List UInt8}{a:Nat}{out:List (List UInt8)}(h:oE b l a out):∀j,uD l a j->oE b l j out:=by
 intro j;induction j with
 |zero=>
  intro c;have:=c.1
  have e:a=0:=by omega
  rw[<-e];exact h
 |succ j ih=>
  intro c;by_cases e:a=j+1
  ·rw[<-e];exact h
  ·have d:j<l.length:=by have:=c.2.1;omega
   exact YU (ih ⟨by have:=c.1;omega,by omega,fun k f h1 h2=>c.2.2 k f h1 (by omega)⟩) d (c.2.2 j d (by have:=c.1;omega) (by omega))
theorem zZ{b:Nat}{l:List UInt8}{a r:Nat}{out:List (List UInt8)}(h:oE b l a out)(d:pB l a r):lN b l r out:=by
 rcases d with⟨e,c⟩|⟨j,f,e,h10,c⟩
 ·exact YW (IM h r c) (by omega)
 ·rw[e];exact YV (IM h j c) f h10
theorem AB{l:List UInt8}{a r:Nat}(m:0<a)(g:a<=l.length)(h10:∀h:a-1<l.length,¬l[a-1].toNat=10)(i:pB l (a-1) r):pB l a r:=by
 rcases i with⟨e,c⟩|⟨j,f,e,b,c⟩
 ·exact .inl ⟨e,by omega,c.2.1,fun k d h1 h2=>c.2.2 k d (by omega) h2⟩
 ·refine .inr ⟨j,f,e,b,?_,by omega,fun k d h1 h2=>c.2.2 k d (by omega) h2⟩;by_cases q:j=a-1
  ·subst q;exact absurd b (h10 f)
  ·have:=c.1;omega
theorem YX{b:Nat}{l:List UInt8}{i r:Nat}{out:List (List UInt8)}(hi:i<l.length)(h:iE b l (i+1)=(if l[i].toNat=10 then aE.fresh b else aE.mk b 4 0 0 [],out))(c:pB l i r):lN b l r out:=by
 by_cases h10:l[i].toNat=10
 ·rw[aD h10]at h;have e:r=i+1:=by
   rcases c with⟨e,a⟩|⟨j,g,e,d,a⟩
   ·exact absurd h10 (a.2.2 i hi (by omega) (by omega))
   ·by_cases q:j=i
    ·omega
    ·exact absurd h10 (a.2.2 i hi (by omega) (by have:=a.1;omega))
  rw[e];exact⟨by omega,.inl h⟩
 ·rw[aB h10]at h;have f:oE b l (i+1) out:=⟨by omega,h⟩;exact zZ f (AB (by omega) (by omega) (fun _=>by simpa using h10) (by simpa using c))
end Go.Hm
namespace Go.Proofs.Z
open Hm Tryz Go.RowKit Go.Sort
attribute [local go_sem] dY fR fS
theorem YY(l:List UInt8)(s:l.length<=1000000000000000)(a:Nat)(m:a<=l.length)(w:World):Calls prog 198 #[.string ⟨l.toArray⟩,.int .i64 a] w fun e n=>(∃r:Nat,e= .returned (.int .i64 r)/\pB l a r)/\n=w:=by
 go_enter func198,ntmps198;go_wp2;go_loopw [1] (fun s1 wr=>∃j:Nat,s1= .int .i64 j/\uD l a j/\wr=w) (fun s1 _=>l.length-(intOf s1).toNat)
 case atStart=>exact⟨a,rfl,⟨aC _,m,fun k _ h1 h2=>absurd h1 (by omega)⟩,rfl⟩
 case round=>
  obtain⟨j,rfl,f,b⟩:=hrel;have b:=b.symm;subst b;have o:=f.2.1;have d:=show Hid _ from f;clear f;by_cases g:j<l.length;case neg=>
   have h:¬(j:Int)<(l.length:Int):=by omega
   go_wp2;go_ret;exact⟨⟨j,rfl,.inl ⟨by omega,d.out⟩⟩,rfl⟩
  have h:(j:Int)<(l.length:Int):=by omega
  have t:((j:Int)+1-1).toNat=j:=by omega
  have u:(j:Int)+1-1=(j:Int):=by omega
  by_cases h10:l[j].toNat=10
  ·have c:((l[j].toNat:Int)==10)=true:=dZ.2 (by omega);have p:Hid (pB l a (j+1)):= .inr ⟨j,g,rfl,h10,d.out⟩;clear h10;go_wp2;go_ret;exact⟨⟨j+1,aQ Ending.returned (aY (by simp)),p.out⟩,rfl⟩
  ·have c:((l[j].toNat:Int)==10)=false:=bG.2 (by omega);have i:Hid (uD l a (j+1)):=⟨by have:=d.out.1;omega,by omega,fun k q h1 h2=>by
    by_cases e:k=j
    ·subst e;exact h10
    ·exact d.out.2.2 k q h1 (by omega)⟩
   clear h10;go_wp2;go_roundw;case rel=>exact⟨j+1,aY (by simp),i.out,by first|rfl|trivial⟩
   case measure=>simp[intOf];omega
set_option maxRecDepth 20000 in
set_option maxHeartbeats 4000000 in
theorem YZ(l:List UInt8)(hl:l.length<=4000000000)(b:Nat)(hb:1<=b)(aD:b<=200)(w:World):
  Calls prog 165 #[.string ⟨l.toArray⟩,.int .i64 b] w fun e T=>∃v:Value,e= .returned (.tuple #[v,.int .i64 (eC b l).2])/\T.ownsRow w.heap.size 9 1 v (eC b l).1.length ((eC b l).1.map aU)/\Below w.heap.size w T:=by
 obtain⟨N,hN⟩:∃N,eC b l=N:=⟨_,rfl⟩;rw[hN];have HN:=show Hid _ from hN;clear hN;have BH:Hid (∀a:Nat,a<=l.length->∀w,Calls prog 198 #[.string ⟨l.toArray⟩,.int .i64 a] w fun e T=>(∃r:Nat,e= .returned (.int .i64 r)/\pB l a r)/\T=w):=fun a ha w=>YY l (by omega) a ha w;obtain⟨i0,hi,I,J,A⟩:=info_parts qZ;go_enter func165,ntmps165;go_wp2;go_loopw [6,7,8,9,10] (fun v s7 _ _ _ wr=>∃(at_:Nat)(out:List (List UInt8)),s7= .int .i64 at_/\lN b l at_ out/\out.length<=at_/\wr.ownsRow w.heap.size 9 1 v out.length (out.map aU)/\Below w.heap.size w wr) (fun _ s7 _ _ _ _=>l.length-(intOf s7).toNat)
 case atStart=>exact⟨0,[],rfl,YG b l,aC _,World.ownsRow_nil _ _ _ _,aF _ _⟩
 case round=>
  obtain⟨a,out,rfl,hR,aA,U,hB⟩:=hrel;have aE:=hR.1;have HR:Hid (lN b l a out):=hR;have B:Hid (wr.ownsRow w.heap.size 9 1 u6 out.length (out.map aU)):=U;have k:Hid (Below w.heap.size w wr):=hB;clear hR U hB;by_cases P:a<l.length;case neg=>
   have c0:¬(a:Int)<(l.length:Int):=by omega
   have K:Hid (N=(out,0)):=by show _=_;rw[<-HN.out];exact YH HR.out (by omega)
   go_wp2;go_ret2;exact⟨u6,by rw[K.out];rfl,by rw[K.out];exact B.out,k.out⟩
  have c0:(a:Int)<(l.length:Int):=by omega
  by_cases h10:l[a].toNat=10
  ·have V:((l[a].toNat:Int)==10)=true:=dZ.2 (by omega);have g:Hid (lN b l (a+1) out):=YI HR.out P h10;clear h10;go_wp2;go_roundw;case rel=>exact⟨a+1,out,aY (by simp),g.out,by omega,B.out,k.out⟩
   case measure=>simp[intOf];omega
  have V:((l[a].toNat:Int)==10)=false:=bG.2 (by omega);by_cases H:49<=l[a].toNat/\l[a].toNat<=57;case neg=>
   have H0:Hid (∀h:a<l.length,¬(49<=l[a].toNat/\l[a].toNat<=57)):=fun _=>H;go_upto_region 6 with fail;go_cut [30] (fun aq wc=>aq= .bool true/\wc=wr);case first=>
    by_cases E:(l[a].toNat:Int)<49
    ·clear H h10;go_wp2
     go_meet
     case rel=>exact⟨rfl,rfl⟩
    ·have aG:(57:Int)<(l[a].toNat:Int):=by omega
     clear H h10;go_wp2
     go_meet
     case rel=>exact⟨rfl,rfl⟩
   case rest=>
    obtain⟨rfl,o⟩:=hcut;have o:=o.symm;subst o;go_upto_block 2 with fail;go_cut [8] (fun s8 wc=>∃e:Nat,s8= .int .i64 e/\nD b l a e out/\(l.length<=e∨(∃h:e<l.length,l[e].toNat=10)∨b<e-a)/\wc=wr);case first=>
     have Y:Hid (nD b l a a out):=YJ HR.out P;clear H h10 HR HN;go_wp2;go_loopw [8] (fun s8 wq=>∃e:Nat,s8= .int .i64 e/\nD b l a e out/\wq=wr) (fun s8 _=>l.length-(intOf s8).toNat)
     case atStart=>exact⟨a,rfl,Y.out,rfl⟩
     case round=>
      obtain⟨e,rfl,y,C⟩:=hrel;have C:=C.symm;subst C;have ar:=y.1;have s:Hid (nD b l a e out):=y;clear y;by_cases k0:e<l.length;case neg=>
       have Z:¬(e:Int)<(l.length:Int):=by omega
       go_wp2
       go_meet
       case rel=>exact⟨e,rfl,s.out,.inl (by omega),rfl⟩
      have Z:(e:Int)<(l.length:Int):=by omega
      by_cases L:l[e].toNat=10
      ·have au:((l[e].toNat:Int) !=10)=false:=by simp;omega
       have HK:=show Hid _ from L;clear L;go_wp2
       go_meet
       case rel=>exact⟨e,rfl,s.out,.inr (.inl ⟨k0,HK.out⟩),rfl⟩
      have au:((l[e].toNat:Int) !=10)=true:=by simp;omega
      by_cases k2:e-a<=b;case neg=>
       have aa:¬(e:Int)-(a:Int)<=(b:Int):=by omega
       clear L;go_wp2
       go_meet
       case rel=>exact⟨e,rfl,s.out,.inr (.inr (by omega)),rfl⟩
      have aa:(e:Int)-(a:Int)<=(b:Int):=by omega
      have ab:Hid (nD b l a (e+1) out):=YK hb s.out k0 L k2 H0.out;clear L;go_wp2;go_roundw;case rel=>exact⟨e+1,aY (by simp),ab.out,by first|rfl|trivial⟩
      case measure=>simp[intOf];omega
    case rest=>
     obtain⟨e,rfl,y,m,o⟩:=hcut;have o:=o.symm;subst o;have ar:=y.1;have ac:=y.2.1;have s:Hid (nD b l a e out):=y;clear y H h10;by_cases M:b<e-a
     ·have ad:(b:Int)<(e:Int)-(a:Int):=by omega
      have ae:Hid (oE b l e (out++[[33]])):=⟨ac,(IK s.out M).1⟩;have af:Hid (∀h:e-1<l.length,¬l[e-1].toNat=10):=(IK s.out M).2;have BE:Hid (∀w,Calls prog 198 #[.string ⟨l.toArray⟩,.int .i64 ((e:Int)-1)] w fun e' T=>(∃r:Nat,e'= .returned (.int .i64 r)/\pB l (e-1) r)/\T=w):=fun w=>by
       have:=BH.out (e-1) (by omega) w
       rwa [show((e-1:Nat):Int)=(e:Int)-1 by omega]at this
      clear m;go_wp2_with(first
       |(at_builtin;refine wpList_append_own _ rfl _ _ 42 rfl w.heap.size 9 i0 (.string ByteArray.empty) 1 16 underlying42 hi I J A rfl (by decide) _ _ _ rfl (B.out.alloc _) ⟨wr.heap.size,0,none⟩ 1 1 [.string ⟨([33]:List UInt8).toArray⟩] rfl rfl (cell_one_new _ _ _) (fun x m=>by simp at m;subst m;rfl) (by unfold maxLen;omega) (by omega) (by have:=k.out.size;simp;omega) ?_;intro v' D c d f;have t:Hid (D.ownsRow w.heap.size 9 1 v' (out++[([33]:List UInt8)]).length ((out++[([33]:List UInt8)]).map aU)):=(by show World.ownsRow _ _ _ _ _ _ _;rw[iN,dL];exact c);have u:Hid (Below w.heap.size w D):=(k.out.alloc k.out.size _).grown d (by have:=k.out.size;simp;omega) (fun q Q=>by have:=B.out.lt q Q;omega);clear c d f)
       |fail)
      refine(BE.out _).mono ?_;rintro e' w6⟨⟨r,rfl,R⟩,p⟩;have p:=p.symm;subst p;have O:=show Hid _ from AB (by omega) ac af.out R;have ai:e<=r:=by
       rcases O.out with⟨e1,h1⟩|⟨j,_,e1,_,h1⟩
       ·have:=h1.1;omega
       ·have:=h1.1;omega
      have g:=show Hid _ from zZ ae.out O.out;clear R;go_wp2;go_roundw;case rel=>exact⟨r,out++[[33]],rfl,g.out,by simp;omega,t.out,u.out⟩
      case measure=>simp[intOf];omega
     have ad:¬(b:Int)<(e:Int)-(a:Int):=by omega
     by_cases ke:e=l.length
     ·have ag:((e:Int)==(l.length:Int))=true:=dZ.2 (by omega);have K:Hid (N=(out,e-a)):=by show _=_;rw[<-HN.out];exact YL s.out M P ke
      clear m ke;go_wp2;go_ret2;exact⟨u6,by rw[K.out];exact aQ (fun z=>Ending.returned (Value.tuple #[u6,.int .i64 z])) (by show _=((e-a:Nat):Int);omega),by rw[K.out];exact B.out,k.out⟩
     have ag:((e:Int)==(l.length:Int))=false:=bG.2 (by omega);have F:e<l.length:=by omega
     have aj:l[e].toNat=10:=by
      rcases m with h|⟨_,h⟩|h
      ·omega
      ·exact h
      ·omega
     have ak:a<e:=by
      by_cases q:a=e
      ·subst q;exact absurd (dZ.2 (show(l[a].toNat:Int)=10 by omega)) (by rw[V];decide)
      ·omega
     have g:=show Hid _ from YM s.out M ak F aj;obtain⟨X,hX⟩:∃X,(l.drop a).take (e-a)=X:=⟨_,rfl⟩;have av:X.length=e-a:=by rw[<-hX];exact uC l a e ac
     rw[hX]at g;have e0:(a:Int)<=(e:Int):=by omega
     have e1:(e:Int)<=(l.length:Int):=by omega
     have r1:¬9223372036854775807<1+X.length:=by omega
     clear m ke aj;go_wp2_with(first
      |(at_builtin;refine wpList_append_own _ rfl _ _ 42 rfl w.heap.size 9 i0 (.string ByteArray.empty) 1 16 underlying42 hi I J A rfl (by decide) _ _ _ rfl (B.out.alloc _) ⟨wr.heap.size,0,none⟩ 1 1 [.string ⟨(61::X).toArray⟩] rfl rfl (cell_one_new _ _ _) (fun x m=>by simp at m;subst m;rfl) (by unfold maxLen;omega) (by omega) (by have:=k.out.size;simp;omega) ?_;intro v' D c d f;have t:Hid (D.ownsRow w.heap.size 9 1 v' (out++[(61::X)]).length ((out++[(61::X)]).map aU)):=(by show World.ownsRow _ _ _ _ _ _ _;rw[iN,dL];exact c);have u:Hid (Below w.heap.size w D):=(k.out.alloc k.out.size _).grown d (by have:=k.out.size;simp;omega) (fun q Q=>by have:=B.out.lt q Q;omega);clear c d f)
      |fail)
     go_roundw;case rel=>exact⟨e+1,out++[61::X],aY (by simp),g.out,by simp;omega,t.out,u.out⟩
     case measure=>simp[intOf];omega

  have H0:Hid (∀h:a<l.length,49<=l[a].toNat/\l[a].toNat<=57):=fun _=>H;have al:¬(l[a].toNat:Int)<49:=by omega
  have am:¬(57:Int)<(l[a].toNat:Int):=by omega
  go_upto_block 4 with fail;go_cut [9,10] (fun s9 s10 wc=>∃i n:Nat,s9= .int .i64 n/\s10= .int .i64 i/\lO b l a i n out/\(l.length<=i∨(∃h:i<l.length,¬(48<=l[i].toNat/\l[i].toNat<=57))∨b<n)/\wc=wr);case first=>
   have Y:Hid (lO b l a a 0 out):=YN HR.out P;clear H al am h10 HR HN;go_wp2;go_loopw [9,10] (fun s9 s10 wq=>∃i n:Nat,s9= .int .i64 n/\s10= .int .i64 i/\lO b l a i n out/\wq=wr) (fun _ s10 _=>l.length-(intOf s10).toNat)
   case atStart=>exact⟨a,0,rfl,rfl,Y.out,rfl⟩
   case round=>
    obtain⟨i,n,rfl,rfl,y,C⟩:=hrel;have C:=C.symm;subst C;have an:=IL y;have s:Hid (lO b l a i n out):=y;clear y;by_cases k0:i<l.length;case neg=>
     have Z:¬(i:Int)<(l.length:Int):=by omega
     go_wp2
     go_meet
     case rel=>exact⟨i,n,rfl,rfl,s.out,.inl (by omega),rfl⟩
    have Z:(i:Int)<(l.length:Int):=by omega
    by_cases L:48<=l[i].toNat;case neg=>
     have aw:¬(48:Int)<=(l[i].toNat:Int):=by omega
     have HK:Hid (¬(48<=l[i].toNat/\l[i].toNat<=57)):=fun h=>L h.1;clear L;go_wp2
     go_meet
     case rel=>exact⟨i,n,rfl,rfl,s.out,.inr (.inl ⟨k0,HK.out⟩),rfl⟩
    have aw:(48:Int)<=(l[i].toNat:Int):=by omega
    by_cases k2:l[i].toNat<=57;case neg=>
     have aa:¬(l[i].toNat:Int)<=57:=by omega
     have HK:Hid (¬(48<=l[i].toNat/\l[i].toNat<=57)):=fun h=>k2 h.2;clear L k2;go_wp2
     go_meet
     case rel=>exact⟨i,n,rfl,rfl,s.out,.inr (.inl ⟨k0,HK.out⟩),rfl⟩
    have aa:(l[i].toNat:Int)<=57:=by omega
    by_cases k3:n<=b;case neg=>
     have ax:¬(n:Int)<=(b:Int):=by omega
     clear L k2;go_wp2
     go_meet
     case rel=>exact⟨i,n,rfl,rfl,s.out,.inr (.inr (by omega)),rfl⟩
    have ax:(n:Int)<=(b:Int):=by omega
    have ab:Hid (lO b l a (i+1) (10*n+(l[i].toNat-48)) out):=YO s.out k0 ⟨L,k2⟩ k3 H0.out;have m1:wrap64 ((l[i].toNat:Int)-48)=(l[i].toNat:Int)-48:=by unfold wrap64;omega
    have m0:IntKind.u8.wrap ((l[i].toNat:Int)-48)=(l[i].toNat:Int)-48:=by simp[IntKind.wrap,IntKind.bits,IntKind.signed];omega
    go_wp2;go_roundw;case rel=>exact⟨i+1,10*n+(l[i].toNat-48),aY (by simp;omega),aY (by simp),ab.out,by first|rfl|trivial⟩
    case measure=>simp[intOf];omega
  case rest=>
   obtain⟨i,n,rfl,rfl,y,m,o⟩:=hcut;have o:=o.symm;subst o;have aH:=y.1;have ah:=y.2.1;have an:=IL y;have s:Hid (lO b l a i n out):=y;clear y al am h10;by_cases M:b<n
   ·have ad:(b:Int)<(n:Int):=by omega
    obtain⟨aB,ao,W⟩:=YP s.out M;have ae:Hid (oE b l i (out++[[33]])):=⟨ah,ao⟩;have af:Hid (∀h:i-1<l.length,¬l[i-1].toNat=10):=W;have BE:Hid (∀w,Calls prog 198 #[.string ⟨l.toArray⟩,.int .i64 ((i:Int)-1)] w fun e' T=>(∃r:Nat,e'= .returned (.int .i64 r)/\pB l (i-1) r)/\T=w):=fun w=>by
     have:=BH.out (i-1) (by omega) w
     rwa [show((i-1:Nat):Int)=(i:Int)-1 by omega]at this
    clear m ao W H;go_wp2_with(first
     |(at_builtin;refine wpList_append_own _ rfl _ _ 42 rfl w.heap.size 9 i0 (.string ByteArray.empty) 1 16 underlying42 hi I J A rfl (by decide) _ _ _ rfl (B.out.alloc _) ⟨wr.heap.size,0,none⟩ 1 1 [.string ⟨([33]:List UInt8).toArray⟩] rfl rfl (cell_one_new _ _ _) (fun x m=>by simp at m;subst m;rfl) (by unfold maxLen;omega) (by omega) (by have:=k.out.size;simp;omega) ?_;intro v' D c d f;have t:Hid (D.ownsRow w.heap.size 9 1 v' (out++[([33]:List UInt8)]).length ((out++[([33]:List UInt8)]).map aU)):=(by show World.ownsRow _ _ _ _ _ _ _;rw[iN,dL];exact c);have u:Hid (Below w.heap.size w D):=(k.out.alloc k.out.size _).grown d (by have:=k.out.size;simp;omega) (fun q Q=>by have:=B.out.lt q Q;omega);clear c d f)
     |fail)
    refine(BE.out _).mono ?_;rintro e' w6⟨⟨r,rfl,R⟩,p⟩;have p:=p.symm;subst p;have O:=show Hid _ from AB (by omega) ah af.out R;have ai:i<=r:=by
     rcases O.out with⟨e1,h1⟩|⟨j,_,e1,_,h1⟩
     ·have:=h1.1;omega
     ·have:=h1.1;omega
    have g:=show Hid _ from zZ ae.out O.out;clear R;go_wp2;go_roundw;case rel=>exact⟨r,out++[[33]],rfl,g.out,by simp;omega,t.out,u.out⟩
    case measure=>simp[intOf];omega
   have ad:¬(b:Int)<(n:Int):=by omega
   have E:a<i:=by
    by_cases q:a=i
    ·subst q;rcases m with h|⟨_,h⟩|h
     ·omega
     ·exact absurd ⟨by omega,by omega⟩ h
     ·omega
    ·omega
   by_cases ke:i=l.length
   ·have ag:((i:Int)==(l.length:Int))=true:=dZ.2 (by omega);have K:Hid (N=(out,i-a)):=by show _=_;rw[<-HN.out];exact YQ s.out M E ke
    clear m ke H;go_wp2;go_ret2;exact⟨u6,by rw[K.out];exact aQ (fun z=>Ending.returned (Value.tuple #[u6,.int .i64 z])) (by show _=((i-a:Nat):Int);omega),by rw[K.out];exact B.out,k.out⟩
   have ag:((i:Int)==(l.length:Int))=false:=bG.2 (by omega);have F:i<l.length:=by omega
   have S:¬(48<=l[i].toNat/\l[i].toNat<=57):=by
    rcases m with h|⟨_,h⟩|h
    ·omega
    ·exact h
    ·omega
   clear m ke;by_cases G:l[i].toNat=32;case neg=>
    have ap:((l[i].toNat:Int) !=32)=true:=by simp;omega
    have ay:=show Hid _ from YR s.out M E F S G;have BE:=show Hid _ from BH.out i ah;clear H G S;go_wp2_with(first
     |(at_builtin;refine wpList_append_own _ rfl _ _ 42 rfl w.heap.size 9 i0 (.string ByteArray.empty) 1 16 underlying42 hi I J A rfl (by decide) _ _ _ rfl (B.out.alloc _) ⟨wr.heap.size,0,none⟩ 1 1 [.string ⟨([33]:List UInt8).toArray⟩] rfl rfl (cell_one_new _ _ _) (fun x m=>by simp at m;subst m;rfl) (by unfold maxLen;omega) (by omega) (by have:=k.out.size;simp;omega) ?_;intro v' D c d f;have t:Hid (D.ownsRow w.heap.size 9 1 v' (out++[([33]:List UInt8)]).length ((out++[([33]:List UInt8)]).map aU)):=(by show World.ownsRow _ _ _ _ _ _ _;rw[iN,dL];exact c);have u:Hid (Below w.heap.size w D):=(k.out.alloc k.out.size _).grown d (by have:=k.out.size;simp;omega) (fun q Q=>by have:=B.out.lt q Q;omega);clear c d f)
     |fail)
    refine(BE.out _).mono ?_;rintro e' w6⟨⟨r,rfl,R⟩,p⟩;have p:=p.symm;subst p;have ai:i<=r:=by
     rcases R with⟨e1,h1⟩|⟨j,_,e1,_,h1⟩
     ·have:=h1.1;omega
     ·have:=h1.1;omega
    have g:=show Hid _ from YX F ay.out R;clear R;go_wp2;go_roundw;case rel=>exact⟨r,out++[[33]],rfl,g.out,by simp;omega,t.out,u.out⟩
    case measure=>simp[intOf];omega
   have ap:((l[i].toNat:Int) !=32)=false:=by simp;omega
   by_cases kf:l.length<i+1+n
   ·have az:(l.length:Int)<(i:Int)+1+(n:Int):=by omega
    have K:Hid (N=(out,l.length-a)):=by show _=_;rw[<-HN.out];exact YS s.out M E F G kf
    clear H G S;go_wp2;go_ret2;exact⟨u6,by rw[K.out];exact aQ (fun z=>Ending.returned (Value.tuple #[u6,.int .i64 z])) (by show _=((l.length-a:Nat):Int);omega),by rw[K.out];exact B.out,k.out⟩
   have az:¬(l.length:Int)<(i:Int)+1+(n:Int):=by omega
   have g:=show Hid _ from YT s.out M E F G (by omega);have aI:=(sS s.out M E).1;obtain⟨X,hX⟩:∃X,(l.drop (i+1)).take n=X:=⟨_,rfl⟩;have av:X.length=n:=by rw[<-hX,eJ,bC];omega
   rw[hX]at g;have e0:(i:Int)+1<=(i:Int)+1+(n:Int):=by omega
   have e1:(i:Int)+1+(n:Int)<=(l.length:Int):=by omega
   have e2:((i:Int)+1).toNat=i+1:=by omega
   have e3:((i:Int)+1+(n:Int)).toNat=i+1+n:=by omega
   have aJ:(l.drop (i+1)).take (i+1+n-(i+1))=X:=by rw[show i+1+n-(i+1)=n by omega];exact hX
   have r1:¬9223372036854775807<1+X.length:=by omega
   clear H G S;go_wp2_with(first
    |(at_builtin;refine wpList_append_own _ rfl _ _ 42 rfl w.heap.size 9 i0 (.string ByteArray.empty) 1 16 underlying42 hi I J A rfl (by decide) _ _ _ rfl (B.out.alloc _) ⟨wr.heap.size,0,none⟩ 1 1 [.string ⟨(61::X).toArray⟩] rfl rfl (cell_one_new _ _ _) (fun x m=>by simp at m;subst m;rfl) (by unfold maxLen;omega) (by omega) (by have:=k.out.size;simp;omega) ?_;intro v' D c d f;have t:Hid (D.ownsRow w.heap.size 9 1 v' (out++[(61::X)]).length ((out++[(61::X)]).map aU)):=(by show World.ownsRow _ _ _ _ _ _ _;rw[iN,dL];exact c);have u:Hid (Below w.heap.size w D):=(k.out.alloc k.out.size _).grown d (by have:=k.out.size;simp;omega) (fun q Q=>by have:=B.out.lt q Q;omega);clear c d f)
    |fail)
   go_roundw;case rel=>exact⟨i+1+n,out++[61::X],aY (by omega),g.out,by simp;omega,t.out,u.out⟩
   case measure=>simp[intOf];omega
end Go.Proofs.Z
namespace Go.Hm
theorem AH(b:Nat)(A s:List UInt8):(eC b (A++s)).1.drop (eC b A).1.length=(((aE.fresh b).feed A).1.feed s).2/\(eC b A).1.length<=(eC b (A++s)).1.length/\(eC b (A++s)).2=(((aE.fresh b).feed A).1.feed s).1.head+(((aE.fresh b).feed A).1.feed s).1.own.length:=by
 unfold eC;rw[aE.feed_append];dsimp only;refine⟨by simp,by simp,rfl⟩
theorem wG(b:Nat):∀(l:List UInt8)(f:aE),(f.feed l).2.length<=l.length
 |[],f=>by simp[aE.feed]
 |c::t,f=>by
  have:=wG b t (f.take c).1;rw[aE.feed_cons];dsimp only;split <;> simp <;> omega
end Go.Hm
namespace Go.Proofs.Z
open Hm Hw Tryz Go.RowKit Go.Sort
attribute [local go_sem high] IT
attribute [local go_sem] dY fR fS
def iF(b:Nat)(A:List UInt8)(T:Nat):Array Value:=#[.int .i64 b,.string ⟨A.toArray⟩,.int .i64 T]
theorem ZE(n:Int)(h:n<1∨200<n)(w:World):Calls prog 106 #[.int .i64 n] w fun e a=>e= .returned (.tuple #[.pointer none,.int .i64 10])/\a=w:=by
 by_cases h1:n<1
 ·clear h;go_enter func106,ntmps106;go_wp2;go_ret2;exact⟨rfl,rfl⟩
 ·have h2:200<n:=by omega
  clear h;go_enter func106,ntmps106;go_wp2;go_ret2;exact⟨rfl,rfl⟩
theorem ZF(n:Nat)(h1:1<=n)(h2:n<=200)(w:World):Calls prog 106 #[.int .i64 n] w fun e a=>e= .returned (.tuple #[.pointer (some ⟨w.heap.size,0,none⟩),.int .i64 0])/\a.heap[w.heap.size]?=some (.cells (iF n [] 0) 216 (0,0))/\Below w.heap.size w a:=by
 have i1:¬(n:Int)<1:=by omega
 have i2:¬200<(n:Int):=by omega
 go_enter func106,ntmps106;go_wp2;go_ret2;exact⟨rfl,heap_alloc_new _ _,(aF _ _).alloc (aC _) _⟩
def gK(q b:Nat)(B:List UInt8):Nat->Value
 |0=> .pointer (some ⟨q,0,none⟩)
 |1=> .pointer (some ⟨q,0,none⟩)
 |2=> .pointer (some ⟨q,1,none⟩)
 |3=> .string ⟨B.toArray⟩
 |4=> .pointer (some ⟨q,0,none⟩)
 |5=> .pointer (some ⟨q,0,none⟩)
 |6=> .pointer (some ⟨q,0,none⟩)
 | _=> .int .i64 b
def jU(v:Value)(left:Nat):Nat->Value
 |8=> .tuple #[v,.int .i64 left]
 |9=> .tuple #[v,.int .i64 left]
 |10=>v
 |12=>v
 | _=> .int .i64 left
structure mK(q b:Nat)(B:List UInt8)(out:List (List UInt8))(left:Nat)(W:World)(L:Array Bool)(X:Nat->Value)(w':World):Prop where
 f:∀i,i<8->L.getD i false=true->X i=gK q b B i
 no:L.getD 8 true=false->w'=W
 ord:∀i,8<i->L.getD i false=true->L.getD 8 false=true
 bel:Below W.heap.size W w'
 yes:L.getD 8 false=true->∃v,(∀i,8<=i->L.getD i false=true->X i=jU v left i)/\w'.ownsRow W.heap.size 9 1 v out.length (out.map aU)/\Below W.heap.size W w'
theorem dR{L:Array Bool}{i j:Nat}(h:j≠i):(L.setIfInBounds i true).getD j false=L.getD j false:=by
 simp[Array.getD_eq_getD_getElem?,Ne.symm h]
theorem IZ{L:Array Bool}{i j:Nat}(h:j≠i):(L.setIfInBounds i true).getD j true=L.getD j true:=by
 simp[Array.getD_eq_getD_getElem?,Ne.symm h]
theorem ZG{L:Array Bool}{i:Nat}:(L.setIfInBounds i true).getD i true=true:=by
 simp only[rS,Array.getElem?_setIfInBounds,if_true];split <;> rfl
theorem AI{L:Array Bool}{i:Nat}(h:L.getD i true=false):L.getD i false=false:=by
 simp only[rS]at h⊢;cases a:L[i]? with
 |none=>rw[a]at h;cases h
 |some x=>rw[a]at h;exact h
theorem mK.start{q b:Nat}{B:List UInt8}{out:List (List UInt8)}{left n:Nat}{W:World}{X:Nat->Value}:mK q b B out left W (Array.replicate n false) X W:=
 ⟨fun _ _ e=>(wF e).elim,fun _=>rfl,fun _ _ e=>(wF e).elim,aF _ _,fun e=>(wF e).elim⟩
theorem mK.step{q b:Nat}{B:List UInt8}{out:List (List UInt8)}{left:Nat}{W c:World}{L:Array Bool}{X:Nat->Value}(h:mK q b B out left W L X c)(i:Nat)(hi:i<8){y:Value}(d:y=gK q b B i):mK q b B out left W (L.setIfInBounds i true) (cC X i y) c where
 f j a e:=by
  unfold cC;split
  ·next a=>rw[a];exact d
  ·next hne=>exact h.f j a (by rwa [dR hne]at e)
 no e:=h.no (by rwa [IZ (by omega)]at e)
 ord j a e:=by rw[dR (by omega)]at e⊢;exact h.ord j a e
 bel:=h.bel
 yes e:=by
  rw[dR (by omega)]at e;obtain⟨v,h1,h2⟩:=h.yes e;refine⟨v,fun j a e=>?_,h2⟩;rw[dR (by omega)]at e;unfold cC;rw[aB (by omega)];exact h1 j a e
theorem mK.call{q b:Nat}{B:List UInt8}{out:List (List UInt8)}{left:Nat}{W i:World}{L:Array Bool}{X:Nat->Value}(h:mK q b B out left W L X i)(c:L.getD 8 true=false){v:Value}{d:World}(k:d.ownsRow W.heap.size 9 1 v out.length (out.map aU))(g:Below W.heap.size W d):mK q b B out left W (L.setIfInBounds 8 true) (cC X 8 (.tuple #[v,.int .i64 left])) d where
 f j a e:=by
  unfold cC;rw[aB (by omega)];exact h.f j a (by rwa [dR (by omega)]at e)
 no e:=by rw[ZG]at e;cases e
 ord j a e:=by
  rw[dR (by omega)]at e;have:=h.ord j a e;rw[AI c]at this;cases this
 bel:=g
 yes _:=⟨v,(fun j a e=>by
  unfold cC;split
  ·next a=>rw[a];rfl
  ·next hne=>
   rw[dR hne]at e;have:=h.ord j (by omega) e;rw[AI c]at this;cases this),k,g⟩
theorem mK.tail{q b:Nat}{B:List UInt8}{out:List (List UInt8)}{left:Nat}{W c:World}{L:Array Bool}{X:Nat->Value}(h:mK q b B out left W L X c)(i:Nat)(hi:8<i)(h8:L.getD 8 false=true){v y:Value}(g:∀i,8<=i->L.getD i false=true->X i=jU v left i)(k:c.ownsRow W.heap.size 9 1 v out.length (out.map aU))(d:Below W.heap.size W c)(l:y=jU v left i):mK q b B out left W (L.setIfInBounds i true) (cC X i y) c where
 f j a e:=by
  unfold cC;rw[aB (by omega)];exact h.f j a (by rwa [dR (by omega)]at e)
 no e:=by
  rw[IZ (by omega)]at e;rw[AI e]at h8;cases h8
 ord j a e:=by rw[dR (by omega)];exact h8
 bel:=d
 yes _:=⟨v,(fun j a e=>by
  unfold cC;split
  ·next a=>rw[a];exact l
  ·next hne=>rw[dR hne]at e;exact g j a e),k,d⟩
set_option maxRecDepth 20000 in
set_option maxHeartbeats 4000000 in
theorem JA(q b:Nat)(A s:List UInt8)(hb:1<=b)(Q:b<=200)(hl:(A++s).length<=4000000000)(w:World)(D:w.heap[q]?=some (.cells (iF b A (eC b A).1.length) 216 (0,0))):
  Calls prog 115 #[.pointer (some ⟨q,0,none⟩),.string ⟨s.toArray⟩] w fun e x=>∃v:Value,e= .returned (.tuple #[v,.int .i64 (eC b (A++s)).2])/\
   eQ x w.heap.size 9 v (((eC b (A++s)).1.drop (eC b A).1.length).map aU)/\
   x.heap[q]?=some (.cells (iF b (A++s) (eC b (A++s)).1.length) 216 (0,0))/\aN (fun k=>k=q) w x:=by
 have R:Hid (∀w,Calls prog 165 #[.string ⟨(A++s).toArray⟩,.int .i64 b] w fun e x=>∃v:Value,e= .returned (.tuple #[v,.int .i64 (eC b (A++s)).2])/\x.ownsRow w.heap.size 9 1 v (eC b (A++s)).1.length ((eC b (A++s)).1.map aU)/\Below w.heap.size w x):=fun w=>YZ (A++s) hl b hb Q w;have O:=(AH b A s).2.1;generalize eC b (A++s)=N at R O⊢;generalize(eC b A).1.length=T at D O⊢;obtain⟨out,left⟩:=N;dsimp only at R O⊢;have HQ:=show Hid _ from D;have S:=(aM.1 D).1;unfold iF at D;have c1:w.cell? ⟨q,1,none⟩=some (.string ⟨A.toArray⟩):=aS _ _ _ _ _ _ D;have r1:¬9223372036854775807<A.length+s.length:=by rw[dL]at hl;omega
 clear D;go_enter func115,ntmps115;go_wp2_with(first
  |(refine bK rfl _ _ _ rfl rfl q 1 _ rfl rfl _ _ (iF b (A++s) T) HQ.out fZ (by simp[iF]) rfl rfl ?_;intro y p2;have E:=aA p2;clear p2)
  |fail)
 have l:=E.out.row;unfold iF at l;have d0:y.cell? ⟨q,0,none⟩=some (.int .i64 b):=aS _ _ _ _ _ _ l;have d1:y.cell? ⟨q,1,none⟩=some (.string ⟨(A++s).toArray⟩):=aS _ _ _ _ _ _ l;clear l c1;have u:q<y.drew.heap.size:=by show q<y.heap.size;rw[E.out.size];exact S
 refine IX [(19,0),(20,1),(21,2),(22,3),(23,4),(24,5),(25,6),(26,7),(27,8),(18,9),(28,10),(29,11),(6,12),(7,13)] (fun _=>undef) (mK q b (A++s) out left y.drew) gT (by kernel_rfl) (by simp only[eD,eO,eR,eM]) mK.start ?_ ?_
 ·rintro t X x i F hi a G;have ah:i<14:=hi;have d:=aA F;clear F hi;rcases(by omega:i=0∨i=1∨i=2∨i=3∨i=4∨i=5∨i=6∨i=7∨i=8∨i=9∨i=10∨i=11∨i=12∨i=13)with h|h|h|h|h|h|h|h|h|h|h|h|h|h <;> subst h
  ·clear a;simp only[eD,eO,eR,eM];refine wpOp_step rfl (fun K o=>?_);go_simp;exact o _ _ ⟨cC X 0 (gK q b (A++s) 0),by simp[cC,gK],d.out.step 0 (by decide) rfl⟩
  ·have c:=a _ rfl;have U:=d.out.f 0 (by decide) (c ⟨0,.data⟩ (by simp) rfl);simp only[gK]at U;clear a c;simp only[eD,eO,eR,eM];refine wpOp_step rfl (fun K o=>?_);try simp only[U]
   go_wp2_with fail;exact⟨cC X 1 (gK q b (A++s) 1),by simp[cC,gK,U],d.out.step 1 (by decide) rfl⟩
  ·have c:=a _ rfl;have V:=d.out.f 1 (by decide) (c ⟨1,.data⟩ (by simp) rfl);simp only[gK]at V;clear a c;simp only[eD,eO,eR,eM];refine wpOp_step rfl (fun K o=>?_);try simp only[V]
   go_wp2_with fail;exact⟨cC X 2 (gK q b (A++s) 2),by simp[cC,gK,V],d.out.step 2 (by decide) rfl⟩
  ·have c:=a _ rfl;have W:=d.out.f 2 (by decide) (c ⟨2,.data⟩ (by simp) rfl);simp only[gK]at W;clear a c;simp only[eD,eO,eR,eM];refine wpOp_step rfl (fun K o=>?_);try simp only[W]
   have Y:x.cell? ⟨q,1,none⟩=some (.string ⟨(A++s).toArray⟩):=(d.out.bel.cell (p:=⟨q,1,none⟩) u).trans d1;go_wp2_with fail;exact⟨cC X 3 (gK q b (A++s) 3),by simp[cC,gK,W],d.out.step 3 (by decide) rfl⟩
  ·clear a;simp only[eD,eO,eR,eM];refine wpOp_step rfl (fun K o=>?_);go_simp;exact o _ _ ⟨cC X 4 (gK q b (A++s) 4),by simp[cC,gK],d.out.step 4 (by decide) rfl⟩
  ·have c:=a _ rfl;have Z:=d.out.f 4 (by decide) (c ⟨4,.data⟩ (by simp) rfl);simp only[gK]at Z;clear a c;simp only[eD,eO,eR,eM];refine wpOp_step rfl (fun K o=>?_);try simp only[Z]
   go_wp2_with fail;exact⟨cC X 5 (gK q b (A++s) 5),by simp[cC,gK,Z],d.out.step 5 (by decide) rfl⟩
  ·have c:=a _ rfl;have e5:=d.out.f 5 (by decide) (c ⟨5,.data⟩ (by simp) rfl);simp only[gK]at e5;clear a c;simp only[eD,eO,eR,eM];refine wpOp_step rfl (fun K o=>?_);try simp only[e5]
   go_wp2_with fail;exact⟨cC X 6 (gK q b (A++s) 6),by simp[cC,gK,e5],d.out.step 6 (by decide) rfl⟩
  ·have c:=a _ rfl;have e6:=d.out.f 6 (by decide) (c ⟨6,.data⟩ (by simp) rfl);simp only[gK]at e6;clear a c;simp only[eD,eO,eR,eM];refine wpOp_step rfl (fun K o=>?_);try simp only[e6]
   have Y:x.cell? ⟨q,0,none⟩=some (.int .i64 b):=(d.out.bel.cell (p:=⟨q,0,none⟩) u).trans d0;go_wp2_with fail;exact⟨cC X 7 (gK q b (A++s) 7),by simp[cC,gK,e6],d.out.step 7 (by decide) rfl⟩
  ·have c:=a _ rfl;have e3:=d.out.f 3 (by decide) (c ⟨3,.data⟩ (by simp) rfl);simp only[gK]at e3;have e7:=d.out.f 7 (by decide) (c ⟨7,.data⟩ (by simp) rfl);simp only[gK]at e7;clear a c;have aa:=d.out.no G;simp only[eD,eO,eR,eM];refine wpOp_step rfl (fun K o=>?_);try simp only[e3]
   try simp only[e7]
   subst aa;go_wp2_with fail;refine(R.out _).mono ?_;rintro e P⟨v,rfl,g,j⟩;go_wp2_with fail;exact⟨cC X 8 (.tuple #[v,.int .i64 left]),by simp[cC,e3,e7],d.out.call G g j⟩
  ·have c:=a _ rfl;have l8:t.getD 8 false=true:=c ⟨8,.data⟩ (by simp) rfl;clear a c;have h8:t.getD 8 false=true:=l8;obtain⟨v,n,g,j⟩:=d.out.yes h8;have e8:=n 8 (by decide) l8;simp only[jU]at e8;simp only[eD,eO,eR,eM];refine wpOp_step rfl (fun K o=>?_);try simp only[e8]
   go_wp2_with fail;exact⟨cC X 9 (jU v left 9),by simp[cC,jU,e8],d.out.tail 9 (by decide) h8 n g j rfl⟩
  ·have c:=a _ rfl;have H:t.getD 9 false=true:=c ⟨9,.data⟩ (by simp) rfl;clear a c;have h8:t.getD 8 false=true:=d.out.ord 9 (by decide) H;obtain⟨v,n,g,j⟩:=d.out.yes h8;have z:=n 9 (by decide) H;simp only[jU]at z;simp only[eD,eO,eR,eM];refine wpOp_step rfl (fun K o=>?_);try simp only[z]
   go_wp2_with fail;exact⟨cC X 10 (jU v left 10),by simp[cC,jU,z],d.out.tail 10 (by decide) h8 n g j rfl⟩
  ·have c:=a _ rfl;have H:t.getD 9 false=true:=c ⟨9,.data⟩ (by simp) rfl;clear a c;have h8:t.getD 8 false=true:=d.out.ord 9 (by decide) H;obtain⟨v,n,g,j⟩:=d.out.yes h8;have z:=n 9 (by decide) H;simp only[jU]at z;simp only[eD,eO,eR,eM];refine wpOp_step rfl (fun K o=>?_);try simp only[z]
   go_wp2_with fail;exact⟨cC X 11 (jU v left 11),by simp[cC,jU,z],d.out.tail 11 (by decide) h8 n g j rfl⟩
  ·have c:=a _ rfl;have I:t.getD 10 false=true:=c ⟨10,.data⟩ (by simp) rfl;clear a c;have h8:t.getD 8 false=true:=d.out.ord 10 (by decide) I;obtain⟨v,n,g,j⟩:=d.out.yes h8;have B:=n 10 (by decide) I;simp only[jU]at B;simp only[eD,eO,eR,eM];refine wpOp_step rfl (fun K o=>?_);try simp only[B]
   go_wp2_with fail;exact⟨cC X 12 (jU v left 12),by simp[cC,jU,B],d.out.tail 12 (by decide) h8 n g j rfl⟩
  ·have c:=a _ rfl;have J:t.getD 11 false=true:=c ⟨11,.data⟩ (by simp) rfl;clear a c;have h8:t.getD 8 false=true:=d.out.ord 11 (by decide) J;obtain⟨v,n,g,j⟩:=d.out.yes h8;have C:=n 11 (by decide) J;simp only[jU]at C;simp only[eD,eO,eR,eM];refine wpOp_step rfl (fun K o=>?_);try simp only[C]
   go_wp2_with fail;exact⟨cC X 13 (jU v left 13),by simp[cC,jU,C],d.out.tail 13 (by decide) h8 n g j rfl⟩
 ·intro t X P F r;obtain⟨v,n,g,j⟩:=F.yes (r 8 (by decide));have L:=n 12 (by decide) (r 12 (by decide));have M:=n 13 (by decide) (r 13 (by decide));simp only[jU]at L M;obtain⟨ad,ab,rfl⟩:=gJ g;have ac:=show Hid _ from g;have ae:=show Hid _ from j;have m:=(j.block q u).trans E.out.row;have af:=show Hid _ from m;unfold iF at m;have f2:P.cell? ⟨q,2,none⟩=some (.int .i64 T):=aS _ _ _ _ _ _ m;have t0:(0:Int)<=(T:Int):=by omega
  have t1:(T:Int)<=(out.length:Int):=by omega
  clear F r n g j m;simp only[eD,eO,eR,eM,L,M];go_wp2_with(first
   |(refine bK rfl _ _ _ rfl rfl q 2 _ rfl rfl _ _ (iF b (A++s) out.length) af.out jC (by simp[iF]) rfl rfl ?_;intro w6 p6;have P6:=aA p6;clear p6)
   |fail)
  have ag:y.drew.heap.size=w.heap.size:=E.out.size;have o:aN (fun k=>k=q) w w6:=(E.out.kept.next ((aF y.heap.size y).drew.trans ae.out)).trans P6.out.kept (fun _ _ h=>h);have hO:eQ P w.heap.size 9 (sT ad T out.length ab) ((out.drop T).map aU):=by
   have h:=qC ac.out;rw[ag]at h;have h2:=IR h (lo:=T) (hi:=out.length) O (by simp);have e:(((out.map aU).drop T).take (out.length-T))=(out.drop T).map aU:=by
    rw[<-List.map_drop];exact fV (by simp)
   rw[e]at h2;exact h2
  go_ret2;refine⟨_,rfl,qD hO P6.out.kept (fun k e hk=>?_),P6.out.row,o⟩;have:=(jF hO e).1;omega
end Go.Proofs.Z
namespace Go.Hm
def gL(c:UInt8)(l:List UInt8):Int:=if(bE c l).2.2=true then((bE c l).1.length:Int)else -1
theorem ZH{c:UInt8}{l:List UInt8}{i:Nat}(hi:i<l.length)(h:l[i]=c)(a:c∉l.take i):gL c l=i:=by
 have e:l=l.take i++c::l.drop (i+1):=by
  rw[<-h,<-eE hi];exact(qS i l).symm
 have b:bE c l=(l.take i,l.drop (i+1),true):=by
  conv=>lhs;rw[e]
  exact vK c _ _ a
 unfold gL;rw[b,aD rfl];simp;omega
theorem ZI{c:UInt8}{l:List UInt8}(a:c∉l):gL c l= -1:=by
 unfold gL;rw[yQ c l a,aB (by simp)]
theorem pC{c:UInt8}{l:List UInt8}:(gL c l= -1/\bE c l=(l,[],false))∨∃i:Nat,gL c l=i/\i<l.length/\bE c l=(l.take i,l.drop (i+1),true):=by
 cases h:(bE c l).2.2 with
 |false=>exact .inl ⟨by unfold gL;rw[h,aB (by simp)],rZ c l h⟩
 |true=>
  refine .inr ⟨(bE c l).1.length,by unfold gL;rw[aD h],?_,?_⟩
  ·have:=aQ List.length (nB c l h);simp at this;omega
  ·have e:=nB c l h;generalize bE c l=X at h e;obtain⟨a,b,f⟩:=X;dsimp only at h e;subst h;rw[e];simp
theorem JB{l:List UInt8}{a:List (List UInt8)}{k:Nat}{x:List UInt8}(h:a[k]?=some x):bF l (a.drop k) k=if x=l then k+1 else bF l (a.drop (k+1)) (k+1):=by
 obtain⟨b,c⟩:=iY.1 h;rw[eE b,bF,c]
end Go.Hm
namespace Go.Proofs.Z
open Hm Tryz Go.RowKit Go.Sort
attribute [local go_sem] dY fR fS
theorem wH(l:List UInt8)(s:l.length<=1000000000000000)(c:UInt8)(w:World):Calls prog 151 #[.string ⟨l.toArray⟩,.int .u8 c.toNat] w fun e q=>e= .returned (.int .i64 (gL c l))/\q=w:=by
 obtain⟨R,j⟩:∃R,gL c l=R:=⟨_,rfl⟩;rw[j];have p:=show Hid _ from j;clear j;go_enter func151,ntmps151;go_wp2;go_loopw [5] (fun s5 wr=>∃i:Nat,s5= .int .i64 i/\i<=l.length/\c∉l.take i/\wr=w) (fun s5 _=>l.length-(intOf s5).toNat)
 case atStart=>exact⟨0,rfl,dM _,by simp,rfl⟩
 case round=>
  obtain⟨i,rfl,r,g,a⟩:=hrel;have a:=a.symm;subst a;have b:=show Hid _ from g;clear g;by_cases h:i<l.length;case neg=>
   have k:¬(i:Int)<(l.length:Int):=by omega
   have m:Hid (R= -1):=by
    show _=_;rw[<-p.out];have:=b.out;rw[fV (by omega)]at this;exact ZI this
   go_wp2;go_ret;exact⟨by rw[m.out];rfl,rfl⟩
  have k:(i:Int)<(l.length:Int):=by omega
  by_cases d:l[i]=c
  ·have n:((l[i].toNat:Int)==(c.toNat:Int))=true:=by rw[d];simp
   have m:Hid (R=i):=by show _=_;rw[<-p.out];exact ZH h d b.out
   clear d;go_wp2;go_ret;exact⟨by rw[m.out];rfl,rfl⟩
  ·have n:((l[i].toNat:Int)==(c.toNat:Int))=false:=bG.2 (fun e=>d (eY.1 (by omega)));have o:Hid (c∉l.take (i+1)):=by
    show¬_;rw[pS,dP h];intro f;rcases jM.1 f with f|f
    ·exact b.out f
    ·simp at f;exact d f.symm
   clear d;go_wp2;go_roundw;case rel=>exact⟨i+1,aY (by simp),by omega,o.out,by first|rfl|trivial⟩
   case measure=>simp[intOf];omega
theorem JC{w:World}{g:Nat}{a:List (List UInt8)}{t:TypeId}{fr:Nat×Nat}(h:w.heap[g]?=some (.cells (a.map aU).toArray t fr))(k:Nat)(x:List UInt8)(b:a[k]?=some x):w.cell? ⟨g,k,none⟩=some (.string ⟨x.toArray⟩):=by
 simp[World.cell?,h,b,aU]
set_option maxRecDepth 20000 in
set_option maxHeartbeats 2000000 in
theorem JD(l:List UInt8)(w:World):Calls prog 189 #[.string ⟨l.toArray⟩] w fun e t=>e= .returned (.int .i64 ((bF l cL 0:Nat)-1:Int))/\Below w.heap.size w t:=by
 obtain⟨R,i⟩:∃R,bF l cL 0=R:=⟨_,rfl⟩;rw[i];have u:=show Hid _ from i;clear i;have b:cL.length=8:=by rfl
 go_enter func189,ntmps189;go_wp2;have a:Hid ((w.alloc (.cells (cL.map aU).toArray 9)).heap[w.heap.size]?=some (.cells (cL.map aU).toArray 9 (0,0))):=heap_alloc_new _ _;have c:Hid (Below w.heap.size w (w.alloc (.cells (cL.map aU).toArray 9))):=(aF _ _).alloc (aC _) _;obtain⟨W,j⟩:∃W,w.alloc (.cells (cL.map aU).toArray 9)=W:=⟨_,rfl⟩;rw[j]at a c;have m:Hid (∀k x,cL[k]?=some x->W.cell? ⟨w.heap.size,k,none⟩=some (.string ⟨x.toArray⟩)):=fun k x h=>JC a.out k x h;go_loopw [4] (fun s4 wr=>∃k:Nat,s4= .int .i64 k/\k<=8/\R=bF l (cL.drop k) k/\wr=W) (fun s4 _=>8-(intOf s4).toNat)
 case atStart=>exact⟨0,rfl,dM _,u.out.symm,j⟩
 case round=>
  obtain⟨k,rfl,A,q,d⟩:=hrel;have d:=d.symm;subst d;have r:=show Hid _ from q;clear q j a;by_cases n:k<8;case neg=>
   have o:¬(k:Int)<8:=by omega
   have f:Hid (R=0):=by
    show _=_;rw[r.out,List.drop_eq_nil_of_le (by rw[b];omega)];rfl
   go_wp2;go_ret;exact⟨by rw[f.out];rfl,c.out⟩
  have o:(k:Int)<8:=by omega
  obtain⟨x,p⟩:∃x,cL[k]?=some x:=⟨_,dP (by rw[b];exact n)⟩;have v:=m.out k x p;have s:Hid (R=if x=l then k+1 else bF l (cL.drop (k+1)) (k+1)):=r.out.trans (JB p);clear p;by_cases g:x=l
  ·have f:Hid (R=k+1):=s.out.trans (aD g);subst g;go_wp2;go_ret;exact⟨by rw[f.out];exact aQ (fun z=>Ending.returned (Value.int .i64 z)) (by omega),c.out⟩
  ·have y:(x==l)=false:=bG.2 g;have f:Hid (R=bF l (cL.drop (k+1)) (k+1)):=s.out.trans (aB g);clear g;go_wp2;go_roundw;case rel=>exact⟨k+1,aY (by simp),by omega,f.out,by first|rfl|trivial⟩
   case measure=>simp[intOf];omega
set_option maxRecDepth 20000 in
set_option maxHeartbeats 2000000 in
theorem ZJ(l:List UInt8)(w:World):Calls prog 188 #[.string ⟨l.toArray⟩] w fun e u=>e= .returned (.int .i64 ((bF l cX 0:Nat)-1:Int))/\Below w.heap.size w u:=by
 obtain⟨R,j⟩:∃R,bF l cX 0=R:=⟨_,rfl⟩;rw[j];have v:=show Hid _ from j;clear j;have b:cX.length=24:=by rfl
 go_enter func188,ntmps188;go_wp2;have a:Hid ((w.alloc (.cells (cX.map aU).toArray 9)).heap[w.heap.size]?=some (.cells (cX.map aU).toArray 9 (0,0))):=heap_alloc_new _ _;have d:Hid (Below w.heap.size w (w.alloc (.cells (cX.map aU).toArray 9))):=(aF _ _).alloc (aC _) _;obtain⟨W,m⟩:∃W,w.alloc (.cells (cX.map aU).toArray 9)=W:=⟨_,rfl⟩;rw[m]at a d;have n:Hid (∀k x,cX[k]?=some x->W.cell? ⟨w.heap.size,k,none⟩=some (.string ⟨x.toArray⟩)):=fun k x h=>JC a.out k x h;go_loopw [4] (fun s4 wr=>∃k:Nat,s4= .int .i64 k/\k<=24/\R=bF l (cX.drop k) k/\wr=W) (fun s4 _=>24-(intOf s4).toNat)
 case atStart=>exact⟨0,rfl,dM _,v.out.symm,by rw[<-m];exact aQ (fun c=>w.alloc (Obj.cells c 9)) (by kernel_rfl)⟩
 case round=>
  obtain⟨k,rfl,B,r,f⟩:=hrel;have f:=f.symm;subst f;have s:=show Hid _ from r;clear r m a;by_cases o:k<24;case neg=>
   have p:¬(k:Int)<24:=by omega
   have g:Hid (R=0):=by
    show _=_;rw[s.out,List.drop_eq_nil_of_le (by rw[b];omega)];rfl
   go_wp2;go_ret;exact⟨by rw[g.out];rfl,d.out⟩
  have p:(k:Int)<24:=by omega
  obtain⟨x,q⟩:∃x,cX[k]?=some x:=⟨_,dP (by rw[b];exact o)⟩;have y:=n.out k x q;have t:Hid (R=if x=l then k+1 else bF l (cX.drop (k+1)) (k+1)):=s.out.trans (JB q);clear q;by_cases i:x=l
  ·have g:Hid (R=k+1):=t.out.trans (aD i);subst i;go_wp2;go_ret;exact⟨by rw[g.out];exact aQ (fun z=>Ending.returned (Value.int .i64 z)) (by omega),d.out⟩
  ·have A:(x==l)=false:=bG.2 i;have g:Hid (R=bF l (cX.drop (k+1)) (k+1)):=t.out.trans (aB i);clear i;go_wp2;go_roundw;case rel=>exact⟨k+1,aY (by simp),by omega,g.out,by first|rfl|trivial⟩
   case measure=>simp[intOf];omega
end Go.Proofs.Z
namespace Go.Hm
structure rD where
 facs:List Nat
 lo:Int
 hi:Int
 keep:Bool
def mU(r:cF)(q:rD):Prop:=r.keep=q.keep/\(∀f∈q.facs,f<24)/\∀f s:Nat,f<24->s<8->(r.fits f s=true↔(f∈q.facs/\q.lo<=(s:Int)/\(s:Int)<=q.hi))
def nE(F:List Nat):Nat:=F.foldl (fun b f=>b ||| 2^f) 0
theorem JE(F:List Nat)(f:Nat):nE (F++[f])=nE F ||| 2^f:=by
 unfold nE;rw[List.foldl_append];rfl
theorem JF(F:List Nat)(f:Nat):(nE F).testBit f=true↔f∈F:=by
 have a:∀(G:List Nat)(b:Nat),(G.foldl (fun b f=>b ||| 2^f) b).testBit f=true↔(b.testBit f=true∨f∈G):=by
  intro G;induction G with
  |nil=>intro b;simp
  |cons g t ih=>
   intro b;rw[List.foldl_cons,ih,Nat.testBit_or,Nat.testBit_two_pow];simp;constructor
   ·rintro((h|h)|h)
    ·exact .inl h
    ·exact .inr (.inl h.symm)
    ·exact .inr (.inr h)
   ·rintro(h|h|h)
    ·exact .inl (.inl h)
    ·exact .inl (.inr h.symm)
    ·exact .inr h
 unfold nE;rw[a];simp
theorem ZK{F:List Nat}(h:¬F=[]):¬nE F=0:=by
 intro e;match F,h with
 |f::t,_=>
  have:=(JF (f::t) f).2 (by simp);rw[e]at this;simp at this
def pD(l names:List UInt8)(F:List Nat):Prop:=(∀f∈F,f<24)/\fT (kF 44 l) 0=fT (kF 44 names) (nE F)
theorem ZL(l:List UInt8):pD l l []:=⟨by simp,rfl⟩
theorem JG(n:List UInt8):bF n cX 0<=24:=by
 have:=yR n cX 0;have h24:cX.length=24:=rfl;omega
theorem ZM{l a:List UInt8}{F:List Nat}(h:pD l a F)(b:(bE 44 a).2.2=true)(h0:bF (bE 44 a).1 cX 0=0):fT (kF 44 l) 0=0:=by
 rw[h.2,rC,aD b,fT,aD h0]
theorem ZN{l a:List UInt8}{F:List Nat}(h:pD l a F)(b:(bE 44 a).2.2=false)(h0:bF (bE 44 a).1 cX 0=0):fT (kF 44 l) 0=0:=by
 rw[h.2,rC,aB (by rw[b];decide),fT,aD h0]
theorem ZO{l a:List UInt8}{F:List Nat}(h:pD l a F)(c:(bE 44 a).2.2=true)(h0:¬bF (bE 44 a).1 cX 0=0):pD l (bE 44 a).2.1 (F++[bF (bE 44 a).1 cX 0-1]):=by
 refine⟨?_,?_⟩
 ·intro f b;rcases jM.1 b with b|b
  ·exact h.1 f b
  ·have:=JG (bE 44 a).1;simp at b;omega
 ·rw[h.2,rC,aD c,fT,aB h0,JE]
theorem ZP{l a:List UInt8}{F:List Nat}(h:pD l a F)(c:(bE 44 a).2.2=false)(h0:¬bF (bE 44 a).1 cX 0=0):(∀f∈F++[bF (bE 44 a).1 cX 0-1],f<24)/\fT (kF 44 l) 0=nE (F++[bF (bE 44 a).1 cX 0-1]):=by
 refine⟨?_,?_⟩
 ·intro f b;rcases jM.1 b with b|b
  ·exact h.1 f b
  ·have:=JG (bE 44 a).1;simp at b;omega
 ·rw[h.2,rC,aB (by rw[c];decide),fT,aB h0,JE];rfl
def rE(l:List UInt8)(F:List Nat):Prop:=(∀f∈F,f<24)/\¬jE l=0/\∀f,f<24->((jE l).testBit f=true↔f∈F)
theorem ZQ{F:List Nat}(h:F=List.range 24):rE [42] F:=by
 subst h;refine⟨by simp,by decide,?_⟩;intro f a;constructor
 ·intro _;simpa using a
 ·intro _;have:∀f,f<24->(jE [42]).testBit f=true:=by decide
  exact this f a
theorem ZR{l:List UInt8}{F:List Nat}(h42:¬l=[42])(hF:∀f∈F,f<24)(a:¬F=[])(h:fT (kF 44 l) 0=nE F):rE l F:=by
 have e:jE l=nE F:=by unfold jE;rw[aB h42];exact h
 refine⟨hF,by rw[e];exact ZK a,fun f _=>?_⟩;rw[e];exact JF F f
theorem JH{l:List UInt8}(h42:¬l=[42])(h:fT (kF 44 l) 0=0):jE l=0:=by unfold jE;rw[aB h42];exact h
def uF(g:List UInt8)(lo hi:Int):Prop:=¬gV g=0/\∀s,s<8->((gV g).testBit s=true↔(lo<=(s:Int)/\(s:Int)<=hi))
theorem ZS:uF [42] 0 7:=by
 refine⟨by decide,?_⟩;intro s a;have:∀s,s<8->(gV [42]).testBit s=true:=by decide
 exact⟨fun _=>⟨by omega,by omega⟩,fun _=>this s a⟩
theorem ZT(x:List UInt8):Lib.trimPrefix (61::x) [61]=x:=by simp[Lib.trimPrefix,Lib.hasPrefix,List.isPrefixOf]
theorem ZU(x:List UInt8):Lib.hasPrefix (61::x) [61]=true:=by simp[Lib.hasPrefix,List.isPrefixOf]
theorem JI{g:List UInt8}(h:∀x,¬g=61::x):Lib.hasPrefix g [61]=false:=by
 match g,h with
 |[],_=>rfl
 |c::t,h=>
  have:¬c=61:=fun e=>h t (by rw[e]);simp[Lib.hasPrefix,List.isPrefixOf,Ne.symm this]
theorem ZV{g:List UInt8}(h:∀x,¬g=61::x):Lib.trimPrefix g [61]=g:=by
 unfold Lib.trimPrefix;rw[JI h];rfl
theorem JJ(x:List UInt8):gV (61::x)=if bF x cL 0=0 then 0 else 2^(bF x cL 0-1):=by
 unfold gV;rw[aB (by simp),ZT,ZU];simp
theorem JK{g:List UInt8}(h42:¬g=[42])(h:∀x,¬g=61::x):gV g=if bF g cL 0=0 then 0 else 2^bF g cL 0-1:=by
 unfold gV;rw[aB h42,ZV h,JI h];simp
theorem ZW{x:List UInt8}{k:Nat}(h:bF x cL 0=k+1):uF (61::x) k k:=by
 have e:gV (61::x)=2^k:=by rw[JJ,aB (by omega),h];simp
 refine⟨by rw[e];exact Nat.ne_of_gt (Nat.pow_pos (by decide)),fun s _=>?_⟩;rw[e,Nat.testBit_two_pow];simp;omega
theorem ZX{g:List UInt8}{k:Nat}(h42:¬g=[42])(a:∀x,¬g=61::x)(h:bF g cL 0=k+1):uF g 0 k:=by
 have e:gV g=2^(k+1)-1:=by rw[JK h42 a,aB (by omega),h]
 refine⟨?_,fun s _=>?_⟩
 ·rw[e];have:2^1<=2^(k+1):=qQ (by decide) (by omega);omega
 ·rw[e,Nat.testBit_two_pow_sub_one];simp;omega
theorem ZY{l:List UInt8}(h:gL 32 l= -1):iD l=none:=by
 rcases pC (c:=32) (l:=l)with⟨_,a⟩|⟨i,hi,_⟩
 ·unfold iD gW;rw[a];apply aD;exact .inr (.inr (by dsimp only;decide))
 ·omega
theorem ZZ:gV []=0:=by decide
theorem b7{l:List UInt8}{b:Nat}(p:gL 32 l=b)(h:gL 46 l= -1∨(b:Int)<gL 46 l):iD l=none:=by
 rcases pC (c:=32) (l:=l)with⟨h1,_⟩|⟨i,hi,g,k⟩
 ·omega
 ·have m:i=b:=by omega
  subst m;have f:(46:UInt8)∉l.take i:=by
   rcases pC (c:=46) (l:=l)with⟨h1,a⟩|⟨j,q,n,a⟩
   ·have:=sA 46 l;rw[a]at this;exact fun d=>this (List.mem_of_mem_take d)
   ·have:=sA 46 l;rw[a]at this;have o:i<j:=by omega
    intro d;apply this;have e:l.take i=(l.take j).take i:=by rw[List.take_take,Nat.min_eq_left (by omega)]
    rw[e]at d;exact List.mem_of_mem_take d
  unfold iD gW;rw[k];dsimp only;rw[yQ 46 _ f];apply aD;exact .inr (.inl ZZ)
theorem b8{l:List UInt8}{b d:Nat}(u:gL 32 l=b)(v:gL 46 l=d)(r:d<=b):d<b/\b<l.length/\iD l=gW (jE (l.take d)) (gV ((l.drop (d+1)).take (b-(d+1)))) (l.drop (b+1)):=by
 rcases pC (c:=32) (l:=l)with⟨h1,_⟩|⟨i,hi,m,n⟩
 ·omega
 rcases pC (c:=46) (l:=l)with⟨h1,_⟩|⟨j,w,f,a⟩
 ·omega
 have s:i=b:=by omega
 have t:j=d:=by omega
 subst s t;have o:j<i:=by
  by_cases e:j=i
  ·subst e;have q:=nB 32 l (by rw[n]);have g:=nB 46 l (by rw[a]);rw[n]at q;rw[a]at g;have:=q.symm.trans g;simp at this
  ·omega
 refine⟨o,m,?_⟩;have p:bE 46 (l.take i)=(l.take j,(l.drop (j+1)).take (i-(j+1)),true):=by
  have h:l[j]=46:=by
   have g:=nB 46 l (by rw[a]);rw[a]at g;have:=aQ (fun x:List UInt8=>x[j]?) g;simp only[dP f]at this;rw[tH (by simp;omega)]at this;simp[Nat.min_eq_left (Nat.le_of_lt f)]at this;exact this
  have e:l.take i=l.take j++46::(l.drop (j+1)).take (i-(j+1)):=by
   conv=>lhs;rw[show i=j+(1+(i-(j+1))) by omega]
   rw[List.take_add,List.take_add,dW];rw[eE f,h];simp
  rw[e];have k:(46:UInt8)∉l.take j:=by
   have:=sA 46 l
   rwa [a]at this
  exact vK 46 _ _ k
 unfold iD;rw[n];dsimp only;rw[p]
theorem j1{a b:Nat}{v:List UInt8}(h1:¬v=kV)(h2:¬v=qA):gW a b v=none:=by
 unfold gW;exact aD (.inr (.inr ⟨h1,h2⟩))
theorem JL{a b:Nat}{v:List UInt8}(h1:a=0):gW a b v=none:=by
 unfold gW;exact aD (.inl h1)
theorem j3{b a:Nat}{v:List UInt8}(h1:a=0):gW b a v=none:=by
 unfold gW;exact aD (.inr (.inl h1))
theorem j5{n g v:List UInt8}{F:List Nat}{lo hi:Int}(h1:rE n F)(h2:uF g lo hi)(a:v=kV∨v=qA):∃r,gW (jE n) (gV g) v=some r/\mU r ⟨F,lo,hi,decide (v=kV)⟩:=by
 refine⟨⟨jE n,gV g,decide (v=kV)⟩,?_,rfl,h1.1,fun f s b c=>?_⟩
 ·unfold gW;apply aB;rintro(h|h|⟨h3,h4⟩)
  ·exact h1.2.1 h
  ·exact h2.1 h
  ·rcases a with a|a
   ·exact h3 a
   ·exact h4 a
 ·unfold cF.fits;dsimp only;rw[gP,h1.2.2 f b,h2.2 s c]
end Go.Hm

/- Pressed by program out of Ck Cl Cm Da. -/
import Derived.Test.YtdlhbmncbmconaaGreatDoorA24
import Derived.Test.YtdlhbmncbmconaaGreatDoorA20
namespace Go.Hm
theorem nV{l t:List UInt8}{a n:Nat}(h:(l.drop a).take n=t)(d:t.length=n)(c:1<=n):aR l a n=if t.all aH=true then(cB t,true)else(0,false):=by
 have h2:a+n<=l.length:=by
  have:=aQ List.length h;rw[eJ,bC]at this;omega
 unfold aR;rw[h];by_cases b:t.all aH=true
 ·rw[aD ⟨h2,c,b⟩,aD b]
 ·rw[aB (fun e=>b e.2.2),aB b]
theorem BU{n:Nat}(h:n<100):(d2 n).all aH=true:=by
 have h1:n/10<10:=by omega
 have h2:n%10<10:=by omega
 simp[d2,aH,UInt8.toNat_ofNat'];omega
theorem aAs{n:Nat}(h:n<10000):(fP n).all aH=true:=by
 unfold fP;rw[List.all_append,BU (by omega),BU (by omega)];rfl
theorem xS{a b:UInt8}(h:[a,b].all aH=true):d2 (cB [a,b])=[a,b]:=by
 simp[aH]at h;have e:cB [a,b]=10*(a.toNat-48)+(b.toNat-48):=by simp[cB]
 rw[e,d2,show(10*(a.toNat-48)+(b.toNat-48))/10=a.toNat-48 by omega,show(10*(a.toNat-48)+(b.toNat-48))%10=b.toNat-48 by omega,
  show 48+(a.toNat-48)=a.toNat by omega,show 48+(b.toNat-48)=b.toNat by omega,UInt8.ofNat_toNat,UInt8.ofNat_toNat]
def kX(l:List UInt8):Nat×Bool:=if(l.getD 4 0).toNat=32 then aR l 5 1 else aR l 4 2
def nK(y m d sec:Nat):List UInt8:=eT y m d (sec/3600) (sec/60%60) (sec%60)
theorem aAt{y m d a:Nat}(c:1<=y)(b:y<=9999)(e:a<86400):mD y m d a=some (nK y m d a):=by
 unfold mD;have h:fN (y:Int) (m:Int) (d:Int) (a:Int)=(((y:Int),(m:Int),(d:Int)),(a:Int)):=by
  unfold fN;rw[aB (by omega),aB (by omega)]
 rw[h,aB (by dsimp only;omega)];simp only[nK,Int.toNat_natCast];congr 2
theorem aAu{l:List UInt8}{a s:Nat}(h:gZ l a=some s):s<86400:=by
 unfold gZ at h;split at h
 ·cases h
 ·next hn=>
  have:=Option.some.inj h;omega
theorem aAv{c0 c1 c2 c3 K w c6 p q B f g m i j L:UInt8}{r l:List UInt8}(o:l=c0::c1::c2::c3::K::w::c6::p::q::B::f::g::m::i::j::L::r){y:Nat}(hy:1<=y)(ab:y<=9999):
  (∀c,gZ l 7=some c->(kX l).2=true->jW y (iB (l.take 3)) (kX l).1=true->lX (l.take 15) y=nK y (iB (l.take 3)) (kX l).1 c++[90]/\eF (lX (l.take 15) y)=true)/\
  ((gZ l 7=none∨(kX l).2=false∨jW y (iB (l.take 3)) (kX l).1=false)->eF (lX (l.take 15) y)=false):=by
 have hm:=yS (l.take 3);have e3:(l.take 15).take 3=l.take 3:=by rw[o];rfl
 obtain⟨M,X⟩:∃M,iB (l.take 3)=M:=⟨_,rfl⟩;have N:∃u v,sB (l.take 15)=[u,v]/\kX l=if [u,v].all aH=true then(cB [u,v],true)else(0,false):=by
  by_cases h32:K.toNat=32
  ·refine⟨48,w,?_,?_⟩
   ·unfold sB;rw[o];exact aD h32
   ·unfold kX;rw[aD (by rw[o];exact h32),nV (l:=l) (a:=5) (n:=1) (t:=[w]) (by rw[o];rfl) rfl (by omega)];have:cB [48,w]=cB [w]:=by simp[cB]
    rw[this];have:([48,w]:List UInt8).all aH=[w].all aH:=by simp[aH]
    rw[this]
  ·refine⟨K,w,?_,?_⟩
   ·unfold sB;rw[o];exact aB h32
   ·unfold kX;rw[aB (by rw[o];exact h32),nV (l:=l) (a:=4) (n:=2) (t:=[K,w]) (by rw[o];rfl) rfl (by omega)]
 obtain⟨u,v,N,A⟩:=N;have b:lX (l.take 15) y=fP y++[45]++d2 M++[45]++[u,v]++[84]++[p,q,B,f,g,m,i,j]++[90]:=by
  unfold lX;rw[N,e3,X,o];rfl
 rw[X]at hm⊢;generalize lX (l.take 15) y=t at b⊢;have q0:aR t 0 4=(y,true):=by
  rw[nV (l:=t) (a:=0) (n:=4) (t:=fP y) (by rw[b];rfl) rfl (by omega),aD (aAs (by omega)),MH (by omega)]
 have q5:aR t 5 2=(M,true):=by
  rw[nV (l:=t) (a:=5) (n:=2) (t:=d2 M) (by rw[b];rfl) rfl (by omega),aD (BU (by omega)),MG (by omega)]
 have q8:aR t 8 2=kX l:=by
  rw[nV (l:=t) (a:=8) (n:=2) (t:=[u,v]) (by rw[b];rfl) rfl (by omega),A]
 have O:aR l 7 2=if [p,q].all aH=true then(cB [p,q],true)else(0,false):=nV (by rw[o];rfl) rfl (by omega)
 have P:aR l 10 2=if [f,g].all aH=true then(cB [f,g],true)else(0,false):=nV (by rw[o];rfl) rfl (by omega)
 have Q:aR l 13 2=if [i,j].all aH=true then(cB [i,j],true)else(0,false):=nV (by rw[o];rfl) rfl (by omega)
 have s1:aR t 11 2=if [p,q].all aH=true then(cB [p,q],true)else(0,false):=nV (by rw[b];rfl) rfl (by omega)
 have s2:aR t 14 2=if [f,g].all aH=true then(cB [f,g],true)else(0,false):=nV (by rw[b];rfl) rfl (by omega)
 have s3:aR t 17 2=if [i,j].all aH=true then(cB [i,j],true)else(0,false):=nV (by rw[b];rfl) rfl (by omega)
 have Y:(l.getD 9 0)=B:=by rw[o];rfl
 have C:(l.getD 12 0)=m:=by rw[o];rfl
 have R:(t.getD 13 0)=B:=by rw[b];rfl
 have S:(t.getD 16 0)=m:=by rw[b];rfl
 have T:gZ t 11=gZ l 7:=by
  unfold gZ;simp only[Nat.reduceAdd];rw[O,P,Q,s1,s2,s3,Y,C,R,S]
 have D:t.length=20:=by rw[b];rfl
 have U:(t.getD 4 0)=45:=by rw[b];rfl
 have V:(t.getD 7 0)=45:=by rw[b];rfl
 have E:(t.getD 10 0)=84:=by rw[b];rfl
 constructor
 ·intro c hs Z hi;have x:[u,v].all aH=true:=by
   cases h:[u,v].all aH with
   |true=>rfl
   |false=>rw[A,aB (by rw[h];simp)]at Z;cases Z
  rw[A,aD x]at hi⊢;dsimp only at hi⊢;have k:=hs;unfold gZ at k;simp only[Nat.reduceAdd]at k;split at k
  ·cases k
  ·next hn=>
   have F:¬(aR l 7 2).2=false:=fun e=>hn (.inl e);have G:¬(aR l 10 2).2=false:=fun e=>hn (.inr (.inl e));have H:¬(aR l 13 2).2=false:=fun e=>hn (.inr (.inr (.inl e)));have a1:[p,q].all aH=true:=by
    cases h:[p,q].all aH with
    |true=>rfl
    |false=>rw[O,aB (by rw[h];simp)]at F;exact absurd rfl F
   have a2:[f,g].all aH=true:=by
    cases h:[f,g].all aH with
    |true=>rfl
    |false=>rw[P,aB (by rw[h];simp)]at G;exact absurd rfl G
   have a3:[i,j].all aH=true:=by
    cases h:[i,j].all aH with
    |true=>rfl
    |false=>rw[Q,aB (by rw[h];simp)]at H;exact absurd rfl H
   rw[O,P,Q,aD a1,aD a2,aD a3]at hn k;rw[Y,C]at hn;dsimp only at hn k;have b9:B=58:=eY.1 (by have:¬¬B.toNat=58:=fun e=>hn (.inr (.inr (.inr (.inl e))));simpa using this);have W:m=58:=eY.1 (by have:¬¬m.toNat=58:=fun e=>hn (.inr (.inr (.inr (.inr (.inl e)))));simpa using this);have aa:=Option.some.inj k;have hH:cB [p,q]<=23:=by omega
   have ac:cB [f,g]<=59:=by omega
   have hS:cB [i,j]<=59:=by omega
   have I:t=nK y M (cB [u,v]) c++[90]:=by
    rw[b];unfold nK eT;rw[show c/3600=cB [p,q] by omega,show c/60%60=cB [f,g] by omega,show c%60=cB [i,j] by omega,xS a1,xS a2,xS a3,xS x,b9,W];simp
   refine⟨I,?_⟩;rw[I];unfold nK;have J:=(xJ _ _ _).1 hi;have:=MI (y:=y) (mo:=M) (d:=cB [u,v]) (h:=c/3600) (mi:=c/60%60) (s:=c%60) (fr:=[]) (by
    obtain⟨d1,d2,d3,fP,d5,d6⟩:=J;dsimp only at d1 d2 d3 fP d5 d6;simp only[fL,dB,gP,mN];refine⟨⟨⟨⟨⟨⟨⟨⟨d1,d2⟩,d3⟩,fP⟩,d5⟩,d6⟩,?_⟩,?_⟩,?_⟩ <;> omega) (.inl rfl)
   simpa using this
 ·intro z;have hr:dK t=none:=by
   rw[<-xN];unfold fA;rw[aB (by rw[D,U,V,E];decide),T];cases hk:gZ l 7 with
   |none=>rfl
   |some c=>
    dsimp only;rw[q0,q5,q8,aD];rcases z with z|z|z
    ·rw[hk]at z;cases z
    ·exact .inr (.inr (.inl z))
    ·exact .inr (.inr (.inr z))
  unfold eF;rw[hr];rfl
theorem aAw{l:List UInt8}(h:16<=l.length):∃g i j k m n o p q s a b c d e f r,l=g::i::j::k::m::n::o::p::q::s::a::b::c::d::e::f::r:=by
 match l,h with
 |g::i::j::k::m::n::o::p::q::s::a::b::c::d::e::f::r,_=>exact⟨_,_,_,_,_,_,_,_,_,_,_,_,_,_,_,_,_,rfl⟩
theorem OK(l:List UInt8):(Lib.cut l [32]).1=l.takeWhile (fun c=>!decide (c.toNat=32))/\((Lib.cut l [32]).2.2=false↔(l.takeWhile (fun c=>!decide (c.toNat=32))).length=l.length):=by
 rw[pV];have h32:∀c:UInt8,c.toNat=32↔c=32:=fun c=>⟨fun e=>eY.1 (by rw[e];rfl),fun e=>by rw[e];rfl⟩;have f:∀a:List UInt8,32∉a->∀r,(a++32::r).takeWhile (fun c=>!decide (c.toNat=32))=a:=by
  intro a;induction a with
  |nil=>intro _ r;rfl
  |cons c t ih=>
   intro b r;rw[eN,lB,aD (by have:¬c.toNat=32:=fun e=>b (by rw[(h32 c).1 e];exact List.mem_cons_self ..);simp[this]),ih (fun e=>b (List.mem_cons_of_mem _ e))]
 cases d:(bE 32 l).2.2 with
 |true=>
  have h1:=nB 32 l d;have h2:=sA 32 l;generalize(bE 32 l).1=a at h1 h2⊢;rw[h1,f a h2];simp
 |false=>
  have h1:=rZ 32 l d;have h2:=sA 32 l;rw[h1]at h2⊢;dsimp only at h2⊢;rw[yF _ _ (fun c g=>by have:¬c.toNat=32:=fun e=>h2 (by rw[<-(h32 c).1 e];exact g);simp[this])];simp
theorem OM{l:List UInt8}{y:Nat}(h:l.length<16∨¬(l.getD 15 0).toNat=32):cM l y=([],[],0):=by
 unfold cM;rw[aD h]
theorem OO{l:List UInt8}{y:Nat}(h:(gI (l.take 15) y).2=false):cM l y=([],[],0):=by
 unfold cM;by_cases h1:l.length<16∨¬(l.getD 15 0).toNat=32
 ·rw[aD h1]
 ·rw[aB h1,aD (.inl h)]
theorem aAx{l:List UInt8}{y:Nat}(h:(Lib.cut (l.drop 16) [32]).2.2=false∨bX (Lib.cut (l.drop 16) [32]).1 32=false):cM l y=([],[],0):=by
 unfold cM;by_cases h1:l.length<16∨¬(l.getD 15 0).toNat=32
 ·rw[aD h1]
 ·rw[aB h1,aD (.inr h)]
theorem aAy{l:List UInt8}{y:Nat}(h1:¬(l.length<16∨¬(l.getD 15 0).toNat=32))(h2:(gI (l.take 15) y).2=true)(h3:(Lib.cut (l.drop 16) [32]).2.2=true)(h4:bX (Lib.cut (l.drop 16) [32]).1 32=true):
  cM l y=((gI (l.take 15) y).1,(Lib.cut (l.drop 16) [32]).1,16+(Lib.cut (l.drop 16) [32]).1.length+1):=by
 unfold cM;rw[aB h1,aB (by rw[h2,h3,h4];simp)]
end Go.Hm
namespace Go.Proofs.Z
open Hm Tryz Go.RowKit Go.Sort
attribute [local go_sem] dY fR fS
set_option maxRecDepth 20000 in
set_option maxHeartbeats 4000000 in
theorem aAU(l:List UInt8)(hl:l.length<=1000000000000000)(y:Nat)(hy:1<=y)(Z:y<=9999)(w:World):Calls prog 192 #[.string ⟨l.toArray⟩,.int .i64 y] w fun e g=>e= .returned (oP (cM l y))/\∃n,g=w.drewN n:=by
 by_cases h16:(l.length:Int)<16
 ·have f:Hid (cM l y=([],[],0)):=OM (.inl (by omega));rw[f.out];go_enter func192,ntmps192;go_wp2;go_ret3;exact⟨rfl,0,rfl⟩
 obtain⟨c0,c1,c2,N,F,c5,O,c7,c8,c9,aq,ar,au,av,aw,v,r,t⟩:=aAw (l:=l) (by omega);have ax:3<l.length:=by omega
 have ay:4<l.length:=by omega
 have az:6<l.length:=by omega
 have ap:15<l.length:=by omega
 have e3:l[3]=N:=by simp[t]
 have e4:l[4]=F:=by simp[t]
 have e6:l[6]=O:=by simp[t]
 have aA:l[15]=v:=by simp[t]
 have d4:l.getD 4 0=F:=by rw[t];rfl
 have Q:l.getD 15 0=v:=by rw[t];rfl
 have o3:(l.take 15).getD 3 0=N:=by rw[t];rfl
 have o4:(l.take 15).getD 4 0=F:=by rw[t];rfl
 have o6:(l.take 15).getD 6 0=O:=by rw[t];rfl
 have R:(l.take 15).take 3=l.take 3:=by rw[t];rfl
 have x:=aAv t hy Z;have HC:=show Hid _ from t;clear t;have HT:Hid ((iB (l.take 3)=0∨¬N.toNat=32∨¬O.toNat=32∨F.toNat=48)->cM l y=([],[],0)):=fun h=>OO (by
  unfold gI;rw[R,o3,o4,o6,aD h])
 have z:Hid ((gZ l 7=none∨(kX l).2=false∨jW y (iB (l.take 3)) (kX l).1=false)->cM l y=([],[],0)):=fun h=>OO (by
  unfold gI;split
  ·rfl
  ·exact x.2 h)
 have S:Hid (∀d,gZ l 7=some d->(kX l).2=true->jW y (iB (l.take 3)) (kX l).1=true->N.toNat=32->O.toNat=32->¬F.toNat=48->gI (l.take 15) y=(nK y (iB (l.take 3)) (kX l).1 d++[90],true)):=fun d a1 a2 a3 a4 a5 a6=>by
  obtain⟨b1,b2⟩:=x.1 d a1 a2 a3;unfold gI;rw[R,o3,o4,o6,aB (by
   have:=(xJ _ _ _).1 a3;obtain⟨_,_,q,_⟩:=this;dsimp only at q;omega),b1,<-b1,b2]
 clear x o3 o4 o6 R;by_cases k3:(N.toNat:Int)=32;case neg=>
  have f:Hid (cM l y=([],[],0)):=HT.out (.inr (.inl (by omega)));have ag:((N.toNat:Int) !=32)=true:=by simp;omega
  rw[f.out];go_enter func192,ntmps192;go_wp2;go_ret3;exact⟨rfl,0,rfl⟩
 have ag:((N.toNat:Int) !=32)=false:=by simp;omega
 by_cases k6:(O.toNat:Int)=32;case neg=>
  have f:Hid (cM l y=([],[],0)):=HT.out (.inr (.inr (.inl (by omega))));have ah:((O.toNat:Int) !=32)=true:=by simp;omega
  rw[f.out];clear k3;go_enter func192,ntmps192;go_wp2;go_ret3;exact⟨rfl,0,rfl⟩
 have ah:((O.toNat:Int) !=32)=false:=by simp;omega
 by_cases ai:(v.toNat:Int)=32;case neg=>
  have f:Hid (cM l y=([],[],0)):=OM (.inr (by rw[Q];omega));have aa:((v.toNat:Int) !=32)=true:=by simp;omega
  rw[f.out];clear k3 k6;go_enter func192,ntmps192;go_wp2;go_ret3;exact⟨rfl,0,rfl⟩
 have aa:((v.toNat:Int) !=32)=false:=by simp;omega
 have K3:Hid (N.toNat=32):=by show _=_;omega
 have rF:Hid (O.toNat=32):=by show _=_;omega
 have aj:Hid (¬(l.length<16∨¬(l.getD 15 0).toNat=32)):=by show¬_;rw[Q];omega
 clear k3 k6 ai

 obtain⟨m,G⟩:∃m,kX l=m:=⟨_,rfl⟩;obtain⟨I,A⟩:∃I,gZ l 7=I:=⟨_,rfl⟩;obtain⟨M,hM⟩:∃M,iB (l.take 3)=M:=⟨_,rfl⟩;have ab:=yS (l.take 3);obtain⟨U,i⟩:∃b,jW y M m.1=b:=⟨_,rfl⟩;obtain⟨E,hE⟩:∃E,((l.drop 16).takeWhile fun c=>!decide (c.toNat=32)).length=E:=⟨_,rfl⟩;have aC:16+E<=l.length:=(qN _ l 16 E (by omega) hE).1;obtain⟨j,k⟩:=OK (l.drop 16);have W:=OD (fun c:UInt8=>!decide (c.toNat=32)) (l.drop 16);rw[hE]at W k;rw[<-W]at j;rw[bC]at k;obtain⟨wd,J⟩:∃b,bX ((l.drop 16).take E) 32=b:=⟨_,rfl⟩;rw[G,A,hM,i]at z;rw[G,A,hM,i]at S;rw[hM]at HT ab;have HW:Hid (wd=false∨16+E=l.length->cM l y=([],[],0)):=fun h=>aAx (by
  rcases h with h|h
  ·right;rw[j,J,h]
  ·left;exact k.2 (by omega))
 have HY:Hid (∀T,gI (l.take 15) y=(T,true)->wd=true->¬16+E=l.length->cM l y=(T,(l.drop 16).take E,16+E+1)):=fun T h1 h2 h3=>by
  have ac:((l.drop 16).take E).length=E:=by rw[eJ,bC];omega
  rw[aAy aj.out (by rw[h1]) (by
   cases hb:(Lib.cut (l.drop 16) [32]).2.2 with
   |true=>rfl
   |false=>have:=k.1 hb;omega) (by rw[j,J,h2]),h1,j,ac]
 have D1:Hid (∀w,Calls prog 190 #[.string ⟨l.toArray⟩,.int .i64 4,.int .i64 2] w fun e g=>e= .returned (.tuple #[.int .i64 (aR l 4 2).1,.bool (aR l 4 2).2])/\g=w):=fun w=>nU l hl 4 2 (by omega) (by omega) w;have D2:Hid (∀w,Calls prog 190 #[.string ⟨l.toArray⟩,.int .i64 5,.int .i64 1] w fun e g=>e= .returned (.tuple #[.int .i64 (aR l 5 1).1,.bool (aR l 5 1).2])/\g=w):=fun w=>nU l hl 5 1 (by omega) (by omega) w;have CK:Hid (∀w,Calls prog 194 #[.string ⟨l.toArray⟩,.int .i64 7] w fun e g=>e= .returned (jK I)/\g=w):=fun w=>by
  have:=PD l hl 7 (by omega) w
  rwa [A]at this
 have MO:Hid (∀w,Calls prog 218 #[.string ⟨(l.take 3).toArray⟩] w fun e g=>e= .returned (.int .i64 M)/\g=w):=fun w=>by
  have:=aAQ (l.take 3) w
  rwa [hM]at this
 have IY:Hid (∀w,Calls prog 195 #[.int .i64 y,.int .i64 M,.int .i64 m.1] w fun e g=>e= .returned (.bool U)/\g=w):=fun w=>by
  have:=NV y M m.1 w
  rwa [i]at this
 have PA:Hid (∀w,Calls prog 191 #[.string ⟨l.toArray⟩,.int .i64 16] w fun e g=>e= .returned (.int .i64 ((16:Int)+(E:Int)))/\g=w):=fun w=>by
  have:=NY l hl 16 (by omega) w;rw[hE]at this;have e:(((16+E:Nat)):Int)=(16:Int)+(E:Int):=by omega
  rw[e]at this;exact this
 have IP:Hid (∀w,Calls prog 162 #[.string ⟨((l.drop 16).take E).toArray⟩,.int .i64 32] w fun e g=>e= .returned (.bool wd)/\g=w):=fun w=>by
  have:=xM ((l.drop 16).take E) (by rw[eJ,bC];omega) 32 (by omega) w
  rwa [J]at this
 have P:∀d,I=some d->d<86400:=fun d h=>aAu (A.trans h);have SH:Hid (∀d,I=some d->U=true->∀w,Calls prog 196 #[.int .i64 y,.int .i64 M,.int .i64 m.1,.int .i64 d] w fun e g=>e= .returned (.tuple #[.string ⟨(nK y M m.1 d).toArray⟩,.bool true])/\g=w):=fun d h1 h2 w=>by
  have h3:=P d h1;have:=PF y M m.1 d ((xJ _ _ _).1 (i.trans h2)) (by omega) (by omega) w;rw[aAt hy Z h3]at this;exact this
 have ad:Hid (∀d,(nK y M m.1 d).length=19):=fun d=>AV _ _ _ _ _ _;have B:kX l=if F.toNat=32 then aR l 5 1 else aR l 4 2:=by unfold kX;rw[d4]
 rw[G]at B;have X:=show Hid _ from B;clear G A hM i hE j k W J d4 Q B P;obtain⟨V,hV⟩:∃V,oP (cM l y)=V:=⟨_,rfl⟩;have u:Hid (cM l y=([],[],0)->V= .tuple #[.string ⟨#[]⟩,.string ⟨#[]⟩,.int .i64 0]):=fun h=>by rw[<-hV,h];rfl
 have ak:Hid (∀T H(n:Nat),cM l y=(T,H,n)->V= .tuple #[.string ⟨T.toArray⟩,.string ⟨H.toArray⟩,.int .i64 n]):=fun T H n h=>by rw[<-hV,h];rfl
 rw[hV];clear hV;obtain⟨al,C⟩:∃b,((F.toNat:Int)==32)=b:=⟨_,rfl⟩;go_enter func192,ntmps192;go_wp2_with fail;refine(D1.out _).mono ?_;rintro e K⟨rfl,a⟩;have a:=a.symm;subst a;go_upto_if 42 with fail;go_cut [7,8] (fun s7 s8 wc=>s7= .int .i64 (m.1:Int)/\s8= .bool m.2/\wc=w);case first=>
  cases al with
  |true=>
   have HQ:Hid (aR l 5 1=m):=by show _=_;rw[X.out,aD (by have:=dZ.1 C;omega)]
   rw[HQ.out]at D2;go_wp2_with fail;refine(D2.out _).mono ?_;rintro e K⟨rfl,a⟩;have a:=a.symm;subst a;go_wp2
   go_meet
   case rel=>exact⟨rfl,rfl,rfl⟩
  |false=>
   have HQ:Hid (aR l 4 2=m):=by show _=_;rw[X.out,aB (by have:=bG.1 C;omega)]
   go_wp2
   go_meet
   case rel=>exact⟨by rw[HQ.out],by rw[HQ.out],rfl⟩
 case rest=>
  obtain⟨rfl,rfl,Y⟩:=hcut;have Y:=Y.symm;subst Y;clear C X D1 D2;obtain⟨D,db⟩:=m;simp only at IY SH ad z S;have o:jK I=match I with|none=> .tuple #[.int .i64 0,.bool false]|some s=> .tuple #[.int .i64 s,.bool true]:=by cases I <;> rfl
  go_wp2_with fail;refine(CK.out _).mono ?_;rintro e K⟨rfl,a⟩;have a:=a.symm;subst a;cases I with
  |none=>
   rw[o];clear o;have f:Hid (V= .tuple #[.string ⟨#[]⟩,.string ⟨#[]⟩,.int .i64 0]):=u.out (z.out (.inl rfl));go_wp2_with fail;refine(MO.out _).mono ?_;rintro e K⟨rfl,a⟩;have a:=a.symm;subst a;go_wp2_with fail;refine(IY.out _).mono ?_;rintro e K⟨rfl,a⟩;have a:=a.symm;subst a;cases db
   ·go_wp2;go_ret3;exact⟨by rw[f.out];rfl,0,rfl⟩
   ·go_wp2;go_ret3;exact⟨by rw[f.out];rfl,0,rfl⟩
  |some d=>
   rw[o];clear o;go_wp2_with fail;refine(MO.out _).mono ?_;rintro e K⟨rfl,a⟩;have a:=a.symm;subst a;go_wp2_with fail;refine(IY.out _).mono ?_;rintro e K⟨rfl,a⟩;have a:=a.symm;subst a;cases db with
   |false=>
    have f:Hid (V= .tuple #[.string ⟨#[]⟩,.string ⟨#[]⟩,.int .i64 0]):=u.out (z.out (.inr (.inl rfl)));go_wp2;go_ret3;exact⟨by rw[f.out];rfl,0,rfl⟩
   |true=>
    cases U with
    |false=>
     have f:Hid (V= .tuple #[.string ⟨#[]⟩,.string ⟨#[]⟩,.int .i64 0]):=u.out (z.out (.inr (.inr rfl)));go_wp2;go_ret3;exact⟨by rw[f.out];rfl,0,rfl⟩
    |true=>
     by_cases L:(F.toNat:Int)=48
     ·have f:Hid (V= .tuple #[.string ⟨#[]⟩,.string ⟨#[]⟩,.int .i64 0]):=u.out (HT.out (.inr (.inr (.inr (by omega)))));have ae:((F.toNat:Int)==48)=true:=dZ.2 L;clear L;go_wp2;go_ret3;exact⟨by rw[f.out];rfl,0,rfl⟩
     have ae:((F.toNat:Int)==48)=false:=bG.2 L;have am:Hid (gI (l.take 15) y=(nK y M D d++[90],true)):=S.out d rfl rfl rfl K3.out rF.out (by omega);clear L;go_wp2_with fail;refine(PA.out _).mono ?_;rintro e K⟨rfl,a⟩;have a:=a.symm;subst a;have aE:(16:Int)+(E:Int)<=(l.length:Int):=by omega
     have aF:((16:Int)+(E:Int)).toNat=16+E:=by omega
     go_wp2_with fail;refine(IP.out _).mono ?_;rintro e K⟨rfl,a⟩;have a:=a.symm;subst a;cases wd with
     |false=>
      have f:Hid (V= .tuple #[.string ⟨#[]⟩,.string ⟨#[]⟩,.int .i64 0]):=u.out (HW.out (.inl rfl));go_wp2;go_ret3;exact⟨by rw[f.out];rfl,0,rfl⟩
     |true=>
      by_cases p:16+E=l.length
      ·have f:Hid (V= .tuple #[.string ⟨#[]⟩,.string ⟨#[]⟩,.int .i64 0]):=u.out (HW.out (.inr p));have an:((16:Int)+(E:Int)==(l.length:Int))=true:=dZ.2 (by omega);clear p;go_wp2;go_ret3;exact⟨by rw[f.out];rfl,0,rfl⟩
      ·have f:Hid (V= .tuple #[.string ⟨(nK y M D d++[90]).toArray⟩,.string ⟨((l.drop 16).take E).toArray⟩,.int .i64 ((16:Int)+(E:Int)+1)]):=by
        have:=ak.out _ _ _ (HY.out _ am.out rfl p);show _=_;rw[this];have e:((16+E+1:Nat):Int)=(16:Int)+(E:Int)+1:=by omega
        rw[e]
       have an:((16:Int)+(E:Int)==(l.length:Int))=false:=bG.2 (by omega);have ao:=ad.out d;have af:=show Hid _ from SH.out d (by first|rfl|trivial) (by first|rfl|trivial);generalize nK y M D d=RT at f ao af;clear p;go_wp2_with fail;refine(af.out _).mono ?_;rintro e K⟨rfl,a⟩;have a:=a.symm;subst a;have aG:¬9223372036854775807<RT.length+1:=by omega
       go_wp2_with fail;go_quiet(fail)
       go_wp2;go_ret3;exact⟨by rw[f.out];rfl,_,rfl⟩
end Go.Proofs.Z
namespace Go.Hm
theorem aAV{l:List UInt8}{y:Nat}(h:(cM l y).2.2=0):cM l y=([],[],0):=by
 unfold cM at h⊢;by_cases h1:l.length<16∨¬(l.getD 15 0).toNat=32
 ·rw[aD h1]
 ·rw[aB h1]at h⊢;by_cases h2:(gI (l.take 15) y).2=false∨(Lib.cut (l.drop 16) [32]).2.2=false∨bX (Lib.cut (l.drop 16) [32]).1 32=false
  ·rw[aD h2]
  ·rw[aB h2]at h;simp at h
theorem BX(f s:Int)(l:List UInt8)(y:Nat):jB (aO.of f s) l y=⟨f,s,(cM l y).1,(cM l y).2.1,(dG (l.drop (cM l y).2.2)).1,(dG (l.drop (cM l y).2.2)).2.1,[],[],l.drop ((cM l y).2.2+(dG (l.drop (cM l y).2.2)).2.2)⟩:=by
 unfold jB;by_cases h:0<(cM l y).2.2
 ·rw[aD h,dW];rfl
 ·rw[aB h,aAV (by omega)];simp[aO.of]
end Go.Hm
namespace Go.Proofs.Z
open Hm Hw Tryz Go.RowKit Go.Sort
attribute [local go_sem] dY fR fS
theorem bP:(prog.info? 80).map (·.size)=some 9:=by kernel_rfl
set_option maxRecDepth 20000 in
set_option maxHeartbeats 1000000 in
theorem aAW(l:List UInt8)(U:l.length<=1000000000000000)(y:Nat)(V:1<=y)(i:y<=9999)(w:World):
  Calls prog 158 #[.string ⟨l.toArray⟩,.int .i64 y] w fun e W=>e= .returned (.agg (aL (jB (aO.of 0 0) l y)))/\Below w.heap.size w W:=by
 rw[BX];have d:=show Hid _ from aAU l U y V i;have z:=ED l y;generalize cM l y=S at d z⊢;obtain⟨T,H,n⟩:=S;dsimp only at z⊢;have f:=show Hid _ from aAM (l.drop n) (by rw[bC];omega);have j:=yT (l.drop n);generalize dG (l.drop n)=G at f j⊢;obtain⟨A,P,k⟩:=G;dsimp only at j⊢;rw[bC]at j;unfold oP at d f;dsimp only at d f;have X:(n:Int)<=(l.length:Int):=by omega
 have m:(l.drop n).take (l.length-n)=l.drop n:=fV (by rw[bC];omega);go_enter func158,ntmps158;go_wp2_with fail;refine(d.out _).mono ?_;rintro e b⟨rfl,c⟩;have g:=aT c;obtain⟨B,C⟩:=kU g;have o:Hid (Below w.heap.size w b):=((((aF _ _).alloc (aC _) _).alloc (by simp) _).trans (g.mono (by simp;omega)));have Y:w.heap.size+2<=b.heap.size:=by have:=g.size;simpa using this
 have p:=aA B;have q:=aA C;clear g c B C;go_wp2_with(first
  |(refine bK rfl _ _ _ rfl rfl (w.heap.size+1) 2 _ rfl rfl _ _ #[.int .i64 0,.int .i64 0,.string ⟨T.toArray⟩,.string ⟨#[]⟩,.string ⟨#[]⟩,.string ⟨#[]⟩,.string ⟨#[]⟩,.string ⟨#[]⟩,.string ⟨#[]⟩] q.out fZ (by simp) rfl rfl ?_;intro D E;have r:=aA E;clear E)
  |(refine bK rfl _ _ _ rfl rfl (w.heap.size+1) 3 _ rfl rfl _ _ #[.int .i64 0,.int .i64 0,.string ⟨T.toArray⟩,.string ⟨H.toArray⟩,.string ⟨#[]⟩,.string ⟨#[]⟩,.string ⟨#[]⟩,.string ⟨#[]⟩,.string ⟨#[]⟩] r.out.row fZ (by simp) rfl rfl ?_;intro F I;have s:=aA I;clear I)
  |fail)
 refine(f.out _).mono ?_;rintro e t⟨rfl,a⟩;have a:=a.symm;subst a;have Z:(n:Int)+(k:Int)<=(l.length:Int):=by omega
 have J:((n:Int)+(k:Int)).toNat=n+k:=by omega
 have h:(l.drop (n+k)).take (l.length-(n+k))=l.drop (n+k):=fV (by rw[bC];omega);go_wp2_with(first
  |(refine bK rfl _ _ _ rfl rfl (w.heap.size+1) 4 _ rfl rfl _ _ #[.int .i64 0,.int .i64 0,.string ⟨T.toArray⟩,.string ⟨H.toArray⟩,.string ⟨A.toArray⟩,.string ⟨#[]⟩,.string ⟨#[]⟩,.string ⟨#[]⟩,.string ⟨#[]⟩] s.out.row fZ (by simp) rfl rfl ?_;intro t K;have u:=aA K;clear K)
  |(refine bK rfl _ _ _ rfl rfl (w.heap.size+1) 5 _ rfl rfl _ _ #[.int .i64 0,.int .i64 0,.string ⟨T.toArray⟩,.string ⟨H.toArray⟩,.string ⟨A.toArray⟩,.string ⟨P.toArray⟩,.string ⟨#[]⟩,.string ⟨#[]⟩,.string ⟨#[]⟩] u.out.row fZ (by simp) rfl rfl ?_;intro L M;have v:=aA M;clear M)
  |(refine bK rfl _ _ _ rfl rfl (w.heap.size+1) 8 _ rfl rfl _ _ #[.int .i64 0,.int .i64 0,.string ⟨T.toArray⟩,.string ⟨H.toArray⟩,.string ⟨A.toArray⟩,.string ⟨P.toArray⟩,.string ⟨#[]⟩,.string ⟨#[]⟩,.string ⟨(l.drop (n+k)).toArray⟩] v.out.row fZ (by simp) rfl rfl ?_;intro N O;have x:=aA O;clear O)
  |(refine cG rfl _ _ rfl (w.heap.size+1) rfl _ _ _ _ x.out.row underlying80 rfl bP ?_)
  |(refine bI rfl _ _ _ rfl rfl w.heap.size _ rfl rfl _ _ (((x.out.other _ (by omega)).trans ((v.out.other _ (by omega)).trans ((u.out.other _ (by omega)).trans ((s.out.other _ (by omega)).trans ((r.out.other _ (by omega)).trans p.out)))))) bP rfl rfl ?_;intro w7 Q;have R:=aA Q;clear Q))
 refine bB (results_cell_row results158 _ _ _ _ _ _ _ rfl R.out.row underlying80 rfl bP) rfl ⟨rfl,?_⟩;exact(((((o.out.trans (r.out.below (by omega))).trans (s.out.below (by omega))).trans (u.out.below (by omega))).trans (v.out.below (by omega))).trans (x.out.below (by omega))).trans (R.out.below (by omega))
theorem QI(e:Int)(w:World):Calls prog 107 #[.int .i64 e] w fun r a=>r= .returned (.int .i64 e)/\a=w:=by
 go_enter func107,ntmps107;go_wp2;go_ret;exact⟨rfl,rfl⟩
set_option maxRecDepth 20000 in
set_option maxHeartbeats 4000000 in
theorem QJ(m:aO)(w:World):Calls prog 112 #[.agg (aL m)] w fun r c=>r= .returned (.agg (aL m))/\Below w.heap.size w c:=by
 obtain⟨f,s,t,h1,h2,h3,h4,d,x⟩:=m;unfold aL;dsimp only;go_enter func112,ntmps112;go_wp2_with(first
  |(refine bI rfl _ _ _ rfl rfl (w.heap.size+1) _ rfl rfl _ _ (oZ _ _ _) cJ rfl rfl ?_;intro e a;have b:=aA a;clear a))
 refine bB (results_cell_row results112 _ _ _ _ _ _ _ rfl b.out.row underlying29 rfl cJ) rfl ⟨rfl,(((aF _ _).alloc (aC _) _).alloc (by simp) _).trans (b.out.below (by omega))⟩
set_option maxRecDepth 20000 in
set_option maxHeartbeats 4000000 in
theorem aBY(m:aO)(w:World):Calls prog 111 #[.agg (aL m),.agg (aL m)] w fun r a=>r= .returned (.bool true)/\Below w.heap.size w a:=by
 obtain⟨f,s,t,h1,h2,h3,h4,d,x⟩:=m;unfold aL;dsimp only;go_enter func111,ntmps111;go_wp2;go_ret;exact⟨rfl,((aF _ _).alloc (aC _) _).alloc (by simp) _⟩
end Go.Proofs.Z

/- Pressed by program out of Ce Cg Ch Ci Cf. -/
import Derived.Test.YtdlhbmncbmconaaGreatDoorA19
namespace Go.Hm
theorem BN(p:UInt8->Bool):∀(l:List UInt8),∀c∈l.takeWhile p,p c=true
 |[],c,h=>by simp at h
 |a::t,c,h=>by
  rw[lB]at h;split at h
  ·next hp=>
   rcases jY.1 h with h|h
   ·rw[h];exact hp
   ·exact BN p t c h
  ·simp at h
theorem NZ(p:UInt8->Bool):∀(l:List UInt8)(n:Nat),(l.takeWhile p).length=n->∀h:n<l.length,p l[n]=false
 |[],n,_,h=>by simp at h
 |a::t,n,hn,h=>by
  by_cases b:p a=true
  ·rw[lB,aD b,bU]at hn;subst hn;exact NZ p t _ rfl (by simpa using h)
  ·rw[lB,aB b,dS]at hn;subst hn;simpa using b
theorem BO(p:UInt8->Bool)(l:List UInt8):(l.takeWhile p).length<=l.length:=by
 have:=(List.takeWhile_prefix (l:=l) p).length_le;exact this
theorem qN(p:UInt8->Bool)(l:List UInt8)(a T:Nat)(g:a<=l.length)(c:((l.drop a).takeWhile p).length=T):
  a+T<=l.length/\(∀j,j<T->∃h:a+j<l.length,p l[a+j]=true)/\(∀h:a+T<l.length,p l[a+T]=false):=by
 have d:=BO p (l.drop a);rw[bC,c]at d;refine⟨by omega,fun j i=>?_,fun h=>?_⟩
 ·have h1:a+j<l.length:=by omega
  refine⟨h1,?_⟩;have e:(l.drop a).takeWhile p <+: l.drop a:=List.takeWhile_prefix p;have b:j<((l.drop a).takeWhile p).length:=by omega
  have f:((l.drop a).takeWhile p)[j]=l[a+j]:=by
   rw[List.IsPrefix.getElem e b,List.getElem_drop]
  rw[<-f];exact BN p (l.drop a) _ (List.getElem_mem b)
 ·have:=NZ p (l.drop a) T c (by rw[bC];omega)
  rwa [List.getElem_drop]at this
def oM(l:List UInt8)(a:Nat):Int:=if((l.drop a).takeWhile gR).length=0∨12<((l.drop a).takeWhile gR).length then -1 else((a+((l.drop a).takeWhile gR).length:Nat):Int)
end Go.Hm
namespace Go.Proofs.Z
open Hm Tryz Go.RowKit Go.Sort
attribute [local go_sem] dY fR fS
set_option maxRecDepth 20000 in
set_option maxHeartbeats 2000000 in
theorem X6(l:List UInt8)(J:l.length<=1000000000000000)(a:Nat)(D:a<=l.length)(w:World):Calls prog 197 #[.string ⟨l.toArray⟩,.int .i64 a] w fun e E=>e= .returned (.int .i64 (oM l a))/\E=w:=by
 obtain⟨T,q⟩:∃T,((l.drop a).takeWhile gR).length=T:=⟨_,rfl⟩;obtain⟨F,f,g⟩:=qN gR l a T D q;have i:=show Hid _ from f;have k:=show Hid _ from g;obtain⟨V,m⟩:∃V,oM l a=V:=⟨_,rfl⟩;rw[m];unfold oM at m;rw[q]at m;have r:=show Hid _ from m;clear q f g m;go_enter func197,ntmps197;go_upto_block 0 with fail;go_cut [5] (fun s5 wc=>s5= .int .i64 ((a:Int)+(T:Int))/\wc=w);case first=>
  go_wp2;go_loopw [5] (fun s5 wr=>∃j:Nat,j<=T/\s5= .int .i64 ((a:Int)+(j:Int))/\wr=w) (fun s5 _=>a+T-(intOf s5).toNat)
  case atStart=>exact⟨0,dM _,aY (by simp),rfl⟩
  case round=>
   obtain⟨j,G,rfl,c⟩:=hrel;have c:=c.symm;subst c;have H:((a:Int)+(j:Int)).toNat=a+j:=by omega
   by_cases n:j<T
   ·obtain⟨h1,z⟩:=i.out j n;have s:(33<=l[a+j].toNat/\l[a+j].toNat<=126)/\¬l[a+j].toNat=61/\¬l[a+j].toNat=93/\¬l[a+j].toNat=34:=by
     simpa[gR,fO,and_assoc]using z
    have A:(a:Int)+(j:Int)<(l.length:Int):=by omega
    have B:(33:Int)<=(l[a+j].toNat:Int):=by omega
    have I:(l[a+j].toNat:Int)<=126:=by omega
    have t:((l[a+j].toNat:Int) !=61)=true:=by simp;omega
    have K:((l[a+j].toNat:Int) !=93)=true:=by simp;omega
    have L:((l[a+j].toNat:Int) !=34)=true:=by simp;omega
    clear z s;go_wp2;go_roundw;case rel=>exact⟨j+1,by omega,aY (by simp;omega),by first|rfl|trivial⟩
    case measure=>simp[intOf];omega
   ·have u:j=T:=by omega
    subst u;have v:(¬(a:Int)+(j:Int)<(l.length:Int))∨∃h:a+j<l.length,(¬(33:Int)<=(l[a+j].toNat:Int))∨((33:Int)<=(l[a+j].toNat:Int)/\¬(l[a+j].toNat:Int)<=126)∨(l[a+j].toNat:Int)=61∨(l[a+j].toNat:Int)=93∨(l[a+j].toNat:Int)=34:=by
     by_cases b:a+j<l.length
     ·refine .inr ⟨b,?_⟩;have C:=k.out b;have M:¬((33<=l[a+j].toNat/\l[a+j].toNat<=126)/\¬l[a+j].toNat=61/\¬l[a+j].toNat=93/\¬l[a+j].toNat=34):=by
       intro h;have:gR l[a+j]=true:=by simpa[gR,fO,and_assoc]using h
       rw[this]at C;cases C
      omega
     ·exact .inl (by omega)
    clear i k n G;rcases v with A|⟨b,B|⟨B,I⟩|t|t|t⟩
    ·go_wp2
     go_meet
     case rel=>exact⟨rfl,rfl⟩
    all_goals(
     have A:(a:Int)+(j:Int)<(l.length:Int):=by omega
     go_wp2
     go_meet
     case rel=>exact⟨rfl,rfl⟩)
 case rest=>
  obtain⟨rfl,d⟩:=hcut;have d:=d.symm;subst d;by_cases h0:T=0
  ·have o:Hid (V= -1):=by show _=_;rw[<-r.out,aD (.inl h0)]
   have x:((a:Int)+(T:Int)==(a:Int))=true:=by simp;omega
   have y:(a:Int)+(T:Int)=(a:Int):=by omega
   clear h0;go_wp2;go_ret;exact⟨by rw[o.out];rfl,rfl⟩
  have x:((a:Int)+(T:Int)==(a:Int))=false:=by simp;omega
  have y:¬(a:Int)+(T:Int)=(a:Int):=by omega
  by_cases h12:12<T
  ·have o:Hid (V= -1):=by show _=_;rw[<-r.out,aD (.inr h12)]
   have p:(a:Int)+12<(a:Int)+(T:Int):=by omega
   clear h0;go_wp2;go_ret;exact⟨by rw[o.out];rfl,rfl⟩
  ·have o:Hid (V=(a:Int)+(T:Int)):=by show _=_;rw[<-r.out,aB (by omega)];omega
   have p:¬(a:Int)+12<(a:Int)+(T:Int):=by omega
   clear h0;go_wp2;go_ret;exact⟨by rw[o.out];rfl,rfl⟩
end Go.Proofs.Z
namespace Go.Hm
theorem tA(l:List UInt8)(a:Nat)(c:UInt8):Lib.hasPrefix (l.drop a) [c]=true↔∃h:a<l.length,l[a]=c:=by
 by_cases h:a<l.length
 ·rw[eE h];simp only[Lib.hasPrefix,List.isPrefixOf,Bool.and_true,dZ];constructor
  ·intro e;exact⟨h,e.symm⟩
  ·rintro⟨_,e⟩;exact e.symm
 ·rw[gH (by omega)];simp[Lib.hasPrefix,h]
structure lU(l:List UInt8)(n:Nat):Prop where
 dg:(aR l 1 n).2=true
 len:n+1<l.length
 gt:l[n+1].toNat=62
 le:(aR l 1 n).1<=191
 zero:¬(l[1]'(by omega)).toNat=48∨n=1
theorem Y2{l:List UInt8}{n:Nat}(h0:∃h:0<l.length,l[0].toNat=60)(g:1<=n)(i:n<=3)(h:lU l n):cS l=((aR l 1 n).1,n+2):=by
 obtain⟨h00,h0⟩:=h0;obtain⟨d1,d2,d3⟩:=rN h.dg;have c:=h.len;have j:aZ aH 3 (l.drop 1)=n:=by
  have k:l.drop 1=(l.drop 1).take n++(l.drop 1).drop n:=(qS n _).symm;have d:((l.drop 1).take n).length=n:=by rw[eJ,bC];omega
  rw[k];have:=wV (p:=aH) (b:=3) (a:=(l.drop 1).take n) (r:=(l.drop 1).drop n) (by omega) d2 (by
   right;right;refine⟨l[n+1],l.drop (n+2),?_,?_⟩
   ·rw[dW,show 1+n=n+1 by omega,eE c]
   ·simp[aH,h.gt])
  rw[this,d]
 have e:Lib.hasPrefix l [60]=true:=by
  have:=(tA l 0 60).2 ⟨h00,eY.1 (by simpa using h0)⟩
  rwa [fB]at this
 have f:Lib.hasPrefix (l.drop (1+n)) [62]=true:=by
  rw[show 1+n=n+1 by omega];exact(tA l (n+1) 62).2 ⟨c,eY.1 (by simpa using h.gt)⟩
 have m:l.getD 1 0=l[1]'(by omega):=by rw[gQ,dP (by omega)];rfl
 unfold cS;rw[j,aB (by rw[e];simp),aB (by rw[f];simp;omega),aB (by
  rw[m,<-d3];have h1:=h.zero;have h2:=h.le;omega),<-d3]
 congr 1;omega
theorem Y3{l:List UInt8}(b:¬(cS l).2=0):(∃h:0<l.length,l[0].toNat=60)/\3<=l.length/\∃n,1<=n/\n<=3/\lU l n:=by
 unfold cS at b;split at b
 ·exact absurd rfl b
 ·next c1=>
  split at b
  ·exact absurd rfl b
  ·next c2=>
   split at b
   ·exact absurd rfl b
   ·next c3=>
    have d:Lib.hasPrefix (l.drop 0) [60]=true:=by rw[fB];simpa using c1
    obtain⟨h00,h0⟩:=(tA l 0 60).1 d;have g:=nN aH 3 (l.drop 1);have i:=EB 3 (l.drop 1);generalize aZ aH 3 (l.drop 1)=k at c2 c3 g i;have f:Lib.hasPrefix (l.drop (1+k)) [62]=true:=by
     have:¬Lib.hasPrefix (l.drop (1+k)) [62]=false:=fun e=>c2 (.inr e);simpa using this
    obtain⟨h62,h63⟩:=(tA l (1+k) 62).1 f;have j:¬k=0:=fun e=>c2 (.inl e);have c:=BJ (l:=l) (a:=1) (n:=k) (by omega) (by omega) i;have m:l.getD 1 0=l[1]'(by omega):=by rw[gQ,dP (by omega)];rfl
    rw[m]at c3;refine⟨⟨h00,by rw[h0];rfl⟩,by omega,k,by omega,g.1,⟨by rw[c],by omega,?_,by rw[c];dsimp only;omega,by omega⟩⟩;have:l[k+1]'(by omega)=l[1+k]:=by congr 1;omega
    rw[this,h63];rfl
end Go.Hm
namespace Go.Proofs.Z
open Hm Tryz Go.RowKit Go.Sort
attribute [local go_sem] dY fR fS
def oN(l:List UInt8):Value:=if(cS l).2=0 then .tuple #[.int .i64 0,.int .i64 (-1)]else .tuple #[.int .i64 (cS l).1,.int .i64 (cS l).2]
theorem Y4{l:List UInt8}{n:Nat}(h0:∃h:0<l.length,l[0].toNat=60)(a:1<=n)(b:n<=3)(h:lU l n):oN l= .tuple #[.int .i64 (aR l 1 n).1,.int .i64 ((n:Int)+2)]:=by
 unfold oN;rw[Y2 h0 a b h,aB (by simp)];simp
theorem Y5{l:List UInt8}(h:¬((∃h:0<l.length,l[0].toNat=60)/\3<=l.length/\∃n,1<=n/\n<=3/\lU l n)):oN l= .tuple #[.int .i64 0,.int .i64 (-1)]:=by
 unfold oN;rw[aD (nY fun h2=>h (Y3 h2))]
set_option maxRecDepth 20000 in
set_option maxHeartbeats 2000000 in
theorem OC(l:List UInt8)(L:l.length<=1000000000000000)(w:World):Calls prog 155 #[.string ⟨l.toArray⟩] w fun e u=>e= .returned (oN l)/\u=w:=by
 have hA0:= @Y4 l;have j:= @Y5 l;obtain⟨V,H⟩:∃V,oN l=V:=⟨_,rfl⟩;rw[H]at hA0 j⊢;clear H;have I:=show Hid _ from @hA0;have t:=show Hid _ from j;clear hA0 j;by_cases h3:(l.length:Int)<3
 ·have q:Hid (V= .tuple #[.int .i64 0,.int .i64 (-1)]):=t.out (fun h=>by have:=h.2.1;omega);go_enter func155,ntmps155;go_wp2;go_ret2;exact⟨by rw[q.out];rfl,rfl⟩
 have h00:0<l.length:=by omega
 have h01:1<l.length:=by omega
 by_cases h60:(l[0].toNat:Int)=60;case neg=>
  have q:Hid (V= .tuple #[.int .i64 0,.int .i64 (-1)]):=t.out (fun h=>by obtain⟨⟨_,h⟩,_⟩:=h;omega);have r:((l[0].toNat:Int) !=60)=true:=by simp;omega
  go_enter func155,ntmps155;go_wp2;go_ret2;exact⟨by rw[q.out];rfl,rfl⟩
 have M:Hid (∃h:0<l.length,l[0].toNat=60):=⟨h00,by omega⟩;have r:((l[0].toNat:Int) !=60)=false:=by simp;omega
 clear h60;have D:Hid (∀n:Nat,n<=3->∀w,Calls prog 190 #[.string ⟨l.toArray⟩,.int .i64 1,.int .i64 n] w fun e u=>e= .returned (.tuple #[.int .i64 (aR l 1 n).1,.bool (aR l 1 n).2])/\u=w):=fun n v w=>nU l L 1 n (by omega) (by omega) w;go_enter func155,ntmps155;go_wp2;go_loopw [4] (fun s4 wr=>∃n:Nat,1<=n/\n<=4/\s4= .int .i64 n/\(∀m,1<=m->m<n->¬lU l m)/\wr=w) (fun s4 _=>4-(intOf s4).toNat)
 case atStart=>exact⟨1,by omega,by omega,rfl,fun m h1 h2=>by omega,rfl⟩
 case round=>
  obtain⟨n,y,N,rfl,s,k⟩:=hrel;have k:=k.symm;subst k;have o:=show Hid _ from s;clear s;by_cases v:n<=3;case neg=>
   have z:¬(n:Int)<=3:=by omega
   have q:Hid (V= .tuple #[.int .i64 0,.int .i64 (-1)]):=t.out (fun h=>by obtain⟨_,_,m,h1,h2,h3⟩:=h;exact o.out m h1 (by omega) h3);go_wp2;go_ret2;exact⟨by rw[q.out];rfl,rfl⟩
  have z:(n:Int)<=3:=by omega
  have f:Hid (¬lU l n->∀m,1<=m->m<n+1->¬lU l m):=fun h m h1 h2=>by
   by_cases O:m=n
   ·subst O;exact h
   ·exact o.out m h1 (by omega)
  have g:Hid (lU l n->V= .tuple #[.int .i64 (aR l 1 n).1,.int .i64 ((n:Int)+2)]):=fun h=>I.out M.out y v h;have J:=show Hid _ from D.out n v;clear o I t D;have A:∃x b,aR l 1 n=(x,b):=⟨_,_,rfl⟩;obtain⟨x,b,i⟩:=A;have B:b=true->x<1000:=by
   intro P;have h2:(aR l 1 n).2=true:=by rw[i];exact P
   obtain⟨_,d2,d3⟩:=rN h2;rw[i]at d3;have:=rX _ d2;have h4:((l.drop 1).take n).length<=3:=by rw[eJ];omega
   have h5:10^((l.drop 1).take n).length<=10^3:=qQ (by omega) h4;simp only at d3;omega
  rw[i]at J g;have a:=show Hid _ from i;clear i;have c:(b=true/\lU l n)∨¬lU l n:=by
   by_cases h:lU l n
   ·left;exact⟨by have:=h.dg;rw[a.out]at this;exact this,h⟩
   ·exact .inr h
  go_wp2_with fail;refine(J.out _).mono ?_;rintro e U⟨rfl,rfl⟩;cases b with
  |false=>
   have d:Hid (¬lU l n):=fun h=>by have:=h.dg;rw[a.out]at this;cases this
   clear a c B;go_wp2;go_roundw;case rel=>exact⟨n+1,by omega,by omega,aY (by simp),f.out d.out,by first|rfl|trivial⟩
   case measure=>simp[intOf];omega
  |true=>
   have B:=B rfl;by_cases C:n+1<l.length;case neg=>
    have d:Hid (¬lU l n):=fun h=>C h.len;have E:¬(n:Int)+1<(l.length:Int):=by omega
    clear a c;go_wp2;go_roundw;case rel=>exact⟨n+1,by omega,by omega,aY (by simp),f.out d.out,by first|rfl|trivial⟩
    case measure=>simp[intOf];omega
   have E:(n:Int)+1<(l.length:Int):=by omega
   by_cases Q:(l[n+1].toNat:Int)=62;case neg=>
    have d:Hid (¬lU l n):=fun h=>by have:=h.gt;omega
    clear a c;go_wp2;go_roundw;case rel=>exact⟨n+1,by omega,by omega,aY (by simp),f.out d.out,by first|rfl|trivial⟩
    case measure=>simp[intOf];omega
   have K:Hid (l[n+1].toNat=62):=by show _=_;omega
   have R:((l[n+1].toNat:Int)==62)=true:=by simp;omega
   clear Q;by_cases W:(x:Int)<=191;case neg=>
    have d:Hid (¬lU l n):=fun h=>by have:=h.le;rw[a.out]at this;simp only at this;omega
    clear a c;go_wp2;go_roundw;case rel=>exact⟨n+1,by omega,by omega,aY (by simp),f.out d.out,by first|rfl|trivial⟩
    case measure=>simp[intOf];omega
   by_cases F:(l[1].toNat:Int)=48
   ·have G:((l[1].toNat:Int) !=48)=false:=by simp;omega
    by_cases S:n=1
    ·subst S;have p:Hid (V= .tuple #[.int .i64 x,.int .i64 3]):=g.out ⟨by rw[a.out],C,K.out,by rw[a.out];show x<=191;omega,.inr rfl⟩;clear a c F;go_wp2;go_ret2;exact⟨by rw[p.out];rfl,rfl⟩
    ·have d:Hid (¬lU l n):=fun h=>by have:=h.zero;omega
     have T:((n:Int)==1)=false:=by simp;omega
     clear a c F;go_wp2;go_roundw;case rel=>exact⟨n+1,by omega,by omega,aY (by simp),f.out d.out,by first|rfl|trivial⟩
     case measure=>simp[intOf];omega
   ·have G:((l[1].toNat:Int) !=48)=true:=by simp;omega
    have p:Hid (V= .tuple #[.int .i64 x,.int .i64 ((n:Int)+2)]):=g.out ⟨by rw[a.out],C,K.out,by rw[a.out];show x<=191;omega,.inl (by omega)⟩;clear a c F;go_wp2;go_ret2;exact⟨by rw[p.out];rfl,rfl⟩
end Go.Proofs.Z
namespace Go.Hm
theorem tB(p:UInt8->Bool):∀(l:List UInt8)(b:Nat),aZ p b l=min b (l.takeWhile p).length
 |[],b=>by simp[aZ]
 |c::t,0=>by simp[aZ]
 |c::t,b+1=>by
  have d:=tB p t b;unfold aZ at d⊢;rw[mG];by_cases a:p c=true
  ·rw[lB,lB,aD a,aD a,bU,bU,d];omega
  ·rw[lB,lB,aB a,aB a];simp
theorem OD(p:UInt8->Bool)(l:List UInt8):l.take (l.takeWhile p).length=l.takeWhile p:=
 (List.prefix_iff_eq_take.1 (List.takeWhile_prefix p)).symm
theorem OE{l:List UInt8}{p:UInt8->Bool}{I k:Nat}(a:(l.takeWhile p).length=I)(b:k<I):∃h:k<l.length,p l[k]=true:=by
 have:=(qN p l 0 I (dM _) (by rw[fB];exact a)).2.1 k b;obtain⟨h,c⟩:=this;refine⟨by omega,?_⟩;have e:l[0+k]=l[k]'(by omega):=by congr 1;omega
 rw[<-e];exact c
theorem mY{l:List UInt8}{a:Nat}{c:UInt8}(h:¬∃h:a<l.length,l[a].toNat=c.toNat):Lib.hasPrefix (l.drop a) [c]=false:=by
 cases b:Lib.hasPrefix (l.drop a) [c]with
 |false=>rfl
 |true=>
  obtain⟨h1,h2⟩:=(tA l a c).1 b;exact absurd ⟨h1,by rw[h2]⟩ h
theorem mZ{l:List UInt8}{a:Nat}{c:UInt8}(h:∃h:a<l.length,l[a].toNat=c.toNat):Lib.hasPrefix (l.drop a) [c]=true:=by
 obtain⟨h1,h2⟩:=h;exact(tA l a c).2 ⟨h1,eY.1 h2⟩
theorem xO{l a p:List UInt8}{e:Nat}(h:¬∃h:e<l.length,l[e].toNat=58):fC l a p e=([],[],0):=by
 unfold fC;rw[aD (mY (c:=58) h)]
theorem Y6{l a p:List UInt8}{e:Nat}(h:∃h:e<l.length,l[e].toNat=58)(h2:¬∃h:e+1<l.length,l[e+1].toNat=32):fC l a p e=(a,p,e+1):=by
 unfold fC;rw[aB (by rw[mZ (c:=58) h];simp),aB (by rw[mY (c:=32) h2];simp)]
theorem Y7{l a p:List UInt8}{e:Nat}(h:∃h:e<l.length,l[e].toNat=58)(h2:∃h:e+1<l.length,l[e+1].toNat=32):fC l a p e=(a,p,e+1+1):=by
 unfold fC;rw[aB (by rw[mZ (c:=58) h];simp),aD (mZ (c:=32) h2)]
theorem Y8{l:List UInt8}{I:Nat}(f:(l.takeWhile cE).length=I)(h:bX (l.take I) 16=false):dG l=([],[],0):=by
 have b:=tB cE l 16;rw[f]at b;by_cases i:I<=16
 ·rw[Nat.min_eq_right i]at b;unfold dG;rw[b];have d:(l.take I).all fO=true:=by
   rw[nL];intro c e;rw[<-f,OD]at e;exact MC (BN cE l c e)
  have a:(l.take I).length=I:=by
   rw[eJ];have:=BO cE l;omega
  rw[aD];unfold bX at h;rw[d,a,decide_eq_true i,Bool.and_true,Bool.and_true]at h;by_cases h0:I=0
  ·exact .inl h0
  ·right;have g:(l.take I).isEmpty=false:=by
    cases j:l.take I with
    |nil=>rw[j]at a;simp at a;omega
    |cons=>rfl
   rw[g]at h;simpa using h
 ·rw[Nat.min_eq_left (by omega)]at b;unfold dG;obtain⟨h16,e⟩:=OE f (show 16<I by omega);have h91:¬∃h:16<l.length,l[16].toNat=91:=fun⟨_,h⟩=>by simp[cE,nZ,aH]at e;omega
  have h58:¬∃h:16<l.length,l[16].toNat=58:=fun⟨_,h⟩=>by simp[cE,nZ,aH]at e;omega
  rw[b,aB (by
   rintro(h|h)
   ·omega
   ·have:=aQ List.length h;rw[eJ]at this;simp at this;omega),aB (by rw[mY (c:=91) h91];simp),xO h58]
theorem BQ{l:List UInt8}{I:Nat}(a:(l.takeWhile cE).length=I)(h:bX (l.take I) 16=true):aZ cE 16 l=I/\¬(I=0∨l.take I=[45]):=by
 have b:=BO cE l;have h2:¬I=0/\¬l.take I=[45]/\(l.take I).length<=16:=by
  simp[bX]at h;refine⟨fun e=>?_,h.1.1.2,?_⟩
  ·exact h.1.1.1.1 e
  ·rw[eJ];omega
 refine⟨?_,fun e=>e.elim h2.1 h2.2.1⟩;rw[tB,a];rw[eJ]at h2;omega
theorem OF{l:List UInt8}{I:Nat}(a:(l.takeWhile cE).length=I)(h:bX (l.take I) 16=true)(h91:¬∃h:I<l.length,l[I].toNat=91):dG l=fC l (l.take I) [] I:=by
 obtain⟨b,d⟩:=BQ a h;unfold dG;rw[b,aB d,aB (by rw[mY (c:=91) h91];simp)]
theorem xP{l:List UInt8}{I J:Nat}(d:(l.takeWhile cE).length=I)(h:bX (l.take I) 16=true)(h91:∃h:I<l.length,l[I].toNat=91)(b:((l.drop (I+1)).takeWhile aH).length=J)(a:J=0∨8<J∨¬∃h:I+1+J<l.length,l[I+1+J].toNat=93):dG l=([],[],0):=by
 obtain⟨f,g⟩:=BQ d h;unfold dG;rw[f,aB g,aD (mZ (c:=91) h91),tB,b];rw[aD];by_cases h8:8<J
 ·right;rw[Nat.min_eq_left (by omega)];have i:=(qN aH l (I+1) J (by obtain⟨h1,_⟩:=h91;omega) b).2.1 8 h8;obtain⟨h1,j⟩:=i;exact mY (c:=93) fun⟨_,e⟩=>by
   have k:l[I+(1+8)]'(by omega)=l[I+1+8]:=by congr 1
   simp[aH]at j;rw[k]at e;have:(93:UInt8).toNat=93:=rfl;omega
 ·rw[Nat.min_eq_right (by omega)];rcases a with a|a|a
  ·exact .inl a
  ·omega
  ·right;rw[show I+(1+J)=I+1+J by omega];exact mY (c:=93) a
theorem Y9{l:List UInt8}{I J:Nat}(a:(l.takeWhile cE).length=I)(h:bX (l.take I) 16=true)(h91:∃h:I<l.length,l[I].toNat=91)(b:((l.drop (I+1)).takeWhile aH).length=J)(h0:¬J=0)(h8:¬8<J)(d:∃h:I+1+J<l.length,l[I+1+J].toNat=93):dG l=fC l (l.take I) ((l.drop (I+1)).take J) (I+1+J+1):=by
 obtain⟨f,g⟩:=BQ a h;unfold dG;rw[f,aB g,aD (mZ (c:=91) h91),tB,b,Nat.min_eq_right (by omega),aB,show I+(1+J)=I+1+J by omega];rintro(e|e)
 ·exact h0 e
 ·rw[show I+(1+J)=I+1+J by omega,mZ (c:=93) d]at e;cases e
theorem aAN(l:List UInt8):∀(a:List (List UInt8))(i k:Nat)(h:i<a.length),bF l (a.drop i) k=if a[i]=l then k+1 else bF l (a.drop (i+1)) (k+1):=by
 intro a i k h;rw[eE h,bF]
def OZ:List UInt8:=[74,97,110,70,101,98,77,97,114,65,112,114,77,97,121,74,117,110,74,117,108,65,117,103,83,101,112,79,99,116,78,111,118,68,101,99]
theorem aAO:∀i:Fin 12,(OZ.drop (3*i.val)).take (3*i.val+3-3*i.val)=gS.getD i.val []:=by decide +kernel
end Go.Hm
namespace Go.Proofs.Z
open Hm Tryz Go.RowKit Go.Sort
theorem aAP(i:Nat)(h:i<12):(⟨#[74,97,110,70,101,98,77,97,114,65,112,114,77,97,121,74,117,110,74,117,108,65,117,103,83,101,112,79,99,116,78,111,118,68,101,99]⟩:ByteArray).extract (3*i) (3*i+3)=⟨(gS.getD i []).toArray⟩:=by
 have h1:=fR OZ (3*i) (3*i+3);rw[aAO ⟨i,h⟩]at h1;exact h1
set_option maxRecDepth 20000 in
theorem aAQ(l:List UInt8)(w:World):Calls prog 218 #[.string ⟨l.toArray⟩] w fun e p=>e= .returned (.int .i64 (iB l))/\p=w:=by
 obtain⟨M,f⟩:∃M,iB l=M:=⟨_,rfl⟩;rw[f];have q:=show Hid _ from f;clear f;go_enter func218,ntmps218;go_wp2;go_loopw [4] (fun g wr=>∃i:Nat,i<=12/\g= .int .i64 i/\M=bF l (gS.drop i) i/\wr=w) (fun g _=>12-(intOf g).toNat)
 case atStart=>exact⟨0,by omega,rfl,q.out.symm,rfl⟩
 case round=>
  obtain⟨i,hi,rfl,n,rfl⟩:=hrel;have h:=show Hid _ from n;clear n;by_cases j:i<12
  ·have k:(i:Int)<12:=by omega
   have a:=aAN l gS i i (by show i<12;omega);have o:gS[i]'(by show i<12;omega)=gS.getD i []:=by
    rw[gQ,dP (by show i<12;omega)];rfl
   rw[o]at a;have b:=show Hid _ from a;have m:=aAP i j;clear a o;generalize gS.getD i []=mn at b m;by_cases d:mn=l
   ·subst d;have c:Hid (M=i+1):=by show _=_;rw[h.out,b.out,aD rfl]
    go_wp2;go_ret;exact⟨by rw[c.out];rfl,rfl⟩
   ·have r:(mn==l)=false:=bG.2 d;have c:Hid (M=bF l (gS.drop (i+1)) (i+1)):=by show _=_;rw[h.out,b.out,aB d]
    clear d;go_wp2;go_roundw;case rel=>exact⟨i+1,by omega,aY (by simp),c.out,by first|rfl|trivial⟩
    case measure=>simp[intOf];omega
  ·have k:¬(i:Int)<12:=by omega
   have c:Hid (M=0):=by
    show _=_;rw[h.out,gH (by show 12<=i;omega)];rfl
   go_wp2;go_ret;exact⟨by rw[c.out];rfl,rfl⟩
end Go.Proofs.Z

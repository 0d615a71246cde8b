/- Pressed by program out of Cj. -/
import Derived.Test.YtdlhbmncbmconaaGreatDoorA23
namespace Go.Proofs.Z
open Hm Tryz Go.RowKit Go.Sort
attribute [local go_sem] dY fR fS
def oP(t:List UInt8×List UInt8×Nat):Value:= .tuple #[.string ⟨t.1.toArray⟩,.string ⟨t.2.1.toArray⟩,.int .i64 t.2.2]
theorem aAK{l:List UInt8}{a j:Nat}(h:a+j<l.length):(l.drop a).take j++[l[a+j]]=(l.drop a).take (j+1):=by
 rw[List.take_succ_eq_append_getElem (by rw[bC];omega),List.getElem_drop]
theorem aAL{l:List UInt8}{a:Nat}(h:a<l.length):(l.drop a).take 1=[l[a]]:=by
 rw[eE h];rfl
set_option maxRecDepth 20000 in
set_option maxHeartbeats 4000000 in
theorem aAM(l:List UInt8)(hl:l.length<=1000000000000000)(w:World):Calls prog 193 #[.string ⟨l.toArray⟩] w fun e w'=>e= .returned (oP (dG l))/\w'=w:=by
 obtain⟨I,hI⟩:∃I,(l.takeWhile cE).length=I:=⟨_,rfl⟩;obtain⟨K,ab,L⟩:=qN cE l 0 I (dM _) (by rw[fB];exact hI);have K:I<=l.length:=by omega
 have ac:Hid (∀j,j<I->∃h:j<l.length,cE l[j]=true):=fun j hj=>OE hI hj;have ad:Hid (∀h:I<l.length,cE l[I]=false):=fun h=>by
  have:=L (by omega);have e:l[0+I]'(by omega)=l[I]:=by congr 1;omega
  rw[<-e];exact this
 clear ab L;have u:=show Hid _ from hI;clear hI;obtain⟨wd,y⟩:∃b,bX (l.take I) 16=b:=⟨_,rfl⟩;have WD:Hid (∀w,Calls prog 162 #[.string ⟨(l.take I).toArray⟩,.int .i64 16] w fun e w'=>e= .returned (.bool wd)/\w'=w):=fun w=>by
  have:=xM (l.take I) (by rw[eJ];omega) 16 (by omega) w
  rwa [y]at this
 have i:=show Hid _ from y;clear y;obtain⟨V,hV⟩:∃V,oP (dG l)=V:=⟨_,rfl⟩;rw[hV];have v:=show Hid _ from hV;clear hV;go_enter func193,ntmps193;go_upto_block 0 with fail;go_cut [5] (fun s5 wc=>s5= .int .i64 (I:Int)/\wc=w);case first=>
  go_wp2;go_loopw [5] (fun s5 wr=>∃j:Nat,j<=I/\s5= .int .i64 (j:Int)/\wr=w) (fun s5 _=>I-(intOf s5).toNat)
  case atStart=>exact⟨0,dM _,rfl,rfl⟩
  case round=>
   obtain⟨j,hj,rfl,k⟩:=hrel;have k:=k.symm;subst k;by_cases z:j<I
   ·obtain⟨h1,M⟩:=ac.out j z;have N:(j:Int)<(l.length:Int):=by omega
    have m:((97:Int)<=(l[j].toNat:Int)/\(l[j].toNat:Int)<=122)∨(¬(97:Int)<=(l[j].toNat:Int)/\(65:Int)<=(l[j].toNat:Int)/\(l[j].toNat:Int)<=90)∨(¬(97:Int)<=(l[j].toNat:Int)/\¬(65:Int)<=(l[j].toNat:Int)/\(48:Int)<=(l[j].toNat:Int)/\(l[j].toNat:Int)<=57)
      ∨ (l[j].toNat:Int)=45∨(l[j].toNat:Int)=95∨(l[j].toNat:Int)=46∨(l[j].toNat:Int)=47:=by
     simp[cE,nZ,aH]at M;omega
    clear M;rcases m with⟨F,G⟩|⟨F,G,O⟩|⟨F,G,O,Q⟩|t|t|t|t
    ·go_wp2;go_roundw;case rel=>exact⟨j+1,by omega,aY (by simp),by first|rfl|trivial⟩
     case measure=>simp[intOf];omega
    ·go_wp2;go_roundw;case rel=>exact⟨j+1,by omega,aY (by simp),by first|rfl|trivial⟩
     case measure=>simp[intOf];omega
    ·go_wp2;go_roundw;case rel=>exact⟨j+1,by omega,aY (by simp),by first|rfl|trivial⟩
     case measure=>simp[intOf];omega
    ·have F:¬(97:Int)<=(l[j].toNat:Int):=by omega
     have G:¬(65:Int)<=(l[j].toNat:Int):=by omega
     have O:¬(48:Int)<=(l[j].toNat:Int):=by omega
     have Q:((l[j].toNat:Int)==45)=true:=by simp;omega
     clear t;go_wp2;go_roundw;case rel=>exact⟨j+1,by omega,aY (by simp),by first|rfl|trivial⟩
     case measure=>simp[intOf];omega
    ·have F:¬(97:Int)<=(l[j].toNat:Int):=by omega
     have G:(65:Int)<=(l[j].toNat:Int):=by omega
     have al:¬(l[j].toNat:Int)<=90:=by omega
     have O:(48:Int)<=(l[j].toNat:Int):=by omega
     have am:¬(l[j].toNat:Int)<=57:=by omega
     have Q:((l[j].toNat:Int)==45)=false:=by simp;omega
     have t5:((l[j].toNat:Int)==95)=true:=by simp;omega
     clear t;go_wp2;go_roundw;case rel=>exact⟨j+1,by omega,aY (by simp),by first|rfl|trivial⟩
     case measure=>simp[intOf];omega
    ·have F:¬(97:Int)<=(l[j].toNat:Int):=by omega
     have G:¬(65:Int)<=(l[j].toNat:Int):=by omega
     have O:¬(48:Int)<=(l[j].toNat:Int):=by omega
     have Q:((l[j].toNat:Int)==45)=false:=by simp;omega
     have t5:((l[j].toNat:Int)==95)=false:=by simp;omega
     have t6:((l[j].toNat:Int)==46)=true:=by simp;omega
     clear t;go_wp2;go_roundw;case rel=>exact⟨j+1,by omega,aY (by simp),by first|rfl|trivial⟩
     case measure=>simp[intOf];omega
    ·have F:¬(97:Int)<=(l[j].toNat:Int):=by omega
     have G:¬(65:Int)<=(l[j].toNat:Int):=by omega
     have O:¬(48:Int)<=(l[j].toNat:Int):=by omega
     have Q:((l[j].toNat:Int)==45)=false:=by simp;omega
     have t5:((l[j].toNat:Int)==95)=false:=by simp;omega
     have t6:((l[j].toNat:Int)==46)=false:=by simp;omega
     have t7:((l[j].toNat:Int)==47)=true:=by simp;omega
     clear t;go_wp2;go_roundw;case rel=>exact⟨j+1,by omega,aY (by simp),by first|rfl|trivial⟩
     case measure=>simp[intOf];omega
   ·have A:j=I:=by omega
    subst A;by_cases c:j<l.length;case neg=>
     have N:¬(j:Int)<(l.length:Int):=by omega
     go_wp2
     go_meet
     case rel=>exact⟨rfl,rfl⟩
    have N:(j:Int)<(l.length:Int):=by omega
    have H:=ad.out c;have f1:¬(l[j].toNat:Int)=45/\¬(l[j].toNat:Int)=95/\¬(l[j].toNat:Int)=46/\¬(l[j].toNat:Int)=47:=by
     simp[cE,nZ,aH]at H;omega
    have m:(¬(97:Int)<=(l[j].toNat:Int)/\¬(65:Int)<=(l[j].toNat:Int)/\¬(48:Int)<=(l[j].toNat:Int))∨(¬(97:Int)<=(l[j].toNat:Int)/\¬(65:Int)<=(l[j].toNat:Int)/\(48:Int)<=(l[j].toNat:Int)/\¬(l[j].toNat:Int)<=57)
      ∨ (¬(97:Int)<=(l[j].toNat:Int)/\(65:Int)<=(l[j].toNat:Int)/\¬(l[j].toNat:Int)<=90/\(48:Int)<=(l[j].toNat:Int)/\¬(l[j].toNat:Int)<=57)
      ∨ ((97:Int)<=(l[j].toNat:Int)/\¬(l[j].toNat:Int)<=122/\(65:Int)<=(l[j].toNat:Int)/\¬(l[j].toNat:Int)<=90/\(48:Int)<=(l[j].toNat:Int)/\¬(l[j].toNat:Int)<=57):=by
     simp[cE,nZ,aH]at H;omega
    have Q:((l[j].toNat:Int)==45)=false:=bG.2 f1.1;have t5:((l[j].toNat:Int)==95)=false:=bG.2 f1.2.1;have t6:((l[j].toNat:Int)==46)=false:=bG.2 f1.2.2.1;have t7:((l[j].toNat:Int)==47)=false:=bG.2 f1.2.2.2;clear H f1;rcases m with⟨u1,u2,u3⟩|⟨u1,u2,u3,u4⟩|⟨u1,u2,u3,u4,u5⟩|⟨u1,u2,u3,u4,u5,u6⟩;all_goals(
     go_wp2
     go_meet
     case rel=>exact⟨rfl,rfl⟩)
 case rest=>
  obtain⟨rfl,f⟩:=hcut;have f:=f.symm;subst f;go_wp2_with fail;refine(WD.out _).mono ?_;rintro e w1⟨rfl,B⟩;have B:=B.symm;subst B;cases wd with
  |false=>
   have d:Hid (V= .tuple #[.string ⟨#[]⟩,.string ⟨#[]⟩,.int .i64 0]):=by show _=_;rw[<-v.out,Y8 u.out i.out];rfl
   go_wp2;go_ret3;exact⟨by rw[d.out];rfl,rfl⟩
  |true=>
   by_cases c:I<l.length;case neg=>
    have d:Hid (V= .tuple #[.string ⟨#[]⟩,.string ⟨#[]⟩,.int .i64 0]):=by
     show _=_;rw[<-v.out,OF u.out i.out (fun⟨h1,_⟩=>c h1),xO (fun⟨h1,_⟩=>c h1)];rfl
    have N:¬(I:Int)<(l.length:Int):=by omega
    have an:(l.length:Int)<=(I:Int):=by omega
    go_wp2;go_ret3;exact⟨by rw[d.out];rfl,rfl⟩
   have N:(I:Int)<(l.length:Int):=by omega
   obtain⟨ae,n⟩:∃b,((l[I].toNat:Int)==91)=b:=⟨_,rfl⟩;go_upto_if 91 with fail;go_cut [5,8] (fun s5 s8 wc=>∃(e:Nat)(p:List UInt8),e<=l.length/\s5= .int .i64 (e:Int)/\s8=Value.string (ByteArray.mk p.toArray)/\V=oP (fC l (l.take I) p e)/\wc=w);case first=>
    cases ae with
    |true=>
     have R:=dZ.1 n;have o:Hid (∃h:I<l.length,l[I].toNat=91):=⟨c,by omega⟩;clear R;obtain⟨J,hJ⟩:∃J,((l.drop (I+1)).takeWhile aH).length=J:=⟨_,rfl⟩;obtain⟨ao,S,T⟩:=qN aH l (I+1) J (by omega) hJ;have U:=show Hid _ from S;have W:=show Hid _ from T;have r:=show Hid _ from hJ;clear hJ S T;go_upto_block 2 with fail;go_cut [5,8] (fun s5 s8 wc=>s5= .int .i64 ((I:Int)+1+(J:Int))/\s8=Value.string (ByteArray.mk ((l.drop (I+1)).take J).toArray)/\wc=w);case first=>
      go_wp2;go_loopw [5,8] (fun s5 s8 wr=>∃(j:Nat)(P:List UInt8),j<=J/\s5= .int .i64 ((I:Int)+1+(j:Int))/\s8= .string ⟨P.toArray⟩/\P=(l.drop (I+1)).take j/\wr=w) (fun s5 _ _=>I+1+J-(intOf s5).toNat)
      case atStart=>exact⟨0,[],dM _,aY (by simp),rfl,rfl,rfl⟩
      case round=>
       obtain⟨j,P,hj,rfl,rfl,x,k⟩:=hrel;have k:=k.symm;subst k;have s:=show Hid _ from x;have g:P.length<=1000000000000000:=by rw[x,eJ,bC];omega
       clear x;have af:((I:Int)+1+(j:Int)).toNat=I+1+j:=by omega
       by_cases z:j<J
       ·obtain⟨h1,M⟩:=U.out j z;have ag:(48<=l[I+1+j].toNat/\l[I+1+j].toNat<=57):=by simpa[aH]using M
        have d0:(I:Int)+1+(j:Int)<(l.length:Int):=by omega
        have d1:(48:Int)<=(l[I+1+j].toNat:Int):=by omega
        have d2:(l[I+1+j].toNat:Int)<=57:=by omega
        have ah:Hid (P++[l[I+1+j]]=(l.drop (I+1)).take (j+1)):=by show _=_;rw[s.out];exact aAK h1
        have ho:=aAL h1;clear M ag;have ap:¬9223372036854775807<P.length+1:=by omega
        go_wp2;go_roundw;case rel=>exact⟨j+1,P++[l[I+1+j]],by omega,aY (by simp;omega),by first|rfl|trivial,ah.out,by first|rfl|trivial⟩
        case measure=>simp[intOf];omega
       ·have A:j=J:=by omega
        subst A;by_cases c:I+1+j<l.length;case neg=>
         have d0:¬(I:Int)+1+(j:Int)<(l.length:Int):=by omega
         go_wp2
         go_meet
         case rel=>exact⟨rfl,by rw[s.out],rfl⟩
        have d0:(I:Int)+1+(j:Int)<(l.length:Int):=by omega
        have H:=W.out c;have m:¬(48:Int)<=(l[I+1+j].toNat:Int)∨((48:Int)<=(l[I+1+j].toNat:Int)/\¬(l[I+1+j].toNat:Int)<=57):=by
         simp[aH]at H;omega
        clear H;rcases m with d1|⟨d1,d2⟩;all_goals(
         go_wp2
         go_meet
         case rel=>exact⟨rfl,by rw[s.out],rfl⟩)
     case rest=>
      obtain⟨rfl,rfl,f⟩:=hcut;have f:=f.symm;subst f;obtain⟨P,x⟩:∃P,(l.drop (I+1)).take J=P:=⟨_,rfl⟩;have g:P.length=J:=by rw[<-x,eJ,bC];omega
      rw[x];have s:=show Hid _ from x;clear x U W;have q:=show Hid _ from g;have af:((I:Int)+1+(J:Int)).toNat=I+1+J:=by omega
      by_cases C:J=0
      ·have d:Hid (V= .tuple #[.string ⟨#[]⟩,.string ⟨#[]⟩,.int .i64 0]):=by show _=_;rw[<-v.out,xP u.out i.out o.out r.out (.inl C)];rfl
       obtain rfl:P=[]:=tJ (by omega);clear g q s r C;go_wp2;go_ret3;exact⟨by rw[d.out];rfl,rfl⟩
      have pb:(P==[])=false:=bG.2 (fun e=>by rw[e]at g;simp at g;omega);by_cases j8:8<J
      ·have d:Hid (V= .tuple #[.string ⟨#[]⟩,.string ⟨#[]⟩,.int .i64 0]):=by show _=_;rw[<-v.out,xP u.out i.out o.out r.out (.inr (.inl j8))];rfl
       have ai:(8:Int)<(P.length:Int):=by omega
       clear g q s r C;go_wp2;go_ret3;exact⟨by rw[d.out];rfl,rfl⟩
      have ai:¬(8:Int)<(P.length:Int):=by omega
      by_cases X:I+1+J<l.length;case neg=>
       have d:Hid (V= .tuple #[.string ⟨#[]⟩,.string ⟨#[]⟩,.int .i64 0]):=by show _=_;rw[<-v.out,xP u.out i.out o.out r.out (.inr (.inr (fun⟨h,_⟩=>X h)))];rfl
       have D:(l.length:Int)<=(I:Int)+1+(J:Int):=by omega
       clear g q s r C;go_wp2;go_ret3;exact⟨by rw[d.out];rfl,rfl⟩
      have D:¬(l.length:Int)<=(I:Int)+1+(J:Int):=by omega
      by_cases Y:(l[I+1+J].toNat:Int)=93;case neg=>
       have d:Hid (V= .tuple #[.string ⟨#[]⟩,.string ⟨#[]⟩,.int .i64 0]):=by show _=_;rw[<-v.out,xP u.out i.out o.out r.out (.inr (.inr (fun⟨_,h⟩=>Y (by omega))))];rfl
       have E:((l[I+1+J].toNat:Int) !=93)=true:=by simp;omega
       clear g q s r C;go_wp2;go_ret3;exact⟨by rw[d.out];rfl,rfl⟩
      have d:Hid (V=oP (fC l (l.take I) P (I+1+J+1))):=by
       show _=_;rw[<-v.out,Y9 u.out i.out o.out r.out C j8 ⟨X,by omega⟩,s.out]
      have E:((l[I+1+J].toNat:Int) !=93)=false:=by simp;omega
      clear g q s r C Y;go_wp2
      go_meet
      case rel=>exact⟨I+1+J+1,P,by omega,aY (by simp),rfl,d.out,rfl⟩
    |false=>
     have d:Hid (V=oP (fC l (l.take I) [] I)):=by
      show _=_;rw[<-v.out,OF u.out i.out (fun⟨h1,h2⟩=>bG.1 n (by omega))]
     go_wp2
     go_meet
     case rel=>exact⟨I,[],K,rfl,rfl,d.out,rfl⟩
   case rest=>
    obtain⟨e,p,he,rfl,rfl,hv,f⟩:=hcut;clear n N c;have f:=f.symm;subst f;have HQ:=show Hid _ from hv;clear hv;by_cases X:e<l.length;case neg=>
     have d:Hid (V= .tuple #[.string ⟨#[]⟩,.string ⟨#[]⟩,.int .i64 0]):=by show _=_;rw[HQ.out,xO (fun⟨h,_⟩=>X h)];rfl
     have D:(l.length:Int)<=(e:Int):=by omega
     go_wp2;go_ret3;exact⟨by rw[d.out];rfl,rfl⟩
    have D:¬(l.length:Int)<=(e:Int):=by omega
    by_cases Y:(l[e].toNat:Int)=58;case neg=>
     have d:Hid (V= .tuple #[.string ⟨#[]⟩,.string ⟨#[]⟩,.int .i64 0]):=by show _=_;rw[HQ.out,xO (fun⟨_,h⟩=>Y (by omega))];rfl
     have E:((l[e].toNat:Int) !=58)=true:=by simp;omega
     go_wp2;go_ret3;exact⟨by rw[d.out];rfl,rfl⟩
    have E:((l[e].toNat:Int) !=58)=false:=by simp;omega
    have Z:Hid (∃h:e<l.length,l[e].toNat=58):=⟨X,by omega⟩;clear Y;have aa:Hid ((¬∃h:e+1<l.length,(l[e+1].toNat:Int)=32)->V= .tuple #[.string ⟨(l.take I).toArray⟩,.string ⟨p.toArray⟩,.int .i64 ((e:Int)+1)]):=fun h=>by
     rw[HQ.out,Y6 Z.out (fun⟨a,b⟩=>h ⟨a,by omega⟩)];simp[oP]
    by_cases f0:e+1<l.length;case neg=>
     have d:Hid (V= .tuple #[.string ⟨(l.take I).toArray⟩,.string ⟨p.toArray⟩,.int .i64 ((e:Int)+1)]):=aa.out (fun⟨h,_⟩=>f0 h);have aj:¬(e:Int)+1<(l.length:Int):=by omega
     go_wp2;go_ret3;exact⟨by rw[d.out];rfl,rfl⟩
    have aj:(e:Int)+1<(l.length:Int):=by omega
    by_cases f1:(l[e+1].toNat:Int)=32;case neg=>
     have d:Hid (V= .tuple #[.string ⟨(l.take I).toArray⟩,.string ⟨p.toArray⟩,.int .i64 ((e:Int)+1)]):=aa.out (fun⟨_,h⟩=>f1 h);have ak:((l[e+1].toNat:Int)==32)=false:=bG.2 f1;go_wp2;go_ret3;exact⟨by rw[d.out];rfl,rfl⟩
    have d:Hid (V= .tuple #[.string ⟨(l.take I).toArray⟩,.string ⟨p.toArray⟩,.int .i64 ((e:Int)+1+1)]):=by
     show _=_;rw[HQ.out,Y7 Z.out ⟨f0,by omega⟩];simp[oP]
    have ak:((l[e+1].toNat:Int)==32)=true:=dZ.2 f1;clear f1;go_wp2;go_ret3;exact⟨by rw[d.out];rfl,rfl⟩
end Go.Proofs.Z

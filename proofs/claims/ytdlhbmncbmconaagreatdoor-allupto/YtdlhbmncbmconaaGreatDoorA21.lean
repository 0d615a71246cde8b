/- Pressed by program out of Cc. -/
import Derived.Test.YtdlhbmncbmconaaGreatDoorA20
namespace Go.Hm
theorem aAX{l:List UInt8}{a n:Nat}(h:gZ l a=some n):n<=86399:=by
 rw[PC]at h;split at h
 ·cases h
 ·next hc=>
  injection h with h;omega
theorem aAY{z:List UInt8}{k:Int}(h:fU z=some k): -1439<=k/\k<=1439:=by
 unfold fU at h;split at h
 ·injection h with h;omega
 ·split at h
  ·cases h
  ·split at h
   ·cases h
   ·next hc=>
    split at h
    ·injection h with h;omega
    ·injection h with h;omega
theorem aAZ{y m d s:Int}{t:List UInt8}(h:mD y m d s=some t):t.length=19:=by
 unfold mD at h;split at h
 ·cases h
 ·injection h with h;rw[<-h];rfl
theorem aA0(l:List UInt8)(c:UInt8):Lib.trimRightB (l++[c]) c=Lib.trimRightB l c:=by
 unfold Lib.trimRightB;rw[List.reverse_append,List.reverse_singleton,List.singleton_append,List.dropWhile_cons,aD (by simp)]
theorem PG(p:UInt8->Bool):∀(l:List UInt8),∀c∈l.takeWhile p,p c=true
 |[],c,h=>by simp at h
 |a::t,c,h=>by
  rw[lB]at h;split at h
  ·next hp=>
   rcases jY.1 h with h|h
   ·rw[h];exact hp
   ·exact PG p t c h
  ·simp at h
theorem PH(p:UInt8->Bool):∀(l:List UInt8)(n:Nat),(l.takeWhile p).length=n->∀h:n<l.length,p l[n]=false
 |[],n,_,h=>by simp at h
 |a::t,n,hn,h=>by
  by_cases b:p a=true
  ·rw[lB,aD b,bU]at hn;subst hn;exact PH p t _ rfl (by simpa using h)
  ·rw[lB,aB b,dS]at hn;subst hn;simpa using b
theorem aA1(p:UInt8->Bool)(l:List UInt8):(l.takeWhile p).length<=l.length:=by
 induction l with
 |nil=>simp
 |cons a t ih=>
  rw[lB];split
  ·simpa using ih
  ·simp
end Go.Hm
namespace Go.Proofs.Z
open Hm Tryz Go.RowKit Go.Sort
attribute [local go_sem] dY fR fS
theorem nA(l:List UInt8)(j:Nat)(h:j<l.length):l.getD j 0=l[j]:=by rw[gQ,dP h];rfl
set_option maxRecDepth 50000 in
set_option maxHeartbeats 8000000 in
theorem aA2(l:List UInt8)(h:l.length<20∨¬(l.getD 4 0).toNat=45∨¬(l.getD 7 0).toNat=45∨¬(l.getD 10 0).toNat=84)(w:World):Calls prog 159 #[.string ⟨l.toArray⟩] w fun e c=>e= .returned (.tuple #[.string ⟨#[]⟩,.bool false])/\c=w:=by
 by_cases j:l.length<20
 ·have a:(l.length:Int)<20:=by omega
  clear h;go_enter func159,ntmps159;go_wp2;go_ret2;exact⟨rfl,rfl⟩
 have a:¬(l.length:Int)<20:=by omega
 have k:(4:Int)<(l.length:Int):=by omega
 have m:(7:Int)<(l.length:Int):=by omega
 have d:(10:Int)<(l.length:Int):=by omega
 rw[nA l 4 (by omega),nA l 7 (by omega),nA l 10 (by omega)]at h;have f:¬((l[4]'(by omega)).toNat:Int)=45∨(((l[4]'(by omega)).toNat:Int)=45/\¬((l[7]'(by omega)).toNat:Int)=45)∨(((l[4]'(by omega)).toNat:Int)=45/\((l[7]'(by omega)).toNat:Int)=45/\¬((l[10]'(by omega)).toNat:Int)=84):=by omega
 clear h;rcases f with b|⟨b,g⟩|⟨b,g,i⟩;all_goals(
  go_enter func159,ntmps159;go_wp2;go_ret2;exact⟨rfl,rfl⟩)
set_option maxRecDepth 50000 in
set_option maxHeartbeats 8000000 in
theorem aA3(l:List UInt8)(A:l.length<=1000000000000000)(r:20<=l.length)(s:(l[4]'(by omega)).toNat=45)(t:(l[7]'(by omega)).toNat=45)(m:(l[10]'(by omega)).toNat=84)(y mo d:Nat)(b1 b2 n o:Bool)(g:Option Nat)(h:Hid (∀w,Calls prog 190 #[.string ⟨l.toArray⟩,.int .i64 0,.int .i64 4] w fun e c=>e= .returned (.tuple #[.int .i64 y,.bool b1])/\c=w))(i:Hid (∀w,Calls prog 190 #[.string ⟨l.toArray⟩,.int .i64 5,.int .i64 2] w fun e c=>e= .returned (.tuple #[.int .i64 mo,.bool b2])/\c=w))(j:Hid (∀w,Calls prog 190 #[.string ⟨l.toArray⟩,.int .i64 8,.int .i64 2] w fun e c=>e= .returned (.tuple #[.int .i64 d,.bool n])/\c=w))(f:Hid (∀w,Calls prog 194 #[.string ⟨l.toArray⟩,.int .i64 11] w fun e c=>e= .returned (jK g)/\c=w))(k:Hid (∀w,Calls prog 195 #[.int .i64 y,.int .i64 mo,.int .i64 d] w fun e c=>e= .returned (.bool o)/\c=w))(b:b1=false∨b2=false∨n=false∨g=none∨o=false)(w:World):Calls prog 159 #[.string ⟨l.toArray⟩] w fun e c=>e= .returned (.tuple #[.string ⟨#[]⟩,.bool false])/\c=w:=by
 have u:¬(l.length:Int)<20:=by omega
 have B:(4:Int)<(l.length:Int):=by omega
 have C:(7:Int)<(l.length:Int):=by omega
 have v:(10:Int)<(l.length:Int):=by omega
 have x:((l[4]'(by omega)).toNat:Int)=45:=by omega
 have z:((l[7]'(by omega)).toNat:Int)=45:=by omega
 have q:((l[10]'(by omega)).toNat:Int)=84:=by omega
 clear s t m;cases b1
 ·clear b;cases g;all_goals(
   unfold jK at f;go_enter func159,ntmps159;go_wp2_with fail;refine(h.out _).mono ?_;rintro e a⟨rfl,rfl⟩;go_wp2_with fail;refine(i.out _).mono ?_;rintro e a⟨rfl,rfl⟩;go_wp2_with fail;refine(j.out _).mono ?_;rintro e a⟨rfl,rfl⟩;go_wp2_with fail;refine(f.out _).mono ?_;rintro e a⟨rfl,rfl⟩;go_wp2_with fail;refine(k.out _).mono ?_;rintro e a⟨rfl,rfl⟩;go_wp2;go_ret2;exact⟨rfl,rfl⟩)
 cases b2
 ·clear b;cases g;all_goals(
   unfold jK at f;go_enter func159,ntmps159;go_wp2_with fail;refine(h.out _).mono ?_;rintro e a⟨rfl,rfl⟩;go_wp2_with fail;refine(i.out _).mono ?_;rintro e a⟨rfl,rfl⟩;go_wp2_with fail;refine(j.out _).mono ?_;rintro e a⟨rfl,rfl⟩;go_wp2_with fail;refine(f.out _).mono ?_;rintro e a⟨rfl,rfl⟩;go_wp2_with fail;refine(k.out _).mono ?_;rintro e a⟨rfl,rfl⟩;go_wp2;go_ret2;exact⟨rfl,rfl⟩)
 cases n
 ·clear b;cases g;all_goals(
   unfold jK at f;go_enter func159,ntmps159;go_wp2_with fail;refine(h.out _).mono ?_;rintro e a⟨rfl,rfl⟩;go_wp2_with fail;refine(i.out _).mono ?_;rintro e a⟨rfl,rfl⟩;go_wp2_with fail;refine(j.out _).mono ?_;rintro e a⟨rfl,rfl⟩;go_wp2_with fail;refine(f.out _).mono ?_;rintro e a⟨rfl,rfl⟩;go_wp2_with fail;refine(k.out _).mono ?_;rintro e a⟨rfl,rfl⟩;go_wp2;go_ret2;exact⟨rfl,rfl⟩)
 cases g with
 |none=>
  clear b;unfold jK at f;go_enter func159,ntmps159;go_wp2_with fail;refine(h.out _).mono ?_;rintro e a⟨rfl,rfl⟩;go_wp2_with fail;refine(i.out _).mono ?_;rintro e a⟨rfl,rfl⟩;go_wp2_with fail;refine(j.out _).mono ?_;rintro e a⟨rfl,rfl⟩;go_wp2_with fail;refine(f.out _).mono ?_;rintro e a⟨rfl,rfl⟩;go_wp2_with fail;refine(k.out _).mono ?_;rintro e a⟨rfl,rfl⟩;go_wp2;go_ret2;exact⟨rfl,rfl⟩
 |some sec=>
  have p:o=false:=by simpa using b
  subst p;clear b;unfold jK at f;go_enter func159,ntmps159;go_wp2_with fail;refine(h.out _).mono ?_;rintro e a⟨rfl,rfl⟩;go_wp2_with fail;refine(i.out _).mono ?_;rintro e a⟨rfl,rfl⟩;go_wp2_with fail;refine(j.out _).mono ?_;rintro e a⟨rfl,rfl⟩;go_wp2_with fail;refine(f.out _).mono ?_;rintro e a⟨rfl,rfl⟩;go_wp2_with fail;refine(k.out _).mono ?_;rintro e a⟨rfl,rfl⟩;go_wp2;go_ret2;exact⟨rfl,rfl⟩
set_option maxRecDepth 50000 in
set_option maxHeartbeats 8000000 in
theorem aA4(l:List UInt8)(hl:l.length<=1000000000000000)(aN:20<=l.length)(a4:(l[4]'(by omega)).toNat=45)(a7:(l[7]'(by omega)).toNat=45)(ap:(l[10]'(by omega)).toNat=84)(y mo d:Nat)(q:Nat)(D1:Hid (∀w,Calls prog 190 #[.string ⟨l.toArray⟩,.int .i64 0,.int .i64 4] w fun e u=>e= .returned (.tuple #[.int .i64 y,.bool true])/\u=w))(D2:Hid (∀w,Calls prog 190 #[.string ⟨l.toArray⟩,.int .i64 5,.int .i64 2] w fun e u=>e= .returned (.tuple #[.int .i64 mo,.bool true])/\u=w))(D3:Hid (∀w,Calls prog 190 #[.string ⟨l.toArray⟩,.int .i64 8,.int .i64 2] w fun e u=>e= .returned (.tuple #[.int .i64 d,.bool true])/\u=w))(CK:Hid (∀w,Calls prog 194 #[.string ⟨l.toArray⟩,.int .i64 11] w fun e u=>e= .returned (jK (some q))/\u=w))(IY:Hid (∀w,Calls prog 195 #[.int .i64 y,.int .i64 mo,.int .i64 d] w fun e u=>e= .returned (.bool true)/\u=w))(aO:q<=86399)(aq:Hid (rM ((y:Int),(mo:Int),(d:Int))))(V:Value)(HV:Hid (kP (fA l)=V))(HR:Hid (fA l=match jG l with
   |none=>none
   |some v=>
    match fU (l.drop v.2)with
    |none=>none
    |some k=>
     match mD y mo d (q-60*k)with
     |none=>none
     |some t=>some (t++(if v.1=[]then[]else 46::v.1)++[90])))(w:World):Calls prog 159 #[.string ⟨l.toArray⟩] w fun e u=>e= .returned V/\u=w:=by
 have C:Hid (fA l=none->V= .tuple #[.string ⟨#[]⟩,.bool false]):=fun h=>by rw[<-HV.out,h];rfl
 have ar:¬(l.length:Int)<20:=by omega
 have j4:(4:Int)<(l.length:Int):=by omega
 have j7:(7:Int)<(l.length:Int):=by omega
 have au:(10:Int)<(l.length:Int):=by omega
 have av:((l[4]'(by omega)).toNat:Int)=45:=by omega
 have aw:((l[7]'(by omega)).toNat:Int)=45:=by omega
 have ad:((l[10]'(by omega)).toNat:Int)=84:=by omega
 unfold jK at CK;have aP:(19:Int)<(l.length:Int):=by omega
 go_enter func159,ntmps159;go_wp2_with fail;refine(D1.out _).mono ?_;rintro e i⟨rfl,rfl⟩;go_wp2_with fail;refine(D2.out _).mono ?_;rintro e i⟨rfl,rfl⟩;go_wp2_with fail;refine(D3.out _).mono ?_;rintro e i⟨rfl,rfl⟩;go_wp2_with fail;refine(CK.out _).mono ?_;rintro e i⟨rfl,rfl⟩;go_wp2_with fail;refine(IY.out _).mono ?_;rintro e i⟨rfl,rfl⟩;clear D1 D2 D3 CK IY av aw ad a4 a7 ap ar j4 j7 au;go_upto_if 85 with fail;go_cut [13,14] (fun x r wc=>∃(v:List UInt8)(at_:Nat),jG l=some (v,at_)/\19<=at_/\at_<=l.length/\v.length<=6/\x= .int .i64 at_/\r= .string ⟨v.toArray⟩/\wc=i);case first=>
  by_cases F:(l[19]'(by omega)).toNat=46
  ·have O:((l[19]'(by omega)).toNat:Int)=46:=by omega
   obtain⟨T,hT⟩:∃T,(l.drop 20).takeWhile aH=T:=⟨_,rfl⟩;have aQ:T.length<=l.length-20:=by
    have:=aA1 aH (l.drop 20);rw[hT,bC]at this;exact this
   have G:jG l=if T=[]∨6<T.length then none else some (Lib.trimRightB T 48,20+T.length):=by
    unfold jG;rw[nA l 19 (by omega),aD F,hT]
   have H:=show Hid _ from G;have P:Hid (∀j,(hj:j<T.length)->∃h:20+j<l.length,T[j]=l[20+j]/\aH l[20+j]=true):=fun j hj=>by
    have h20:20+j<l.length:=by omega
    have hp:T <+: l.drop 20:=by rw[<-hT];exact List.takeWhile_prefix _
    have hg:T[j]=l[20+j]:=by
     have:=List.IsPrefix.getElem hp hj;rw[this,List.getElem_drop]
    exact⟨h20,hg,by rw[<-hg];exact PG aH (l.drop 20) _ (by rw[hT];exact List.getElem_mem hj)⟩
   have Q:Hid (∀h:20+T.length<l.length,aH l[20+T.length]=false):=fun h=>by
    have h1:=PH aH (l.drop 20) T.length (by rw[hT]) (by rw[bC];omega)
    rwa [List.getElem_drop]at h1
   clear hT G F;simp only[O,beq_self_eq_true];clear O;go_upto_block 0 with fail;go_cut [13,14] (fun x r wd=>x= .int .i64 ((20:Int)+(T.length:Int))/\r= .string ⟨T.toArray⟩/\wd=i);case first=>
    go_wp2;go_loopw [13,14] (fun x r wr=>∃j:Nat,j<=T.length/\x= .int .i64 ((20:Int)+(j:Int))/\r= .string ⟨(T.take j).toArray⟩/\wr=i) (fun x _ _=>20+T.length-(intOf x).toNat)
    case atStart=>exact⟨0,dM _,aY (by simp),by simp,rfl⟩
    case round=>
     obtain⟨j,hj,rfl,rfl,A⟩:=hrel;have A:=A.symm;subst A;have aS:((20:Int)+(j:Int)).toNat=20+j:=by omega
     have ae:((20:Int)+(j:Int)+1).toNat=20+j+1:=by omega
     by_cases R:j<T.length
     ·obtain⟨h20,hg,af⟩:=P.out j R;have N:48<=l[20+j].toNat/\l[20+j].toNat<=57:=by simpa[aH]using af
      have c1:(48:Int)<=(l[20+j].toNat:Int):=by omega
      have c2:(l[20+j].toNat:Int)<=57:=by omega
      have c0:(20:Int)+(j:Int)<(l.length:Int):=by omega
      have ax:Hid (T.take (j+1)=T.take j++[l[20+j]]):=by
       show _=_;rw[<-hg];exact(List.take_append_getElem R).symm
      have ay:Hid ((l.drop (20+j)).take 1=[l[20+j]]):=by show _=_;rw[eE h20];rfl
      have aK:(T.take j).length<=1000000000000000:=by rw[eJ];omega
      clear af N hg;go_wp2;go_roundw;case rel=>exact⟨j+1,by omega,aY (by simp;omega),by rw[ax.out];simp only[ay.out],by first|rfl|trivial⟩
      case measure=>simp[intOf];omega
     ·have az:j=T.length:=by omega
      subst az;rw[List.take_length];have aA:(¬(20:Int)+(T.length:Int)<(l.length:Int))∨∃h:20+T.length<l.length,(¬(48:Int)<=(l[20+T.length].toNat:Int))∨((48:Int)<=(l[20+T.length].toNat:Int)/\¬(l[20+T.length].toNat:Int)<=57):=by
       by_cases I:20+T.length<l.length
       ·refine .inr ⟨I,?_⟩;have ag:=Q.out I;have N:¬(48<=l[20+T.length].toNat/\l[20+T.length].toNat<=57):=by
         intro h;have:aH l[20+T.length]=true:=by simp[aH];omega
         rw[this]at ag;cases ag
        omega
       ·exact .inl (by omega)
      clear ae R hj P Q;rcases aA with c0|⟨I,c1|⟨c1,c2⟩⟩
      ·go_wp2
       go_meet
       case rel=>exact⟨rfl,rfl,rfl⟩
      ·have c0:(20:Int)+(T.length:Int)<(l.length:Int):=by omega
       go_wp2
       go_meet
       case rel=>exact⟨rfl,rfl,rfl⟩
      ·have c0:(20:Int)+(T.length:Int)<(l.length:Int):=by omega
       go_wp2
       go_meet
       case rel=>exact⟨rfl,rfl,rfl⟩
   case rest=>
    obtain⟨rfl,rfl,S⟩:=hcut;have S:=S.symm;subst S;clear P Q;by_cases K:T=[]
    ·have p:Hid (fA l=none):=by show _=_;rw[HR.out,H.out,aD (.inl K)]
     subst K;go_wp2;go_ret2;exact⟨by rw[C.out p.out];rfl,rfl⟩
    have aT:(T==[])=false:=bG.2 K;by_cases ah:6<T.length
    ·have p:Hid (fA l=none):=by show _=_;rw[HR.out,H.out,aD (.inr ah)]
     have ai:(6:Int)<(T.length:Int):=by omega
     go_wp2;go_ret2;exact⟨by rw[C.out p.out];rfl,rfl⟩
    have ai:¬(6:Int)<(T.length:Int):=by omega
    have aj:Hid (jG l=some (Lib.trimRightB T 48,20+T.length)):=by show _=_;rw[H.out,aB (by intro h;rcases h with h|h;exact K h;exact ah h)]
    go_wp2;go_loopw [14] (fun r wq=>∃t:List UInt8,t.length<=6/\r= .string ⟨t.toArray⟩/\Lib.trimRightB T 48=Lib.trimRightB t 48/\wq=i) (fun r _=>match r with| .string b=>b.size| _=>0)
    case atStart=>exact⟨T,by omega,rfl,rfl,rfl⟩
    case round=>
     obtain⟨t,aC,rfl,ak,A⟩:=hrel;have A:=A.symm;subst A;have U:=show Hid _ from ak;clear ak;rcases List.eq_nil_or_concat t with rfl|⟨B,c,al⟩
     ·have W:Hid (jG l=some ([],20+T.length)):=by show _=_;rw[aj.out,U.out];rfl
      go_wp2
      go_meet
      case rel=>exact⟨[],20+T.length,W.out,by omega,by omega,by simp,rfl,rfl,rfl⟩
     ·rw[List.concat_eq_append]at al;subst al;have am:(B++[c]).length=B.length+1:=by simp
      have aU:(B++[c])[B.length]'(by simp)=c:=by simp
      have aV:(B++[c]).take B.length=B:=by simp
      have aW:B.length<=5:=by rw[am]at aC;omega
      by_cases hc:c.toNat=48
      ·have an:c=48:=eY.1 (by simpa using hc);have aE:Hid (Lib.trimRightB T 48=Lib.trimRightB B 48):=by show _=_;rw[U.out,an,aA0]
       have aF:(c.toNat:Int)=48:=by omega
       clear an;go_wp2;go_roundw;case rel=>exact⟨B,by omega,rfl,aE.out,by first|rfl|trivial⟩
       case measure=>
        show B.toArray.size<(B++[c]).toArray.size;simp
      ·have W:Hid (jG l=some (B++[c],20+T.length)):=by
        show _=_;rw[aj.out,U.out,MD B (fun e=>hc (by rw[e];rfl))]
       have aF:¬(c.toNat:Int)=48:=by omega
       have aX:((c.toNat:Int)==48)=false:=by simp;omega
       go_wp2
       go_meet
       case rel=>exact⟨B++[c],20+T.length,W.out,by omega,by omega,by rw[am];omega,rfl,rfl,rfl⟩
  ·have H:Hid (jG l=some ([],19)):=by
    show _=_;unfold jG;rw[nA l 19 (by omega),aB F]
   have O:¬((l[19]'(by omega)).toNat:Int)=46:=by omega
   have aZ:(((l[19]'(by omega)).toNat:Int)==46)=false:=by simp;omega
   go_wp2
   go_meet
   case rel=>exact⟨[],19,H.out,by omega,by omega,by simp,rfl,rfl,rfl⟩
 case rest=>
  obtain⟨v,at_,G,aL,aM,a0,rfl,rfl,rfl⟩:=hcut;have m:Hid (fA l=match fU (l.drop at_)with
   |none=>none
   |some k=>
    match mD y mo d (q-60*k)with
    |none=>none
    |some t=>some (t++(if v=[]then[]else 46::v)++[90])):=by
   show _=_;rw[HR.out,G]
  have aG:(at_:Int)<=(l.length:Int):=by omega
  have X:(l.drop at_).length<=1000000000000000:=by rw[bC];omega
  have J:(l.drop at_).take (l.length-at_)=l.drop at_:=fV (by rw[bC];omega);obtain⟨z,hz⟩:∃z,l.drop at_=z:=⟨_,rfl⟩;rw[hz]at J X m;clear G HR;go_upto_if 140 with fail;clear hz J;go_cut [10] (fun s10 wd=>∃k:Int,fU z=some k/\s10= .int .i64 ((q:Int)-60*k)/\wd=wc);case first=>
   by_cases s:z=[90]
   ·have HK:Hid (fU z=some 0):=by show _=_;unfold fU;rw[aD s]
    have Y:(z==[90])=true:=by simp[s]
    simp only[Y,Bool.not_true];clear s;go_wp2
    go_meet
    case rel=>exact⟨0,HK.out,aY (by simp),rfl⟩
   have Y:(z==[90])=false:=bG.2 s;simp only[Y,Bool.not_false];by_cases h6:z.length=6;rotate_left
   ·have p:Hid (fA l=none):=by show _=_;rw[m.out,show fU z=none by unfold fU;rw[aB s,aD (.inl h6)]]
    have aI:¬(z.length:Int)=6:=by omega
    have aJ:((z.length:Int)==6)=false:=by simp;omega
    go_wp2;go_ret2;exact⟨by rw[C.out p.out];rfl,rfl⟩
   have aI:(z.length:Int)=6:=by omega
   have aJ:((z.length:Int)==6)=true:=by simp;omega
   have i0:(0:Int)<(z.length:Int):=by omega
   have i3:(3:Int)<(z.length:Int):=by omega
   by_cases ao:(z[0]'(by omega)).toNat=43∨(z[0]'(by omega)).toNat=45;rotate_left
   ·have p:Hid (fA l=none):=by show _=_;rw[m.out,show fU z=none by unfold fU;rw[aB s,aD (.inr (.inl (by rw[nA z 0 (by omega)];omega)))]]
    have q1:¬((z[0]'(by omega)).toNat:Int)=43:=by omega
    have q2:¬((z[0]'(by omega)).toNat:Int)=45:=by omega
    go_wp2;go_ret2;exact⟨by rw[C.out p.out];rfl,rfl⟩
   by_cases h58:(z[3]'(by omega)).toNat=58;rotate_left
   ·have p:Hid (fA l=none):=by show _=_;rw[m.out,show fU z=none by unfold fU;rw[aB s,aD (.inr (.inr (by rw[nA z 3 (by omega)];exact h58)))]]
    have q3:¬((z[3]'(by omega)).toNat:Int)=58:=by omega
    have Z:((z[0]'(by omega)).toNat:Int)=43∨(¬((z[0]'(by omega)).toNat:Int)=43/\((z[0]'(by omega)).toNat:Int)=45):=by omega
    clear ao;rcases Z with q1|⟨q1,q2⟩;all_goals(
     go_wp2;go_ret2;exact⟨by rw[C.out p.out];rfl,rfl⟩)
   have q3:((z[3]'(by omega)).toNat:Int)=58:=by omega
   have D:Hid (∀w,Calls prog 190 #[.string ⟨z.toArray⟩,.int .i64 1,.int .i64 2] w fun e u=>e= .returned (.tuple #[.int .i64 (aR z 1 2).1,.bool (aR z 1 2).2])/\u=w):=fun w=>nU z X 1 2 (by omega) (by decide) w;have E:Hid (∀w,Calls prog 190 #[.string ⟨z.toArray⟩,.int .i64 4,.int .i64 2] w fun e u=>e= .returned (.tuple #[.int .i64 (aR z 4 2).1,.bool (aR z 4 2).2])/\u=w):=fun w=>nU z X 4 2 (by omega) (by decide) w;have a:Hid (fU z=if(aR z 1 2).2=false∨(aR z 4 2).2=false∨23<(aR z 1 2).1∨59<(aR z 4 2).1 then none else
     if(z[0]'(by omega)).toNat=43 then some (60*(aR z 1 2).1+(aR z 4 2).1:Int)else some (-(60*(aR z 1 2).1+(aR z 4 2).1:Int))):=by
    show _=_;unfold fU;rw[aB s,aB (by rw[nA z 0 (by omega),nA z 3 (by omega)];omega),nA z 0 (by omega)]
   generalize aR z 1 2=r1 at D a;generalize aR z 4 2=r2 at E a;obtain⟨h,f⟩:=r1;obtain⟨n,g⟩:=r2;dsimp only at D E a;have Z:((z[0]'(by omega)).toNat:Int)=43∨(¬((z[0]'(by omega)).toNat:Int)=43/\((z[0]'(by omega)).toNat:Int)=45):=by omega
   clear ao s h58;rcases Z with q1|⟨q1,q2⟩
   ·cases f
    ·have p:Hid (fA l=none):=by show _=_;rw[m.out,a.out,aD (.inl rfl)]
     clear a;go_wp2_with fail;refine(D.out _).mono ?_;rintro e i⟨rfl,rfl⟩;go_wp2_with fail;refine(E.out _).mono ?_;rintro e i⟨rfl,rfl⟩;go_wp2;go_ret2;exact⟨by rw[C.out p.out];rfl,rfl⟩
    cases g
    ·have p:Hid (fA l=none):=by show _=_;rw[m.out,a.out,aD (.inr (.inl rfl))]
     clear a;go_wp2_with fail;refine(D.out _).mono ?_;rintro e i⟨rfl,rfl⟩;go_wp2_with fail;refine(E.out _).mono ?_;rintro e i⟨rfl,rfl⟩;go_wp2;go_ret2;exact⟨by rw[C.out p.out];rfl,rfl⟩
    by_cases k1:23<h
    ·have p:Hid (fA l=none):=by show _=_;rw[m.out,a.out,aD (.inr (.inr (.inl k1)))]
     have aa:(23:Int)<(h:Int):=by omega
     go_wp2_with fail;refine(D.out _).mono ?_;rintro e i⟨rfl,rfl⟩;go_wp2_with fail;refine(E.out _).mono ?_;rintro e i⟨rfl,rfl⟩;go_wp2;go_ret2;exact⟨by rw[C.out p.out];rfl,rfl⟩
    have aa:¬(23:Int)<(h:Int):=by omega
    by_cases k2:59<n
    ·have p:Hid (fA l=none):=by show _=_;rw[m.out,a.out,aD (.inr (.inr (.inr k2)))]
     have ab:(59:Int)<(n:Int):=by omega
     go_wp2_with fail;refine(D.out _).mono ?_;rintro e i⟨rfl,rfl⟩;go_wp2_with fail;refine(E.out _).mono ?_;rintro e i⟨rfl,rfl⟩;go_wp2;go_ret2;exact⟨by rw[C.out p.out];rfl,rfl⟩
    have ab:¬(59:Int)<(n:Int):=by omega
    have HK:Hid (fU z=some (60*(h:Int)+(n:Int))):=by
     show _=_;rw[a.out,aB (by simp;omega),aD (by omega)]
    go_wp2_with fail;refine(D.out _).mono ?_;rintro e i⟨rfl,rfl⟩;go_wp2_with fail;refine(E.out _).mono ?_;rintro e i⟨rfl,rfl⟩;go_wp2
    go_meet
    case rel=>exact⟨60*(h:Int)+(n:Int),HK.out,aY (by omega),rfl⟩
   ·cases f
    ·have p:Hid (fA l=none):=by show _=_;rw[m.out,a.out,aD (.inl rfl)]
     clear a;go_wp2_with fail;refine(D.out _).mono ?_;rintro e i⟨rfl,rfl⟩;go_wp2_with fail;refine(E.out _).mono ?_;rintro e i⟨rfl,rfl⟩;go_wp2;go_ret2;exact⟨by rw[C.out p.out];rfl,rfl⟩
    cases g
    ·have p:Hid (fA l=none):=by show _=_;rw[m.out,a.out,aD (.inr (.inl rfl))]
     clear a;go_wp2_with fail;refine(D.out _).mono ?_;rintro e i⟨rfl,rfl⟩;go_wp2_with fail;refine(E.out _).mono ?_;rintro e i⟨rfl,rfl⟩;go_wp2;go_ret2;exact⟨by rw[C.out p.out];rfl,rfl⟩
    by_cases k1:23<h
    ·have p:Hid (fA l=none):=by show _=_;rw[m.out,a.out,aD (.inr (.inr (.inl k1)))]
     have aa:(23:Int)<(h:Int):=by omega
     go_wp2_with fail;refine(D.out _).mono ?_;rintro e i⟨rfl,rfl⟩;go_wp2_with fail;refine(E.out _).mono ?_;rintro e i⟨rfl,rfl⟩;go_wp2;go_ret2;exact⟨by rw[C.out p.out];rfl,rfl⟩
    have aa:¬(23:Int)<(h:Int):=by omega
    by_cases k2:59<n
    ·have p:Hid (fA l=none):=by show _=_;rw[m.out,a.out,aD (.inr (.inr (.inr k2)))]
     have ab:(59:Int)<(n:Int):=by omega
     go_wp2_with fail;refine(D.out _).mono ?_;rintro e i⟨rfl,rfl⟩;go_wp2_with fail;refine(E.out _).mono ?_;rintro e i⟨rfl,rfl⟩;go_wp2;go_ret2;exact⟨by rw[C.out p.out];rfl,rfl⟩
    have ab:¬(59:Int)<(n:Int):=by omega
    have HK:Hid (fU z=some (-(60*(h:Int)+(n:Int)))):=by
     show _=_;rw[a.out,aB (by simp;omega),aB (by omega)]
    go_wp2_with fail;refine(D.out _).mono ?_;rintro e i⟨rfl,rfl⟩;go_wp2_with fail;refine(E.out _).mono ?_;rintro e i⟨rfl,rfl⟩;go_wp2
    go_meet
    case rel=>exact⟨-(60*(h:Int)+(n:Int)),HK.out,aY (by omega),rfl⟩
  case rest=>
   obtain⟨k,hk,rfl,rfl⟩:=hcut;have a1:=aAY hk;have L:Hid (fA l=match mD y mo d (q-60*k)with
    |none=>none
    |some t=>some (t++(if v=[]then[]else 46::v)++[90])):=by
    show _=_;rw[m.out,hk]
   have SF:Hid (∀w,Calls prog 196 #[.int .i64 y,.int .i64 mo,.int .i64 d,.int .i64 ((q:Int)-60*k)] w fun e u=>e= .returned (kP (mD y mo d (q-60*k)))/\u=w):=fun w=>PF y mo d _ aq.out (by omega) (by omega) w;have ac:=fun t=> @aAZ y mo d (q-60*k) t;generalize mD y mo d (q-60*k)=o at SF L ac;clear hk m;cases o with
   |none=>
    have p:=aA L.out;unfold kP at SF;go_wp2_with fail;refine(SF.out _).mono ?_;rintro e i⟨rfl,rfl⟩;go_wp2;go_ret2;exact⟨by rw[C.out p.out];rfl,rfl⟩
   |some t=>
    have a2:=ac t rfl;clear ac;unfold kP at SF;by_cases M:v=[]
    ·have HE:Hid (V= .tuple #[.string ⟨(t++[90]).toArray⟩,.bool true]):=by
      show _=_;rw[<-HV.out,L.out];simp[kP,M]
     subst M;go_wp2_with fail;refine(SF.out _).mono ?_;rintro e i⟨rfl,rfl⟩;go_wp2;go_ret2;exact⟨by rw[HE.out];rfl,rfl⟩
    ·have HE:Hid (V= .tuple #[.string ⟨(t++(46::v)++[90]).toArray⟩,.bool true]):=by
      show _=_;rw[<-HV.out,L.out];simp[kP,M]
     have a3:(v==[])=false:=bG.2 M;go_wp2_with fail;refine(SF.out _).mono ?_;rintro e i⟨rfl,rfl⟩;go_wp2;go_ret2;exact⟨by rw[HE.out];simp,rfl⟩
theorem BZ(l:List UInt8)(i:l.length<=1000000000000000)(w:World):Calls prog 159 #[.string ⟨l.toArray⟩] w fun e v=>e= .returned (kP (fA l))/\v=w:=by
 by_cases h0:l.length<20∨¬(l.getD 4 0).toNat=45∨¬(l.getD 7 0).toNat=45∨¬(l.getD 10 0).toNat=84
 ·rw[show fA l=none by unfold fA;rw[aD h0]];exact aA2 l h0 w
 have j:20<=l.length:=by omega
 have c:fA l=(match gZ l 11 with
  |none=>none
  |some sec=>
   if(aR l 0 4).2=false∨(aR l 5 2).2=false∨(aR l 8 2).2=false∨jW (aR l 0 4).1 (aR l 5 2).1 (aR l 8 2).1=false then none else
   match jG l with
   |none=>none
   |some pt=>
    match fU (l.drop pt.2)with
    |none=>none
    |some k=>
     match mD (aR l 0 4).1 (aR l 5 2).1 (aR l 8 2).1 (sec-60*k)with
     |none=>none
     |some t=>some (t++(if pt.1=[]then[]else 46::pt.1)++[90])):=by
  conv=>lhs;unfold fA
  rw[aB h0];rfl
 rw[nA l 4 (by omega),nA l 7 (by omega),nA l 10 (by omega)]at h0;have m:=fun w=>nU l i 0 4 (by omega) (by decide) w;have o:=fun w=>nU l i 5 2 (by omega) (by decide) w;have p:=fun w=>nU l i 8 2 (by omega) (by decide) w;have s:=fun w=>PD l i 11 (by decide) w;have g:=fun w=>NV (aR l 0 4).1 (aR l 5 2).1 (aR l 8 2).1 w;have f:=fun n=> @aAX l 11 n;have b:=xJ (aR l 0 4).1 (aR l 5 2).1 (aR l 8 2).1;generalize aR l 0 4=x at m g c b;generalize aR l 5 2=z at o g c b;generalize aR l 8 2=A at p g c b;generalize gZ l 11=q at s c f;obtain⟨y,b1⟩:=x;obtain⟨mo,b2⟩:=z;obtain⟨d,r⟩:=A;dsimp only at m o p g c b;by_cases a:b1=false∨b2=false∨r=false∨q=none∨jW y mo d=false
 ·have B:fA l=none:=by
   rw[c];cases q with
   |none=>rfl
   |some sec=>
    dsimp only;rw[aD (by rcases a with h|h|h|h|h;exact .inl h;exact .inr (.inl h);exact .inr (.inr (.inl h));cases h;exact .inr (.inr (.inr h)))]
  rw[B];exact aA3 l i j (by omega) (by omega) (by omega) y mo d b1 b2 r _ q m o p s g a w
 ·have C:b1=true:=by cases b1;exact absurd (.inl rfl) a;rfl
  have D:b2=true:=by cases b2;exact absurd (.inr (.inl rfl)) a;rfl
  have E:r=true:=by cases r;exact absurd (.inr (.inr (.inl rfl))) a;rfl
  have u:jW y mo d=true:=by cases h:jW y mo d;exact absurd (.inr (.inr (.inr (.inr h)))) a;rfl
  subst C D E;cases q with
  |none=>exact absurd (.inr (.inr (.inr (.inl rfl)))) a
  |some sec=>
   rw[u]at g;dsimp only at c;rw[u,aB (by simp)]at c;exact aA4 l i j (by omega) (by omega) (by omega) y mo d sec m o p s g (f sec rfl) (b.1 u) _ rfl c w
end Go.Proofs.Z

/- Pressed by program out of Ca. -/
import Derived.Test.YtdlhbmncbmconaaGreatDoorA11
import Derived.Test.YtdlhbmncbmconaaGreatDoorA03
namespace Go.Hm
theorem NS:∀(k n:Nat),n<10^(k+1)->(Lib.decDigits n).length<=k+1
 |0,n,h=>by rw[kA (by simpa using h)];simp
 |k+1,n,h=>by
  by_cases h1:n<10
  ·rw[kA h1];simp
  ·rw[jP h1];have:=NS k (n/10) (by rw[Nat.pow_succ]at h;omega);simp only[dL,bU,dS];omega
theorem rO{n:Nat}(h:n<=9223372036854775807):(Lib.decDigits n).length<=20:=by
 have:=NS 18 n (by omega);omega
end Go.Hm
namespace Go.Proofs.Z
open Hm Tryz Go.RowKit Go.Sort
theorem BM{k:Nat}(h:k<10):(⟨#[48,49,50,51,52,53,54,55,56,57]⟩:ByteArray).extract k (k+1)=⟨[UInt8.ofNat (48+k)].toArray⟩:=by
 rcases(by omega:k=0∨k=1∨k=2∨k=3∨k=4∨k=5∨k=6∨k=7∨k=8∨k=9)with h|h|h|h|h|h|h|h|h|h <;> subst h <;> decide
def oL:Nat->Nat->List UInt8
 |0,_=>[]
 |k+1,n=>oL k (n/10)++[UInt8.ofNat (48+n%10)]
theorem uQ{n:Nat}(h:n<100):oL 2 n=Hm.d2 n:=by
 have:n/10%10=n/10:=by omega
 simp[oL,Hm.d2,this]
theorem W8{n:Nat}(h:n<10000):oL 4 n=fP n:=by
 have h1:n/10/10/10%10=n/100/10:=by omega
 have h2:n/10/10%10=n/100%10:=by omega
 have h3:n/10%10=n%100/10:=by omega
 have h4:n%10=n%100%10:=by omega
 simp only[oL,fP,Hm.d2,h1,h2,h3,iR,eN];rw[h4]
theorem W9(n a:Nat)(m:n<=1000000)(x:a<=4)(w:World):
  Calls prog 220 #[.int .i64 n,.int .i64 a] w fun e o=>e= .returned (.string ⟨(oL a n).toArray⟩)/\o=w:=by
 obtain⟨R,c⟩:∃R,oL a n=R:=⟨_,rfl⟩;rw[c];have p:=show Hid _ from c;clear c;go_enter func220,ntmps220;go_wp2;go_loopw [0,5,6] (fun q r d wr=>∃(j k:Nat)(t:List UInt8),j<=a/\k<=1000000/\t.length=j/\q= .int .i64 k/\r= .string ⟨t.toArray⟩/\d= .int .i64 j/\R=oL (a-j) k++t/\wr=w) (fun _ _ d _=>a-(intOf d).toNat)
 case atStart=>exact⟨0,n,[],dM _,m,rfl,rfl,rfl,rfl,by rw[<-p.out];simp,rfl⟩
 case round=>
  obtain⟨j,k,t,y,z,b,rfl,rfl,rfl,h,rfl⟩:=hrel;have i:=show Hid _ from h;clear h;have l:t.length<=4:=by omega
  have f:=show Hid _ from b;clear b;by_cases s:j<a
  ·have g:(j:Int)<(a:Int):=by omega
   have u:¬9223372036854775807<min (k%10+1) 10-k%10+t.length:=by omega
   go_wp2;go_roundw;case rel=>
    refine⟨j+1,k/10,UInt8.ofNat (48+k%10)::t,by omega,by omega,by simp[f.out],aY (by simp),?_,aY (by simp),?_,trivial⟩
    ·rw[BM (by omega),dY];rfl
    ·rw[i.out,show a-j=(a-(j+1))+1 by omega,oL];simp
   case measure=>simp[intOf];omega
  ·have g:¬(j:Int)<(a:Int):=by omega
   have v:Hid (R=t):=by
    show _=_;rw[i.out,show a-j=0 by omega];rfl
   go_wp2;go_ret;exact⟨by rw[v.out];rfl,rfl⟩
theorem xL(n:Nat)(f:n<=9223372036854775807)(w:World):
  Calls prog 160 #[.int .i64 n] w fun e g=>e= .returned (.string ⟨(Lib.decDigits n).toArray⟩)/\g=w:=by
 have h:=rO f;go_enter func160,ntmps160;go_wp2_with fail;go_loopw [0,3] (fun a i wr=>∃(k:Nat)(t:List UInt8),k<=n/\a= .int .i64 k/\i= .string ⟨t.toArray⟩/\Lib.decDigits n=Lib.decDigits k++t/\wr=w) (fun a _ _=>(intOf a).toNat)
 case atStart=>exact⟨n,[],aC _,rfl,rfl,by simp,rfl⟩
 case round=>
  obtain⟨k,t,m,rfl,rfl,b,rfl⟩:=hrel;have j:t.length<=20:=by
   have:=aQ List.length b;rw[dL]at this;omega
  have d:=aA b;clear b h;by_cases h9:9<k
  ·have hi:(9:Int)<(k:Int):=by omega
   have c:¬9223372036854775807<min (k%10+1) 10-k%10+t.length:=by omega
   go_wp2;go_roundw;case rel=>
    refine⟨k/10,UInt8.ofNat (48+k%10)::t,by omega,aY (by simp),?_,?_,trivial⟩
    ·rw[BM (by omega),dY];rfl
    ·rw[d.out,jP (show¬k<10 by omega)];simp
   case measure=>simp[intOf];omega
  ·have hi:¬(9:Int)<(k:Int):=by omega
   have c:¬9223372036854775807<min (k+1) 10-k+t.length:=by omega
   have l:(k:Int)<=9:=by omega
   go_wp2;go_ret;refine⟨?_,rfl⟩;rw[BM (by omega),dY,d.out,kA (by omega)];rfl
attribute [local go_sem] dY fR fS
theorem X1(c:UInt8)(w:World):Calls prog 217 #[.int .u8 c.toNat] w fun e a=>e= .returned (.bool (aH c))/\a=w:=by
 go_enter func217,ntmps217;by_cases h1:(48:Int)<=(c.toNat:Int)
 ·by_cases h2:(c.toNat:Int)<=57
  ·go_wp2;go_ret;exact⟨by rw[show aH c=true by simp[aH];omega];rfl,rfl⟩
  ·go_wp2;go_ret;exact⟨by rw[show aH c=false by simp[aH];omega];rfl,rfl⟩
 ·go_wp2;go_ret;exact⟨by rw[show aH c=false by simp[aH];omega];rfl,rfl⟩
theorem X2(y:Int)(a:0<=y)(w:World):Calls prog 233 #[.int .i64 y] w fun e d=>e= .returned (.bool (jZ y))/\d=w:=by
 have i:y.tmod 4=y%4:=Int.tmod_eq_emod_of_nonneg a;have b:y.tmod 100=y%100:=Int.tmod_eq_emod_of_nonneg a;have c:y.tmod 400=y%400:=Int.tmod_eq_emod_of_nonneg a;go_enter func233,ntmps233;by_cases h1:y%4=0
 ·by_cases h2:y%100=0
  ·by_cases h3:y%400=0
   ·go_wp2;go_ret;exact⟨by rw[show jZ y=true by simp[jZ];omega];rfl,rfl⟩
   ·have f:(y%400==0)=false:=by simp[h3]
    go_wp2;go_ret;exact⟨by rw[show jZ y=false by simp[jZ];omega];rfl,rfl⟩
  ·have g:(y%100==0)=false:=by simp[h2]
   go_wp2;go_ret;exact⟨by rw[show jZ y=true by simp[jZ];omega];rfl,rfl⟩
 ·have h:(y%4==0)=false:=by simp[h1]
  go_wp2;go_ret;exact⟨by rw[show jZ y=false by simp[jZ];omega];rfl,rfl⟩
theorem NT(y m:Int)(i:0<=y)(w:World):Calls prog 219 #[.int .i64 y,.int .i64 m] w fun e b=>e= .returned (.int .i64 (uP y m))/\b=w:=by
 have a:Hid (∀w,Calls prog 233 #[.int .i64 y] w fun e b=>e= .returned (.bool (jZ y))/\b=w):=fun w=>X2 y i w;have c:uP y m=if m=2 then(if jZ y=true then 29 else 28)else if m=4∨m=6∨m=9∨m=11 then 30 else 31:=rfl
 rw[c];clear c;generalize jZ y=d at a;by_cases h2:m=2
 ·subst h2;cases d;all_goals(
   go_enter func219,ntmps219;go_wp2_with fail;refine(a.out _).mono ?_;rintro e f⟨rfl,rfl⟩;go_wp2;go_ret;exact⟨rfl,rfl⟩)
 ·by_cases h4:m=4∨m=6∨m=9∨m=11
  ·rcases h4 with h|h|h|h <;> subst h;all_goals(
    go_enter func219,ntmps219;go_wp2_with fail;refine(a.out _).mono ?_;rintro e f⟨rfl,rfl⟩;go_wp2;go_ret;exact⟨rfl,rfl⟩)
  ·have b2:(m==2)=false:=by simp[h2]
   have b4:(m==4)=false:=by simp;omega
   have k:(m==6)=false:=by simp;omega
   have l:(m==9)=false:=by simp;omega
   have j:(m==11)=false:=by simp;omega
   have g:Hid ((if m=2 then(if d=true then(29:Int)else 28)else if m=4∨m=6∨m=9∨m=11 then 30 else 31)=31):=by
    show _=_;rw[aB h2,aB h4]
   clear h2 h4;rw[g.out];clear g;go_enter func219,ntmps219;go_wp2_with fail;refine(a.out _).mono ?_;rintro e f⟨rfl,rfl⟩;go_wp2;go_ret;exact⟨rfl,rfl⟩
theorem NV(y m d:Int)(w:World):Calls prog 195 #[.int .i64 y,.int .i64 m,.int .i64 d] w fun e b=>e= .returned (.bool (jW y m d))/\b=w:=by
 have a:jW y m d=(decide (1<=y)&&decide (y<=9999)&&decide (1<=m)&&decide (m<=12)&&decide (1<=d)&&decide (d<=dO y m)):=rfl;rw[a];clear a;by_cases h1:1<=y
 ·by_cases h2:y<=9999
  ·by_cases h3:1<=m
   ·by_cases h4:m<=12
    ·by_cases h5:1<=d
     ·have c:Hid (∀w,Calls prog 219 #[.int .i64 y,.int .i64 m] w fun e b=>e= .returned (.int .i64 (dO y m))/\b=w):=fun w=>by
       have:=NT y m (by omega) w
       rwa [BI h3 h4]at this
      generalize dO y m=D at c;rw[decide_eq_true h1,decide_eq_true h2,decide_eq_true h3,decide_eq_true h4,decide_eq_true h5];by_cases h6:d<=D
      ·rw[decide_eq_true h6];go_enter func195,ntmps195;go_wp2_with fail;refine(c.out _).mono ?_;rintro e f⟨rfl,rfl⟩;go_wp2;go_ret;exact⟨rfl,rfl⟩
      ·rw[decide_eq_false h6];go_enter func195,ntmps195;go_wp2_with fail;refine(c.out _).mono ?_;rintro e f⟨rfl,rfl⟩;go_wp2;go_ret;exact⟨by rw[decide_eq_false (by omega)];rfl,rfl⟩
     ·rw[decide_eq_false h5];go_enter func195,ntmps195;go_wp2;go_ret;exact⟨by simp,rfl⟩
    ·rw[decide_eq_false h4];go_enter func195,ntmps195;go_wp2;go_ret;exact⟨by simp,rfl⟩
   ·rw[decide_eq_false h3];go_enter func195,ntmps195;go_wp2;go_ret;exact⟨by simp,rfl⟩
  ·rw[decide_eq_false h2];go_enter func195,ntmps195;go_wp2;go_ret;exact⟨by simp,rfl⟩
 ·rw[decide_eq_false h1];go_enter func195,ntmps195;go_wp2;go_ret;exact⟨by simp,rfl⟩
theorem NW(i:Nat)(hi:i<4)(w:World):Calls prog 163 #[.int .i64 i] w fun e a=>e= .returned (.int .i64 (if i=0 then 32 else if i=3 then 12 else 16))/\a=w:=by
 rcases(by omega:i=0∨i=1∨i=2∨i=3)with h|h|h|h <;> subst h;all_goals(
  go_enter func163,ntmps163;go_wp2;go_ret;exact⟨rfl,rfl⟩)
theorem X3(l:List UInt8)(w:World):Calls prog 161 #[.string ⟨l.toArray⟩] w fun e a=>e= .returned (.string ⟨(Hm.told l).toArray⟩)/\a=w:=by
 by_cases h:l=[]
 ·subst h;go_enter func161,ntmps161;go_wp2;go_ret;exact⟨rfl,rfl⟩
 ·have b:(l==[])=false:=bG.2 h;go_enter func161,ntmps161;go_wp2;go_ret;exact⟨by rw[show Hm.told l=l by unfold Hm.told;rw[aB h]];rfl,rfl⟩
theorem X4{p:UInt8->Bool}{l:List UInt8}{j:Nat}(a:j<l.length)(b:p l[j]=true):(l.drop j).takeWhile p=l[j]::(l.drop (j+1)).takeWhile p:=by
 rw[eE a,lB,aD b]
theorem X5{p:UInt8->Bool}{l:List UInt8}{j:Nat}(a:j<l.length)(b:p l[j]=false):(l.drop j).takeWhile p=[]:=by
 rw[eE a,lB,aB (by simp[b])]
theorem NY(l:List UInt8)(s:l.length<=1000000000000000)(a:Nat)(o:a<=l.length)(w:World):Calls prog 191 #[.string ⟨l.toArray⟩,.int .i64 a] w fun e q=>e= .returned (.int .i64 ((a+((l.drop a).takeWhile fun c=>!decide (c.toNat=32)).length:Nat):Int))/\q=w:=by
 obtain⟨T,f⟩:∃T,((l.drop a).takeWhile fun c=>!decide (c.toNat=32)).length=T:=⟨_,rfl⟩;rw[f];have r:=show Hid _ from f;clear f;go_enter func191,ntmps191;go_wp2;go_loopw [1] (fun g wr=>∃j:Nat,a<=j/\j<=l.length/\g= .int .i64 j/\a+T=j+((l.drop j).takeWhile fun c=>!decide (c.toNat=32)).length/\wr=w) (fun g _=>l.length-(intOf g).toNat)
 case atStart=>exact⟨a,aC _,o,rfl,by rw[r.out],rfl⟩
 case round=>
  obtain⟨j,h1,h2,rfl,h3,rfl⟩:=hrel;have i:=show Hid _ from h3;clear h3;by_cases b:j<l.length
  ·have k:(j:Int)<(l.length:Int):=by omega
   by_cases d:l[j].toNat=32
   ·have m:=show Hid _ from X5 (p:=fun c=>!decide (c.toNat=32)) b (by simp[d]);have n:((l[j].toNat:Int)==32)=true:=by simp;omega
    clear d;go_wp2;go_ret;have h:=i.out;rw[m.out,dS,Nat.add_zero]at h;exact⟨by show Ending.returned (.int .i64 (j:Int))=_;rw[<-h];try simp,rfl⟩
   ·have m:=show Hid _ from X4 (p:=fun c=>!decide (c.toNat=32)) b (by simp[d]);have n:((l[j].toNat:Int)==32)=false:=by simp;omega
    clear d;go_wp2;go_roundw;case rel=>
     refine⟨j+1,by omega,by omega,aY (by simp),?_,trivial⟩;have h:=i.out;rw[m.out,bU]at h;omega
    case measure=>simp[intOf];omega
  ·have k:¬(j:Int)<(l.length:Int):=by omega
   go_wp2;go_ret;have h:=i.out;rw[gH (by omega),List.takeWhile_nil,dS,Nat.add_zero]at h;exact⟨by show Ending.returned (.int .i64 (j:Int))=_;rw[<-h];try simp,rfl⟩
theorem xM(l:List UInt8)(x:l.length<=1000000000000000)(m:Nat)(y:m<=100)(w:World):Calls prog 162 #[.string ⟨l.toArray⟩,.int .i64 m] w fun e s=>e= .returned (.bool (bX l m))/\s=w:=by
 by_cases h0:l=[]
 ·subst h0;go_enter func162,ntmps162;go_wp2;go_ret;exact⟨rfl,rfl⟩
 have t:¬(l.length:Int)<1:=by have:=List.length_pos_iff.2 h0;omega
 by_cases h1:m<l.length
 ·have g:(m:Int)<(l.length:Int):=by omega
  have b:Hid (bX l m=false):=by show _=_;simp[bX];intro _ _ h;omega
  rw[b.out];clear h0;go_enter func162,ntmps162;go_wp2;go_ret;exact⟨rfl,rfl⟩
 have g:¬(m:Int)<(l.length:Int):=by omega
 by_cases h2:l=[45]
 ·subst h2;have b:Hid (bX [45] m=false):=by show _=_;simp[bX]
  rw[b.out];go_enter func162,ntmps162;go_wp2;go_ret;exact⟨rfl,rfl⟩
 have i:(l==[45])=false:=bG.2 h2;have b:Hid (bX l m=l.all fO):=by
  show _=_;unfold bX;rw[show l.isEmpty=false by cases l <;> simp_all,i,decide_eq_true (by omega:l.length<=m)];rfl
 rw[b.out];clear b h0 h2;obtain⟨A,hA⟩:∃A,l.all fO=A:=⟨_,rfl⟩;rw[hA];have u:=show Hid _ from hA;clear hA;go_enter func162,ntmps162;go_wp2;go_loopw [5] (fun k wr=>∃j:Nat,j<=l.length/\k= .int .i64 j/\A=(l.drop j).all fO/\wr=w) (fun k _=>l.length-(intOf k).toNat)
 case atStart=>exact⟨0,dM _,rfl,by rw[<-u.out,fB],rfl⟩
 case round=>
  obtain⟨j,h1,rfl,h3,rfl⟩:=hrel;have d:=show Hid _ from h3;clear h3;by_cases n:j<l.length
  ·have o:(j:Int)<(l.length:Int):=by omega
   have p:Hid ((l.drop j).all fO=(fO l[j]&&(l.drop (j+1)).all fO)):=by
    show _=_;rw[eE n,List.all_cons]
   by_cases c:fO l[j]=true
   ·have a:33<=l[j].toNat/\l[j].toNat<=126:=by simpa[fO]using c
    have r:¬(l[j].toNat:Int)<33:=by omega
    have z:¬(126:Int)<(l[j].toNat:Int):=by omega
    clear a;have f:=show Hid _ from c;clear c;go_wp2;go_roundw;case rel=>exact⟨j+1,by omega,aY (by simp),by rw[d.out,p.out,f.out];rfl,trivial⟩
    case measure=>simp[intOf];omega
   ·have a:l[j].toNat<33∨126<l[j].toNat:=by
     have:¬(33<=l[j].toNat/\l[j].toNat<=126):=by simpa[fO]using c
     omega
    have f:Hid (fO l[j]=false):=by show _=_;simpa using c
    clear c;rcases a with r|r
    ·have q:(l[j].toNat:Int)<33:=by omega
     go_wp2;go_ret;exact⟨by rw[d.out,p.out,f.out];rfl,rfl⟩
    ·have q:(126:Int)<(l[j].toNat:Int):=by omega
     have v:¬(l[j].toNat:Int)<33:=by omega
     go_wp2;go_ret;exact⟨by rw[d.out,p.out,f.out];rfl,rfl⟩
  ·have o:¬(j:Int)<(l.length:Int):=by omega
   go_wp2;go_ret;exact⟨by rw[d.out,gH (by omega)];rfl,rfl⟩
theorem nU(l:List UInt8)(M:l.length<=1000000000000000)(a n:Nat)(N:a<=1000000000000000)(O:n<=4)(w:World):Calls prog 190 #[.string ⟨l.toArray⟩,.int .i64 a,.int .i64 n] w fun e m=>e= .returned (.tuple #[.int .i64 (aR l a n).1,.bool (aR l a n).2])/\m=w:=by
 by_cases h1:l.length<a+n
 ·have s:(l.length:Int)<(a:Int)+(n:Int):=by omega
  have d:Hid (aR l a n=(0,false)):=by show _=_;unfold aR;rw[aB (by omega)]
  rw[d.out];go_enter func190,ntmps190;go_wp2;go_ret2;exact⟨rfl,rfl⟩
 have s:¬(l.length:Int)<(a:Int)+(n:Int):=by omega
 by_cases h2:n<1
 ·have t:(n:Int)<1:=by omega
  have d:Hid (aR l a n=(0,false)):=by show _=_;unfold aR;rw[aB (by omega)]
  rw[d.out];go_enter func190,ntmps190;go_wp2;go_ret2;exact⟨rfl,rfl⟩
 have t:¬(n:Int)<1:=by omega
 have F:Hid (∀c:UInt8,∀w,Calls prog 217 #[.int .u8 c.toNat] w fun e m=>e= .returned (.bool (aH c))/\m=w):=fun c w=>X1 c w;obtain⟨R,u⟩:∃R,aR l a n=R:=⟨_,rfl⟩;rw[u];have B:=show Hid _ from u;clear u;go_enter func190,ntmps190;go_wp2;go_loopw [8,9] (fun G v wr=>∃j:Nat,j<=n/\G= .int .i64 (cB ((l.drop a).take j))/\v= .int .i64 ((a:Int)+(j:Int))/\(∀c∈(l.drop a).take j,aH c=true)/\wr=w) (fun _ v _=>a+n-(intOf v).toNat)
 case atStart=>exact⟨0,dM _,by simp[cB],aY (by simp),by simp,rfl⟩
 case round=>
  obtain⟨j,P,rfl,rfl,x,rfl⟩:=hrel;have f:=rX _ x;have o:((l.drop a).take j).length=j:=by rw[eJ,bC];omega
  rw[o]at f;have C:cB ((l.drop a).take j)<10000:=oQ f (qQ (by decide) (by omega:j<=4));have D:=show Hid _ from x;clear x f o;by_cases H:j<n
  ·have y:(a:Int)+(j:Int)<(a:Int)+(n:Int):=by omega
   have z:a+j<l.length:=by omega
   have E:(a:Int)+(j:Int)<(l.length:Int):=by omega
   have p:(l.drop a).take (j+1)=(l.drop a).take j++[l[a+j]]:=by
    rw[pS,nM,dP z];rfl
   have g:=show Hid _ from p;have I:((a:Int)+(j:Int)).toNat=a+j:=by omega
   clear p;have q:=F.out l[a+j];have b:=aA q;clear q;by_cases i:aH l[a+j]=true
   ·have J:48<=l[a+j].toNat/\l[a+j].toNat<=57:=by simpa[aH]using i
    rw[i]at b;have K:=show Hid _ from i;clear i;have Q:(48:Int)<=(l[a+j].toNat:Int):=by omega
    have S:(l[a+j].toNat:Int)<=57:=by omega
    go_wp2_with fail;refine(b.out _).mono ?_;rintro e L⟨rfl,rfl⟩;go_wp2;go_roundw;case rel=>
     refine⟨j+1,by omega,?_,aY (by simp;omega),?_,trivial⟩
     ·rw[g.out,yG];refine aY ?_;omega
     ·intro c k;rw[g.out]at k;rcases jM.1 k with k|k
      ·exact D.out c k
      ·rw[qR.1 k];exact K.out
    case measure=>simp[intOf];omega
   ·have r:aH l[a+j]=false:=by simpa using i
    rw[r]at b;have d:Hid (R=(0,false)):=by
     show _=_;rw[<-B.out];unfold aR;rw[aB (fun h=>i (nL.1 h.2.2 l[a+j] (by
      have h2:l[a+j]∈(l.drop a).take (j+1):=by rw[g.out];simp
      have h3:(l.drop a).take (j+1)=((l.drop a).take n).take (j+1):=by rw[List.take_take,Nat.min_eq_left (by omega)]
      rw[h3]at h2;exact List.mem_of_mem_take h2)))]
    clear i r;go_wp2_with fail;refine(b.out _).mono ?_;rintro e L⟨rfl,rfl⟩;go_wp2;go_ret2;exact⟨by rw[d.out];rfl,rfl⟩
  ·have y:¬(a:Int)+(j:Int)<(a:Int)+(n:Int):=by omega
   have A:j=n:=by omega
   subst A;have d:Hid (R=(cB ((l.drop a).take j),true)):=by
    show _=_;rw[<-B.out];exact BJ (by omega) (by omega) D.out
   go_wp2;go_ret2;exact⟨by rw[d.out];rfl,rfl⟩
end Go.Proofs.Z

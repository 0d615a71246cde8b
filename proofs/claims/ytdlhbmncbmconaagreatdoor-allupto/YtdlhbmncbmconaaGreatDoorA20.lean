/- Pressed by program out of Cb. -/
import Derived.Test.YtdlhbmncbmconaaGreatDoorA19
namespace Go.Hm
theorem PC(l:List UInt8)(a:Nat):gZ l a=if(aR l a 2).2=false∨(aR l (a+3) 2).2=false∨(aR l (a+6) 2).2=false∨¬(l.getD (a+2) 0).toNat=58∨¬(l.getD (a+5) 0).toNat=58∨23<(aR l a 2).1∨59<(aR l (a+3) 2).1∨59<(aR l (a+6) 2).1 then none else
 some (3600*(aR l a 2).1+60*(aR l (a+3) 2).1+(aR l (a+6) 2).1):=rfl
theorem aAR{l:List UInt8}{a n:Nat}(h:(aR l a n).2=true):a+n<=l.length:=(rN h).1
end Go.Hm
namespace Go.Proofs.Z
open Hm Tryz Go.RowKit Go.Sort
attribute [local go_sem] dY fR fS
def jK:Option Nat->Value
 |none=> .tuple #[.int .i64 0,.bool false]
 |some n=> .tuple #[.int .i64 n,.bool true]
set_option maxRecDepth 20000 in
set_option maxHeartbeats 2000000 in
theorem PD(l:List UInt8)(o:l.length<=1000000000000000)(a:Nat)(I:a<=100)(w:World):Calls prog 194 #[.string ⟨l.toArray⟩,.int .i64 a] w fun e n=>e= .returned (jK (gZ l a))/\n=w:=by
 have d:Hid (∀w,Calls prog 190 #[.string ⟨l.toArray⟩,.int .i64 a,.int .i64 2] w fun e n=>e= .returned (.tuple #[.int .i64 (aR l a 2).1,.bool (aR l a 2).2])/\n=w):=fun w=>nU l o a 2 (by omega) (by decide) w;have f:Hid (∀w,Calls prog 190 #[.string ⟨l.toArray⟩,.int .i64 ((a:Int)+3),.int .i64 2] w fun e n=>e= .returned (.tuple #[.int .i64 (aR l (a+3) 2).1,.bool (aR l (a+3) 2).2])/\n=w):=fun w=>by
  have:=nU l o (a+3) 2 (by omega) (by decide) w
  rwa [show((a+3:Nat):Int)=(a:Int)+3 by omega]at this
 have g:Hid (∀w,Calls prog 190 #[.string ⟨l.toArray⟩,.int .i64 ((a:Int)+6),.int .i64 2] w fun e n=>e= .returned (.tuple #[.int .i64 (aR l (a+6) 2).1,.bool (aR l (a+6) 2).2])/\n=w):=fun w=>by
  have:=nU l o (a+6) 2 (by omega) (by decide) w
  rwa [show((a+6:Nat):Int)=(a:Int)+6 by omega]at this
 have b:= @aAR l (a+6) 2;rw[PC];generalize aR l a 2=x at d;generalize aR l (a+3) 2=y at f;generalize aR l (a+6) 2=A at g b;obtain⟨h,b1⟩:=x;obtain⟨m,b2⟩:=y;obtain⟨c,B⟩:=A;dsimp only at d f g b⊢;cases b1
 ·rw[aD (.inl rfl)];unfold jK;go_enter func194,ntmps194;go_wp2_with fail;refine(d.out _).mono ?_;rintro e i⟨rfl,rfl⟩;go_wp2_with fail;refine(f.out _).mono ?_;rintro e j⟨rfl,rfl⟩;go_wp2_with fail;refine(g.out _).mono ?_;rintro e k⟨rfl,rfl⟩;go_wp2;go_ret2;exact⟨rfl,rfl⟩
 cases b2
 ·rw[aD (.inr (.inl rfl))];unfold jK;go_enter func194,ntmps194;go_wp2_with fail;refine(d.out _).mono ?_;rintro e i⟨rfl,rfl⟩;go_wp2_with fail;refine(f.out _).mono ?_;rintro e j⟨rfl,rfl⟩;go_wp2_with fail;refine(g.out _).mono ?_;rintro e k⟨rfl,rfl⟩;go_wp2;go_ret2;exact⟨rfl,rfl⟩
 cases B
 ·rw[aD (.inr (.inr (.inl rfl)))];unfold jK;go_enter func194,ntmps194;go_wp2_with fail;refine(d.out _).mono ?_;rintro e i⟨rfl,rfl⟩;go_wp2_with fail;refine(f.out _).mono ?_;rintro e j⟨rfl,rfl⟩;go_wp2_with fail;refine(g.out _).mono ?_;rintro e k⟨rfl,rfl⟩;go_wp2;go_ret2;exact⟨rfl,rfl⟩
 have C:=b rfl;clear b;have i2:(a:Int)+2<(l.length:Int):=by omega
 have J:(a:Int)+5<(l.length:Int):=by omega
 have K:(0:Int)<=(a:Int)+2:=by omega
 have L:(0:Int)<=(a:Int)+5:=by omega
 have M:((a:Int)+2).toNat=a+2:=by omega
 have N:((a:Int)+5).toNat=a+5:=by omega
 have u:l.getD (a+2) 0=l[a+2]'(by omega):=by rw[gQ,dP (by omega)];rfl
 have v:l.getD (a+5) 0=l[a+5]'(by omega):=by rw[gQ,dP (by omega)];rfl
 rw[u,v];clear u v;by_cases D:(l[a+2]'(by omega)).toNat=58;rotate_left
 ·rw[aD (.inr (.inr (.inr (.inl D))))];unfold jK;have p:¬((l[a+2]'(by omega)).toNat:Int)=58:=by omega
  go_enter func194,ntmps194;go_wp2_with fail;refine(d.out _).mono ?_;rintro e i⟨rfl,rfl⟩;go_wp2_with fail;refine(f.out _).mono ?_;rintro e j⟨rfl,rfl⟩;go_wp2_with fail;refine(g.out _).mono ?_;rintro e k⟨rfl,rfl⟩;go_wp2;go_ret2;exact⟨rfl,rfl⟩
 have p:((l[a+2]'(by omega)).toNat:Int)=58:=by omega
 by_cases E:(l[a+5]'(by omega)).toNat=58;rotate_left
 ·rw[aD (.inr (.inr (.inr (.inr (.inl E)))))];unfold jK;have q:¬((l[a+5]'(by omega)).toNat:Int)=58:=by omega
  go_enter func194,ntmps194;go_wp2_with fail;refine(d.out _).mono ?_;rintro e i⟨rfl,rfl⟩;go_wp2_with fail;refine(f.out _).mono ?_;rintro e j⟨rfl,rfl⟩;go_wp2_with fail;refine(g.out _).mono ?_;rintro e k⟨rfl,rfl⟩;go_wp2;go_ret2;exact⟨rfl,rfl⟩
 have q:((l[a+5]'(by omega)).toNat:Int)=58:=by omega
 by_cases F:23<h
 ·rw[aD (.inr (.inr (.inr (.inr (.inr (.inl F))))))];unfold jK;have r:(23:Int)<(h:Int):=by omega
  go_enter func194,ntmps194;go_wp2_with fail;refine(d.out _).mono ?_;rintro e i⟨rfl,rfl⟩;go_wp2_with fail;refine(f.out _).mono ?_;rintro e j⟨rfl,rfl⟩;go_wp2_with fail;refine(g.out _).mono ?_;rintro e k⟨rfl,rfl⟩;go_wp2;go_ret2;exact⟨rfl,rfl⟩
 have r:¬(23:Int)<(h:Int):=by omega
 by_cases G:59<m
 ·rw[aD (.inr (.inr (.inr (.inr (.inr (.inr (.inl G)))))))];unfold jK;have s:(59:Int)<(m:Int):=by omega
  go_enter func194,ntmps194;go_wp2_with fail;refine(d.out _).mono ?_;rintro e i⟨rfl,rfl⟩;go_wp2_with fail;refine(f.out _).mono ?_;rintro e j⟨rfl,rfl⟩;go_wp2_with fail;refine(g.out _).mono ?_;rintro e k⟨rfl,rfl⟩;go_wp2;go_ret2;exact⟨rfl,rfl⟩
 have s:¬(59:Int)<(m:Int):=by omega
 by_cases H:59<c
 ·rw[aD (.inr (.inr (.inr (.inr (.inr (.inr (.inr H)))))))];unfold jK;have t:(59:Int)<(c:Int):=by omega
  go_enter func194,ntmps194;go_wp2_with fail;refine(d.out _).mono ?_;rintro e i⟨rfl,rfl⟩;go_wp2_with fail;refine(f.out _).mono ?_;rintro e j⟨rfl,rfl⟩;go_wp2_with fail;refine(g.out _).mono ?_;rintro e k⟨rfl,rfl⟩;go_wp2;go_ret2;exact⟨rfl,rfl⟩
 have t:¬(59:Int)<(c:Int):=by omega
 rw[aB (by simp;omega)];unfold jK;go_enter func194,ntmps194;go_wp2_with fail;refine(d.out _).mono ?_;rintro e i⟨rfl,rfl⟩;go_wp2_with fail;refine(f.out _).mono ?_;rintro e j⟨rfl,rfl⟩;go_wp2_with fail;refine(g.out _).mono ?_;rintro e k⟨rfl,rfl⟩;go_wp2;go_ret2;exact⟨aQ Ending.returned (aQ (fun z=>Value.tuple #[.int .i64 z,.bool true]) (by omega)),rfl⟩
def kP:Option (List UInt8)->Value
 |none=> .tuple #[.string ⟨#[]⟩,.bool false]
 |some t=> .tuple #[.string ⟨t.toArray⟩,.bool true]
theorem tC(z:Int)(a:Nat)(n:Nat)(b:z=n)(c:n<=1000000)(d:a<=4)(w:World):Calls prog 220 #[.int .i64 z,.int .i64 a] w fun e f=>e= .returned (.string ⟨(oL a n).toArray⟩)/\f=w:=by
 subst b;exact W9 n a c d w
theorem uS(y m d s:Int):fN y m d s=if s<0 then(fX y m d,s+86400)else if 86400<=s then(fY y m d,s-86400)else((y,m,d),s):=rfl
theorem tE{y m:Int}(h1:1<=m)(h2:m<=12):28<=dO y m/\dO y m<=31:=by
 rw[<-BI h1 h2];unfold uP;split
 ·split <;> omega
 ·split <;> omega
theorem PE{y m d:Int}(h:rM (y,m,d)):0<=(fX y m d).1/\(fX y m d).1<=9999/\1<=(fX y m d).2.1/\(fX y m d).2.1<=12/\1<=(fX y m d).2.2/\(fX y m d).2.2<=31:=by
 obtain⟨h1,h2,h3,h4,h5,h6⟩:=h;dsimp only at h1 h2 h3 h4 h5 h6;have a:=tE (y:=y) h3 h4;unfold fX;split
 ·split
  ·have:=tE (y:=y-1) (m:=12) (by decide) (by decide);dsimp only;omega
  ·have:=tE (y:=y) (m:=m-1) (by omega) (by omega);dsimp only;omega
 ·dsimp only;omega
theorem aAS{y m d:Int}(h:rM (y,m,d)):1<=(fY y m d).1/\(fY y m d).1<=10000/\1<=(fY y m d).2.1/\(fY y m d).2.1<=12/\1<=(fY y m d).2.2/\(fY y m d).2.2<=31:=by
 obtain⟨h1,h2,h3,h4,h5,h6⟩:=h;dsimp only at h1 h2 h3 h4 h5 h6;have a:=tE (y:=y) h3 h4;unfold fY;split
 ·split
  ·dsimp only;omega
  ·dsimp only;omega
 ·dsimp only;omega
theorem aAT{y m d s:Int}(h:rM (y,m,d))(h1: -86400<=s)(h2:s<172800):0<=(fN y m d s).1.1/\(fN y m d s).1.1<=10000/\1<=(fN y m d s).1.2.1/\(fN y m d s).1.2.1<=12/\1<=(fN y m d s).1.2.2/\(fN y m d s).1.2.2<=31/\0<=(fN y m d s).2/\(fN y m d s).2<86400:=by
 have i:=PE h;have j:=aAS h;obtain⟨c,e,a,b,f,g⟩:=h;dsimp only at c e a b f g;have k:=tE (y:=y) a b;rw[uS];split
 ·dsimp only;omega
 ·split
  ·dsimp only;omega
  ·dsimp only;omega
set_option maxRecDepth 20000 in
set_option maxHeartbeats 4000000 in
theorem PF(f m0 h s0:Int)(o:rM (f,m0,h))(v: -86400<=s0)(x:s0<172800)(w:World):
  Calls prog 196 #[.int .i64 f,.int .i64 m0,.int .i64 h,.int .i64 s0] w fun e i=>e= .returned (kP (mD f m0 h s0))/\i=w:=by
 have B:Hid (∀y m:Int,0<=y->1<=m->m<=12->∀w,Calls prog 219 #[.int .i64 y,.int .i64 m] w fun e i=>e= .returned (.int .i64 (dO y m))/\i=w):=fun y m L h1 h2 w=>by
  have:=NT y m L w
  rwa [BI h1 h2]at this
 have j:=aAT o v x;have n:=PE o;have z:mD f m0 h s0=if(fN f m0 h s0).1.1<1∨9999<(fN f m0 h s0).1.1 then none else
  some (eT (fN f m0 h s0).1.1.toNat (fN f m0 h s0).1.2.1.toNat (fN f m0 h s0).1.2.2.toNat ((fN f m0 h s0).2/3600).toNat ((fN f m0 h s0).2/60%60).toNat ((fN f m0 h s0).2%60).toNat):=rfl
 rw[z];clear z;obtain⟨M,N,C,D,O,P⟩:=o;dsimp only at M N C D O P;have A:=tE (y:=f) C D;obtain⟨E,Q⟩:∃E,(if s0<0 then(fX f m0 h,s0+86400)else((f,m0,h),s0))=E:=⟨_,rfl⟩;obtain⟨R,G⟩:∃R,fN f m0 h s0=R:=⟨_,rfl⟩;rw[G]at j⊢;have l:=show Hid _ from Q;have p:=show Hid _ from G;clear Q G;obtain⟨V,H⟩:∃V,kP (if R.1.1<1∨9999<R.1.1 then none else some (eT R.1.1.toNat R.1.2.1.toNat R.1.2.2.toNat (R.2/3600).toNat (R.2/60%60).toNat (R.2%60).toNat))=V:=⟨_,rfl⟩;rw[H];have T:=show Hid _ from H;clear H;go_enter func196,ntmps196;go_upto_if 11 with fail;go_cut [0,1,2,3] (fun a b c e wc=>a= .int .i64 E.1.1/\b= .int .i64 E.1.2.1/\c= .int .i64 E.1.2.2/\e= .int .i64 E.2/\wc=w);case first=>
  by_cases h0:s0<0
  ·by_cases h1:h=1
   ·subst h1;by_cases h2:m0=1
    ·subst h2;have g:Hid (E=((f-1,12,dO (f-1) 12),s0+86400)):=by
      show _=_;rw[<-l.out,aD h0];rfl
     have u:=B.out (f-1) 12 (by omega) (by decide) (by decide);have r:=aA u;clear u j n;go_wp2_with fail;refine(r.out _).mono ?_;rintro e t⟨rfl,rfl⟩;go_wp2
     go_meet
     case rel=>exact⟨by rw[g.out],by rw[g.out],by rw[g.out],by rw[g.out],rfl⟩
    ·have g:Hid (E=((f,m0-1,dO f (m0-1)),s0+86400)):=by
      show _=_;rw[<-l.out,aD h0];unfold fX;rw[aD (by omega),aB (by omega)]
     have u:=B.out f (m0-1) (by omega) (by omega) (by omega);have r:=aA u;have b1:(m0-1==0)=false:=by simp;omega
     have I:¬m0-1=0:=by omega
     clear u j n;go_wp2_with fail;refine(r.out _).mono ?_;rintro e t⟨rfl,rfl⟩;go_wp2
     go_meet
     case rel=>exact⟨by rw[g.out],by rw[g.out],by rw[g.out],by rw[g.out],rfl⟩
   ·have g:Hid (E=((f,m0,h-1),s0+86400)):=by
     show _=_;rw[<-l.out,aD h0];unfold fX;rw[aB (by omega)]
    have b1:(h-1==0)=false:=by simp;omega
    have I:¬h-1=0:=by omega
    clear j n;go_wp2
    go_meet
    case rel=>exact⟨by rw[g.out],by rw[g.out],by rw[g.out],by rw[g.out],rfl⟩
  ·have g:Hid (E=((f,m0,h),s0)):=by
    show _=_;rw[<-l.out,aB h0]
   clear j n;go_wp2
   go_meet
   case rel=>exact⟨by rw[g.out],by rw[g.out],by rw[g.out],by rw[g.out],rfl⟩
 case rest=>
  obtain⟨rfl,rfl,rfl,rfl,rfl⟩:=hcut;go_upto_if 28 with fail;go_cut [0,1,2,3] (fun a b c e wd=>a= .int .i64 R.1.1/\b= .int .i64 R.1.2.1/\c= .int .i64 R.1.2.2/\e= .int .i64 R.2/\wd=wc);case first=>
   by_cases h0:86400<=s0
   ·have g:Hid (E=((f,m0,h),s0)):=by
     show _=_;rw[<-l.out,aB (by omega)]
    rw[g.out];dsimp only;have u:=B.out f m0 (by omega) C D;have r:=aA u;clear u j n;by_cases h1:dO f m0<h+1
    ·by_cases h2:12<m0+1
     ·have k:Hid (R=((f+1,1,1),s0-86400)):=by
       show _=_;rw[<-p.out,uS,aB (by omega),aD h0];unfold fY;rw[aD h1,aD h2]
      generalize dO f m0=U at r h1;go_wp2_with fail;refine(r.out _).mono ?_;rintro e t⟨rfl,rfl⟩;go_wp2
      go_meet
      case rel=>exact⟨by rw[k.out],by rw[k.out],by rw[k.out],by rw[k.out],rfl⟩
     ·have k:Hid (R=((f,m0+1,1),s0-86400)):=by
       show _=_;rw[<-p.out,uS,aB (by omega),aD h0];unfold fY;rw[aD h1,aB h2]
      generalize dO f m0=U at r h1;go_wp2_with fail;refine(r.out _).mono ?_;rintro e t⟨rfl,rfl⟩;go_wp2
      go_meet
      case rel=>exact⟨by rw[k.out],by rw[k.out],by rw[k.out],by rw[k.out],rfl⟩
    ·have k:Hid (R=((f,m0,h+1),s0-86400)):=by
      show _=_;rw[<-p.out,uS,aB (by omega),aD h0];unfold fY;rw[aB h1]
     generalize dO f m0=U at r h1;go_wp2_with fail;refine(r.out _).mono ?_;rintro e t⟨rfl,rfl⟩;go_wp2
     go_meet
     case rel=>exact⟨by rw[k.out],by rw[k.out],by rw[k.out],by rw[k.out],rfl⟩
   ·have k:Hid (R=E):=by
     show _=_;rw[<-p.out,<-l.out,uS];by_cases h1:s0<0
     ·rw[aD h1,aD h1]
     ·rw[aB h1,aB h0,aB h1]
    have aa:¬(86400:Int)<=E.2:=by
     rw[<-l.out];split
     ·dsimp only;omega
     ·dsimp only;omega
    clear j n;go_wp2
    go_meet
    case rel=>exact⟨by rw[k.out],by rw[k.out],by rw[k.out],by rw[k.out],rfl⟩
  case rest=>
   obtain⟨rfl,rfl,rfl,rfl,rfl⟩:=hcut;clear l p n B A M N C D O P v x;obtain⟨⟨y,m,d⟩,s⟩:=R;dsimp only at j⊢;obtain⟨L,ab,hm,ac,hd,ad,hs,ae⟩:=j;by_cases F:y<1∨9999<y
   ·have J:=show Hid _ from F;have K:y<1∨(¬y<1/\9999<y):=by omega
    clear F;rcases K with q|⟨q1,q2⟩;all_goals(
     go_wp2;go_ret2;exact⟨by rw[<-T.out];dsimp only;rw[aD J.out];rfl,rfl⟩)
   ·have J:=show Hid _ from F;have W:Hid (∀w,Calls prog 220 #[.int .i64 y,.int .i64 4] w fun e i=>e= .returned (.string ⟨(fP y.toNat).toArray⟩)/\i=w):=fun w=>by
     have:=tC y 4 y.toNat (by omega) (by omega) (by decide) w
     rwa [W8 (by omega)]at this
    have X:Hid (∀w,Calls prog 220 #[.int .i64 m,.int .i64 2] w fun e i=>e= .returned (.string ⟨(Hm.d2 m.toNat).toArray⟩)/\i=w):=fun w=>by
     have:=tC m 2 m.toNat (by omega) (by omega) (by decide) w
     rwa [uQ (by omega)]at this
    have Y:Hid (∀w,Calls prog 220 #[.int .i64 d,.int .i64 2] w fun e i=>e= .returned (.string ⟨(Hm.d2 d.toNat).toArray⟩)/\i=w):=fun w=>by
     have:=tC d 2 d.toNat (by omega) (by omega) (by decide) w
     rwa [uQ (by omega)]at this
    obtain⟨S,rfl⟩:=Int.eq_ofNat_of_zero_le hs;have Z:Hid (∀w,Calls prog 220 #[.int .i64 ((S:Int)/3600),.int .i64 2] w fun e i=>e= .returned (.string ⟨(Hm.d2 (S/3600)).toArray⟩)/\i=w):=fun w=>by
     have:=tC ((S:Int)/3600) 2 (S/3600) (by omega) (by omega) (by decide) w
     rwa [uQ (by omega)]at this
    have P5:Hid (∀w,Calls prog 220 #[.int .i64 ((S:Int)/60%60),.int .i64 2] w fun e i=>e= .returned (.string ⟨(Hm.d2 (S/60%60)).toArray⟩)/\i=w):=fun w=>by
     have:=tC ((S:Int)/60%60) 2 (S/60%60) (by omega) (by omega) (by decide) w
     rwa [uQ (by omega)]at this
    have P6:Hid (∀w,Calls prog 220 #[.int .i64 ((S:Int)%60),.int .i64 2] w fun e i=>e= .returned (.string ⟨(Hm.d2 (S%60)).toArray⟩)/\i=w):=fun w=>by
     have:=tC ((S:Int)%60) 2 (S%60) (by omega) (by omega) (by decide) w
     rwa [uQ (by omega)]at this
    have g:Hid (eT y.toNat m.toNat d.toNat ((S:Int)/3600).toNat ((S:Int)/60%60).toNat ((S:Int)%60).toNat=fP y.toNat++[45]++Hm.d2 m.toNat++[45]++Hm.d2 d.toNat++[84]++Hm.d2 (S/3600)++[58]++Hm.d2 (S/60%60)++[58]++Hm.d2 (S%60)):=by
     show _=_;unfold eT;rw[show((S:Int)/3600).toNat=S/3600 by omega,show((S:Int)/60%60).toNat=S/60%60 by omega,show((S:Int)%60).toNat=S%60 by omega]
    have l1:(fP y.toNat).length=4:=rfl;have l2:(Hm.d2 m.toNat).length=2:=rfl;have l3:(Hm.d2 d.toNat).length=2:=rfl;have l4:(Hm.d2 (S/3600)).length=2:=rfl;have l5:(Hm.d2 (S/60%60)).length=2:=rfl;have l6:(Hm.d2 (S%60)).length=2:=rfl;generalize fP y.toNat=A1 at W l1 g;generalize Hm.d2 m.toNat=A2 at X l2 g;generalize Hm.d2 d.toNat=A3 at Y l3 g;generalize Hm.d2 (S/3600)=A4 at Z l4 g;generalize Hm.d2 (S/60%60)=A5 at P5 l5 g;generalize Hm.d2 (S%60)=A6 at P6 l6 g;have f:¬y<1:=by omega
    have y1:¬(9999:Int)<y:=by omega
    clear F;go_wp2_with fail;refine(W.out _).mono ?_;rintro e t⟨rfl,rfl⟩;go_wp2_with fail;refine(X.out _).mono ?_;rintro e t⟨rfl,rfl⟩;go_wp2_with fail;refine(Y.out _).mono ?_;rintro e t⟨rfl,rfl⟩;go_wp2_with fail;refine(Z.out _).mono ?_;rintro e t⟨rfl,rfl⟩;go_wp2_with fail;refine(P5.out _).mono ?_;rintro e t⟨rfl,rfl⟩;go_wp2_with fail;refine(P6.out _).mono ?_;rintro e t⟨rfl,rfl⟩;go_wp2;go_ret2;exact⟨by rw[<-T.out];dsimp only;rw[aB J.out,g.out];simp[kP],rfl⟩
end Go.Proofs.Z

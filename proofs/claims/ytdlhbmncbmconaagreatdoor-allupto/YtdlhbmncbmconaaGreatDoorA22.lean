/- Pressed by program out of Cd. -/
import Derived.Test.YtdlhbmncbmconaaGreatDoorA19
namespace Go.Hm
theorem aAH{b n a c:Nat}(h:iX b=some (n,a,c)):1<=n/\n<=3/\a<=65536/\c<=31:=by
 unfold iX at h;split at h
 ·injection h with h;injection h with h1 h;injection h with h2 h3;omega
 ·split at h
  ·injection h with h;injection h with h1 h;injection h with h2 h3;omega
  ·split at h
   ·injection h with h;injection h with h1 h;injection h with h2 h3;omega
   ·cases h
theorem aAI{n:Nat}{t:List UInt8}{k:Nat}(a:k<t.length)(c:Nat):iL (n+1) (t.drop k) c=if t[k].toNat<128∨191<t[k].toNat then none else iL n (t.drop (k+1)) (64*c+t[k].toNat-128):=by
 rw[eE a,iL]
theorem aAJ{n:Nat}{t:List UInt8}{k:Nat}(a:t.length<=k)(c:Nat):iL (n+1) (t.drop k) c=none:=by
 rw[gH a,iL]
end Go.Hm
namespace Go.Proofs.Z
open Hm Tryz Go.RowKit Go.Sort
attribute [local go_sem] fS
set_option maxRecDepth 20000 in
set_option maxHeartbeats 4000000 in
theorem xV(l:List UInt8)(hl:l.length<=1000000000000000)(w:World):Calls prog 157 #[.string ⟨l.toArray⟩] w fun e w'=>e= .returned (.bool (bO l))/\w'=w:=by
 obtain⟨P,M⟩:∃P,bO l=P:=⟨_,rfl⟩;rw[M];have HP:=show Hid _ from M;clear M;go_enter func157,ntmps157;go_wp2;go_loopw [3] (fun N wr=>∃j:Nat,j<=l.length/\N= .int .i64 j/\P=bO (l.drop j)/\wr=w) (fun N _=>l.length-(intOf N).toNat)
 case atStart=>exact⟨0,dM _,rfl,by rw[<-HP.out,fB],rfl⟩
 case round=>
  obtain⟨j,hj,rfl,C,rfl⟩:=hrel;have g:=show Hid _ from C;clear C;by_cases O:j<l.length;rotate_left
  ·have Q:¬(j:Int)<(l.length:Int):=by omega
   go_wp2;go_ret;exact⟨by rw[g.out,gH (by omega)];rfl,rfl⟩
  have Q:(j:Int)<(l.length:Int):=by omega
  have p:Hid (l.drop j=l[j]::l.drop (j+1)):=eE O;by_cases h32:l[j].toNat<32∨l[j].toNat=127
  ·have d:Hid (P=false):=by show _=_;rw[g.out,p.out,V6 h32]
   have b:(l[j].toNat:Int)<32∨(¬(l[j].toNat:Int)<32/\(l[j].toNat:Int)=127):=by omega
   clear h32;rcases b with R|⟨R,c2⟩;all_goals(
    go_wp2;go_ret;exact⟨by rw[d.out];rfl,rfl⟩)
  have R:¬(l[j].toNat:Int)<32:=by omega
  have c2:¬(l[j].toNat:Int)=127:=by omega
  have S:((l[j].toNat:Int)==127)=false:=by simp;omega
  by_cases h128:l[j].toNat<128
  ·have d:Hid (P=bO (l.drop (j+1))):=by show _=_;rw[g.out,p.out,V7 h32 h128]
   have c3:(l[j].toNat:Int)<128:=by omega
   clear h32 h128;go_wp2;go_roundw;case rel=>exact⟨j+1,by omega,aY (by simp),d.out,by first|rfl|trivial⟩
   case measure=>simp[intOf];omega
  have c3:¬(l[j].toNat:Int)<128:=by omega
  have ad:wrap64 (l[j].toNat:Int)=(l[j].toNat:Int):=by have:=l[j].toNat_lt;unfold wrap64;omega
  have u:=show Hid _ from V8 l[j] (l.drop (j+1)) (by omega);have D:Hid (128<=l[j].toNat):=by show _<=_;omega
  clear h32 h128;go_upto_block 2 with fail;go_cut [3,4,5,6] (fun s3 s4 s5 s6 wc=>∃n a c:Nat,iX l[j].toNat=some (n,a,c)/\s3= .int .i64 j/\s4= .int .i64 c/\s5= .int .i64 n/\s6= .int .i64 a/\wc=wr);case first=>
   by_cases r:192<=l[j].toNat/\l[j].toNat<224
   ·have E:Hid (iX l[j].toNat=some (1,128,l[j].toNat-192)):=by show _=_;unfold iX;rw[aD r]
    have d1:(192:Int)<=(l[j].toNat:Int):=by omega
    have d2:(l[j].toNat:Int)<224:=by omega
    have i:=aA r.1;clear r;go_wp2
    go_meet
    case rel=>have:=i.out;exact⟨1,128,l[j].toNat-192,E.out,rfl,aY (by omega),rfl,rfl,rfl⟩
   by_cases x:224<=l[j].toNat/\l[j].toNat<240
   ·have E:Hid (iX l[j].toNat=some (2,2048,l[j].toNat-224)):=by show _=_;unfold iX;rw[aB r,aD x]
    have d0:(192:Int)<=(l[j].toNat:Int):=by omega
    have d1:(224:Int)<=(l[j].toNat:Int):=by omega
    have d2:(l[j].toNat:Int)<240:=by omega
    have d3:¬(l[j].toNat:Int)<224:=by omega
    have i:=aA x.1;clear r x;go_wp2
    go_meet
    case rel=>have:=i.out;exact⟨2,2048,l[j].toNat-224,E.out,rfl,aY (by omega),rfl,rfl,rfl⟩
   by_cases F:240<=l[j].toNat/\l[j].toNat<248
   ·have E:Hid (iX l[j].toNat=some (3,65536,l[j].toNat-240)):=by show _=_;unfold iX;rw[aB r,aB x,aD F]
    have d0:(192:Int)<=(l[j].toNat:Int):=by omega
    have d1:(224:Int)<=(l[j].toNat:Int):=by omega
    have d2:(240:Int)<=(l[j].toNat:Int):=by omega
    have d3:¬(l[j].toNat:Int)<224:=by omega
    have d4:¬(l[j].toNat:Int)<240:=by omega
    have d5:(l[j].toNat:Int)<248:=by omega
    have i:=aA F.1;clear r x F;go_wp2
    go_meet
    case rel=>have:=i.out;exact⟨3,65536,l[j].toNat-240,E.out,rfl,aY (by omega),rfl,rfl,rfl⟩
   ·have d:Hid (P=false):=by
     show _=_;rw[g.out,p.out,u.out,show iX l[j].toNat=none by unfold iX;rw[aB r,aB x,aB F]]
    have h128:=D.out;have b:(l[j].toNat:Int)<192∨(248:Int)<=(l[j].toNat:Int):=by omega
    clear r x F h128;rcases b with d1|d1
    ·have d2:¬(192:Int)<=(l[j].toNat:Int):=by omega
     have d3:¬(224:Int)<=(l[j].toNat:Int):=by omega
     have d4:¬(240:Int)<=(l[j].toNat:Int):=by omega
     go_wp2;go_ret;exact⟨by rw[d.out];rfl,rfl⟩
    ·have d0:(192:Int)<=(l[j].toNat:Int):=by omega
     have d2:(224:Int)<=(l[j].toNat:Int):=by omega
     have d3:(240:Int)<=(l[j].toNat:Int):=by omega
     have d4:¬(l[j].toNat:Int)<224:=by omega
     have d5:¬(l[j].toNat:Int)<240:=by omega
     have d6:¬(l[j].toNat:Int)<248:=by omega
     go_wp2;go_ret;exact⟨by rw[d.out];rfl,rfl⟩
  case rest=>
   obtain⟨n,a,c,y,rfl,rfl,rfl,rfl,rfl⟩:=hcut;obtain⟨n1,n3,ah,ae⟩:=aAH y;have m:Hid (P=match iL n (l.drop (j+1)) c with
    |none=>false
    |some v=>if nJ a v=true then false else bO ((l.drop (j+1)).drop n)):=by
    show _=_;rw[g.out,p.out,u.out,y];rfl
   clear y u R c2 S c3;obtain⟨T,G⟩:∃T,l.drop (j+1)=T:=⟨_,rfl⟩;have ai:T.length=l.length-(j+1):=by rw[<-G,bC]
   have U:Hid (∀q,(h:q<T.length)->∃V:j+1+q<l.length,T[q]=l[j+1+q]):=fun q h=>by
    have V:j+1+q<l.length:=by omega
    refine⟨V,?_⟩;have:T[q]?=l[j+1+q]?:=by rw[<-G,nM]
    rw[dP h,dP V]at this;exact Option.some.inj this
   have W:Hid (T.drop n=l.drop (j+n+1)):=by
    show _=_;rw[<-G,dW];congr 1;omega
   rw[G]at m;clear G;go_wp2;go_loopw [4,7] (fun s4 s7 wq=>∃q v:Nat,q<=n/\q<=T.length/\v<32*64^q/\s7= .int .i64 ((q:Int)+1)/\s4= .int .i64 v/\iL n T c=iL (n-q) (T.drop q) v/\wq=wc) (fun _ s7 _=>n+1-(intOf s7).toNat)
   case atStart=>exact⟨0,c,by omega,by omega,by simp;omega,aY (by simp),rfl,by simp,rfl⟩
   case round=>
    obtain⟨q,v,hq,aj,hv,rfl,rfl,H,z⟩:=hrel;have z:=z.symm;subst z;have s:=show Hid _ from H;clear H;have hM:64^q<=262144:=by
     have:=qQ (n:=64) (by decide) (by omega:q<=3);simpa using this
    have X:Hid (64^(q+1)=64*64^q):=by show _=_;rw[Nat.pow_succ];omega
    have Y:=show Hid _ from hv;have ak:v<8388608:=by omega
    clear hv hM;by_cases al:q<n
    ·have Z:(q:Int)+1<=(n:Int):=by omega
     have am:((j:Int)+((q:Int)+1)).toNat=j+1+q:=by omega
     by_cases af:j+1+q<l.length;rotate_left
     ·have d:Hid (P=false):=by
       show _=_;rw[m.out,s.out,show n-q=(n-q-1)+1 by omega,aAJ (by omega)]
      have A:(l.length:Int)<=(j:Int)+((q:Int)+1):=by omega
      go_wp2;go_ret;exact⟨by rw[d.out];rfl,rfl⟩
     have A:¬(l.length:Int)<=(j:Int)+((q:Int)+1):=by omega
     have aa:(j:Int)+((q:Int)+1)<(l.length:Int):=by omega
     obtain⟨_,I⟩:=U.out q (by omega);have B:=aAI (n:=n-q-1) (t:=T) (k:=q) (by omega) v;rw[I]at B;have J:=show Hid _ from B;have ag:wrap64 (l[j+1+q].toNat:Int)=(l[j+1+q].toNat:Int):=by have:=l[j+1+q].toNat_lt;unfold wrap64;omega
     have ab:(l[j+1+q].toNat:Int)<256:=by have:=l[j+1+q].toNat_lt;omega
     clear B I;by_cases L:l[j+1+q].toNat<128∨191<l[j+1+q].toNat
     ·have d:Hid (P=false):=by
       show _=_;rw[m.out,s.out,show n-q=(n-q-1)+1 by omega,J.out,aD L]
      have b:(l[j+1+q].toNat:Int)<128∨(¬(l[j+1+q].toNat:Int)<128/\(191:Int)<(l[j+1+q].toNat:Int)):=by omega
      clear L;rcases b with d1|⟨d1,d2⟩;all_goals(
       go_wp2;go_ret;exact⟨by rw[d.out];rfl,rfl⟩)
     ·have ac:Hid (iL n T c=iL (n-(q+1)) (T.drop (q+1)) (64*v+l[j+1+q].toNat-128)):=by
       show _=_;rw[s.out,show n-q=(n-q-1)+1 by omega,J.out,aB L,show n-q-1=n-(q+1) by omega]
      have d1:¬(l[j+1+q].toNat:Int)<128:=by omega
      have d2:¬(191:Int)<(l[j+1+q].toNat:Int):=by omega
      clear L;go_wp2;go_roundw;case rel=>exact⟨q+1,64*v+l[j+1+q].toNat-128,by omega,by omega,by have:=X.out;have:=Y.out;omega,aY (by simp),aY (by omega),ac.out,by first|rfl|trivial⟩
      case measure=>simp[intOf];omega
    ·have Z:¬(q:Int)+1<=(n:Int):=by omega
     have K:Hid (iL n T c=some v):=by
      show _=_;rw[s.out,show n-q=0 by omega,iL]
     have an:q=n:=by omega
     by_cases f:nJ a v=true
     ·have d:Hid (P=false):=by
       show _=_;rw[m.out,K.out];dsimp only;rw[aD f]
      have o:v<a∨1114111<v∨(55296<=v/\v<=57343):=by
       simpa[nJ,or_assoc]using f
      have b:(v:Int)<(a:Int)∨(¬(v:Int)<(a:Int)/\(1114111:Int)<(v:Int))∨(¬(v:Int)<(a:Int)/\¬(1114111:Int)<(v:Int)/\(55296:Int)<=(v:Int)/\(v:Int)<=57343):=by omega
      clear f o;rcases b with d1|⟨d1,d2⟩|⟨d1,d2,d3,d4⟩;all_goals(
       go_wp2;go_ret;exact⟨by rw[d.out];rfl,rfl⟩)
     ·have d:Hid (P=bO (l.drop (j+n+1))):=by
       show _=_;rw[m.out,K.out];dsimp only;rw[aB f,W.out]
      have o:¬(v<a∨1114111<v∨(55296<=v/\v<=57343)):=by
       simpa[nJ,or_assoc]using f
      have d1:¬(v:Int)<(a:Int):=by omega
      have d2:¬(1114111:Int)<(v:Int):=by omega
      have b:¬(55296:Int)<=(v:Int)∨((55296:Int)<=(v:Int)/\¬(v:Int)<=57343):=by omega
      clear f o;rcases b with d3|⟨d3,d4⟩;all_goals(
       go_wp2;go_roundw;case rel=>exact⟨j+n+1,by omega,aY (by simp),d.out,by first|rfl|trivial⟩
       case measure=>simp[intOf];omega)
end Go.Proofs.Z

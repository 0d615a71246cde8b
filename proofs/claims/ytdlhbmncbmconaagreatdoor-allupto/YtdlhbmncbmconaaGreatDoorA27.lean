/- Pressed by program out of Co. -/
import Derived.Test.YtdlhbmncbmconaaGreatDoorA26
import Derived.Test.YtdlhbmncbmconaaGreatDoorA22
namespace Go.Proofs.Z
open Hm Tryz Go.RowKit Go.Sort
attribute [local go_sem] dY fR fS
theorem OW{l:List UInt8}{a:Nat}(h:bN l a=0∨12<bN l a):oM l a= -1:=by
 unfold oM;exact aD h
theorem OX{l:List UInt8}{a:Nat}(h:¬(bN l a=0∨12<bN l a)):oM l a=(a:Int)+(bN l a:Int):=by
 unfold oM;exact(aB h).trans (by show((a+bN l a:Nat):Int)=_;omega)
set_option maxRecDepth 20000 in
set_option maxHeartbeats 4000000 in
theorem OY(l:List UInt8)(hl:l.length<=4000000000)(w:World):Calls prog 164 #[.string ⟨l.toArray⟩] w fun e W=>e= .returned (.int .i64 (gE l))/\Below w.heap.size w W:=by
 obtain⟨N,hN⟩:∃N,gE l=N:=⟨_,rfl⟩;rw[hN];have HN:=show Hid _ from hN;clear hN;have WO:Hid (∀a:Nat,a<=l.length->∀w,Calls prog 197 #[.string ⟨l.toArray⟩,.int .i64 a] w fun e W=>e= .returned (.int .i64 (oM l a))/\W=w):=fun a ha w=>X6 l (by omega) a ha w;have CL:Hid (∀i:Nat,i<=l.length->∀w,Calls prog 157 #[.string ⟨(l.take i).toArray⟩] w fun e W=>e= .returned (.bool (bO (l.take i)))/\W=w):=fun i hi w=>xV (l.take i) (by rw[eJ];omega) w;obtain⟨i0,hi,af,ag,F⟩:=info_parts qZ;go_enter func164,ntmps164;go_wp2;go_loopw [3,4] (fun v s4 wr=>∃(i:Nat)(b:List (List UInt8)),s4= .int .i64 i/\pP l i b/\wr.ownsRow w.heap.size 9 1 v b.length (b.map aU)/\Below w.heap.size w wr) (fun _ s4 _=>l.length-(intOf s4).toNat)
 case atStart=>exact⟨0,[],rfl,aAo l,World.ownsRow_nil _ _ _ _,aF _ _⟩
 case round=>
  obtain⟨i,b,rfl,hD,ab,hB⟩:=hrel;have aq:=hD.le;have u:=hD.count;have HD:=show Hid _ from hD;have HO:=aA ab;have D:=show Hid _ from hB;clear hD ab hB;by_cases h91:∃h:i<l.length,l[i].toNat=91;case neg=>
   have f:Hid (N=if bO (l.take i)=true then i else 0):=by show _=_;rw[<-HN.out];exact aAp HD.out h91
   have ah:=show Hid _ from CL.out i aq;generalize bO (l.take i)=pl at f ah;by_cases G:i<l.length
   ·have c0:(i:Int)<(l.length:Int):=by omega
    have c1:((l[i].toNat:Int)==91)=false:=bG.2 (fun e=>h91 ⟨G,by omega⟩);clear h91 u;go_wp2_with fail;refine(ah.out _).mono ?_;rintro e w1⟨rfl,c⟩;have c:=c.symm;subst c;cases pl
    ·go_wp2;go_ret;exact⟨by rw[f.out];rfl,D.out⟩
    ·go_wp2;go_ret;exact⟨by rw[f.out];rfl,D.out⟩
   ·have c0:¬(i:Int)<(l.length:Int):=by omega
    clear h91 u;go_wp2_with fail;refine(ah.out _).mono ?_;rintro e w1⟨rfl,c⟩;have c:=c.symm;subst c;cases pl
    ·go_wp2;go_ret;exact⟨by rw[f.out];rfl,D.out⟩
    ·go_wp2;go_ret;exact⟨by rw[f.out];rfl,D.out⟩
  have r:=show Hid _ from h91;obtain⟨G,ar⟩:=h91;have c0:(i:Int)<(l.length:Int):=by omega
  have c1:((l[i].toNat:Int)==91)=true:=dZ.2 (by omega);clear ar;have z:Hid (∀w,Calls prog 197 #[.string ⟨l.toArray⟩,.int .i64 ((i:Int)+1)] w fun e W=>e= .returned (.int .i64 (oM l (i+1)))/\W=w):=fun w=>by
   have:=WO.out (i+1) (by omega) w;have e:((i+1:Nat):Int)=(i:Int)+1:=by omega
   rw[e]at this;exact this
  by_cases hR:bN l (i+1)=0∨12<bN l (i+1)
  ·have f:Hid (N=0):=by show _=_;rw[<-HN.out];exact xR HD.out r.out (aAg G hR)
   rw[OW hR]at z;clear hR;go_wp2_with fail;refine(z.out _).mono ?_;rintro e w1⟨rfl,c⟩;have c:=c.symm;subst c;go_wp2;go_ret;exact⟨by rw[f.out];rfl,D.out⟩
  rw[OX hR]at z;have HR:=show Hid _ from hR;have au:=OI (l:=l) (a:=i+1) (by omega);have av:bN l (i+1)<=12:=by omega
  have aH:1<=bN l (i+1):=by omega
  obtain⟨R,ai⟩:∃R,bN l (i+1)=R:=⟨_,rfl⟩;rw[ai]at z au av aH;have A:=show Hid _ from ai;clear hR ai;obtain⟨t,aj⟩:∃t,(l.drop (i+1)).take R=t:=⟨_,rfl⟩;have H:=show Hid _ from aj;have I:(l.drop (i+1)).take (i+1+R-(i+1))=t:=by rw[show i+1+R-(i+1)=R by omega];exact aj
  clear aj;have d0:(i:Int)+1+(R:Int)<=(l.length:Int):=by omega
  have d1:((i:Int)+1+(R:Int)).toNat=i+1+R:=by omega
  go_wp2_with fail;refine(z.out _).mono ?_;rintro e w1⟨rfl,c⟩;have c:=c.symm;subst c;have d2:¬(i:Int)+1+(R:Int)<0:=by omega
  go_upto_block 2 with fail;rw[H.out];go_cut [7] (fun _ wc=>t∉b/\wc=wr);case first=>
   have aw:Hid (t∈b->N=0):=fun h=>by
    rw[<-HN.out];exact aAq HD.out r.out HR.out (by rw[A.out,H.out];exact h)
   rcases HO.out.2 with⟨J,h0⟩|⟨g,a4,a5,hv,hg⟩
   ·have aI:b=[]:=tJ h0;subst aI;clear HO;subst J;go_wp2;go_loopw [7] (fun s7 wq=>s7= .int .i64 0/\wq=wr) (fun _ _=>0)
    case atStart=>exact⟨rfl,rfl⟩
    case round=>
     obtain⟨rfl,d⟩:=hrel;have d:=d.symm;subst d;go_wp2
     go_meet
     case rel=>exact⟨by simp,rfl⟩
   ·rw[hv]at HO;have aJ:Hid (∀(k:Nat) x,b[k]?=some x->wr.cell? ⟨g,k,none⟩=some (.string ⟨x.toArray⟩)):=fun k x hx=>zN HO.out k ⟨x.toArray⟩ (by rw[List.getElem?_map,hx];rfl);clear hg HO;subst hv;go_wp2;go_loopw [7] (fun s7 wq=>∃k:Nat,k<=b.length/\s7= .int .i64 k/\t∉b.take k/\wq=wr) (fun s7 _=>b.length-(intOf s7).toNat)
    case atStart=>exact⟨0,dM _,rfl,by simp,rfl⟩
    case round=>
     obtain⟨k,hk,rfl,ax,d⟩:=hrel;have d:=d.symm;subst d;have ay:=show Hid _ from ax;clear ax;by_cases aK:k<b.length
     ·have aL:(k:Int)<(b.length:Int):=by omega
      obtain⟨x,hx⟩:∃x,b[k]?=some x:=⟨_,dP aK⟩;have a6:=aJ.out k x hx;have HX:=show Hid _ from hx;clear hx;by_cases X:x=t
      ·have f:Hid (N=0):=aw.out (by rw[<-X];exact fG HX.out);subst X;go_wp2;go_ret;exact⟨by rw[f.out];rfl,D.out⟩
      ·have a7:(x==t)=false:=bG.2 X;have K:Hid (t∉b.take (k+1)):=by
        show¬_;rw[pS,HX.out];intro hm;rcases jM.1 hm with hm|hm
        ·exact ay.out hm
        ·simp at hm;exact X hm.symm
       clear X;go_wp2;go_roundw;case rel=>exact⟨k+1,by omega,aY (by simp),K.out,by first|rfl|trivial⟩
       case measure=>simp[intOf];omega
     ·have aL:¬(k:Int)<(b.length:Int):=by omega
      have K:Hid (t∉b):=by
       have:=ay.out;rw[fV (by omega)]at this;exact this
      go_wp2
      go_meet
      case rel=>exact⟨K.out,rfl⟩
  case rest=>
   obtain⟨ac,n⟩:=hcut;have n:=n.symm;subst n;have L:=show Hid _ from ac;clear ac;go_upto_block 4 with(at_builtin;refine wpList_append_own _ rfl _ _ 42 rfl w.heap.size 9 i0 (.string ByteArray.empty) 1 16 underlying42 hi af ag F rfl (by decide) _ _ _ rfl (HO.out.alloc _) ⟨wr.heap.size,0,none⟩ 1 1 [.string ⟨t.toArray⟩] rfl rfl (cell_one_new _ _ _) (fun x hx=>by simp at hx;subst hx;rfl) (by unfold maxLen;omega) (by omega) (by have:=D.out.size;simp;omega) ?_;intro v' w5 M O J);have aM:Hid (w5.ownsRow w.heap.size 9 1 v' (b++[t]).length ((b++[t]).map aU)):=by
    show World.ownsRow _ _ _ _ _ _ _;rw[iN,dL];exact M
   have o:Hid (Below w.heap.size w w5):=(D.out.alloc D.out.size _).grown O (by have:=D.out.size;simp;omega) (fun q hq=>by have:=HO.out.lt q hq;omega);clear M O J HO;have az:Hid (∀j:Nat,j<l.length->∀w,Calls prog 197 #[.string ⟨l.toArray⟩,.int .i64 ((j:Int)+1)] w fun e W=>e= .returned (.int .i64 (oM l (j+1)))/\W=w):=fun j hj w=>by
    have:=WO.out (j+1) (by omega) w;have e:((j+1:Nat):Int)=(j:Int)+1:=by omega
    rw[e]at this;exact this
   have ad:Hid (eK (l.length+1) (l.drop (i+1+R))=none->N=0):=fun h=>by
    rw[<-HN.out];exact xR HD.out r.out (aAh r.out HR.out (by rw[A.out];exact h))
   clear WO z;go_cut [4] (fun s4 wc=>∃j:Nat,s4= .int .i64 j/\oO l (i+1+R) j/\(¬∃h:j<l.length,l[j].toNat=32)/\wc=w5);case first=>
    clear c1 d0 I CL HD A H L HR r D HN u hi af ag F d2;go_wp2;clear d1;go_loopw [4] (fun s4 wq=>∃j:Nat,s4= .int .i64 j/\oO l (i+1+R) j/\wq=w5) (fun s4 _=>l.length-(intOf s4).toNat)
    case atStart=>exact⟨i+1+R,aY (by omega),aAc au,rfl⟩
    case round=>
     obtain⟨j,rfl,s,d⟩:=hrel;have d:=d.symm;subst d;have aN:=s.2.1;have P:=aA s;clear s;by_cases h32:∃h:j<l.length,l[j].toNat=32;case neg=>
      have B:=show Hid _ from h32;by_cases ak:j<l.length
      ·have e0:(j:Int)<(l.length:Int):=by omega
       have e1:((l[j].toNat:Int)==32)=false:=bG.2 (fun e=>h32 ⟨ak,by omega⟩);clear h32;go_wp2
       go_meet
       case rel=>exact⟨j,rfl,P.out,B.out,rfl⟩
      ·have e0:¬(j:Int)<(l.length:Int):=by omega
       clear h32;go_wp2
       go_meet
       case rel=>exact⟨j,rfl,P.out,B.out,rfl⟩
     have B:=show Hid _ from h32;obtain⟨ak,aA⟩:=h32;have e0:(j:Int)<(l.length:Int):=by omega
     have e1:((l[j].toNat:Int)==32)=true:=dZ.2 (by omega);clear aA;have Y:Hid (eG (l.drop (j+1))=0->N=0):=fun h=>ad.out (aAe P.out B.out h);have Z:=show Hid _ from az.out j ak;by_cases hS:bN l (j+1)=0∨12<bN l (j+1)
     ·have f:Hid (N=0):=Y.out (Z6 (by omega) hS);rw[OW hS]at Z;clear hS;go_wp2_with fail;refine(Z.out _).mono ?_;rintro e w1⟨rfl,c⟩;have c:=c.symm;subst c;go_wp2;go_ret;exact⟨by rw[f.out];rfl,o.out⟩
     rw[OX hS]at Z;have HS:=show Hid _ from hS;have aO:=OI (l:=l) (a:=j+1) (by omega);have aP:1<=bN l (j+1):=by omega
     obtain⟨S,Q⟩:∃S,bN l (j+1)=S:=⟨_,rfl⟩;have aa:Hid ((¬∃h:j+1+S+1<l.length,l[j+1+S].toNat=61/\l[j+1+S+1].toNat=34)->N=0):=fun h=>Y.out (Z9 Q HS.out h);have aB:Hid ((∃h:j+1+S+1<l.length,l[j+1+S].toNat=61/\l[j+1+S+1].toNat=34)->dA (l.drop (j+1+S+2))=none->N=0):=fun h hv=>Y.out (aAa Q HS.out h hv);have aC:Hid ((∃h:j+1+S+1<l.length,l[j+1+S].toNat=61/\l[j+1+S+1].toNat=34)->∀v,dA (l.drop (j+1+S+2))=some v->oO l (i+1+R) (j+1+(S+2+v+1))):=fun h v hv=>aAd P.out B.out (aAb Q HS.out h hv) (by omega);rw[Q]at Z aO aP;clear hS HS Q;have f0:((j:Int)+1+(S:Int)).toNat=j+1+S:=by omega
     have f1:((j:Int)+1+(S:Int)+1).toNat=j+1+S+1:=by omega
     have f2:¬(j:Int)+1+(S:Int)<0:=by omega
     by_cases g0:j+1+S+1<l.length;case neg=>
      have f:Hid (N=0):=aa.out (fun⟨h,_⟩=>g0 h);have aQ:(l.length:Int)<=(j:Int)+1+(S:Int)+1:=by omega
      go_wp2_with fail;refine(Z.out _).mono ?_;rintro e w1⟨rfl,c⟩;have c:=c.symm;subst c;go_wp2;go_ret;exact⟨by rw[f.out];rfl,o.out⟩
     have aQ:¬(l.length:Int)<=(j:Int)+1+(S:Int)+1:=by omega
     by_cases g1:l[j+1+S].toNat=61;case neg=>
      have f:Hid (N=0):=aa.out (fun⟨_,h,_⟩=>g1 h);have aD:((l[j+1+S].toNat:Int) !=61)=true:=by simp;omega
      clear g1;go_wp2_with fail;refine(Z.out _).mono ?_;rintro e w1⟨rfl,c⟩;have c:=c.symm;subst c;go_wp2;go_ret;exact⟨by rw[f.out];rfl,o.out⟩
     have aD:((l[j+1+S].toNat:Int) !=61)=false:=by simp;omega
     by_cases g2:l[j+1+S+1].toNat=34;case neg=>
      have f:Hid (N=0):=aa.out (fun⟨_,_,h⟩=>g2 h);have aE:((l[j+1+S+1].toNat:Int) !=34)=true:=by simp;omega
      clear g1 g2;go_wp2_with fail;refine(Z.out _).mono ?_;rintro e w1⟨rfl,c⟩;have c:=c.symm;subst c;go_wp2;go_ret;exact⟨by rw[f.out];rfl,o.out⟩
     have aE:((l[j+1+S+1].toNat:Int) !=34)=false:=by simp;omega
     have p:=show Hid _ from aB.out ⟨g0,g1,g2⟩;have y:=show Hid _ from aC.out ⟨g0,g1,g2⟩;clear g1 g2 aa aB aC Y B P;obtain⟨a,ha⟩:∃a,j+1+S+2=a:=⟨_,rfl⟩;rw[ha]at p y;have aR:a<=l.length:=by omega
     go_wp2_with fail;refine(Z.out _).mono ?_;rintro e w1⟨rfl,c⟩;have c:=c.symm;subst c;go_upto_block 6 with fail;try clear Z
     try clear f2
     try clear aD
     try clear aE
     try clear f1
     try clear f0
     try clear e1
     try clear e0
     go_cut [4] (fun s4 wc=>∃v:Nat,s4= .int .i64 v/\v<=l.length/\kO l a v/\(∀h:v<l.length,l[v].toNat=34)/\wc=w5);case first=>
      go_wp2;go_loopw [4] (fun s4 wq=>∃v:Nat,s4= .int .i64 v/\v<=l.length/\kO l a v/\wq=w5) (fun s4 _=>l.length-(intOf s4).toNat)
      case atStart=>exact⟨a,aY (by omega),aR,Z0 l a,rfl⟩
      case round=>
       obtain⟨v,rfl,al,C,d⟩:=hrel;have d:=d.symm;subst d;have m:=aA C;clear C;by_cases T:v<l.length;case neg=>
        have U:¬(v:Int)<(l.length:Int):=by omega
        go_wp2
        go_meet
        case rel=>exact⟨v,rfl,al,m.out,fun h=>absurd h T,rfl⟩
       have U:(v:Int)<(l.length:Int):=by omega
       by_cases E:l[v].toNat=34
       ·have am:((l[v].toNat:Int) !=34)=false:=by simp;omega
        have aS:=show Hid _ from E;clear E;go_wp2
        go_meet
        case rel=>exact⟨v,rfl,al,m.out,fun _=>aS.out,rfl⟩
       have am:((l[v].toNat:Int) !=34)=true:=by simp;omega
       by_cases k2:l[v].toNat=93
       ·have aT:((l[v].toNat:Int)==93)=true:=by simp;omega
        have f:Hid (N=0):=p.out (Z3 m.out T k2);clear E k2;go_wp2;go_ret;exact⟨by rw[f.out];rfl,o.out⟩
       have aT:((l[v].toNat:Int)==93)=false:=by simp;omega
       by_cases k3:l[v].toNat=92;case neg=>
        have aV:((l[v].toNat:Int)==92)=false:=by simp;omega
        have aW:Hid (kO l a (v+1)):=Z1 m.out T E k2 k3;clear E k2 k3;go_wp2;go_roundw;case rel=>exact⟨v+1,aY (by simp),by omega,aW.out,by first|rfl|trivial⟩
        case measure=>simp[intOf];omega
       have aV:((l[v].toNat:Int)==92)=true:=by simp;omega
       by_cases k4:v+1<l.length;case neg=>
        have aX:(l.length:Int)<=(v:Int)+1:=by omega
        have f:Hid (N=0):=p.out (OG m.out T k3 (fun⟨h,_⟩=>k4 h));clear E k2 k3;go_wp2;go_ret;exact⟨by rw[f.out];rfl,o.out⟩
       have aX:¬(l.length:Int)<=(v:Int)+1:=by omega
       have an:Hid (jO l[v+1]=true->kO l a (v+2)):=Z2 m.out k4 k3;have aZ:Hid (jO l[v+1]=false->N=0):=fun h=>p.out (OG m.out T k3 (fun⟨_,h2⟩=>by rw[h]at h2;cases h2));clear E k2 k3;by_cases m1:l[v+1].toNat=34
       ·have a0:((l[v+1].toNat:Int) !=34)=false:=by simp;omega
        have V:Hid (kO l a (v+2)):=an.out (by simp[jO,m1]);clear m1;go_wp2;go_roundw;case rel=>exact⟨v+2,aY (by simp;omega),by omega,V.out,by first|rfl|trivial⟩
        case measure=>simp[intOf];omega
       have a0:((l[v+1].toNat:Int) !=34)=true:=by simp;omega
       by_cases m2:l[v+1].toNat=92
       ·have a1:((l[v+1].toNat:Int) !=92)=false:=by simp;omega
        have V:Hid (kO l a (v+2)):=an.out (by simp[jO,m2]);clear m1 m2;go_wp2;go_roundw;case rel=>exact⟨v+2,aY (by simp;omega),by omega,V.out,by first|rfl|trivial⟩
        case measure=>simp[intOf];omega
       have a1:((l[v+1].toNat:Int) !=92)=true:=by simp;omega
       by_cases m3:l[v+1].toNat=93
       ·have a2:((l[v+1].toNat:Int) !=93)=false:=by simp;omega
        have V:Hid (kO l a (v+2)):=an.out (by simp[jO,m3]);clear m1 m2 m3;go_wp2;go_roundw;case rel=>exact⟨v+2,aY (by simp;omega),by omega,V.out,by first|rfl|trivial⟩
        case measure=>simp[intOf];omega
       ·have a2:((l[v+1].toNat:Int) !=93)=true:=by simp;omega
        have f:Hid (N=0):=aZ.out (by simp[jO,m1,m2,m3]);clear m1 m2 m3;go_wp2;go_ret;exact⟨by rw[f.out];rfl,o.out⟩
     case rest=>
      obtain⟨v,rfl,al,C,hq,n⟩:=hcut;have n:=n.symm;subst n;have a8:=C.1;have m:=aA C;have HQ:=show Hid _ from hq;clear C hq;by_cases T:v<l.length
      ·have a3:Hid (oO l (i+1+R) (v+1)):=by
        have:=y.out _ (Z5 m.out T (HQ.out T));rw[show j+1+(S+2+(v-a)+1)=v+1 by omega]at this;exact this
       have U:¬(l.length:Int)<=(v:Int):=by omega
       clear y p m HQ;go_wp2;go_roundw;case rel=>exact⟨v+1,aY (by simp),a3.out,by first|rfl|trivial⟩
       case measure=>simp[intOf];omega
      ·have f:Hid (N=0):=p.out (Z4 m.out (by omega));have U:(l.length:Int)<=(v:Int):=by omega
       clear y p m HQ;go_wp2;go_ret;exact⟨by rw[f.out];rfl,o.out⟩
   case rest=>
    obtain⟨j,rfl,s,ae,n⟩:=hcut;have n:=n.symm;subst n;have aN:=s.2.1;have a9:=s.1;have ao:Hid (eK (l.length+1) (l.drop (i+1+R))=some (j-(i+1+R))):=aAf s ae;clear s ae c1 d0 I CL u hi af ag F d2 ad;have ap:Hid ((¬∃h:j<l.length,l[j].toNat=93)->N=0):=fun h=>by
     have X:i+1+R+(j-(i+1+R))=j:=by omega
     rw[<-HN.out];refine xR HD.out r.out (aAk A.out r.out HR.out ao.out ?_);simp only[X];exact h
    have aG:Hid ((∃h:j<l.length,l[j].toNat=93)->pP l (j+1) (b++[t])):=fun h=>by
     have X:i+1+R+(j-(i+1+R))=j:=by omega
     have h1:=aAl A.out r.out HR.out ao.out (by simp only[X];exact h);rw[H.out]at h1;have h2:=aAr HD.out h1 (by omega) L.out;rw[show i+(1+R+(j-(i+1+R))+1)=j+1 by omega]at h2;exact h2
    clear HD A H L HR r D HN ao az;by_cases T:j<l.length;case neg=>
     have U:(l.length:Int)<=(j:Int):=by omega
     have f:Hid (N=0):=ap.out (fun⟨h,_⟩=>T h);go_wp2;go_ret;exact⟨by rw[f.out];rfl,o.out⟩
    have U:¬(l.length:Int)<=(j:Int):=by omega
    by_cases E:l[j].toNat=93;case neg=>
     have am:((l[j].toNat:Int) !=93)=true:=by simp;omega
     have f:Hid (N=0):=ap.out (fun⟨_,h⟩=>E h);clear E;go_wp2;go_ret;exact⟨by rw[f.out];rfl,o.out⟩
    have am:((l[j].toNat:Int) !=93)=false:=by simp;omega
    have K:Hid (pP l (j+1) (b++[t])):=aG.out ⟨T,E⟩;clear E aG ap;go_wp2;go_roundw;case rel=>exact⟨j+1,b++[t],aY (by simp),K.out,aM.out,o.out⟩
    case measure=>simp[intOf];omega
end Go.Proofs.Z

/- Pressed by program out of Cq. -/
import Derived.Test.YtdlhbmncbmconaaGreatDoorA27
import Derived.Test.YtdlhbmncbmconaaGreatDoorA21
namespace Go.Proofs.Z
open Hm Hw Tryz Go.RowKit Go.Sort
attribute [local go_sem] dY fR fS
def gO(T:List UInt8)(ws:List (List UInt8))(D X:List UInt8):aO:=⟨0,0,T,ws.getD 0 [],ws.getD 1 [],ws.getD 2 [],ws.getD 3 [],D,X⟩
theorem aA5(T:List UInt8)(d:List (List UInt8))(h:d.length<4)(D X:List UInt8):gO T (d++[[]]) D X=gO T d D X:=by
 match d,h with
 |[],_=>rfl
 |[a],_=>rfl
 |[a,b],_=>rfl
 |[a,b,c],_=>rfl
theorem aA6(T:List UInt8)(d:List (List UInt8))(h:d.length<4)(D X x:List UInt8):(aL (gO T d D X)).setIfInBounds (3+d.length) (.string ⟨x.toArray⟩)=aL (gO T (d++[x]) D X):=by
 match d,h with
 |[],_=>rfl
 |[a],_=>rfl
 |[a,b],_=>rfl
 |[a,b,c],_=>rfl
theorem PM{k:Nat}(h:k<4):(aX.getD k (0,0)).2=4+k/\((aX.getD k (0,0)).1:Int)=(if k=0 then 32 else if k=3 then 12 else 16)/\(aX.getD k (0,0)).1<=100:=by
 rcases(by omega:k=0∨k=1∨k=2∨k=3)with h|h|h|h <;> subst h <;> decide
set_option maxRecDepth 20000 in
set_option maxHeartbeats 4000000 in
theorem aA7(l:List UInt8)(hl:l.length<=200)(a:Nat)(ha:a<=l.length)(w:World):
  Calls prog 156 #[.string ⟨l.toArray⟩,.int .i64 a] w fun e O=>(∃m:aO,e= .returned (.tuple #[.agg (aL m),.int .i64 (eV 0 0 l a).2.1,.int .i64 (eV 0 0 l a).2.2])/\((eV 0 0 l a).2.1=0->m=(eV 0 0 l a).1))/\Below w.heap.size w O:=by
 obtain⟨R,hR⟩:∃R,eV 0 0 l a=R:=⟨_,rfl⟩;rw[hR];have i:=OT l a ha;have aa:=OS l a ha;have PA:Hid (∀a,a<=l.length->∀w,Calls prog 191 #[.string ⟨l.toArray⟩,.int .i64 a] w fun e O=>e= .returned (.int .i64 (pQ l a))/\O=w):=fun a ha w=>NY l (by omega) a ha w;have ab:=show Hid _ from PA.out a ha;obtain⟨E,hE⟩:∃E,pQ l a=E:=⟨_,rfl⟩;rw[hE]at i aa ab;clear hE;obtain⟨p,hp⟩:∃p,(l.drop a).take (E-a)=p:=⟨_,rfl⟩;rw[hp]at i;have TI:Hid (∀w,Calls prog 159 #[.string ⟨p.toArray⟩] w fun e O=>e= .returned (kP (dK p))/\O=w):=fun w=>by
  have:=BZ p (by rw[<-hp,eJ,bC];omega) w
  rwa [xN]at this
 have e0:(a:Int)<=(E:Int):=by omega
 have e1:(E:Int)<=(l.length:Int):=by omega
 by_cases P:dK p=none/\¬p=[45]
 ·obtain⟨am,an⟩:=P;have j:Hid (R=(aO.none,3,a)):=by show _=_;rw[<-hR];exact vM i (aAE am an)
  have bl:(p==[45])=false:=bG.2 an;rw[am]at TI;unfold kP at TI;clear am an i hR PA;go_enter func156,ntmps156;go_wp2_with fail;refine(ab.out _).mono ?_;rintro e w1⟨rfl,f⟩;have f:=f.symm;subst f;go_wp2_with fail;refine(TI.out _).mono ?_;rintro e w1⟨rfl,f⟩;have f:=f.symm;subst f;obtain⟨W,J⟩:∃W,(w.alloc (.cells (aL aO.none) 80)).alloc (.cells (aL aO.none) 80)=W:=⟨_,rfl⟩;have ac:Hid (Below w.heap.size w W):=J▸((aF _ _).alloc (aC _) _).alloc (by simp) _;have ad:Hid (W.heap[w.heap.size+1]?=some (.cells (aL aO.none) 80 (0,0))):=J▸oZ _ _ _;have ae:Hid (W.heap[w.heap.size]?=some (.cells (aL aO.none) 80 (0,0))):=J▸(heap_alloc_old _ _ (by simp)).trans (heap_alloc_new _ _);unfold aL aO.none at J;dsimp only at J;rw[J];clear J;go_wp2_with(first
   |(refine cG rfl _ _ rfl (w.heap.size+1) rfl _ _ _ _ ad.out underlying80 rfl bP ?_)
   |(refine bI rfl _ _ _ rfl rfl w.heap.size (aL aO.none) rfl rfl _ _ ae.out bP rfl rfl ?_;intro F k;have o:=aA k;clear k))
  refine bB (eA results156 _ _ _ _ _ _ _ rfl o.out.row underlying80 rfl bP) rfl ⟨⟨aO.none,?_,?_⟩,ac.out.trans (o.out.below (aC _))⟩
  ·rw[j.out];exact eB rfl rfl rfl
  ·rw[j.out];intro h;cases h
 obtain⟨T,ok,ax,Q,S⟩:∃T ok,kP (dK p)= .tuple #[.string ⟨T.toArray⟩,.bool ok]/\iP p=some T/\(ok=false->p=[45]):=by
  cases ht:dK p with
  |none=>
   have h45:p=[45]:=nY fun h=>P ⟨ht,h⟩;exact⟨[],false,rfl,by rw[h45];rfl,fun _=>h45⟩
  |some t=>exact⟨t,true,rfl,aAG ht,fun h=>by cases h⟩
 rw[ax]at TI;obtain⟨n0,ao⟩:∃n,min (E+1) l.length=n:=⟨_,rfl⟩;rw[ao]at i;have af:Hid (R=lC 0 0 T l n0):=by show _=_;rw[<-hR];exact sD i Q
 have ay:=show Hid _ from ao;clear P ax Q i hR ao;go_enter func156,ntmps156;go_wp2_with fail;refine(ab.out _).mono ?_;rintro e w1⟨rfl,f⟩;have f:=f.symm;subst f;go_wp2_with fail;refine(TI.out _).mono ?_;rintro e w1⟨rfl,f⟩;have f:=f.symm;subst f;obtain⟨W,J⟩:∃W,(w.alloc (.cells (aL aO.none) 80)).alloc (.cells (aL aO.none) 80)=W:=⟨_,rfl⟩;have ac:Hid (Below w.heap.size w W):=J▸((aF _ _).alloc (aC _) _).alloc (by simp) _;have ad:Hid (W.heap[w.heap.size+1]?=some (.cells (aL aO.none) 80 (0,0))):=J▸oZ _ _ _;have ae:Hid (W.heap[w.heap.size]?=some (.cells (aL aO.none) 80 (0,0))):=J▸(heap_alloc_old _ _ (by simp)).trans (heap_alloc_new _ _);unfold aL aO.none at J;dsimp only at J;rw[J];clear J;go_upto_region 4 with fail;go_cut [33] (fun ba wc=>ba= .bool false/\wc=W);case first=>
  cases ok with
  |true=>
   go_wp2
   go_meet
   case rel=>exact⟨rfl,rfl⟩
  |false=>
   have h45:=S rfl;rw[h45]at hp;go_wp2
   go_meet
   case rel=>exact⟨rfl,rfl⟩
 case rest=>
  obtain⟨rfl,u⟩:=hcut;have u:=u.symm;subst u;clear hp TI ab S;go_wp2_with(first
   |(refine bK rfl _ _ _ rfl rfl (w.heap.size+1) 2 _ rfl rfl _ _ (aL (gO T [] [] [])) ad.out fZ (by simp[aL]) rfl rfl ?_;intro w2 p2;have P2:=aA p2;clear p2)
   |fail)
  have az:Hid (Below w.heap.size w w2):=ac.out.trans (P2.out.below (by omega));have z:Hid (w2.heap[w.heap.size]?=some (.cells (aL aO.none) 80 (0,0))):=(P2.out.other _ (by omega)).trans ae.out;have q:=aA P2.out.row;clear ae ad P2 ac;go_loopw [1,8,10,11,12] (fun _ s8 _ s11 _ wr=>∃(g:List (List UInt8))(E:Nat),g.length<=4/\s11= .int .i64 g.length/\s8= .int .i64 E/\E<=l.length/\kB l n0 g (min (E+1) l.length)/\wr.heap[w.heap.size]?=some (.cells (aL aO.none) 80 (0,0))/\wr.heap[w.heap.size+1]?=some (.cells (aL (gO T g [] [])) 80 (0,0))/\Below w.heap.size w wr) (fun _ _ _ s11 _ _=>4-(intOf s11).toNat)
  case atStart=>exact⟨[],E,by simp,rfl,rfl,by omega,by rw[ay.out];exact yW l n0,z.out,q.out,az.out⟩
  case round=>
   clear z q az e0 e1 aa ay;obtain⟨g,E,bb,rfl,rfl,bm,aA,aE,aG,hB⟩:=hrel;have L:=show Hid _ from aA;have z:=show Hid _ from aE;have q:=show Hid _ from aG;have HB:=show Hid _ from hB;clear aA aE aG hB;obtain⟨d,ag⟩:∃n,min (E+1) l.length=n:=⟨_,rfl⟩;rw[ag]at L;have U:d<=l.length:=by omega
   have HN:=show Hid _ from ag;by_cases hk:g.length<4;case neg=>
    have h4:g.length=4:=by omega
    have aH:¬((g.length:Nat):Int)<4:=by omega
    obtain⟨q1,q2⟩:=zB h4 L.out;have ah:R=eH ⟨0,0,T,g.getD 0 [],g.getD 1 [],g.getD 2 [],g.getD 3 [],[],[]⟩ l d:=by
     rw[af.out,sC q1,q2]
    have DA:Hid (∀w,Calls prog 164 #[.string ⟨(l.drop d).toArray⟩] w fun e O=>e= .returned (.int .i64 (gE (l.drop d)))/\Below w.heap.size w O):=fun w=>OY (l.drop d) (by rw[bC];omega) w;have r:Hid ((dQ (l.drop d)=0∨(d+dQ (l.drop d)<l.length/\¬(l.getD (d+dQ (l.drop d)) 0).toNat=32))->R=(aO.none,8,d)):=fun h=>by rw[ah];exact aAB U h _
    have s:Hid (¬(dQ (l.drop d)=0∨(d+dQ (l.drop d)<l.length/\¬(l.getD (d+dQ (l.drop d)) 0).toNat=32))->l.length<=d+dQ (l.drop d)+1->R=(gO T g (nW (l.drop d)) [],0,0)):=fun h he=>by rw[ah];exact aAC h U he _ _ _ _ _ _ _
    have v:Hid (¬(dQ (l.drop d)=0∨(d+dQ (l.drop d)<l.length/\¬(l.getD (d+dQ (l.drop d)) 0).toNat=32))->d+dQ (l.drop d)+1<l.length->R=if bO (l.drop (d+dQ (l.drop d)+1))=false then(aO.none,9,d+dQ (l.drop d)+1)else(gO T g (nW (l.drop d)) (l.drop (d+dQ (l.drop d)+1)),0,0)):=fun h he=>by rw[ah];exact aAD h he _ _ _ _ _ _ _
    have ak:=OU (l.drop d);rw[bC]at ak;have M:Hid (Lib.hasPrefix (l.drop d) [45]=true->dQ (l.drop d)=1/\nW (l.drop d)=[]):=fun h=>by unfold dQ nW;rw[aD h,aD h];exact⟨rfl,rfl⟩
    have G:Hid (¬Lib.hasPrefix (l.drop d) [45]=true->dQ (l.drop d)=gE (l.drop d)/\nW (l.drop d)=(l.drop d).take (dQ (l.drop d))):=fun h=>by unfold dQ nW;rw[aB h,aB h];exact⟨rfl,rfl⟩
    generalize dQ (l.drop d)=N at r s v ak M G;generalize nW (l.drop d)=D at s v M G;clear ah q1 q2 L af PA h4 hk bb;go_upto_if 81 with fail;go_cut [1] (fun s1 wc=>s1= .int .i64 d/\wc=wr);case first=>
     by_cases bc:E<l.length
     ·have e0:¬(l.length:Int)<(E:Int)+1:=by omega
      go_wp2
      go_meet
      case rel=>exact⟨aY (by omega),rfl⟩
     ·have e0:(l.length:Int)<(E:Int)+1:=by omega
      go_wp2
      go_meet
      case rel=>exact⟨aY (by omega),rfl⟩
    case rest=>
     obtain⟨rfl,u⟩:=hcut;have u:=u.symm;subst u;clear ag aH;have bn:(d:Int)<=(l.length:Int):=by omega
     have bd:(l.drop d).take (l.length-d)=l.drop d:=fV (by rw[bC];omega);by_cases aJ:d<l.length;case neg=>
      have be:¬(d:Int)<(l.length:Int):=by omega
      have A:N=0:=by omega
      have j:Hid (R=(aO.none,8,d)):=r.out (.inl A);have aK:¬Lib.hasPrefix (l.drop d) [45]=true:=fun h=>by obtain⟨h1,_⟩:=xT (c:=45) h;omega
      obtain⟨f1,f2⟩:=G.out aK;rw[<-f1,A]at DA;subst A;clear r s v M G aK f1;have ap:(l.drop d).take (d+0-d)=D:=by rw[f2];simp
      have aq:(l.drop d).take 0=D:=by rw[f2]
      clear f2;go_wp2_with fail;refine(DA.out _).mono ?_;rintro e w3⟨rfl,B⟩;have bf:=(aM.1 q.out).1;have ar:Hid (Below w.heap.size w w3):=Below.next HB.out (by omega) B;have au:Hid (w3.heap[w.heap.size]?=some (.cells (aL aO.none) 80 (0,0))):=(B.block _ (by omega)).trans z.out;have av:Hid (w3.heap[w.heap.size+1]?=some (.cells (aL (gO T g [] [])) 80 (0,0))):=(B.block _ (by omega)).trans q.out;clear B;go_wp2_with(first
       |(refine bK rfl _ _ _ rfl rfl (w.heap.size+1) 7 _ rfl rfl _ _ (aL (gO T g [] [])) av.out fZ (by simp[aL]) rfl rfl ?_;intro w4 p4;have P4:=aA p4;clear p4)
       |(refine cG rfl _ _ rfl (w.heap.size+1) rfl _ _ _ _ P4.out.row underlying80 rfl bP ?_)
       |(refine bI rfl _ _ _ rfl rfl w.heap.size _ rfl rfl _ _ ((P4.out.other _ (by omega)).trans au.out) bP rfl rfl ?_;intro F k;have o:=aA k;clear k))
      refine bB (eA results156 _ _ _ _ _ _ _ rfl o.out.row underlying80 rfl bP) rfl ⟨⟨gO T g [] [],?_,?_⟩,(ar.out.trans (P4.out.below (by omega))).trans (o.out.below (aC _))⟩
      ·rw[j.out];exact eB rfl rfl rfl
      ·rw[j.out];intro h;cases h
     have be:(d:Int)<(l.length:Int):=by omega
     obtain⟨aN,al⟩:∃b,((l[d].toNat:Int)==45)=b:=⟨_,rfl⟩;have H:Hid (aN=true↔Lib.hasPrefix (l.drop d) [45]=true):=by
      show _↔_;rw[<-al];constructor
      ·intro h;exact mZ (c:=45) ⟨aJ,by have:=dZ.1 h;show _=45;omega⟩
      ·intro h;obtain⟨_,h2⟩:=xT (c:=45) h;have h2:l[d].toNat=45:=h2;exact dZ.2 (by omega)
     go_upto_if 93 with fail;go_cut [13] (fun bg wc=>bg= .int .i64 N/\wc.heap[w.heap.size]?=some (.cells (aL aO.none) 80 (0,0))/\wc.heap[w.heap.size+1]?=some (.cells (aL (gO T g D [])) 80 (0,0))/\Below w.heap.size w wc);case first=>
      cases aN with
      |true=>
       obtain⟨f1,f2⟩:=M.out (H.out.1 rfl);clear H r s v M G;go_wp2
       go_meet
       case rel=>exact⟨by rw[f1];rfl,z.out,by rw[f2];exact q.out,HB.out⟩
      |false=>
       obtain⟨f1,f2⟩:=G.out (fun h=>by have:=H.out.2 h;cases this);rw[<-f1]at DA;have aP:=show Hid _ from f2;clear H r s v M G f1 f2;go_wp2_with fail;refine(DA.out _).mono ?_;rintro e w3⟨rfl,B⟩;have bf:=(aM.1 q.out).1;have ar:Hid (Below w.heap.size w w3):=Below.next HB.out (by omega) B;have au:Hid (w3.heap[w.heap.size]?=some (.cells (aL aO.none) 80 (0,0))):=(B.block _ (by omega)).trans z.out;have av:Hid (w3.heap[w.heap.size+1]?=some (.cells (aL (gO T g [] [])) 80 (0,0))):=(B.block _ (by omega)).trans q.out;clear B;have g0:(d:Int)+(N:Int)<=(l.length:Int):=by omega
       have g1:((d:Int)+(N:Int)).toNat=d+N:=by omega
       have ap:(l.drop d).take (d+N-d)=D:=by rw[aP.out,show d+N-d=N by omega]
       have aq:(l.drop d).take N=D:=aP.out.symm;go_wp2_with(first
        |(refine bK rfl _ _ _ rfl rfl (w.heap.size+1) 7 _ rfl rfl _ _ (aL (gO T g D [])) av.out fZ (by simp[aL]) rfl rfl ?_;intro w4 p4;have P4:=aA p4;clear p4)
        |fail)
       go_meet
       case rel=>exact⟨rfl,(P4.out.other _ (by omega)).trans au.out,P4.out.row,ar.out.trans (P4.out.below (by omega))⟩
     case rest=>
      obtain⟨rfl,aQ,aR,aT⟩:=hcut;have V:=show Hid _ from aQ;have Y:=show Hid _ from aR;have Z:=show Hid _ from aT;clear aQ aR aT H al M G DA z q HB;have g0:((d:Int)+(N:Int)).toNat=d+N:=by omega
      have g2:((d:Int)+(N:Int)+1).toNat=d+N+1:=by omega
      by_cases A:N=0
      ·have j:Hid (R=(aO.none,8,d)):=r.out (.inl A);have bh:((N:Int)==0)=true:=dZ.2 (by omega);clear r s v A;go_wp2_with(first
        |(refine cG rfl _ _ rfl (w.heap.size+1) rfl _ _ _ _ Y.out underlying80 rfl bP ?_)
        |(refine bI rfl _ _ _ rfl rfl w.heap.size _ rfl rfl _ _ V.out bP rfl rfl ?_;intro F k;have o:=aA k;clear k))
       refine bB (eA results156 _ _ _ _ _ _ _ rfl o.out.row underlying80 rfl bP) rfl ⟨⟨gO T g D [],?_,?_⟩,Z.out.trans (o.out.below (aC _))⟩
       ·rw[j.out];exact eB rfl rfl (rfl)
       ·rw[j.out];intro h;cases h
      have bh:((N:Int)==0)=false:=bG.2 (by omega);by_cases aU:d+N<l.length;case neg=>
       have bi:¬(d:Int)+(N:Int)<(l.length:Int):=by omega
       have aV:¬(d:Int)+(N:Int)+1<(l.length:Int):=by omega
       have j:Hid (R=(gO T g D [],0,0)):=s.out (fun h=>by omega) (by omega);clear r s v A;go_wp2_with(first
        |(refine cG rfl _ _ rfl (w.heap.size+1) rfl _ _ _ _ Y.out underlying80 rfl bP ?_)
        |(refine bI rfl _ _ _ rfl rfl w.heap.size _ rfl rfl _ _ V.out bP rfl rfl ?_;intro F k;have o:=aA k;clear k))
       refine bB (eA results156 _ _ _ _ _ _ _ rfl o.out.row underlying80 rfl bP) rfl ⟨⟨gO T g D [],?_,?_⟩,Z.out.trans (o.out.below (aC _))⟩
       ·rw[j.out];exact eB rfl rfl (rfl)
       ·rw[j.out];intro _;rfl
      have bi:(d:Int)+(N:Int)<(l.length:Int):=by omega
      have ai:l.getD (d+N) 0=l[d+N]:=by simp[List.getD_eq_getElem?_getD,List.getElem?_eq_getElem aU]
      by_cases h32:l[d+N].toNat=32;case neg=>
       have j:Hid (R=(aO.none,8,d)):=r.out (.inr ⟨aU,by rw[ai];exact h32⟩);have aW:((l[d+N].toNat:Int) !=32)=true:=by simp;omega
       clear r s v A h32 ai;go_wp2_with(first
        |(refine cG rfl _ _ rfl (w.heap.size+1) rfl _ _ _ _ Y.out underlying80 rfl bP ?_)
        |(refine bI rfl _ _ _ rfl rfl w.heap.size _ rfl rfl _ _ V.out bP rfl rfl ?_;intro F k;have o:=aA k;clear k))
       refine bB (eA results156 _ _ _ _ _ _ _ rfl o.out.row underlying80 rfl bP) rfl ⟨⟨gO T g D [],?_,?_⟩,Z.out.trans (o.out.below (aC _))⟩
       ·rw[j.out];exact eB rfl rfl (rfl)
       ·rw[j.out];intro h;cases h
      have aW:((l[d+N].toNat:Int) !=32)=false:=by simp;omega
      have aZ:Hid (¬(N=0∨(d+N<l.length/\¬(l.getD (d+N) 0).toNat=32))):=by
       show¬_;rw[ai];rintro(h|⟨_,h⟩)
       ·exact A h
       ·exact h h32
      clear h32 ai A;by_cases aV:d+N+1<l.length;case neg=>
       have a0:¬(d:Int)+(N:Int)+1<(l.length:Int):=by omega
       have j:Hid (R=(gO T g D [],0,0)):=s.out aZ.out (by omega);clear r s v;go_wp2_with(first
        |(refine cG rfl _ _ rfl (w.heap.size+1) rfl _ _ _ _ Y.out underlying80 rfl bP ?_)
        |(refine bI rfl _ _ _ rfl rfl w.heap.size _ rfl rfl _ _ V.out bP rfl rfl ?_;intro F k;have o:=aA k;clear k))
       refine bB (eA results156 _ _ _ _ _ _ _ rfl o.out.row underlying80 rfl bP) rfl ⟨⟨gO T g D [],?_,?_⟩,Z.out.trans (o.out.below (aC _))⟩
       ·rw[j.out];exact eB rfl rfl (rfl)
       ·rw[j.out];intro _;rfl
      have a0:(d:Int)+(N:Int)+1<(l.length:Int):=by omega
      have bj:(d:Int)+(N:Int)+1<=(l.length:Int):=by omega
      have aj:=show Hid _ from v.out aZ.out aV;obtain⟨X,hX⟩:∃X,l.drop (d+N+1)=X:=⟨_,rfl⟩;rw[hX]at aj;have CL:Hid (∀w,Calls prog 157 #[.string ⟨X.toArray⟩] w fun e O=>e= .returned (.bool (bO X))/\O=w):=fun w=>xV X (by rw[<-hX,bC];omega) w;have a9:(l.drop (d+N+1)).take (l.length-(d+N+1))=X:=by rw[hX];exact fV (by rw[<-hX,bC];omega)
      clear r s v hX;generalize bO X=pl at aj CL;go_wp2_with(first
       |(refine bK rfl _ _ _ rfl rfl (w.heap.size+1) 8 _ rfl rfl _ _ (aL (gO T g D X)) Y.out fZ (by simp[aL]) rfl rfl ?_;intro w6 p6;have P6:=aA p6;clear p6;have c8:w6.cell? ⟨w.heap.size+1,8,none⟩=some (.string ⟨X.toArray⟩):=aS _ _ _ _ _ _ P6.out.row)
       |fail)
      refine(CL.out _).mono ?_;rintro e w7⟨rfl,aw⟩;have aw:=aw.symm;subst aw;have a1:=show Hid _ from P6.out.row;have a2:=show Hid _ from(P6.out.other w.heap.size (by omega)).trans V.out;have a3:Hid (Below w.heap.size w w6):=Z.out.trans (P6.out.below (by omega));clear c8;cases pl with
      |false=>
       have j:=show Hid _ from aj.out;rw[aD rfl]at j;go_wp2_with(first
        |(refine cG rfl _ _ rfl (w.heap.size+1) rfl _ _ _ _ a1.out underlying80 rfl bP ?_)
        |(refine bI rfl _ _ _ rfl rfl w.heap.size _ rfl rfl _ _ a2.out bP rfl rfl ?_;intro F k;have o:=aA k;clear k))
       refine bB (eA results156 _ _ _ _ _ _ _ rfl o.out.row underlying80 rfl bP) rfl ⟨⟨gO T g D X,?_,?_⟩,a3.out.trans (o.out.below (aC _))⟩
       ·rw[j.out];exact eB rfl rfl (by show _=((d+N+1:Nat):Int);omega)
       ·rw[j.out];intro h;cases h
      |true=>
       have j:=show Hid _ from aj.out;rw[aB (by decide)]at j;go_wp2_with(first
        |(refine cG rfl _ _ rfl (w.heap.size+1) rfl _ _ _ _ a1.out underlying80 rfl bP ?_)
        |(refine bI rfl _ _ _ rfl rfl w.heap.size _ rfl rfl _ _ a2.out bP rfl rfl ?_;intro F k;have o:=aA k;clear k))
       refine bB (eA results156 _ _ _ _ _ _ _ rfl o.out.row underlying80 rfl bP) rfl ⟨⟨gO T g D X,?_,?_⟩,a3.out.trans (o.out.below (aC _))⟩
       ·rw[j.out];exact eB rfl rfl (rfl)
       ·rw[j.out];intro _;rfl
   have aH:((g.length:Nat):Int)<4:=by omega
   obtain⟨a4,a5,a6⟩:=PM hk;have i:=OT l d U;have aa:=OS l d U;have PN:=show Hid _ from PA.out d U;obtain⟨E2,a7⟩:∃E,pQ l d=E:=⟨_,rfl⟩;rw[a7]at i aa PN;clear a7;obtain⟨x,hx⟩:∃x,(l.drop d).take (E2-d)=x:=⟨_,rfl⟩;rw[hx]at i;have a8:x.length<=1000000000000000:=by rw[<-hx,eJ,bC];omega
   have I:Hid (bX x (aX.getD g.length (0,0)).1=false->¬x=[45]->R=(aO.none,4+g.length,d)):=fun h1 h2=>by
    have:=zA hk i h2 h1 L.out;rw[af.out,vL this,a4]
   have C:Hid (x=[45]->kB l n0 (g++[[]]) (min (E2+1) l.length)):=fun h=>by
    rw[h]at i;exact yY hk i L.out
   have y:Hid (bX x (aX.getD g.length (0,0)).1=true->kB l n0 (g++[x]) (min (E2+1) l.length)):=fun h=>by
    have hd:¬x=[45]:=fun e=>by rw[DV _ e]at h;cases h
    exact yZ hk i hd h L.out
   have MO:Hid (∀w,Calls prog 163 #[.int .i64 (g.length:Nat)] w fun e O=>e= .returned (.int .i64 ((aX.getD g.length (0,0)).1:Nat))/\O=w):=fun w=>by
    have:=NW g.length hk w
    rwa [<-a5]at this
   have IP:Hid (∀w,Calls prog 162 #[.string ⟨x.toArray⟩,.int .i64 ((aX.getD g.length (0,0)).1:Nat)] w fun e O=>e= .returned (.bool (bX x (aX.getD g.length (0,0)).1))/\O=w):=fun w=>xM x a8 _ a6 w;generalize bX x (aX.getD g.length (0,0)).1=wd at I y IP;generalize(aX.getD g.length (0,0)).1=K at MO IP;clear a5 a4 a6 i a8 L af PA;go_upto_if 47 with fail;go_cut [1] (fun s1 wc=>s1= .int .i64 d/\wc=wr);case first=>
    by_cases bc:E<l.length
    ·have e0:¬(l.length:Int)<(E:Int)+1:=by omega
     go_wp2
     go_meet
     case rel=>exact⟨aY (by omega),rfl⟩
    ·have e0:(l.length:Int)<(E:Int)+1:=by omega
     go_wp2
     go_meet
     case rel=>exact⟨aY (by omega),rfl⟩
   case rest=>
    obtain⟨rfl,u⟩:=hcut;have u:=u.symm;subst u;clear ag;have e0:(d:Int)<=(E2:Int):=by omega
    have e1:(E2:Int)<=(l.length:Int):=by omega
    go_wp2_with fail;refine(PN.out _).mono ?_;rintro e w1⟨rfl,f⟩;have f:=f.symm;subst f;go_wp2_with fail;refine(MO.out _).mono ?_;rintro e w1⟨rfl,f⟩;have f:=f.symm;subst f;go_wp2_with fail;refine(IP.out _).mono ?_;rintro e w1⟨rfl,f⟩;have f:=f.symm;subst f;cases wd with
    |true=>
     have HW:=show Hid _ from y.out rfl;clear I C y;go_wp2_with(first
      |(refine bK rfl _ _ _ rfl rfl (w.heap.size+1) (3+g.length) _ rfl rfl _ _ (aL (gO T (g++[x]) [] [])) q.out fZ (by simp[aL];omega) rfl (aA6 T g hk [] [] x) ?_;intro w6 p6;have P6:=aA p6;clear p6)
      |fail)
     go_roundw;case rel=>exact⟨g++[x],E2,by simp;omega,aY (by simp),rfl,by omega,HW.out,(P6.out.other _ (by omega)).trans z.out,P6.out.row,HB.out.trans (P6.out.below (by omega))⟩
     case measure=>simp[intOf];omega
    |false=>
     by_cases h45:x=[45]
     ·have HW:=show Hid _ from C.out h45;clear I C y;subst h45;go_wp2;go_roundw;case rel=>exact⟨g++[[]],E2,by simp;omega,aY (by simp),rfl,by omega,HW.out,z.out,by rw[aA5 T g hk];exact q.out,HB.out⟩
      case measure=>simp[intOf];omega
     ·have j:=show Hid _ from I.out rfl h45;have bk:(x==[45])=false:=bG.2 h45;clear I C y h45;go_wp2_with(first
       |(refine cG rfl _ _ rfl (w.heap.size+1) rfl _ _ _ _ q.out underlying80 rfl bP ?_)
       |(refine bI rfl _ _ _ rfl rfl w.heap.size _ rfl rfl _ _ z.out bP rfl rfl ?_;intro F k;have o:=aA k;clear k))
      refine bB (eA results156 _ _ _ _ _ _ _ rfl o.out.row underlying80 rfl bP) rfl ⟨⟨gO T g [] [],?_,?_⟩,HB.out.trans (o.out.below (aC _))⟩
      ·rw[j.out];exact eB rfl (by show _=((4+g.length:Nat):Int);omega) (rfl)
      ·rw[j.out];intro h;exact absurd h (by show¬(4+g.length=0);omega)
end Go.Proofs.Z

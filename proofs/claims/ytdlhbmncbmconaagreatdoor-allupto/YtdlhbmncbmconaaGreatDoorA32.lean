/- Pressed by program out of Ef. -/
import Derived.Test.YtdlhbmncbmconaaGreatDoorA31
namespace Go.Proofs.Z
open Hm Hw Tryz Go.RowKit Go.Sort
attribute [local go_sem] dY fR fS
theorem j6:(prog.info? 3).map (fun i=>(i.zero,i.size,i.bytes))=some (some (.int .i64 0),1,8):=by kernel_rfl
theorem gB:(prog.info? 222).map (·.size)=some 4:=by kernel_rfl
theorem j9:(prog.info? 4).map (·.size)=some 1:=by kernel_rfl
theorem AJ:(prog.info? 44).map (·.size)=some 1:=by kernel_rfl
def cZ(v:Value)(lo hi:Int)(k:Bool):Array Value:=#[v,.int .i64 lo,.int .i64 hi,.bool k]
def mV(f:Nat):Value:= .int .i64 (f:Int)
structure iH(w wr:World)(v:Value)(F:List Nat)(lo hi:Int)(kp:Bool):Prop where
 z:wr.heap[w.heap.size]?=some (.cells (cZ (.slice none 0 0) 0 0 false) 222 (0,0))
 r:wr.heap[w.heap.size+1]?=some (.cells (cZ v lo hi kp) 222 (0,0))
 own:wr.ownsRow (w.heap.size+2) 3 1 v F.length (F.map mV)
 bel:Below w.heap.size w wr
theorem iH.size{w wr:World}{v:Value}{F:List Nat}{lo hi:Int}{a:Bool}(h:iH w wr v F lo hi a):w.heap.size+2<=wr.heap.size:=by
 have:=(aM.1 h.r).1;omega
theorem iH.next{w wr b:World}{v:Value}{F:List Nat}{lo hi:Int}{c:Bool}(h:iH w wr v F lo hi c)(a:Below wr.heap.size wr b):iH w b v F lo hi c:=
 ⟨(a.block _ (by have:=h.size;omega)).trans h.z,(a.block _ (by have:=h.size;omega)).trans h.r,cQ (S:=fun _=>False) h.own (aN.of_below a) (fun _ _ e=>e),Below.next h.bel (aC _) a⟩
theorem iH.put{w wr c:World}{v:Value}{F:List Nat}{lo hi lo' a:Int}{d b:Bool}(h:iH w wr v F lo hi d)(p:aI wr (w.heap.size+1) 222 (cZ v lo' a b) c):iH w c v F lo' a b:=
 ⟨(p.other _ (by omega)).trans h.z,p.row,cQ h.own p.kept (fun k e f=>by have:=h.own.lt k e;omega),h.bel.trans (p.below (by omega))⟩
theorem iH.grow{w wr b d:World}{v v':Value}{F:List Nat}{f:Nat}{lo hi:Int}{c:Bool}{o:Obj}(h:iH w wr v F lo hi c)(a:b.ownsRow (w.heap.size+2) 3 1 v' (F.length+1) (F.map mV++[mV f]))(g:(wr.alloc o).grownBy b v.ownBlock)(p:aI b (w.heap.size+1) 222 (cZ v' lo hi c) d):iH w d v' (F++[f]) lo hi c:=by
 have l:=h.size;have i:b.heap[w.heap.size]?=some (.cells (cZ (.slice none 0 0) 0 0 false) 222 (0,0)):=(g.block _ (by simp;omega) (fun e=>by have:=h.own.lt _ e.symm;omega)).trans ((heap_alloc_old _ _ (by omega)).trans h.z);refine⟨(p.other _ (by omega)).trans i,p.row,?_,?_⟩
 ·rw[iN,dL];exact cQ a p.kept (fun k e m=>by have:=a.lt k e;omega)
 ·exact((h.bel.alloc h.bel.size _).grown g (by simp;omega) (fun q j=>by have:=h.own.lt q j;omega)).trans (p.below (by omega))
theorem AM{w wr a:World}{v:Value}{F:List Nat}{lo hi:Int}{b:Bool}{o:Obj}(h:iH w wr v F lo hi b)(c:(wr.alloc o).grownBy a v.ownBlock):a.heap[w.heap.size+1]?=some (.cells (cZ v lo hi b) 222 (0,0)):=by
 have d:=h.size;exact(c.block _ (by simp;omega) (fun e=>by have:=h.own.lt _ e.symm;omega)).trans ((heap_alloc_old _ _ (by omega)).trans h.r)
def uG:Value->Nat
 | .string s=>s.size
 | _=>0
def AN:Value->Nat
 | .bool true=>1
 | _=>0
theorem pE{P:Program}{f:Func}{p a:Tmp}{b:TypeId}(h:f.results=#[.cell p b,.tmp a])(tmps:Array Value)(w:World)(g:Nat)(t:TypeId)(c:Array Value)(fr:Nat×Nat)(d:TypeDesc)(i:tmps.getD p undef= .pointer (some ⟨g,0,none⟩))(j:w.heap[g]?=some (.cells c t fr))(k:P.underlying b=some d)(l:(match d with| .struct _| .array _ _=>true| _=>false)=true)(hi:(P.info? b).map (·.size)=some c.size):
  (results f tmps).run P w= .ok (.tuple #[.agg c,tmps.getD a undef]) w:=by
 have m:=run_loadVar_row (P:=P) w g t b c fr d j k l hi;have e:tmps[p]?.getD undef= .pointer (some ⟨g,0,none⟩):=by simpa using i
 simp[results,h,e,asAddr,m]
def nR(R:Option cF)(w:World)(e:Ending)(w':World):Prop:=∃(v:Value)(q:rD)(ok:Bool),e= .returned (.tuple #[.agg (cZ v q.lo q.hi q.keep),.bool ok])/\v.oneCell'=true/\
 (∀r,R=some r->ok=true/\mU r q/\w'.ownsRow (w.heap.size+2) 3 1 v q.facs.length (q.facs.map mV))/\(R=none->ok=false)/\Below w.heap.size w w'
theorem JM{b:World}{g:Nat}{old:Array Value}{t:TypeId}(h:b.heap[g]?=some (.cells old t (0,0)))(i j k m:Nat)(u v x y:Value):
  aI b g t ((((old.setIfInBounds i u).setIfInBounds j v).setIfInBounds k x).setIfInBounds m y) ((((b.setCell ⟨g,i,none⟩ u).setCell ⟨g,j,none⟩ v).setCell ⟨g,k,none⟩ x).setCell ⟨g,m,none⟩ y).drew:=by
 rw[setCell_eq_setRow b g i old t (0,0) u h];have c:=mO h (old.setIfInBounds i u);rw[setCell_eq_setRow _ g j _ t (0,0) v c.row];have d:=c.trans (mO c.row ((old.setIfInBounds i u).setIfInBounds j v));rw[setCell_eq_setRow _ g k _ t (0,0) x d.row];have e:=d.trans (mO d.row (((old.setIfInBounds i u).setIfInBounds j v).setIfInBounds k x));rw[setCell_eq_setRow _ g m _ t (0,0) y e.row];have a:=e.trans (mO e.row ((((old.setIfInBounds i u).setIfInBounds j v).setIfInBounds k x).setIfInBounds m y));exact⟨a.row,a.other,a.size,a.os,a.tape,a.output⟩
theorem k8{g:List UInt8}(h:∀x,¬g=61::x):g=[]∨∃c t,g=c::t/\¬c.toNat=61:=by
 cases g with
 |nil=>exact .inl rfl
 |cons c t=>exact .inr ⟨c,t,rfl,fun e=>h t (by rw[show c=61 from eY.1 e])⟩
theorem o5(w:World):iH w ((w.alloc (.cells (cZ (.slice none 0 0) 0 0 false) 222)).alloc (.cells (cZ (.slice none 0 0) 0 0 false) 222)) (.slice none 0 0) [] 0 0 false:=
 ⟨(heap_alloc_old _ _ (by simp)).trans (heap_alloc_new _ _),oZ _ _ _,World.ownsRow_nil _ _ _ _,((aF _ _).alloc (aC _) _).alloc (by simp) _⟩
theorem AO{w b c:World}{v:Value}{F:List Nat}{lo hi:Int}{a:Bool}{R:Option cF}{g:Array Value}(h:∃r,R=some r/\mU r ⟨F,lo,hi,a⟩)(d:iH w b v F lo hi a)(p:aI b w.heap.size 222 g c):
  ∀r,R=some r->true=true/\mU r ⟨F,lo,hi,a⟩/\c.ownsRow (w.heap.size+2) 3 1 v (rD.mk F lo hi a).facs.length ((rD.mk F lo hi a).facs.map mV):=by
 intro r f;obtain⟨i,h1,h2⟩:=h;rw[h1]at f;cases f;exact⟨rfl,h2,cQ d.own p.kept (fun k e j=>by have:=d.own.lt k e;omega)⟩
theorem AP{F:List Nat}{lo hi:Int}{c b:Bool}{R:Option cF}(h:∃r,R=some r/\mU r ⟨F,lo,hi,c⟩):R=none->true=b:=by
 intro a;obtain⟨d,h1,_⟩:=h;rw[h1]at a;cases a
set_option maxRecDepth 20000 in
set_option maxHeartbeats 20000000 in
theorem o8(l:List UInt8)(hl:l.length<=1000000)(w:World):Calls prog 152 #[.string ⟨l.toArray⟩] w fun e w'=>nR (iD l) w e w':=by
 have FB:Hid (∀w,Calls prog 151 #[.string ⟨l.toArray⟩,.int .u8 32] w fun e w'=>e= .returned (.int .i64 (gL 32 l))/\w'=w):=fun w=>wH l (by omega) 32 w;have FD:Hid (∀w,Calls prog 151 #[.string ⟨l.toArray⟩,.int .u8 46] w fun e w'=>e= .returned (.int .i64 (gL 46 l))/\w'=w):=fun w=>wH l (by omega) 46 w;have ac:= @ZY l;have P:= @b7 l;have ad:= @b8 l;have aF:gL 32 l= -1∨∃b:Nat,gL 32 l=b:=by
  rcases pC (c:=32) (l:=l)with⟨h,_⟩|⟨i,h,_⟩
  ·exact .inl h
  ·exact .inr ⟨i,h⟩
 have ag:gL 46 l= -1∨∃d:Nat,gL 46 l=d/\d<l.length:=by
  rcases pC (c:=46) (l:=l)with⟨h,_⟩|⟨i,h,h2,_⟩
  ·exact .inl h
  ·exact .inr ⟨i,h,h2⟩
 generalize gL 32 l=B at FB ac P ad aF;generalize gL 46 l=D at FD P ad ag;obtain⟨R,hR⟩:∃R,iD l=R:=⟨_,rfl⟩;rw[hR]at ac⊢;have P:∀{b:Nat},B=b->D= -1∨(b:Int)<D->R=none:=fun h1 h2=>by rw[<-hR];exact P h1 h2
 have y:Hid _:=o5 w;obtain⟨W,hW⟩:∃W,(w.alloc (.cells (cZ (.slice none 0 0) 0 0 false) 222)).alloc (.cells (cZ (.slice none 0 0) 0 0 false) 222)=W:=⟨_,rfl⟩;rw[hW]at y;unfold cZ at hW;rcases aF with hB|⟨b,hB⟩
 ·have p:Hid (R=none):=ac hB;subst hB;clear P ad ag hR ac;go_enter func152,ntmps152;go_wp2_with fail;refine(FB.out _).mono ?_;rintro e w1⟨rfl,j⟩;have j:=j.symm;subst j;go_wp2_with fail;refine(FD.out _).mono ?_;rintro e w1⟨rfl,j⟩;have j:=j.symm;subst j;try rw[hW]
  go_wp2_with(first
   |(refine cG rfl _ _ rfl (w.heap.size+1) rfl _ _ _ _ y.out.r underlying222 rfl gB ?_)
   |(refine bI rfl _ _ _ rfl rfl w.heap.size _ rfl rfl _ _ y.out.z gB rfl rfl ?_;intro Q G;have A:Hid (aI _ _ _ _ Q):=G;clear G))
  exact bB (pE results152 _ _ _ _ _ _ _ rfl A.out.row underlying222 rfl gB) rfl (by unfold nR;exact⟨.slice none 0 0,⟨[],0,0,false⟩,false,rfl,rfl,(fun r E=>by rw[p.out]at E;cases E),(fun _=>rfl),y.out.bel.trans (A.out.below (aC _))⟩)
 rcases(by
  rcases ag with h|⟨d,h,h2⟩
  ·exact .inl (.inl h)
  ·by_cases h3:b<d
   ·exact .inl (.inr ⟨d,h,h3⟩)
   ·exact .inr ⟨d,h,by omega⟩:(D= -1∨∃d:Nat,D=d/\b<d)∨∃d:Nat,D=d/\d<=b)with hD|⟨d,hD,hdb⟩
 ·have p:Hid (R=none):=P hB (by
   rcases hD with h|⟨d,h,h2⟩
   ·exact .inl h
   ·exact .inr (by omega))
  subst hB;have b0:¬(b:Int)<0:=by omega
  clear P ad ag hR ac;rcases hD with h|⟨d,h,h2⟩
  ·subst h;go_enter func152,ntmps152;go_wp2_with fail;refine(FB.out _).mono ?_;rintro e w1⟨rfl,j⟩;have j:=j.symm;subst j;go_wp2_with fail;refine(FD.out _).mono ?_;rintro e w1⟨rfl,j⟩;have j:=j.symm;subst j;try rw[hW]
   go_wp2_with(first
    |(refine cG rfl _ _ rfl (w.heap.size+1) rfl _ _ _ _ y.out.r underlying222 rfl gB ?_)
    |(refine bI rfl _ _ _ rfl rfl w.heap.size _ rfl rfl _ _ y.out.z gB rfl rfl ?_;intro Q G;have A:Hid (aI _ _ _ _ Q):=G;clear G))
   exact bB (pE results152 _ _ _ _ _ _ _ rfl A.out.row underlying222 rfl gB) rfl (by unfold nR;exact⟨.slice none 0 0,⟨[],0,0,false⟩,false,rfl,rfl,(fun r E=>by rw[p.out]at E;cases E),(fun _=>rfl),y.out.bel.trans (A.out.below (aC _))⟩)
  ·subst h;have d0:¬(d:Int)<0:=by omega
   have db:(b:Int)<(d:Int):=by omega
   go_enter func152,ntmps152;go_wp2_with fail;refine(FB.out _).mono ?_;rintro e w1⟨rfl,j⟩;have j:=j.symm;subst j;go_wp2_with fail;refine(FD.out _).mono ?_;rintro e w1⟨rfl,j⟩;have j:=j.symm;subst j;try rw[hW]
   go_wp2_with(first
    |(refine cG rfl _ _ rfl (w.heap.size+1) rfl _ _ _ _ y.out.r underlying222 rfl gB ?_)
    |(refine bI rfl _ _ _ rfl rfl w.heap.size _ rfl rfl _ _ y.out.z gB rfl rfl ?_;intro Q G;have A:Hid (aI _ _ _ _ Q):=G;clear G))
   exact bB (pE results152 _ _ _ _ _ _ _ rfl A.out.row underlying222 rfl gB) rfl (by unfold nR;exact⟨.slice none 0 0,⟨[],0,0,false⟩,false,rfl,rfl,(fun r E=>by rw[p.out]at E;cases E),(fun _=>rfl),y.out.bel.trans (A.out.below (aC _))⟩)
 obtain⟨a6,a9,aa⟩:=ad hB hD hdb;rw[hR]at aa;subst hB hD;have b0:¬(b:Int)<0:=by omega
 have d0:¬(d:Int)<0:=by omega
 have db:¬(b:Int)<(d:Int):=by omega
 clear P ad ag ac hR hdb;have ba:(b:Int)+1<=(l.length:Int):=by omega
 have bb:((b:Int)+1).toNat=b+1:=by omega
 have bc:(d:Int)<=(l.length:Int):=by omega
 obtain⟨S,ah⟩:∃k,l.drop (b+1)=k:=⟨_,rfl⟩;have bd:(l.drop (b+1)).take (l.length-(b+1))=S:=by rw[ah];exact fV (by rw[<-ah,bC];omega)
 rw[ah]at aa;by_cases M:¬S=kV/\¬S=qA
 ·have p:Hid (R=none):=aa.trans (j1 M.1 M.2);have k1:(S==[107,101,101,112])=false:=bG.2 M.1;have k2:(S==[100,114,111,112])=false:=bG.2 M.2;clear aa M ah;go_enter func152,ntmps152;go_wp2_with fail;refine(FB.out _).mono ?_;rintro e w1⟨rfl,j⟩;have j:=j.symm;subst j;go_wp2_with fail;refine(FD.out _).mono ?_;rintro e w1⟨rfl,j⟩;have j:=j.symm;subst j;try rw[hW]
  go_wp2_with(first
   |(refine cG rfl _ _ rfl (w.heap.size+1) rfl _ _ _ _ y.out.r underlying222 rfl gB ?_)
   |(refine bI rfl _ _ _ rfl rfl w.heap.size _ rfl rfl _ _ y.out.z gB rfl rfl ?_;intro Q G;have A:Hid (aI _ _ _ _ Q):=G;clear G))
  exact bB (pE results152 _ _ _ _ _ _ _ rfl A.out.row underlying222 rfl gB) rfl (by unfold nR;exact⟨.slice none 0 0,⟨[],0,0,false⟩,false,rfl,rfl,(fun r E=>by rw[p.out]at E;cases E),(fun _=>rfl),y.out.bel.trans (A.out.below (aC _))⟩)
 have az:S=kV∨S=qA:=by
  by_cases h:S=kV
  ·exact .inl h
  ·exact .inr (nY fun h2=>M ⟨h,h2⟩)
 obtain⟨q,av⟩:∃b,(S==[107,101,101,112])=b:=⟨_,rfl⟩;have aG:Hid (S=kV∨S=qA):=az;have aH:Hid (decide (S=kV)=q):=by
  show _=_;rw[<-av];show decide (S=kV)=(S==kV);cases h:(S==kV)with
  |true=>exact decide_eq_true (dZ.1 h)
  |false=>exact decide_eq_false (bG.1 h)
 have ax:q=false->(S==[100,114,111,112])=true:=fun h=>by
  rw[h]at av;exact dZ.2 (az.resolve_left (bG.1 av))
 clear M az;obtain⟨nm,aJ⟩:∃n,l.take d=n:=⟨_,rfl⟩;obtain⟨g,hg⟩:∃g,(l.drop (d+1)).take (b-(d+1))=g:=⟨_,rfl⟩;have aK:nm.length<=1000000:=by rw[<-aJ,eJ];omega
 have be:g.length<=1000000:=by rw[<-hg,eJ,bC];omega
 rw[aJ,hg]at aa;have ai:Hid (R=gW (jE nm) (gV g) S):=aa;clear aa ah;obtain⟨i0,hi,aA,aB,aj⟩:=info_parts j6;go_enter func152,ntmps152;go_wp2_with fail;refine(FB.out _).mono ?_;rintro e w1⟨rfl,j⟩;have j:=j.symm;subst j;go_wp2_with fail;refine(FD.out _).mono ?_;rintro e w1⟨rfl,j⟩;have j:=j.symm;subst j;try rw[hW]
 clear hW;go_upto_region 7 with fail;go_cut [40] (fun aW wc=>aW= .bool false/\wc=W);case first=>
  cases q with
  |true=>
   go_wp2
   go_meet
   case rel=>exact⟨rfl,rfl⟩
  |false=>
   have bf:=ax rfl;go_wp2
   go_meet
   case rel=>exact⟨rfl,rfl⟩
 case rest=>
  obtain⟨rfl,ab⟩:=hcut;have ab:=ab.symm;subst ab;clear FB FD ax;obtain⟨st,aw⟩:∃b,(nm==[42])=b:=⟨_,rfl⟩;go_upto_if 49 with(first
   |(refine bK rfl _ _ _ rfl rfl (w.heap.size+1) 3 _ rfl rfl _ _ (cZ (.slice none 0 0) 0 0 q) y.out.r j9 (by simp[cZ]) rfl rfl ?_;intro w2 p2;have P2:Hid (aI W _ _ _ w2):=p2;clear p2)
   |fail)
  have ak:Hid (iH w w2 (.slice none 0 0) [] 0 0 q):=y.out.put P2.out;clear P2 y av;go_cut [8] (fun _ wc=>∃v F,iH w wc v F 0 0 q/\rE nm F);case first=>
   cases st with
   |true=>
    have al:nm=[42]:=dZ.1 aw;have am:=show Hid _ from al;clear al;go_wp2;go_loopw [9] (fun s9 wq=>∃(k:Nat)(v:Value)(F:List Nat),k<=24/\s9= .int .i64 k/\F=List.range k/\iH w wq v F 0 0 q) (fun s9 _=>24-(intOf s9).toNat)
    case atStart=>exact⟨0,_,[],by omega,rfl,rfl,ak.out⟩
    case round=>
     obtain⟨k,v,F,hk,rfl,hF,hI⟩:=hrel;have bg:F.length<=24:=by rw[hF,List.length_range];exact hk
     have aL:=show Hid _ from hF;clear hF;have u:Hid (iH w wr v F 0 0 q):=hI;have c0:wr.cell? ⟨w.heap.size+1,0,none⟩=some v:=aS _ _ _ _ _ _ hI.r;clear hI ak;by_cases bh:k<24;case neg=>
      have aX:¬(k:Int)<24:=by omega
      have ay:k=24:=by omega
      have HF:Hid (rE nm F):=by rw[am.out];exact ZQ (by rw[aL.out,ay])
      clear ay;go_wp2
      go_meet
      case rel=>exact⟨v,F,u.out,HF.out⟩
     have aX:(k:Int)<24:=by omega
     obtain⟨va,vc,rfl⟩:=gJ u.out.own;go_wp2_with(first
      |(at_builtin;refine wpList_append_own _ rfl _ _ 44 rfl (w.heap.size+2) 3 i0 (.int .i64 0) 1 8 underlying44 hi aA aB aj rfl (by decide) _ _ _ rfl (u.out.own.alloc _) ⟨wr.heap.size,0,none⟩ 1 1 [.int .i64 (k:Int)] rfl rfl (cell_one_new _ _ _) (fun x L=>by simp at L;subst L;rfl) (by unfold maxLen;omega) (by omega) (by have:=u.out.size;simp;omega) ?_;intro v' w5 m s T;obtain⟨aM,aN,rfl⟩:=gJ m;have an:=show Hid _ from m;have U:=show Hid _ from s;clear m s T)
      |(refine bK rfl _ _ _ rfl rfl (w.heap.size+1) 0 _ rfl rfl _ _ (cZ _ 0 0 q) (AM u.out U.out) AJ (by simp[cZ]) rfl rfl ?_;intro w6 p6;have P6:Hid (aI w5 _ _ _ w6):=p6;clear p6)
      |fail)
     have ao:=show Hid (iH w w6 _ (F++[k]) 0 0 q)from u.out.grow an.out U.out P6.out;go_roundw;case rel=>exact⟨k+1,_,F++[k],by omega,aY (by simp),by rw[aL.out,List.range_succ],ao.out⟩
     case measure=>simp[intOf];omega
   |false=>
    have am:Hid (¬nm=[42]):=bG.1 aw;have FC:Hid (∀a:List UInt8,a.length<=1000000->∀w,Calls prog 151 #[.string ⟨a.toArray⟩,.int .u8 44] w fun e w'=>e= .returned (.int .i64 (gL 44 a))/\w'=w):=fun a hn w=>wH a (by omega) 44 w;have FA:Hid (∀(one:List UInt8) w,Calls prog 188 #[.string ⟨one.toArray⟩] w fun e w'=>e= .returned (.int .i64 ((bF one cX 0:Nat)-1:Int))/\Below w.heap.size w w'):=ZJ;go_wp2;go_loopw [8,10,11,12,13] (fun s8 s10 _ _ _ wq=>∃(a:List UInt8)(F:List Nat)(v:Value)(more:Bool),s8= .string ⟨a.toArray⟩/\s10= .bool more/\iH w wq v F 0 0 q/\(more=true->F.length+a.length<=1000000/\pD nm a F)/\(more=false->¬F=[]/\(∀f∈F,f<24)/\fT (kF 44 nm) 0=nE F)) (fun s8 s10 _ _ _ _=>uG s8+AN s10)
    case atStart=>exact⟨nm,[],_,true,rfl,rfl,ak.out,(fun _=>⟨by simpa using aK,ZL nm⟩),fun h=>by cases h⟩
    case round=>
     obtain⟨a,F,v,more,rfl,rfl,hI,hT,hF⟩:=hrel;have u:Hid (iH w wr v F 0 0 q):=hI;have c0:wr.cell? ⟨w.heap.size+1,0,none⟩=some v:=aS _ _ _ _ _ _ hI.r;clear hI ak aw;cases more with
     |false=>
      obtain⟨h1,h2,h3⟩:=hF rfl;have HF:Hid (rE nm F):=ZR am.out h2 h1 h3;clear hT hF h1 h2 h3;go_wp2
      go_meet
      case rel=>exact⟨v,F,u.out,HF.out⟩
     |true=>
      obtain⟨a7,aO⟩:=hT rfl;have ae:Hid (pD nm a F):=aO;clear hT hF aO;obtain⟨va,vc,rfl⟩:=gJ u.out.own;have af:=show Hid _ from FC.out a (by omega);rcases pC (c:=44) (l:=a)with⟨E,hc⟩|⟨i,E,bi,hc⟩
      ·rw[E]at af;have N:=show Hid _ from FA.out a;have O:Hid (bF a cX 0=0->R=none):=fun h=>ai.out.trans (JL (JH am.out (ZN ae.out (by rw[hc]) (by rw[hc];exact h))));have V:Hid (∀k,bF a cX 0=k+1->(∀f∈F++[k],f<24)/\fT (kF 44 nm) 0=nE (F++[k])):=fun k h=>by
        have:=ZP ae.out (by rw[hc]) (by rw[hc];dsimp only;omega);rw[hc]at this;dsimp only at this
        rwa [show bF a cX 0-1=k by omega]at this
       generalize bF a cX 0=X at N O V;clear E hc ae;cases X with
       |zero=>
        have p:Hid (R=none):=O.out rfl;have L:((0:Nat):Int)-1= -1:=by omega
        rw[L]at N;clear L;go_wp2_with fail;refine(af.out _).mono ?_;rintro e w1⟨rfl,j⟩;have j:=j.symm;subst j;go_wp2_with fail;refine(N.out _).mono ?_;rintro e w3⟨rfl,t⟩;have o:=show Hid _ from u.out.next t;clear t c0;go_wp2_with(first
         |(refine cG rfl _ _ rfl (w.heap.size+1) rfl _ _ _ _ o.out.r underlying222 rfl gB ?_)
         |(refine bI rfl _ _ _ rfl rfl w.heap.size _ rfl rfl _ _ o.out.z gB rfl rfl ?_;intro Q G;have A:Hid (aI _ _ _ _ Q):=G;clear G))
        exact bB (pE results152 _ _ _ _ _ _ _ rfl A.out.row underlying222 rfl gB) rfl (by unfold nR;exact⟨_,⟨[],0,0,q⟩,false,rfl,rfl,(fun r E=>by rw[p.out]at E;cases E),(fun _=>rfl),o.out.bel.trans (A.out.below (aC _))⟩)
       |succ k=>
        have L:((k+1:Nat):Int)-1=(k:Int):=by omega
        rw[L]at N;have k0:¬(k:Int)<0:=by omega
        have ap:=show Hid _ from V.out k rfl;clear L V O;go_wp2_with fail;refine(af.out _).mono ?_;rintro e w1⟨rfl,j⟩;have j:=j.symm;subst j;go_wp2_with fail;refine(N.out _).mono ?_;rintro e w3⟨rfl,t⟩;have o:=show Hid _ from u.out.next t;have c3:w3.cell? ⟨w.heap.size+1,0,none⟩=some _:=aS _ _ _ _ _ _ o.out.r;clear t c0 u;have u:=o;clear o;go_wp2_with(first
         |(at_builtin;refine wpList_append_own _ rfl _ _ 44 rfl (w.heap.size+2) 3 i0 (.int .i64 0) 1 8 underlying44 hi aA aB aj rfl (by decide) _ _ _ rfl (u.out.own.alloc _) ⟨w3.heap.size,0,none⟩ 1 1 [.int .i64 (k:Int)] rfl rfl (cell_one_new _ _ _) (fun x L=>by simp at L;subst L;rfl) (by unfold maxLen;omega) (by omega) (by have:=u.out.size;simp;omega) ?_;intro v' w5 m s T;obtain⟨aM,aN,rfl⟩:=gJ m;have an:=show Hid _ from m;have U:=show Hid _ from s;clear m s T)
         |(refine bK rfl _ _ _ rfl rfl (w.heap.size+1) 0 _ rfl rfl _ _ (cZ _ 0 0 q) (AM u.out U.out) AJ (by simp[cZ]) rfl rfl ?_;intro w6 p6;have P6:Hid (aI w5 _ _ _ w6):=p6;clear p6)
         |fail)
        have ao:=show Hid (iH w w6 _ (F++[k]) 0 0 q)from u.out.grow an.out U.out P6.out;go_roundw;case rel=>exact⟨a,F++[k],_,false,rfl,rfl,ao.out,(fun h=>by cases h),fun _=>⟨by simp,ap.out⟩⟩
        case measure=>simp[uG,AN]
      ·rw[E]at af;have N:=show Hid _ from FA.out (a.take i);have O:Hid (bF (a.take i) cX 0=0->R=none):=fun h=>ai.out.trans (JL (JH am.out (ZM ae.out (by rw[hc]) (by rw[hc];exact h))));have V:Hid (∀k,bF (a.take i) cX 0=k+1->pD nm (a.drop (i+1)) (F++[k])):=fun k h=>by
        have:=ZO ae.out (by rw[hc]) (by rw[hc];dsimp only;omega);rw[hc]at this;dsimp only at this
        rwa [show bF (a.take i) cX 0-1=k by omega]at this
       generalize bF (a.take i) cX 0=X at N O V;clear E hc ae;have bj:(0:Int)<=(i:Int):=by omega
       have i1:(i:Int)<=(a.length:Int):=by omega
       have i2:(i:Int)+1<=(a.length:Int):=by omega
       have i3:((i:Int)+1).toNat=i+1:=by omega
       obtain⟨nx,aq⟩:∃n,a.drop (i+1)=n:=⟨_,rfl⟩;have a8:nx.length+i+1=a.length:=by rw[<-aq,bC];omega
       have bk:(a.drop (i+1)).take (a.length-(i+1))=nx:=by rw[aq];exact fV (by rw[<-aq,bC];omega)
       rw[aq]at V;clear aq;cases X with
       |zero=>
        have p:Hid (R=none):=O.out rfl;have L:((0:Nat):Int)-1= -1:=by omega
        rw[L]at N;clear L;go_wp2_with fail;refine(af.out _).mono ?_;rintro e w1⟨rfl,j⟩;have j:=j.symm;subst j;go_wp2_with fail;refine(N.out _).mono ?_;rintro e w3⟨rfl,t⟩;have o:=show Hid _ from u.out.next t;clear t c0;go_wp2_with(first
         |(refine cG rfl _ _ rfl (w.heap.size+1) rfl _ _ _ _ o.out.r underlying222 rfl gB ?_)
         |(refine bI rfl _ _ _ rfl rfl w.heap.size _ rfl rfl _ _ o.out.z gB rfl rfl ?_;intro Q G;have A:Hid (aI _ _ _ _ Q):=G;clear G))
        exact bB (pE results152 _ _ _ _ _ _ _ rfl A.out.row underlying222 rfl gB) rfl (by unfold nR;exact⟨_,⟨[],0,0,q⟩,false,rfl,rfl,(fun r E=>by rw[p.out]at E;cases E),(fun _=>rfl),o.out.bel.trans (A.out.below (aC _))⟩)
       |succ k=>
        have L:((k+1:Nat):Int)-1=(k:Int):=by omega
        rw[L]at N;have k0:¬(k:Int)<0:=by omega
        have ap:=show Hid _ from V.out k rfl;clear L V O;go_wp2_with fail;refine(af.out _).mono ?_;rintro e w1⟨rfl,j⟩;have j:=j.symm;subst j;go_wp2_with fail;refine(N.out _).mono ?_;rintro e w3⟨rfl,t⟩;have o:=show Hid _ from u.out.next t;have c3:w3.cell? ⟨w.heap.size+1,0,none⟩=some _:=aS _ _ _ _ _ _ o.out.r;clear t c0 u;have u:=o;clear o;go_wp2_with(first
         |(at_builtin;refine wpList_append_own _ rfl _ _ 44 rfl (w.heap.size+2) 3 i0 (.int .i64 0) 1 8 underlying44 hi aA aB aj rfl (by decide) _ _ _ rfl (u.out.own.alloc _) ⟨w3.heap.size,0,none⟩ 1 1 [.int .i64 (k:Int)] rfl rfl (cell_one_new _ _ _) (fun x L=>by simp at L;subst L;rfl) (by unfold maxLen;omega) (by omega) (by have:=u.out.size;simp;omega) ?_;intro v' w5 m s T;obtain⟨aM,aN,rfl⟩:=gJ m;have an:=show Hid _ from m;have U:=show Hid _ from s;clear m s T)
         |(refine bK rfl _ _ _ rfl rfl (w.heap.size+1) 0 _ rfl rfl _ _ (cZ _ 0 0 q) (AM u.out U.out) AJ (by simp[cZ]) rfl rfl ?_;intro w6 p6;have P6:Hid (aI w5 _ _ _ w6):=p6;clear p6)
         |fail)
        have ao:=show Hid (iH w w6 _ (F++[k]) 0 0 q)from u.out.grow an.out U.out P6.out;go_roundw;case rel=>exact⟨nx,F++[k],_,true,rfl,rfl,ao.out,(fun _=>⟨by simp;omega,ap.out⟩),fun h=>by cases h⟩
        case measure=>simp[uG,AN,ByteArray.size];omega
  case rest=>
   obtain⟨v,F,hI,aP⟩:=hcut;have u:Hid (iH w wc v F 0 0 q):=hI;have aR:Hid (rE nm F):=aP;clear hI aP ak aw;obtain⟨va,vc,rfl⟩:=gJ u.out.own;have t1:((d:Int)+1).toNat=d+1:=by omega
   have t2:(d:Int)+1<=(b:Int):=by omega
   have t3:(b:Int)<=(l.length:Int):=by omega
   have H:Hid (∀lo hi,uF g lo hi->∃r,R=some r/\mU r ⟨F,lo,hi,q⟩):=fun lo hi h=>by
    obtain⟨r,h1,h2⟩:=j5 aR.out h aG.out;rw[aH.out]at h2;exact⟨r,ai.out.trans h1,h2⟩
   have ar:Hid (gV g=0->R=none):=fun h=>ai.out.trans (j3 h);clear ai aR aG aH;by_cases Y:g=[42]
   ·have HS:Hid (∃r,R=some r/\mU r ⟨F,0,7,q⟩):=H.out 0 7 (by rw[Y];exact ZS);have gb:(g==[42])=true:=dZ.2 Y;clear Y H ar;go_wp2_with(first
     |(refine bK rfl _ _ _ rfl rfl (w.heap.size+1) 2 _ rfl rfl _ _ (cZ _ 0 7 q) u.out.r jC (by simp[cZ]) rfl rfl ?_;intro w6 p6;have P6:Hid (aI wc _ _ _ w6):=p6;clear p6)
     |(refine cG rfl _ _ rfl (w.heap.size+1) rfl _ _ _ _ P6.out.row underlying222 rfl gB ?_)
     |(refine bI rfl _ _ _ rfl rfl w.heap.size _ rfl rfl _ _ (u.out.put P6.out).z gB rfl rfl ?_;intro Q G;have A:Hid (aI _ _ _ _ Q):=G;clear G))
    have aT:=u.out.put P6.out;exact bB (pE results152 _ _ _ _ _ _ _ rfl A.out.row underlying222 rfl gB) rfl (by unfold nR;exact⟨.slice va F.length vc,⟨F,0,7,q⟩,true,rfl,rfl,AO HS.out aT A.out,AP HS.out,aT.bel.trans (A.out.below (aC _))⟩)
   have gb:(g==[42])=false:=bG.2 Y;by_cases L:∃x,g=61::x
   ·obtain⟨x,rfl⟩:=L;have SV:Hid (∀w,Calls prog 189 #[.string ⟨x.toArray⟩] w fun e w'=>e= .returned (.int .i64 ((bF x cL 0:Nat)-1:Int))/\Below w.heap.size w w'):=JD x;have HS:Hid (∀k,bF x cL 0=k+1->∃r,R=some r/\mU r ⟨F,(k:Int),(k:Int),q⟩):=fun k h=>H.out k k (ZW h);have HN:Hid (bF x cL 0=0->R=none):=fun h=>ar.out (by rw[JJ,aD h]);clear H ar Y;obtain⟨Z,hZ⟩:∃Z:Int,((bF x cL 0:Nat)-1:Int)=Z:=⟨_,rfl⟩;rw[hZ]at SV;have gx:((61::x:List UInt8)==[])=false:=rfl;have gl:(1:Int)<=(x.length:Int)+1:=by omega
    go_wp2_with fail;refine(SV.out _).mono ?_;rintro e w3⟨rfl,t⟩;have o:=show Hid _ from u.out.next t;clear t;go_wp2_with(first
     |(refine bK rfl _ _ _ rfl rfl (w.heap.size+1) 1 _ rfl rfl _ _ (cZ _ Z 0 q) o.out.r jC (by simp[cZ]) rfl rfl ?_;intro w6 p6;have P6:Hid (aI w3 _ _ _ w6):=p6;clear p6;have c6:w6.cell? ⟨w.heap.size+1,1,none⟩=some (.int .i64 Z):=aS _ _ _ _ _ _ P6.out.row)
     |(refine bK rfl _ _ _ rfl rfl (w.heap.size+1) 2 _ rfl rfl _ _ (cZ _ Z Z q) P6.out.row jC (by simp[cZ]) rfl rfl ?_;intro K p7;have P7:Hid (aI w6 _ _ _ K):=p7;clear p7)
     |fail)
    have I:=show Hid _ from(o.out.put P6.out).put P7.out;clear P6 P7 c6 o u;have C:=I.out.z;have J:=I.out.r;unfold cZ at C J;have a0:K.cell? ⟨w.heap.size+1,0,none⟩=some (.slice va F.length vc):=aS _ _ _ _ _ _ J;have b0:K.cell? ⟨w.heap.size,0,none⟩=some (.slice none 0 0):=aS _ _ _ _ _ _ C;have a1:K.cell? ⟨w.heap.size+1,1,none⟩=some (.int .i64 Z):=aS _ _ _ _ _ _ J;have b1:K.cell? ⟨w.heap.size,1,none⟩=some (.int .i64 0):=aS _ _ _ _ _ _ C;have a2:K.cell? ⟨w.heap.size+1,2,none⟩=some (.int .i64 Z):=aS _ _ _ _ _ _ J;have b2:K.cell? ⟨w.heap.size,2,none⟩=some (.int .i64 0):=aS _ _ _ _ _ _ C;have a3:K.cell? ⟨w.heap.size+1,3,none⟩=some (.bool q):=aS _ _ _ _ _ _ J;have b3:K.cell? ⟨w.heap.size,3,none⟩=some (.bool false):=aS _ _ _ _ _ _ C;have fz:∀k,K.frozen? ⟨w.heap.size,k,none⟩=false:=fun k=>frozen_of_row _ _ _ _ _ C;have aZ:¬w.heap.size+1=w.heap.size:=by omega
    have aU:¬w.heap.size=w.heap.size+1:=by omega
    clear C J;go_region
    have G:=JM I.out.z 0 1 2 3 (.slice va F.length vc) (.int .i64 Z) (.int .i64 Z) (.bool q);generalize((((K.setCell ⟨w.heap.size,0,none⟩ (.slice va F.length vc)).setCell ⟨w.heap.size,1,none⟩ (.int .i64 Z)).setCell ⟨w.heap.size,2,none⟩ (.int .i64 Z)).setCell ⟨w.heap.size,3,none⟩ (.bool q)).drew=Q at G⊢;have A:Hid (aI K w.heap.size 222 (cZ (.slice va F.length vc) Z Z q) Q):=G;clear G a0 a1 a2 a3 b0 b1 b2 b3 fz;go_wp2;refine bB (pE results152 _ _ _ _ _ _ _ rfl A.out.row underlying222 rfl gB) rfl ?_;unfold nR;cases hX:bF x cL 0 with
    |zero=>
     have aE:=HN.out hX;have hz:Z= -1:=by rw[<-hZ,hX];rfl
     subst hz;exact⟨_,⟨F,-1,-1,q⟩,false,rfl,rfl,(fun r E=>by rw[aE]at E;cases E),(fun _=>rfl),I.out.bel.trans (A.out.below (aC _))⟩
    |succ k=>
     have hz:Z=(k:Int):=by rw[<-hZ,hX];omega
     subst hz;have hd:decide ((0:Int)<=(k:Int))=true:=decide_eq_true (by omega);exact⟨_,⟨F,(k:Int),(k:Int),q⟩,true,aQ (fun z=>Ending.returned (Value.tuple #[_,.bool z])) hd,rfl,AO (HS.out k hX) I.out A.out,AP (HS.out k hX),I.out.bel.trans (A.out.below (aC _))⟩
   ·have au:∀x,¬g=61::x:=fun x h=>L ⟨x,h⟩;have SV:Hid (∀w,Calls prog 189 #[.string ⟨g.toArray⟩] w fun e w'=>e= .returned (.int .i64 ((bF g cL 0:Nat)-1:Int))/\Below w.heap.size w w'):=JD g;have HS:Hid (∀k,bF g cL 0=k+1->∃r,R=some r/\mU r ⟨F,0,(k:Int),q⟩):=fun k h=>H.out 0 k (ZX Y au h);have HN:Hid (bF g cL 0=0->R=none):=fun h=>ar.out (by rw[JK Y au,aD h]);clear H ar Y L;obtain⟨Z,hZ⟩:∃Z:Int,((bF g cL 0:Nat)-1:Int)=Z:=⟨_,rfl⟩;rw[hZ]at SV;go_upto_region 32 with fail;go_cut [100] (fun aV wd=>aV= .bool false/\wd=wc);case first=>
     have a4:=k8 au;clear au HS HN SV hZ;rcases a4 with h|⟨c,tl,h,hc⟩
     ·have a5:(g==[])=true:=by rw[h];rfl
      clear h;go_wp2
      go_meet
      case rel=>exact⟨rfl,rfl⟩
     ·have a5:(g==[])=false:=by rw[h];rfl
      have bl:0<g.length:=by rw[h];simp
      have bm:((g[0].toNat:Int)==61)=false:=by
       have:g[0]=c:=by simp[h]
       rw[this];exact bG.2 (by omega)
      have bn:(0:Int)<(g.length:Int):=by omega
      clear h hc;go_wp2
      go_meet
      case rel=>exact⟨rfl,rfl⟩
    case rest=>
     obtain⟨rfl,ab⟩:=hcut;have ab:=ab.symm;subst ab;clear au;go_wp2_with fail;refine(SV.out _).mono ?_;rintro e w3⟨rfl,t⟩;have o:=show Hid _ from u.out.next t;clear t;go_wp2_with(first
      |(refine bK rfl _ _ _ rfl rfl (w.heap.size+1) 2 _ rfl rfl _ _ (cZ _ 0 Z q) o.out.r jC (by simp[cZ]) rfl rfl ?_;intro K p7;have P7:Hid (aI w3 _ _ _ K):=p7;clear p7)
      |fail)
     have I:=show Hid _ from o.out.put P7.out;clear P7 o u;have C:=I.out.z;have J:=I.out.r;unfold cZ at C J;have a0:K.cell? ⟨w.heap.size+1,0,none⟩=some (.slice va F.length vc):=aS _ _ _ _ _ _ J;have b0:K.cell? ⟨w.heap.size,0,none⟩=some (.slice none 0 0):=aS _ _ _ _ _ _ C;have a1:K.cell? ⟨w.heap.size+1,1,none⟩=some (.int .i64 0):=aS _ _ _ _ _ _ J;have b1:K.cell? ⟨w.heap.size,1,none⟩=some (.int .i64 0):=aS _ _ _ _ _ _ C;have a2:K.cell? ⟨w.heap.size+1,2,none⟩=some (.int .i64 Z):=aS _ _ _ _ _ _ J;have b2:K.cell? ⟨w.heap.size,2,none⟩=some (.int .i64 0):=aS _ _ _ _ _ _ C;have a3:K.cell? ⟨w.heap.size+1,3,none⟩=some (.bool q):=aS _ _ _ _ _ _ J;have b3:K.cell? ⟨w.heap.size,3,none⟩=some (.bool false):=aS _ _ _ _ _ _ C;have fz:∀k,K.frozen? ⟨w.heap.size,k,none⟩=false:=fun k=>frozen_of_row _ _ _ _ _ C;have aZ:¬w.heap.size+1=w.heap.size:=by omega
     have aU:¬w.heap.size=w.heap.size+1:=by omega
     clear C J;go_region
     have G:=JM I.out.z 0 1 2 3 (.slice va F.length vc) (.int .i64 0) (.int .i64 Z) (.bool q);generalize((((K.setCell ⟨w.heap.size,0,none⟩ (.slice va F.length vc)).setCell ⟨w.heap.size,1,none⟩ (.int .i64 0)).setCell ⟨w.heap.size,2,none⟩ (.int .i64 Z)).setCell ⟨w.heap.size,3,none⟩ (.bool q)).drew=Q at G⊢;have A:Hid (aI K w.heap.size 222 (cZ (.slice va F.length vc) 0 Z q) Q):=G;clear G a0 a1 a2 a3 b0 b1 b2 b3 fz;go_wp2;refine bB (pE results152 _ _ _ _ _ _ _ rfl A.out.row underlying222 rfl gB) rfl ?_;unfold nR;cases hX:bF g cL 0 with
     |zero=>
      have aE:=HN.out hX;have hz:Z= -1:=by rw[<-hZ,hX];rfl
      subst hz;exact⟨_,⟨F,0,-1,q⟩,false,rfl,rfl,(fun r E=>by rw[aE]at E;cases E),(fun _=>rfl),I.out.bel.trans (A.out.below (aC _))⟩
     |succ k=>
      have hz:Z=(k:Int):=by rw[<-hZ,hX];omega
      subst hz;have hd:decide ((0:Int)<=(k:Int))=true:=decide_eq_true (by omega);exact⟨_,⟨F,0,(k:Int),q⟩,true,aQ (fun z=>Ending.returned (Value.tuple #[_,.bool z])) hd,rfl,AO (HS.out k hX) I.out A.out,AP (HS.out k hX),I.out.bel.trans (A.out.below (aC _))⟩
end Go.Proofs.Z

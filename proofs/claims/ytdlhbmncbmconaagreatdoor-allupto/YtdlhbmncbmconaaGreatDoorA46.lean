/- Pressed by program out of Ge Gf. -/
import Derived.Test.YtdlhbmncbmconaaGreatDoorA45
import Derived.Test.YtdlhbmncbmconaaGreatDoorA43
namespace Go.Proofs.Z
open Hm Hw Tryz Go.RowKit Go.Sort
attribute [local go_sem] cN cO dY
theorem jJ.belowG{w a:World}{p:Nat}{rs:List cF}{v:Value}(h:jJ w p rs v)(b:Below w.heap.size w a):jJ a p rs v:=
 ⟨(b.block _ (aM.1 h.row).1).trans h.row,cQ (S:=fun _=>False) h.own (aN.of_below b) (fun _ _ e=>e)⟩
theorem QQ(n:Nat)(c:n<=1000000)(w:World)(a:aJ w):Calls prog 48 #[.int .i64 n] w fun r b=>r= .returned (.string ⟨(Lib.decDigits n).toArray⟩)/\Below w.heap.size w b:=by
 have:=vQ (n:Int) w (by omega) (by omega) a
 rwa [Int.toNat_natCast]at this
theorem QR(e:Nat)(j:e<=1000)(w:World)(b:aJ w):Calls prog 105 #[.int .i64 e] w fun r c=>r= .returned (.string ⟨(mM++Lib.decDigits e).toArray⟩)/\Below w.heap.size w c:=by
 have f:Hid (∀w,aJ w->Calls prog 48 #[.int .i64 e] w fun r c=>r= .returned (.string ⟨(Lib.decDigits e).toArray⟩)/\Below w.heap.size w c):=fun w b=>QQ e (by omega) w b;have g:(Lib.decDigits e).length<=20:=rO (by omega);generalize Lib.decDigits e=D at f g⊢;have h:¬9223372036854775807<6+D.length:=by omega
 clear g;go_enter func105,ntmps105;go_wp2_with fail;refine(f.out _ b).mono ?_;rintro r i⟨rfl,a⟩;have d:Hid (Below w.heap.size w i):=a;clear a;go_wp2;go_ret;exact⟨by first|(rw[<-dY];rfl)|rfl,d.out⟩
theorem aCj(pr pl:Nat)(y:Int)(w:World):Calls prog 67 #[.pointer (some ⟨pr,0,none⟩),.pointer (some ⟨pl,0,none⟩),.string ⟨[33].toArray⟩,.int .i64 y] w fun e a=>e= .returned (.string ⟨uW.toArray⟩)/\a=w:=by
 have b:Hid (∀w,Calls prog 104 #[.string ⟨[33].toArray⟩,.string ⟨#[61]⟩] w fun e a=>e= .returned (.tuple #[.string ⟨[33].toArray⟩,.bool false])/\a=w):=fun w=>by
  exact CX ⟨[33].toArray⟩ ⟨#[61]⟩ w
 go_enter func67,ntmps67;go_wp2_with fail;refine(b.out _).mono ?_;rintro e c⟨rfl,rfl⟩;go_wp2;go_ret;exact⟨rfl,rfl⟩
set_option maxRecDepth 20000 in
set_option maxHeartbeats 2000000 in
theorem aCk(pr pl:Nat)(rs:List cF)(rlv:Value)(g:aG)(rv wv:Value)(x:List UInt8)(hx:x.length<=1000)(y:Int)(w:World)(k:aJ w)(Q:jJ w pr rs rlv)(I:∀r∈rs,r.small)(hn:rs.length<=1000)(q:bD w pl g rv wv)(hg:uK g)(F:g.messages<=65535):
  Calls prog 67 #[.pointer (some ⟨pr,0,none⟩),.pointer (some ⟨pl,0,none⟩),.string ⟨(61::x).toArray⟩,.int .i64 y] w fun e j=>e= .returned (.string ⟨(eW rs y g (61::x)).2.toArray⟩)/\∃b c,bD j pl (eW rs y g (61::x)).1 b c/\bR pl rv wv w b c j:=by
 have HC:Hid (∀w,Calls prog 104 #[.string ⟨(61::x).toArray⟩,.string ⟨#[61]⟩] w fun e j=>e= .returned (.tuple #[.string ⟨x.toArray⟩,.bool true])/\j=w):=fun w=>by
  have:=CX ⟨(61::x).toArray⟩ ⟨#[61]⟩ w;simpa[Lib.trimPrefix,Lib.hasPrefix]using this
 have P:Hid (∀w,aJ w->Calls prog 21 #[.string ⟨x.toArray⟩,.int .i64 y] w fun e j=>e= .returned (.tuple #[.agg (aL (bH x y).1),.int .i64 (bH x y).2.1,.int .i64 (bH x y).2.2])/\Below w.heap.size w j):=fun w k=>vW ⟨x.toArray⟩ y w k (by simp[ByteArray.size];omega);have o:=CJ x y;have s:=tY x y;have t:(bH x y).2.1=0->rL (bH x y).1:=fun h=>ML h;have S:eW rs y g (61::x)=if¬(bH x y).2.1=0 then(g,mM++Lib.decDigits (bH x y).2.1)else if fD rs (bH x y).1.fac.toNat (bH x y).1.sev.toNat=false then(g,xZ)else rP g (bH x y).1:=by
  unfold eW;rw[aB (by simp)];rfl
 rw[S];clear S;generalize bH x y=R at P o s t⊢;obtain⟨M,E,A⟩:=R;dsimp only at P o s t⊢;have HR:Hid (jJ w pr rs rlv):=Q;have HL:Hid (bD w pl g rv wv):=q;by_cases hE:E=0;case neg=>
  have HF:Hid (∀w,aJ w->Calls prog 105 #[.int .i64 E] w fun r j=>r= .returned (.string ⟨(mM++Lib.decDigits E).toArray⟩)/\Below w.heap.size w j):=fun w k=>QR E (by omega) w k;rw[aD hE];have e1:((E:Int)==0)=false:=bG.2 (by omega);have e2:¬(E:Int)=0:=by omega
  clear hE o s t Q q hg I hn F;generalize mM++Lib.decDigits E=ER at HF⊢;go_enter func67,ntmps67;go_wp2_with fail;refine(HC.out _).mono ?_;rintro e w1⟨rfl,l⟩;have l:=l.symm;subst l;go_wp2_with fail;refine(P.out _ k).mono ?_;rintro e u⟨rfl,v⟩;have m:Hid (Below w.heap.size w u):=v;clear v;go_wp2_with(first
   |(refine bI rfl _ _ _ rfl rfl u.heap.size (aL M) rfl rfl _ _ (heap_alloc_new _ _) cJ rfl rfl ?_;intro J T;have K:Hid (aI (u.alloc _) _ _ _ J):=T;clear T)
   |fail)
  have z:Hid (Below w.heap.size w J):=(m.out.alloc m.out.size _).trans (K.out.below m.out.size);refine(HF.out _ (k.next z.out)).mono ?_;rintro e w4⟨rfl,p⟩;have i:Hid (Below w.heap.size w w4):=Below.next z.out (aC _) p;clear p;go_wp2;go_ret;exact⟨rfl,rv,wv,HL.out.below i.out,bR.refl.next i.out⟩
 subst hE;rw[aB (by simp)];have a:=t rfl;have KP:Hid (∀w,jJ w pr rs rlv->Calls prog 33 #[.pointer (some ⟨pr,0,none⟩),.int .i64 M.fac,.int .i64 M.sev] w fun e j=>e= .returned (.tuple #[.bool (fD rs M.fac.toNat M.sev.toNat),.int .i64 0])/\Below w.heap.size w j):=fun w Q=>by
  have h0:=a.f0;have h1:=a.f1;have h2:=a.s0;have h3:=a.s1;have:=IC pr rs rlv M.fac.toNat M.sev.toNat w Q I (by omega) (by omega) hn
  rwa [Int.toNat_of_nonneg h0,Int.toNat_of_nonneg h2]at this
 have U:Hid (∀w,aJ w->bD w pl g rv wv->Calls prog 43 #[.pointer (some ⟨pl,0,none⟩),.agg (aL M)] w fun e j=>e= .returned (.tuple #[.int .i64 (g.put M).2.1,.int .i64 (g.put M).2.2])/\∃b c,bD j pl (g.put M).1 b c/\bR pl rv wv w b c j):=fun w k hl=>by
  obtain⟨h1,h2,h3,h4,h5,h6,h7⟩:=s;exact KW pl g rv wv w k hl hg M (by omega) (by omega) (by omega) (by omega) (by omega) (by omega) (by omega)
 have L:=CM g M;have D:=QO g M;unfold rP;generalize g.put M=GP at U L D⊢;obtain⟨G,V,H⟩:=GP;dsimp only at U L D⊢;have DN:Hid (∀w,aJ w->Calls prog 48 #[.int .i64 V] w fun r j=>r= .returned (.string ⟨(Lib.decDigits V).toArray⟩)/\Below w.heap.size w j):=fun w k=>QQ V (by omega) w k;have DF:Hid (∀w,aJ w->Calls prog 105 #[.int .i64 H] w fun r j=>r= .returned (.string ⟨(mM++Lib.decDigits H).toArray⟩)/\Below w.heap.size w j):=fun w k=>QR H (by omega) w k;have W:=rO (n:=V) (by omega);generalize Lib.decDigits V=X at DN W⊢;generalize mM++Lib.decDigits H=ER at DF⊢;have ac:¬9223372036854775807<5+X.length:=by omega
 obtain⟨f,sv,t0,h1,h2,h3,h4,d,tx⟩:=M;dsimp only at KP⊢;unfold aL at P U;dsimp only at P U;clear t a s Q q hg W hn I F L o;generalize fD rs f.toNat sv.toNat=kp at KP⊢;go_enter func67,ntmps67;go_wp2_with fail;refine(HC.out _).mono ?_;rintro e w1⟨rfl,l⟩;have l:=l.symm;subst l;go_wp2_with fail;refine(P.out _ k).mono ?_;rintro e u⟨rfl,v⟩;have m:Hid (Below w.heap.size w u):=v;clear v;go_wp2_with(first
  |(refine bI rfl _ _ _ rfl rfl u.heap.size #[.int .i64 f,.int .i64 sv,.string ⟨t0.toArray⟩,.string ⟨h1.toArray⟩,.string ⟨h2.toArray⟩,.string ⟨h3.toArray⟩,.string ⟨h4.toArray⟩,.string ⟨d.toArray⟩,.string ⟨tx.toArray⟩] rfl rfl _ _ (heap_alloc_new _ _) cJ rfl rfl ?_;intro J T;have K:Hid (aI (u.alloc _) _ _ _ J):=T;clear T;have m0:J.cell? ⟨u.heap.size,0,none⟩=some (.int .i64 f):=aS _ _ _ _ _ _ K.out.row;have m1:J.cell? ⟨u.heap.size,1,none⟩=some (.int .i64 sv):=aS _ _ _ _ _ _ K.out.row)
  |fail)
 have z:Hid (Below w.heap.size w J):=(m.out.alloc m.out.size _).trans (K.out.below m.out.size);refine(KP.out _ (HR.out.belowG z.out)).mono ?_;rintro e w4⟨rfl,p⟩;have i:Hid (Below w.heap.size w w4):=Below.next z.out (aC _) p;have ad:Hid (w4.heap[u.heap.size]?=_):=(p.block _ (aM.1 K.out.row).1).trans K.out.row;clear p m0 m1;cases kp with
 |false=>
  go_wp2;go_ret;exact⟨rfl,rv,wv,HL.out.below i.out,bR.refl.next i.out⟩
 |true=>
  go_wp2_with(first
   |(refine cG rfl _ _ rfl u.heap.size rfl _ _ _ _ ad.out underlying29 rfl cJ ?_)
   |fail)
  refine(U.out _ (k.next i.out) (HL.out.below i.out)).mono ?_;rintro e N⟨rfl,b,c,Y,O⟩;have Z:Hid (bD N pl G b c):=Y;have aa:Hid (aJ N):=bR.tabs_in (k.next i.out) (HL.out.below i.out) O;have ab:Hid (bR pl rv wv w b c N):=(bR.refl.next i.out).trans O;clear Y O;by_cases hF:H=0
  ·subst hF;go_wp2_with fail;refine(DN.out _ aa.out).mono ?_;rintro e w6⟨rfl,B⟩;have C:Hid (Below N.heap.size N w6):=B;clear B;go_wp2;go_ret;refine⟨?_,b,c,Z.out.below C.out,ab.out.next C.out⟩;show _=Ending.returned (.string ⟨(uX++X).toArray⟩);first|(rw[<-dY];rfl)|rfl
  ·have ae:Hid (¬H=0):=hF;have f1:((H:Int)==0)=false:=bG.2 (by omega);have f2:¬(H:Int)=0:=by omega
   have af:Hid (G=g):=D ae.out;have ag:=hF;clear D;go_wp2_with fail;refine(DF.out _ aa.out).mono ?_;rintro e w6⟨rfl,B⟩;have C:Hid (Below N.heap.size N w6):=B;clear B;go_wp2;go_ret;refine⟨rfl,b,c,?_,ab.out.next C.out⟩;have h9:=Z.out.below C.out;rw[af.out]at h9;exact h9
end Go.Proofs.Z
namespace Go.Proofs.Z
open Hm Hw Go.RowKit Go.Shelf Go.Sort
theorem uZ{W:World}{k:Nat}{c a:Array Value}(h:W.heap[k]?=some (.cells c 5 (0,0)))(b:W.heap[k]?=some (.cells a 9 (0,0))):False:=dU h b (by decide) rfl
theorem QU{S:Nat->Prop}{A B:World}(a:aN S A B)(b:∀k,S k->∃c t,A.heap[k]?=some (.cells c t (0,0))):KeepsOthers A B:=
 a.others (fun k o e a=>by
  obtain⟨c,t,h⟩:=b k e;rw[h]at a;cases a;rfl)
theorem QV{A B C:World}(h:KeepsOthers A B)(k:KeepsOthers B C):KeepsOthers A C:=
 ⟨cH h.size k.size,fun i o hi a=>k.same i o (h.same i o hi a) a⟩
theorem QX:∀(os:List Obj)(w:World)(k:Nat),k<w.heap.size->(os.foldl World.alloc w).heap[k]?=w.heap[k]?
 |[],_,_,_=>rfl
 |a::os,w,k,h=>(QX os (w.alloc a) k (by simp;omega)).trans (heap_alloc_old _ _ h)
theorem QY:∀(os:List Obj)(w:World)(i:Nat)(o:Obj),os[i]?=some o->(os.foldl World.alloc w).heap[w.heap.size+i]?=some o
 |[],_,_,_,h=>by simp at h
 |a::os,w,0,o,h=>by
  cases h;exact(QX os (w.alloc a) w.heap.size (by simp)).trans (heap_alloc_new _ _)
 |a::os,w,i+1,o,h=>by
  have:=QY os (w.alloc a) i o (by simpa using h);rw[World.size_alloc]at this;rw[show w.heap.size+(i+1)=w.heap.size+1+i by omega];exact this
structure eX where
 w:World
 pf:Nat
 pr:Nat
 pl:Nat
 rs:List cF
 rlv:Value
 s:ByteArray
 y:Int
 v0:Value
 rv0:Value
 wv0:Value
def eX.May(c:eX)(k:Nat):Prop:=k=c.pf∨k=c.pl∨c.v0.ownBlock=some k∨c.rv0.ownBlock=some k∨c.wv0.ownBlock=some k
structure eX.Ok(c:eX):Prop where
 f:c.pf<c.w.heap.size
 r:c.pr<c.w.heap.size
 l:c.pl<c.w.heap.size
 d1:c.pf≠c.pl
 d2:c.pr≠c.pf
 d3:c.pr≠c.pl
 rl:∀k,c.rlv.ownBlock=some k->k<c.w.heap.size/\¬c.May k
 lo:11<=c.w.heap.size
 o:∀k,c.v0.ownBlock=some k∨c.rv0.ownBlock=some k∨c.wv0.ownBlock=some k->k<c.w.heap.size/\k≠c.pf/\k≠c.pl/\k≠c.pr
 s2:∀k,c.v0.ownBlock=some k->c.rv0.ownBlock≠some k
structure lW(c:eX)(W:World):Prop where
 b0:W.heap[c.w.heap.size]?=some (.cells #[.pointer (some ⟨c.pr,0,none⟩)] 56 (0,0))
 b1:W.heap[c.w.heap.size+1]?=some (.cells #[.pointer (some ⟨c.pl,0,none⟩)] 63 (0,0))
 b2:W.heap[c.w.heap.size+2]?=some (.cells #[.int .i64 c.y] 3 (0,0))
 b4:W.heap[c.w.heap.size+4]?=some (.cells #[.pointer (some ⟨c.pf,0,none⟩)] 45 (0,0))
 b5:W.heap[c.w.heap.size+5]?=some (.cells #[.string c.s] 9 (0,0))
 rules:jJ W c.pr c.rs c.rlv
 kept:aN c.May c.w W
def eX.Fix(c:eX)(k:Nat):Prop:=k=c.w.heap.size∨k=c.w.heap.size+1∨k=c.w.heap.size+2∨k=c.w.heap.size+4∨k=c.w.heap.size+5∨k=c.pr∨c.rlv.ownBlock=some k
theorem lW.cells{c:eX}{W:World}(h:lW c W){k:Nat}(a:c.Fix k):∃b t,W.heap[k]?=some (.cells b t (0,0)):=by
 rcases a with rfl|rfl|rfl|rfl|rfl|rfl|e
 ·exact⟨_,_,h.b0⟩
 ·exact⟨_,_,h.b1⟩
 ·exact⟨_,_,h.b2⟩
 ·exact⟨_,_,h.b4⟩
 ·exact⟨_,_,h.b5⟩
 ·exact⟨_,_,h.rules.row⟩
 ·obtain⟨d,f⟩:=dN h.rules.own e;exact⟨_,_,f⟩
theorem lW.keep{c:eX}{A B:World}{S:Nat->Prop}(h:lW c A)(a:aN S A B)(b:∀k,c.Fix k->¬S k)(hw:∀k,k<c.w.heap.size->S k->c.May k):lW c B where
 b0:=(a.block _ (aM.1 h.b0).1 (b _ (.inl rfl))).trans h.b0
 b1:=(a.block _ (aM.1 h.b1).1 (b _ (.inr (.inl rfl)))).trans h.b1
 b2:=(a.block _ (aM.1 h.b2).1 (b _ (.inr (.inr (.inl rfl))))).trans h.b2
 b4:=(a.block _ (aM.1 h.b4).1 (b _ (.inr (.inr (.inr (.inl rfl)))))).trans h.b4
 b5:=(a.block _ (aM.1 h.b5).1 (b _ (.inr (.inr (.inr (.inr (.inl rfl))))))).trans h.b5
 rules:=⟨(a.block _ (aM.1 h.rules.row).1 (b _ (.inr (.inr (.inr (.inr (.inr (.inl rfl)))))))).trans h.rules.row,cQ h.rules.own a (fun _ e=>b _ (.inr (.inr (.inr (.inr (.inr (.inr e)))))))⟩
 kept:=h.kept.trans a hw
theorem lW.size{c:eX}{W:World}(h:lW c W):c.w.heap.size+6<=W.heap.size:=(aM.1 h.b5).1
theorem eX.Ok.fix{c:eX}(h:c.Ok){k:Nat}(d:c.Fix k):¬c.May k/\k≠c.w.heap.size+3/\k<c.w.heap.size+6:=by
 have h1:=h.f;have h2:=h.r;have h3:=h.l;have h4:=h.d2;have h5:=h.d3;have a:∀j,c.w.heap.size<=j->¬c.May j:=fun j g e=>by
  rcases e with e|e|e
  ·omega
  ·omega
  ·have:=(h.o j e).1;omega
 rcases d with e|e|e|e|e|e|e
 ·exact⟨a _ (by omega),by omega,by omega⟩
 ·exact⟨a _ (by omega),by omega,by omega⟩
 ·exact⟨a _ (by omega),by omega,by omega⟩
 ·exact⟨a _ (by omega),by omega,by omega⟩
 ·exact⟨a _ (by omega),by omega,by omega⟩
 ·refine⟨fun b=>?_,by omega,by omega⟩;rcases b with b|b|b
  ·omega
  ·omega
  ·exact(h.o k b).2.2.2 e
 ·have:=h.rl k e;exact⟨this.2,by omega,by omega⟩
structure gG(c:eX)(g:aG)(txt:List UInt8)(v bv rv wv:Value)(W:World):Prop where
 bld:lV W (c.w.heap.size+3) bv txt
 log:bD W c.pl g rv wv
 nil:txt=[]->bv= .slice none 0 0
 lb:∀k,bv.ownBlock=some k->c.w.heap.size+6<=k
 lr:∀k,rv.ownBlock=some k->c.rv0.ownBlock=some k∨c.w.heap.size+6<=k
 lw:∀k,wv.ownBlock=some k->c.wv0.ownBlock=some k∨c.w.heap.size+6<=k
 lv:∀k,v.ownBlock=some k->c.v0.ownBlock=some k∨c.w.heap.size+6<=k
 s1:∀k,bv.ownBlock=some k->rv.ownBlock≠some k/\v.ownBlock≠some k
 s2:∀k,v.ownBlock=some k->rv.ownBlock≠some k
theorem gG.bt{c:eX}{g:aG}{a:List UInt8}{v b rv wv:Value}{W:World}(h:gG c g a v b rv wv W){k:Nat}(e:b.ownBlock=some k):∃c,W.heap[k]?=some (.cells c 5 (0,0)):=dN h.bld.own e
theorem gG.rt{c:eX}{g:aG}{a:List UInt8}{v b rv wv:Value}{W:World}(h:gG c g a v b rv wv W){k:Nat}(e:rv.ownBlock=some k):∃c,W.heap[k]?=some (.cells c 5 (0,0)):=dN h.log.recs e
theorem gG.wt{c:eX}{g:aG}{a:List UInt8}{v b rv wv:Value}{W:World}(h:gG c g a v b rv wv W){k:Nat}(e:wv.ownBlock=some k):∃c,W.heap[k]?=some (.cells c 9 (0,0)):=(jF h.log.wai e).2
theorem gG.may{c:eX}{g:aG}{a:List UInt8}{v b rv wv:Value}{W:World}(h:gG c g a v b rv wv W){k:Nat}(e:v.ownBlock=some k∨rv.ownBlock=some k∨wv.ownBlock=some k):(c.v0.ownBlock=some k∨c.rv0.ownBlock=some k∨c.wv0.ownBlock=some k)∨c.w.heap.size+6<=k:=by
 rcases e with e|e|e
 ·exact(h.lv k e).imp .inl id
 ·exact(h.lr k e).imp (fun e=> .inr (.inl e)) id
 ·exact(h.lw k e).imp (fun e=> .inr (.inr e)) id
theorem gG.out{c:eX}{g:aG}{a:List UInt8}{v b rv wv:Value}{W:World}(h:gG c g a v b rv wv W)(d:c.Ok){k:Nat}(e:v.ownBlock=some k∨rv.ownBlock=some k∨wv.ownBlock=some k):(k<c.w.heap.size/\k≠c.pf/\k≠c.pl/\k≠c.pr)∨c.w.heap.size+6<=k:=(h.may e).imp (d.o k) id
theorem gG.old{c:eX}{g:aG}{a:List UInt8}{v b rv wv:Value}{W:World}(h:gG c g a v b rv wv W){k:Nat}(e:v.ownBlock=some k∨rv.ownBlock=some k∨wv.ownBlock=some k)(d:k<c.w.heap.size+6):c.May k:=by
 rcases h.may e with e|e
 ·exact .inr (.inr e)
 ·omega
theorem gG.keep{c:eX}{g:aG}{a:List UInt8}{v b rv wv:Value}{A B:World}{S:Nat->Prop}(h:gG c g a v b rv wv A)(d:aN S A B)(h1:¬S (c.w.heap.size+3))(h2:¬S c.pl)(h3:∀k,b.ownBlock=some k∨rv.ownBlock=some k∨wv.ownBlock=some k->¬S k):gG c g a v b rv wv B:=
 ⟨h.bld.keep d h1 (fun k e=>h3 k (.inl e)),h.log.keep d h2 (fun k e=>h3 k (.inr (.inl e))) (fun k e=>h3 k (.inr (.inr e))),h.nil,h.lb,h.lr,h.lw,h.lv,h.s1,h.s2⟩
theorem gG.frames{c:eX}{g:aG}{i:List UInt8}{v n rv wv:Value}{A B:World}{v':Value}{f:aE}(b:c.Ok)(h:gG c g i v n rv wv A)(p:c.w.heap.size+6<=A.heap.size)(o:aW A c.pf f v)(j:dF c.pf v A v' B):gG c g i v' n rv wv B:=by
 have hF:=b.f;have q:=b.l;have r:=b.d1;have m:∀k,v.ownBlock=some k->∃c,A.heap[k]?=some (.cells c 5 (0,0)):=fun k e=>dN o.own e;have K:=h.keep j.kept (fun e=>by
   rcases e with e|e
   ·omega
   ·have:=h.out b (.inl e);omega) (fun e=>by
   rcases e with e|e
   ·omega
   ·have:=h.out b (.inl e);omega) (fun k a e=>by
   rcases a with a|a|a
   ·rcases e with e|e
    ·have:=h.lb _ a;omega
    ·exact(h.s1 k a).2 e
   ·rcases e with e|e
    ·have:=h.out b (.inr (.inl a));omega
    ·exact h.s2 k e a
   ·rcases e with e|e
    ·have:=h.out b (.inr (.inr a));omega
    ·obtain⟨c,h1⟩:=m k e;obtain⟨s,h2⟩:=h.wt a;exact uZ h1 h2)
 refine⟨K.bld,K.log,K.nil,K.lb,K.lr,K.lw,fun k e=>?_,fun k e=>⟨(h.s1 k e).1,fun d=>?_⟩,fun k e d=>?_⟩
 ·rcases j.lies k e with e|e
  ·exact h.lv k e
  ·exact .inr (by omega)
 ·rcases j.lies k d with d|d
  ·exact(h.s1 k e).2 d
  ·obtain⟨c,h1⟩:=h.bt e;have:=(aM.1 h1).1;omega
 ·rcases j.lies k e with e|e
  ·exact h.s2 k e d
  ·obtain⟨c,h1⟩:=h.rt d;have:=(aM.1 h1).1;omega
theorem gG.logs{c:eX}{g:aG}{n:List UInt8}{v p rv wv:Value}{A B:World}{q:aG}{b d:Value}{f:aE}(i:c.Ok)(h:gG c g n v p rv wv A)(u:c.w.heap.size+6<=A.heap.size)(r:aW A c.pf f v)(m:bR c.pl rv wv A b d B)(s:bD B c.pl q b d):gG c q n v p b d B/\aW B c.pf f v:=by
 have hF:=i.f;have x:=i.l;have y:=i.d1;have o:∀k,v.ownBlock=some k->∃c,A.heap[k]?=some (.cells c 5 (0,0)):=fun k e=>dN r.own e;refine⟨⟨h.bld.keep m.kept (fun e=>?_) (fun k j e=>?_),s,h.nil,h.lb,fun k e=>?_,fun k e=>?_,h.lv,fun k e=>⟨fun a=>?_,(h.s1 k e).2⟩,fun k e a=>?_⟩,r.keep m.kept (fun e=>?_) (fun k j e=>?_)⟩
 ·rcases e with e|e
  ·omega
  ·have:=h.out i (.inr e);omega
 ·rcases e with e|e|e
  ·have:=h.lb _ j;omega
  ·exact(h.s1 k j).1 e
  ·obtain⟨c,h1⟩:=h.bt j;obtain⟨t,h2⟩:=h.wt e;exact uZ h1 h2
 ·rcases m.lr k e with e|e
  ·exact h.lr k e
  ·exact .inr (by omega)
 ·rcases m.lw k e with e|e
  ·exact h.lw k e
  ·exact .inr (by omega)
 ·rcases m.lr k a with a|a
  ·exact(h.s1 k e).1 a
  ·obtain⟨c,h1⟩:=h.bt e;have:=(aM.1 h1).1;omega
 ·rcases m.lr k a with a|a
  ·exact h.s2 k e a
  ·obtain⟨c,h1⟩:=o k e;have:=(aM.1 h1).1;omega
 ·rcases e with e|e
  ·exact i.d1 e
  ·have:=h.out i (.inr e);omega
 ·rcases e with e|e|e
  ·have:=h.out i (.inl j);omega
  ·exact h.s2 k j e
  ·obtain⟨c,h1⟩:=o k j;obtain⟨t,h2⟩:=h.wt e;exact uZ h1 h2
theorem gG.builds{c:eX}{g:aG}{n:List UInt8}{v p rv wv:Value}{A B:World}{a:List UInt8}{d:Value}{f:aE}(i:c.Ok)(h:gG c g n v p rv wv A)(t:c.w.heap.size+6<=A.heap.size)(q:aW A c.pf f v)(j:uY (c.w.heap.size+3) p A d B)(r:lV B (c.w.heap.size+3) d a)(s:a≠[]):gG c g a v d rv wv B/\aW B c.pf f v:=by
 have hF:=i.f;have u:=i.l;have o:∀k,v.ownBlock=some k->∃c,A.heap[k]?=some (.cells c 5 (0,0)):=fun k e=>dN q.own e;refine⟨⟨r,h.log.keep j.kept (fun e=>?_) (fun k b e=>?_) (fun k b e=>?_),fun e=>absurd e s,fun k e=>?_,h.lr,h.lw,h.lv,fun k e=>⟨fun m=>?_,fun m=>?_⟩,h.s2⟩,q.keep j.kept (fun e=>?_) (fun k b e=>?_)⟩
 ·rcases e with e|e
  ·omega
  ·have:=h.lb _ e;omega
 ·rcases e with e|e
  ·have:=h.out i (.inr (.inl b));omega
  ·exact(h.s1 k e).1 b
 ·rcases e with e|e
  ·have:=h.out i (.inr (.inr b));omega
  ·obtain⟨c,h1⟩:=h.bt e;obtain⟨x,h2⟩:=h.wt b;exact uZ h1 h2
 ·rcases j.lies k e with e|e
  ·exact h.lb k e
  ·omega
 ·rcases j.lies k e with e|e
  ·exact(h.s1 k e).1 m
  ·obtain⟨c,h1⟩:=h.rt m;have:=(aM.1 h1).1;omega
 ·rcases j.lies k e with e|e
  ·exact(h.s1 k e).2 m
  ·obtain⟨c,h1⟩:=o k m;have:=(aM.1 h1).1;omega
 ·rcases e with e|e
  ·omega
  ·have:=h.lb _ e;omega
 ·rcases e with e|e
  ·have:=h.out i (.inl b);omega
  ·exact(h.s1 k e).2 b
abbrev qP(b:Nat):={t:List UInt8 // vN b t}
def mF(c:eX)(b:Nat)(g0:aG)(pre:List (qP b))(v:Value)(W:World):Prop:=
 lW c W/\∃bv rv wv,gG c (dD c.rs c.y g0 (pre.map (·.1))).1 (dD c.rs c.y g0 (pre.map (·.1))).2 v bv rv wv W
theorem mF.step{c:eX}{b:Nat}{g:aG}{A B:World}{a:List (qP b)}{v v':Value}{f:aE}(i:c.Ok)(h:mF c b g a v A)(m:aW A c.pf f v)(j:dF c.pf v A v' B):mF c b g a v' B:=by
 obtain⟨hw,n,rv,wv,d⟩:=h;refine⟨hw.keep j.kept (fun k l e=>?_) (fun k l e=>?_),n,rv,wv,d.frames i hw.size m j⟩
 ·have h1:=i.fix l;rcases e with e|e
  ·exact h1.1 (.inl e)
  ·exact h1.1 (d.old (.inl e) h1.2.2)
 ·rcases e with e|e
  ·exact .inl e
  ·exact d.old (.inl e) (by omega)
theorem mF.cells{c:eX}{b:Nat}{d:aG}{W:World}{a:List (qP b)}{v:Value}(h:mF c b d a v W):W.cell? ⟨c.w.heap.size+4,0,none⟩=some (.pointer (some ⟨c.pf,0,none⟩))/\W.cell? ⟨c.w.heap.size+5,0,none⟩=some (.string c.s):=by
 refine⟨?_,?_⟩ <;> simp[World.cell?,h.1.b4,h.1.b5]
theorem mF.put{c:eX}{b:Nat}{p:aG}{W:World}{g:List (qP b)}{v:Value}{f:aE}{l:Nat}{o i:Obj}(u:c.w.heap.size<=l)(h:mF c b p g v W)(j:aW W c.pf f v)(q:W.heap[l]?=some o)(m:o.isCells=false):mF c b p g v (W.putObj l i)/\aW (W.putObj l i) c.pf f v:=by
 obtain⟨hw,r,rv,wv,d⟩:=h;have no:∀{k:Nat}{c:Array Value}{t:TypeId},W.heap[k]?=some (.cells c t (0,0))->¬k=l:=fun a e=>by
  subst e;rw[q]at a;cases a;cases m
 obtain⟨x,_,n⟩:=d.bld.row;refine⟨⟨hw.keep (pA i) (fun k a=>?_) (fun k a e=>by omega),r,rv,wv,d.keep (pA i) (no n) (no d.log.row) (fun k a=>?_)⟩,j.keep (pA i) (no j.row) (fun k e=>?_)⟩
 ·obtain⟨y,t,s⟩:=hw.cells a;exact no s
 ·rcases a with a|a|a
  ·obtain⟨c,h1⟩:=d.bt a;exact no h1
  ·obtain⟨c,h1⟩:=d.rt a;exact no h1
  ·obtain⟨c,h1⟩:=d.wt a;exact no h1
 ·obtain⟨c,h1⟩:=dN j.own e;exact no h1
theorem mF.below{c:eX}{b:Nat}{d:aG}{A B:World}{a:List (qP b)}{v:Value}{f:aE}(h:mF c b d a v A)(g:aW A c.pf f v)(i:Below A.heap.size A B):mF c b d a v B/\aW B c.pf f v:=by
 obtain⟨hw,j,rv,wv,k⟩:=h;have K:aN (fun _=>False) A B:=aN.of_below i;exact⟨⟨hw.keep K (fun _ _ e=>e) (fun _ _ e=>e.elim),j,rv,wv,k.keep K (fun e=>e) (fun e=>e) (fun _ _ e=>e)⟩,g.keep K (fun e=>e) (fun _ _ e=>e)⟩
theorem lW.logs{c:eX}{g:aG}{b:List UInt8}{v l rv wv:Value}{A B:World}{d f:Value}(m:c.Ok)(h:lW c A)(a:gG c g b v l rv wv A)(i:bR c.pl rv wv A d f B):lW c B/\KeepsOthers A B:=by
 refine⟨h.keep i.kept (fun k j e=>?_) (fun k j e=>?_),QU i.kept (fun k e=>?_)⟩
 ·have h1:=m.fix j;rcases e with e|e
  ·exact h1.1 (.inr (.inl e))
  ·exact h1.1 (a.old (.inr e) h1.2.2)
 ·rcases e with e|e
  ·exact .inr (.inl e)
  ·exact a.old (.inr e) (by omega)
 ·rcases e with e|e|e
  ·subst e;exact⟨_,_,a.log.row⟩
  ·obtain⟨c,h1⟩:=a.rt e;exact⟨_,_,h1⟩
  ·obtain⟨c,h1⟩:=a.wt e;exact⟨_,_,h1⟩
theorem lW.builds{c:eX}{g:aG}{b:List UInt8}{v f rv wv:Value}{A B:World}{d:Value}(l:c.Ok)(h:lW c A)(a:gG c g b v f rv wv A)(i:uY (c.w.heap.size+3) f A d B):lW c B/\KeepsOthers A B:=by
 refine⟨h.keep i.kept (fun k j e=>?_) (fun k j e=>?_),QU i.kept (fun k e=>?_)⟩
 ·have h1:=l.fix j;rcases e with e|e
  ·exact h1.2.1 e
  ·have:=a.lb k e;omega
 ·rcases e with e|e
  ·omega
  ·have:=a.lb k e;omega
 ·rcases e with e|e
  ·subst e;obtain⟨p,_,m⟩:=a.bld.row;exact⟨_,_,m⟩
  ·obtain⟨c,h1⟩:=a.bt e;exact⟨_,_,h1⟩
theorem lW.tabs{c:eX}{W:World}(a:aJ c.w)(b:c.Ok)(d:∀k,c.May k->11<=k)(h:lW c W):aJ W:=
 a.below (h.kept.below (B:=11) (fun k f e=>by have:=d k e;omega) b.lo) (aC _)
end Go.Proofs.Z

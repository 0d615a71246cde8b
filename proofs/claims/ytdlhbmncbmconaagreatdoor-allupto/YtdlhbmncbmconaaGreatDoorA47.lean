/- Pressed by program out of Gg Gh Gi Gj Gk. -/
import Derived.Test.YtdlhbmncbmconaaGreatDoorA46
namespace Go.Hm
theorem QZ(rs:List cF)(y:Int)(g:aG)(h:g.messages<=65535)(a:List (List UInt8)):(dD rs y g a).1.records.length<=g.records.length+300*a.length/\(dD rs y g a).1.messages<=65535/\(dD rs y g a).1.room=g.room/\(dD rs y g a).2.length<=31*a.length:=by
 have:=CR rs y g h a a.length (aC _)
 rwa [List.take_length]at this
theorem aCw(rs:List cF)(y:Int)(g:aG)(t:List UInt8):(eW rs y g t).2≠[]:=by
 unfold eW rP
 repeat' split
 all_goals simp[uW,mM,uX,xZ]
end Go.Hm
namespace Go.Proofs.Z
open Hm Hw Tryz Go.RowKit Go.Shelf Go.Sort
attribute [local go_sem] Oper.semAt_some
theorem aCx{b:Nat}(q:b<=200)(x:qP b)(pr pl:Nat)(rs:List cF)(rlv:Value)(g:aG)(rv wv:Value)(y:Int)(w:World)(j:aJ w)(k:jJ w pr rs rlv)(h:∀r∈rs,r.small)(l:rs.length<=1000)(a:bD w pl g rv wv)(m:uK g)(c:g.messages<=65535):
  Calls prog 67 #[.pointer (some ⟨pr,0,none⟩),.pointer (some ⟨pl,0,none⟩),.string ⟨x.1.toArray⟩,.int .i64 y] w fun e i=>e= .returned (.string ⟨(eW rs y g x.1).2.toArray⟩)/\∃d f,bD i pl (eW rs y g x.1).1 d f/\bR pl rv wv w d f i:=by
 obtain⟨t,n⟩:=x;rcases n with rfl|⟨o,rfl,s⟩
 ·refine(aCj pr pl y w).mono ?_;rintro e i⟨rfl,rfl⟩;have p:eW rs y g [33]=(g,uW):=by simp[eW]
  dsimp only;rw[p];exact⟨rfl,rv,wv,a,bR.refl⟩
 ·exact aCk pr pl rs rlv g rv wv o (by omega) y w j k h l a m c
set_option maxRecDepth 100000 in
set_option maxHeartbeats 2000000 in
theorem aCy(c:eX)(f0:aE)(b:aG)(hs:c.s.size<=2000000)(y1:1<=c.y)(y2:c.y<=9999)(hT:aJ c.w)(hc:c.Ok)(hm:∀k,c.May k->11<=k)(U:f0.Ok)(hf:aW c.w c.pf f0 c.v0)(hr:jJ c.w c.pr c.rs c.rlv)(aA:∀r∈c.rs,r.small)(hn:c.rs.length<=1000)(hl:bD c.w c.pl b c.rv0 c.wv0)(a1:b.records.length<=100000000000)(aj:b.messages<=65535)(aB:b.room<=1000):
  CallsIn Fence.wide 4 prog 39 #[.pointer (some ⟨c.pf,0,none⟩),.pointer (some ⟨c.pr,0,none⟩),.pointer (some ⟨c.pl,0,none⟩),.string c.s,.int .i64 c.y] c.w fun e m=>e= .returned (.tuple #[.string ⟨(dD c.rs c.y b (f0.feed c.s.data.toList).2).2.toArray⟩,.int .i64 0])/\
   ∃v rv wv,aW m c.pf (f0.feed c.s.data.toList).1 v/\bD m c.pl (dD c.rs c.y b (f0.feed c.s.data.toList).2).1 rv wv/\aN c.May c.w m/\(∀k,v.ownBlock=some k->rv.ownBlock≠some k)/\
    (∀k,v.ownBlock=some k->c.v0.ownBlock=some k∨c.w.heap.size<=k)/\(∀k,rv.ownBlock=some k->c.rv0.ownBlock=some k∨c.w.heap.size<=k)/\(∀k,wv.ownBlock=some k->c.wv0.ownBlock=some k∨c.w.heap.size<=k):=by
 obtain⟨zs,V⟩:∃zs:List (qP f0.bound),zs.map (·.1)=(f0.feed c.s.data.toList).2:=⟨(f0.feed c.s.data.toList).2.attach.map fun x=>⟨x.1,EN _ U x.1 x.2⟩,by simp⟩;have aD:=U.b2;rw[<-V];have aH:Hid (∀w,Calls prog 57 #[.pointer (some ⟨c.pf,0,none⟩),.string c.s] w fun e m=>e= .returned (.func (.func 93) #[] #[.pointer (some ⟨w.heap.size+1,0,none⟩),.pointer (some ⟨w.heap.size,0,none⟩)])/\
   m=(w.alloc (.cells #[.pointer (some ⟨c.pf,0,none⟩)] 45)).alloc (.cells #[.string c.s] 9)):=fun w=>GQ c.pf c.s w
 have IY:Hid (∀w,Calls prog 51 #[.int .i64 c.y] w fun e m=>e= .returned (.bool true)/\m=w):=fun w=>by
  have:=lF c.y w
  rwa [show dB c.y=true by simp[dB];omega]at this
 have HF:Hid (aW c.w c.pf f0 c.v0):=hf;have HR:Hid (jJ c.w c.pr c.rs c.rlv):=hr;have HL:Hid (bD c.w c.pl b c.rv0 c.wv0):=hl;have HZ:=show Hid _ from V;have HM:=show Hid _ from hm;have n:=show Hid _ from hc;clear hf hr hl V hm;refine callsIn_of_wp_marks func39 rfl trivial ?_ rfl;simp only[ntmps39,pR,bU,dS,Nat.reduceAdd,Nat.reduceSub,rV,rR,List.push_toArray,rQ,iR,eN]
 gi_wp2_with fail
 refine⟨trivial,?_⟩;refine(callsIn_wide.2 (IY.out _)).mono ?_;rintro e m⟨rfl,rfl⟩
 gi_wp2_with fail
 refine⟨trivial,?_⟩;refine(callsIn_wide.2 (aH.out _)).mono ?_;rintro e m⟨rfl,rfl⟩
 gi_wp2_with fail
 simp only[Nat.add_assoc,Nat.reduceAdd];obtain⟨R,C⟩:∃R,((((((c.w.alloc (.cells #[.pointer (some ⟨c.pr,0,none⟩)] 56)).alloc (.cells #[.pointer (some ⟨c.pl,0,none⟩)] 63)).alloc (.cells #[.int .i64 c.y] 3)).alloc (.cells #[.pointer none,.slice none 0 0] 127)).alloc (.cells #[.pointer (some ⟨c.pf,0,none⟩)] 45)).alloc (.cells #[.string c.s] 9))=R:=⟨_,rfl⟩;have hz:R.heap.size=c.w.heap.size+6:=by subst C;simp
 have G:Below c.w.heap.size c.w R:=by
  rw[<-C];exact((((((aF _ c.w).alloc (aC _) _).alloc (by simp) _).alloc (by simp;omega) _).alloc (by simp;omega) _).alloc (by simp;omega) _).alloc (by simp;omega) _
 have j:∀(i:Nat)(o:Obj),(([.cells #[.pointer (some ⟨c.pr,0,none⟩)] 56 (0,0),.cells #[.pointer (some ⟨c.pl,0,none⟩)] 63 (0,0),.cells #[.int .i64 c.y] 3 (0,0),.cells #[.pointer none,.slice none 0 0] 127 (0,0),.cells #[.pointer (some ⟨c.pf,0,none⟩)] 45 (0,0),.cells #[.string c.s] 9 (0,0)]:List Obj)[i]?=some o)->R.heap[c.w.heap.size+i]?=some o:=by
  intro i o h;rw[<-C];exact QY _ c.w i o h
 have J0:mF c f0.bound b [] c.v0 R:=by
  have KF:aN (fun _=>False) c.w R:=aN.of_below G;refine⟨⟨j 0 _ rfl,j 1 _ rfl,j 2 _ rfl,j 4 _ rfl,j 5 _ rfl,HR.out.below G,KF.mono (fun _ _ e=>e.elim)⟩,.slice none 0 0,c.rv0,c.wv0,⟨⟨⟨_,.inl rfl,j 3 _ rfl⟩,World.ownsRow_nil _ _ _ _⟩,HL.out.below G,fun _=>rfl,fun k e=>(by cases e),fun k e=> .inl e,fun k e=> .inl e,fun k e=> .inl e,fun k e=>(by cases e),n.out.s2⟩⟩
 have F0:aW R c.pf f0 c.v0:=HF.out.keep (S:=fun _=>False) (aN.of_below G) (fun e=>e) (fun _ _ e=>e);rw[C];clear C j;refine DK rfl (by omega) (gf:=93) (lb:=#[.pointer (some ⟨c.w.heap.size+5,0,none⟩),.pointer (some ⟨c.w.heap.size+4,0,none⟩)]) rfl trivial (enters_of func93 (by kernel_rfl) rfl)
  (aCv (fun z:qP f0.bound=>z.1) zs (4-1) (by omega) (c.w.heap.size+5) (c.w.heap.size+4) c.pf c.s (by omega) f0 c.v0 U HZ.out (mF c f0.bound b) (fun a g u A u' B h E aI=>h.step n.out E aI) (fun a u A h=>h.cells)) (fun _=>rfl) ?put ?start
  (fun x=>{tmps:=#[.pointer (some ⟨c.pf,0,none⟩),.pointer (some ⟨c.pr,0,none⟩),.pointer (some ⟨c.pl,0,none⟩),.string c.s,.int .i64 c.y,undef,.pointer (some ⟨c.w.heap.size,0,none⟩),.pointer (some ⟨c.w.heap.size+1,0,none⟩),undef,.pointer (some ⟨c.w.heap.size+2,0,none⟩),.string ⟨#[]⟩,.int .i64 0,.pointer (some ⟨c.w.heap.size+3,0,none⟩),.string ⟨x.1.toArray⟩,
   .pointer (some ⟨c.pf,0,none⟩),.bool false,.bool false,.pointer (some ⟨c.pr,0,none⟩),.bool false,.bool false,.bool false,.pointer (some ⟨c.pl,0,none⟩),.bool false,.bool false,.bool false,.int .i64 c.y,.bool true,.bool false,.bool false,.pointer (some ⟨c.pf,0,none⟩),.string c.s,.func (.func 93) #[] #[.pointer (some ⟨c.w.heap.size+5,0,none⟩),.pointer (some ⟨c.w.heap.size+4,0,none⟩)],
   .string ⟨x.1.toArray⟩,undef,undef,undef,undef,undef,undef,undef,undef],defers:=[]}) ?assign ?body ?done
 case put=>
  rintro a⟨g,u⟩W l o o' hl⟨X,E⟩ho aK;exact mF.put (by omega) X E ho aK
 case start=>
  intro o o';exact mF.below J0 F0 (((aF _ _).alloc (aC _) _).alloc (by simp) _)
 case assign=>
  intro l x W K hK;unfold sP
  gi_wp2
  exact hK
 case body=>
  rintro l a⟨g,u⟩x W⟨X,E⟩a2;dsimp only at X E⊢;obtain⟨hw,bv,rv,wv,H⟩:=X;have t0:W.cell? ⟨c.w.heap.size,0,none⟩=some (.pointer (some ⟨c.pr,0,none⟩)):=by simp[World.cell?,hw.b0]
  have t1:W.cell? ⟨c.w.heap.size+1,0,none⟩=some (.pointer (some ⟨c.pl,0,none⟩)):=by simp[World.cell?,hw.b1]
  have t2:W.cell? ⟨c.w.heap.size+2,0,none⟩=some (.int .i64 c.y):=by simp[World.cell?,hw.b2]
  obtain⟨q1,q2,q3,q4⟩:=QZ c.rs c.y b aj (a.map (·.1));have aL:(dD c.rs c.y b (a.map (·.1))).1.waiting.length<=65535/\(dD c.rs c.y b (a.map (·.1))).1.had<=65535:=by unfold aG.messages at q2;omega
  rw[eS]at q1 q4;have ak:aJ W:=hw.tabs hT n.out HM.out;have I:Hid (Calls prog 67 #[.pointer (some ⟨c.pr,0,none⟩),.pointer (some ⟨c.pl,0,none⟩),.string ⟨x.1.toArray⟩,.int .i64 c.y] W fun e m=>e= .returned (.string ⟨(eW c.rs c.y (dD c.rs c.y b (a.map (·.1))).1 x.1).2.toArray⟩)/\∃al am,bD m c.pl (eW c.rs c.y (dD c.rs c.y b (a.map (·.1))).1 x.1).1 al am/\bR c.pl rv wv W al am m):=aCx aD x c.pr c.pl c.rs c.rlv _ rv wv c.y W ak hw.rules aA hn H.log ⟨by omega,by omega,by omega,by omega⟩ q2;have an:=(CQ c.rs c.y (dD c.rs c.y b (a.map (·.1))).1 x.1 q2).2.2.2;have Y:=aCw c.rs c.y (dD c.rs c.y b (a.map (·.1))).1 x.1;have ao:dD c.rs c.y b ((a++[x]).map (·.1))=((eW c.rs c.y (dD c.rs c.y b (a.map (·.1))).1 x.1).1,(dD c.rs c.y b (a.map (·.1))).2++((eW c.rs c.y (dD c.rs c.y b (a.map (·.1))).1 x.1).2++[10])):=by
   rw[iN,jX,List.map_nil,CP];rfl
  have J:=show Hid _ from ao;have HW:=show Hid _ from hw;have d:=show Hid _ from H;have HG:=show Hid _ from E;have F:=q4;clear hw H E ao q1 q2 q3 q4 aL ak;generalize eW c.rs c.y (dD c.rs c.y b (a.map (·.1))).1 x.1=r at I J an Y;obtain⟨g2,ap⟩:=r;generalize dD c.rs c.y b (a.map (·.1))=r at d J F;obtain⟨g1,L⟩:=r;dsimp only at I J an Y d F
  gi_wp2_with fail
  refine⟨trivial,?_⟩;refine CallsIn.mono (show CallsIn (Fence.wide.inRound l) 1 _ _ _ _ _ from callsIn_wide.2 I.out) ?_;rintro e W2⟨rfl,aO,aP,aq,Z⟩;have aa:=d.out.logs n.out HW.out.size HG.out Z aq;have ab:=HW.out.logs n.out d.out Z;have M:=show Hid _ from aa.1;have ar:=show Hid _ from aa.2;have N:=show Hid _ from ab.1;have au:=show Hid _ from ab.2;clear aa ab aq Z t0 t1 t2 d HW HG I
  gi_wp2_with fail
  refine⟨trivial,?_⟩;refine CallsIn.mono (show CallsIn (Fence.wide.inRound l) 1 _ _ _ _ _ from callsIn_wide.2 (aCp (c.w.heap.size+3) bv L ap W2 M.out.bld (by omega) (by omega) (by have:=N.out.size;have:=n.out.lo;omega))) ?_;rintro e W3⟨⟨u3,rfl⟩,aQ,av,ac⟩;have ad:=M.out.builds n.out N.out.size ar.out ac av (by simp[Y]);have ae:=N.out.builds n.out M.out ac;have O:=show Hid _ from ad.1;have aw:=show Hid _ from ad.2;have P:=show Hid _ from ae.1;have ax:=show Hid _ from QV au.out ae.2;clear ad ae av ac M N ar au
  gi_wp2_with fail
  refine⟨trivial,?_⟩;refine CallsIn.mono (show CallsIn (Fence.wide.inRound l) 1 _ _ _ _ _ from callsIn_wide.2 (aCq (c.w.heap.size+3) aQ (L++ap) 10 W3 O.out.bld (by rw[dL];omega) (by have:=P.out.size;have:=n.out.lo;omega))) ?_;rintro e W4⟨⟨u4,rfl⟩,aR,ay,af⟩;have ag:=O.out.builds n.out P.out.size aw.out af ay (by simp);have ah:=P.out.builds n.out O.out af;have aS:=show Hid _ from ag.1;have aT:=show Hid _ from ag.2;have aU:=show Hid _ from ah.1;have aV:=show Hid _ from QV ax.out ah.2;clear ag ah ay af O P aw ax
  gi_wp2
  refine⟨aV.out,⟨aU.out,aR,aO,aP,?_⟩,aT.out⟩;rw[J.out];have:=aS.out;rw[jH]at this;exact this
 case done=>
  rintro D xs⟨g,u⟩W hD⟨rfl,aX⟩⟨X,E⟩hK;dsimp only at X E;obtain⟨hw,bv,rv,wv,H⟩:=X;have ST:Hid (Calls prog 69 #[.pointer (some ⟨c.w.heap.size+3,0,none⟩)] W fun e m=>e= .returned (.string ⟨(dD c.rs c.y b (xs.map (·.1))).2.toArray⟩)/\aN (fun k=>bv.ownBlock=some k) W m):=by
   by_cases h0:(dD c.rs c.y b (xs.map (·.1))).2=[]
   ·have hb:=H.bld;rw[H.nil h0,h0]at hb;refine(aCu _ W hb).mono ?_;rintro e m⟨rfl,aY⟩;exact⟨by rw[h0],aY.mono (fun _ _ e=>e.elim)⟩
   ·exact aCt _ bv _ W H.bld h0
  have d:=show Hid _ from H;have HW:=show Hid _ from hw;have HG:=show Hid _ from E;clear H hw E J0 F0;obtain⟨r,hr⟩:∃r,dD c.rs c.y b (xs.map (·.1))=r:=⟨_,rfl⟩;rw[hr]at ST d;have aZ:=show Hid _ from hr;clear hr;obtain⟨g1,L⟩:=r;dsimp only at ST d
  gi_wp2_with fail
  refine⟨trivial,?_⟩;refine(callsIn_wide.2 ST.out).mono ?_;rintro e W2⟨rfl,az⟩
  gi_wp2
  have p:∀k cs t fr,W.heap[k]?=some (.cells cs t fr)->¬k=D:=fun k cs t fr q e=>by
   rw[e,hK]at q;cases q
  have a0:W2.heap[D]?=some (.deferred (some [])):=(az.block _ (aM.1 hK).1 (fun e=>by
   obtain⟨c,h1⟩:=d.out.bt e;exact p _ _ _ _ h1 rfl)).trans hK
  have ai:aN (fun k=>bv.ownBlock=some k∨k=D) W (W2.putObj D (.deferred none)):=(az.mono (fun _ _ e=> .inl e)).trans ((pA _).mono (T:=fun k=>bv.ownBlock=some k∨k=D) (fun _ _ e=> .inr e)) (fun _ _ e=>e);refine⟨by simp,.inl ⟨_,_,rfl,run_takeDeferred a0,?_⟩⟩;refine⟨.tuple #[.string ⟨L.toArray⟩,.int .i64 0],by simp[results,results39,go_sem],?_⟩;have hL:=n.out.l;rw[aZ.out];have hF:=n.out.f;have Q:=HG.out;rw[show g=(f0.feed c.s.data.toList).1 from aX]at Q;refine⟨rfl,u,rv,wv,Q.keep ai (fun e=>?_) (fun k q e=>?_),d.out.log.keep ai (fun e=>?_) (fun k q e=>?_) (fun k q e=>?_),HW.out.kept.trans ai (fun k q e=>?_),d.out.s2,fun k e=>(d.out.lv k e).imp id (fun h=>by omega),fun k e=>(d.out.lr k e).imp id (fun h=>by omega),fun k e=>(d.out.lw k e).imp id (fun h=>by omega)⟩
  ·rcases e with e|e
   ·have:=d.out.lb _ e;omega
   ·exact p _ _ _ _ Q.row e
  ·rcases e with e|e
   ·exact(d.out.s1 k e).2 q
   ·obtain⟨c,h1⟩:=dN Q.own q;exact p _ _ _ _ h1 e
  ·rcases e with e|e
   ·have:=d.out.lb _ e;omega
   ·exact p _ _ _ _ d.out.log.row e
  ·rcases e with e|e
   ·exact(d.out.s1 k e).1 q
   ·obtain⟨c,h1⟩:=d.out.rt q;exact p _ _ _ _ h1 e
  ·rcases e with e|e
   ·obtain⟨c,h1⟩:=d.out.bt e;obtain⟨c',h2⟩:=d.out.wt q;exact uZ h1 h2
   ·obtain⟨c,h1⟩:=d.out.wt q;exact p _ _ _ _ h1 e
  ·rcases e with e|e
   ·have:=d.out.lb _ e;omega
   ·omega
end Go.Proofs.Z
namespace Go.Proofs.Z
open Hm Hw Go.RowKit Go.Shelf Go.Sort
theorem eX.ok(c:eX){f0:aE}{g:aG}(a:aW c.w c.pf f0 c.v0)(f:jJ c.w c.pr c.rs c.rlv)(b:bD c.w c.pl g c.rv0 c.wv0)(i:∀k,c.v0.ownBlock=some k->c.rv0.ownBlock≠some k):c.Ok/\∀k,c.May k->11<=k:=by
 have j:∀k,c.v0.ownBlock=some k->∃x,c.w.heap[k]?=some (.cells x 5 (0,0)):=fun k e=>dN a.own e;have rt:∀k,c.rv0.ownBlock=some k->∃x,c.w.heap[k]?=some (.cells x 5 (0,0)):=fun k e=>dN b.recs e;have wt:∀k,c.wv0.ownBlock=some k->∃x,c.w.heap[k]?=some (.cells x 9 (0,0)):=fun k e=>(jF b.wai e).2;have lt:∀{k:Nat}{x:Array Value}{t:TypeId},c.w.heap[k]?=some (.cells x t (0,0))->k<c.w.heap.size:=fun h=>(aM.1 h).1;have each:∀k,c.v0.ownBlock=some k∨c.rv0.ownBlock=some k∨c.wv0.ownBlock=some k->∃x t,c.w.heap[k]?=some (.cells x t (0,0))/\t≠100/\t≠116/\t≠106/\t≠111:=fun k e=>by
  rcases e with e|e|e
  ·obtain⟨x,h⟩:=j k e;exact⟨x,_,h,by decide,by decide,by decide,by decide⟩
  ·obtain⟨x,h⟩:=rt k e;exact⟨x,_,h,by decide,by decide,by decide,by decide⟩
  ·obtain⟨x,h⟩:=wt k e;exact⟨x,_,h,by decide,by decide,by decide,by decide⟩
 have l:=a.lo;have m:=lt a.row;refine⟨⟨lt a.row,lt f.row,lt b.row,fun e=>dU a.row b.row (by decide) e,fun e=>dU f.row a.row (by decide) e,fun e=>dU f.row b.row (by decide) e,fun k e=>?_,by omega,fun k e=>?_,i⟩,fun k e=>?_⟩
 ·obtain⟨x,h⟩:=dN f.own e;refine⟨lt h,fun d=>?_⟩;rcases d with d|d|d
  ·exact dU h a.row (by decide) d
  ·exact dU h b.row (by decide) d
  ·obtain⟨n,t,h2,_,_,_,h3⟩:=each k d;exact dU h2 h h3 rfl
 ·obtain⟨x,t,h,h1,h2,h3,_⟩:=each k e;exact⟨lt h,dU h a.row h1,dU h b.row h2,dU h f.row h3⟩
 ·rcases e with e|e|e|e|e
  ·rw[e];exact a.lo
  ·rw[e];exact b.lo
  ·exact(jF (qC a.own) e).1
  ·exact(jF (qC b.recs) e).1
  ·exact(jF b.wai e).1
end Go.Proofs.Z
namespace Go.Proofs.Z
open Hm Tryz Go.RowKit Go.Sort
attribute [local go_sem] cN cO
set_option maxRecDepth 50000 in
set_option maxHeartbeats 2000000 in
theorem aCz(r:Option Addr)(l:Option Addr)(s:ByteArray)(y:Int)(w:World):Calls prog 39 #[.pointer none,.pointer r,.pointer l,.string s,.int .i64 y] w fun e a=>e= .returned (.tuple #[.string ⟨#[]⟩,.int .i64 10])/\Below w.heap.size w a:=by
 go_enter func39,ntmps39;go_wp2;go_ret2;exact⟨rfl,(((aF _ _).alloc (aC _) _).alloc (by simp) _).alloc (by simp;omega) _⟩
set_option maxRecDepth 50000 in
set_option maxHeartbeats 2000000 in
theorem aCA(f:Addr)(l:Option Addr)(s:ByteArray)(y:Int)(w:World):Calls prog 39 #[.pointer (some f),.pointer none,.pointer l,.string s,.int .i64 y] w fun e a=>e= .returned (.tuple #[.string ⟨#[]⟩,.int .i64 10])/\Below w.heap.size w a:=by
 go_enter func39,ntmps39;go_wp2;go_ret2;exact⟨rfl,(((aF _ _).alloc (aC _) _).alloc (by simp) _).alloc (by simp;omega) _⟩
set_option maxRecDepth 50000 in
set_option maxHeartbeats 2000000 in
theorem aCB(f:Addr)(r:Addr)(s:ByteArray)(y:Int)(w:World):Calls prog 39 #[.pointer (some f),.pointer (some r),.pointer none,.string s,.int .i64 y] w fun e a=>e= .returned (.tuple #[.string ⟨#[]⟩,.int .i64 10])/\Below w.heap.size w a:=by
 go_enter func39,ntmps39;go_wp2;go_ret2;exact⟨rfl,(((aF _ _).alloc (aC _) _).alloc (by simp) _).alloc (by simp;omega) _⟩
set_option maxRecDepth 50000 in
set_option maxHeartbeats 2000000 in
theorem aCC(f:Addr)(r:Addr)(l:Addr)(s:ByteArray)(y:Int)(b:dB y=false)(w:World):Calls prog 39 #[.pointer (some f),.pointer (some r),.pointer (some l),.string s,.int .i64 y] w fun e a=>e= .returned (.tuple #[.string ⟨#[]⟩,.int .i64 10])/\Below w.heap.size w a:=by
 have c:Hid (∀w,Calls prog 51 #[.int .i64 y] w fun e a=>e= .returned (.bool false)/\a=w):=fun w=>by
  have:=lF y w
  rwa [b]at this
 go_enter func39,ntmps39;go_wp2_with fail;refine(c.out _).mono ?_;rintro e a⟨rfl,rfl⟩;go_wp2;go_ret2;exact⟨rfl,(((aF _ _).alloc (aC _) _).alloc (by simp) _).alloc (by simp;omega) _⟩
theorem aCD(f r l:Option Addr)(s:ByteArray)(y:Int)(h:f=none∨r=none∨l=none∨dB y=false)(w:World):Calls prog 39 #[.pointer f,.pointer r,.pointer l,.string s,.int .i64 y] w fun e a=>e= .returned (.tuple #[.string ⟨#[]⟩,.int .i64 10])/\Below w.heap.size w a:=by
 cases f with
 |none=>exact aCz r l s y w
 |some f=>cases r with
  |none=>exact aCA f l s y w
  |some r=>cases l with
   |none=>exact aCB f r s y w
   |some l=>exact aCC f r l s y (by simpa using h) w
set_option maxRecDepth 50000 in
set_option maxHeartbeats 2000000 in
theorem aCE(r:Option Addr)(l:Option Addr)(s:ByteArray)(y:Int)(w:World):Calls prog 122 #[.pointer none,.pointer r,.pointer l,.string s,.int .i64 y] w fun e a=>e= .returned (.tuple #[.string ⟨#[]⟩,.int .i64 10])/\a=w:=by
 go_enter func122,ntmps122;go_wp2;go_ret2;exact⟨rfl,rfl⟩
set_option maxRecDepth 50000 in
set_option maxHeartbeats 2000000 in
theorem aCF(f:Addr)(l:Option Addr)(s:ByteArray)(y:Int)(w:World):Calls prog 122 #[.pointer (some f),.pointer none,.pointer l,.string s,.int .i64 y] w fun e a=>e= .returned (.tuple #[.string ⟨#[]⟩,.int .i64 10])/\a=w:=by
 go_enter func122,ntmps122;go_wp2;go_ret2;exact⟨rfl,rfl⟩
set_option maxRecDepth 50000 in
set_option maxHeartbeats 2000000 in
theorem aCG(f:Addr)(r:Addr)(s:ByteArray)(y:Int)(w:World):Calls prog 122 #[.pointer (some f),.pointer (some r),.pointer none,.string s,.int .i64 y] w fun e a=>e= .returned (.tuple #[.string ⟨#[]⟩,.int .i64 10])/\a=w:=by
 go_enter func122,ntmps122;go_wp2;go_ret2;exact⟨rfl,rfl⟩
set_option maxRecDepth 50000 in
set_option maxHeartbeats 2000000 in
theorem aCH(f:Addr)(r:Addr)(l:Addr)(s:ByteArray)(y:Int)(b:dB y=false)(w:World):Calls prog 122 #[.pointer (some f),.pointer (some r),.pointer (some l),.string s,.int .i64 y] w fun e c=>e= .returned (.tuple #[.string ⟨#[]⟩,.int .i64 10])/\c=w:=by
 have a:y<1∨(¬y<1/\9999<y):=by
  simp only[dB,Bool.and_eq_false_iff,rT]at b;omega
 clear b;rcases a with i1|⟨i1,i2⟩
 ·go_enter func122,ntmps122;go_wp2;go_ret2;exact⟨rfl,rfl⟩
 ·go_enter func122,ntmps122;go_wp2;go_ret2;exact⟨rfl,rfl⟩
theorem aCI(f r l:Option Addr)(s:ByteArray)(y:Int)(h:f=none∨r=none∨l=none∨dB y=false)(w:World):Calls prog 122 #[.pointer f,.pointer r,.pointer l,.string s,.int .i64 y] w fun e a=>e= .returned (.tuple #[.string ⟨#[]⟩,.int .i64 10])/\a=w:=by
 cases f with
 |none=>exact aCE r l s y w
 |some f=>cases r with
  |none=>exact aCF f l s y w
  |some r=>cases l with
   |none=>exact aCG f r s y w
   |some l=>exact aCH f r l s y (by simpa using h) w
end Go.Proofs.Z
namespace Go.Proofs.Z
open Hm Hw Go.RowKit Go.Sort
theorem hU{a b c d:Nat}(h:a≠c∨b≠d):(a,b)≠(c,d):=fun e=>by
 have f:=aQ Prod.fst e;have g:=aQ Prod.snd e;dsimp only at f g;omega
theorem dC.set13{B p:Nat}{d:Nat->Value}{xs:Nat->List Value}{n:Nat}{i f l:World->(Nat->Nat×Nat)->Prop}{g:List nG}{ρ ρ':Nat->Nat×Nat}{w w':World}{S:Nat->Prop}{J K:World->(Nat->Nat×Nat)->Prop}(h:dC B p d xs n i f l g ρ w)(a:aN S w w')(b:∀k,k<w.heap.size->ρ' k=ρ k)(c:∀k,k<w.heap.size->S k->(ρ k).1=1∨(ρ k).1=3)(m:J w' ρ')(o:nH 1 J)(q:K w' ρ')(r:nH 3 K):dC B p d xs n J f K g ρ' w' where
 row:=(a.block p h.lt (fun s=>by have:=c p h.lt s;rw[h.rp]at this;dsimp only at this;omega)).trans h.row
 rp:=(b p h.lt).trans h.rp
 sl j hj:=(h.sl j hj).keep a b (fun k a s=>sU (by have:=c k a s;omega))
 i1:=m
 i2:=h.s2 S w w' ρ ρ' h.i2 a b (fun k a s=>by have:=c k a s;omega)
 i3:=q
 s1:=o
 s2:=h.s2
 s3:=r
 each x hx:=(h.each x hx).keep a b (fun k a s e=>by have h1:=(h.each x hx).role k e;have:=c k a s;omega)
 lo:=h.lo' b
section
variable {B p : Nat} {frs : List dJ} {rus : List eI} {lgs : List eL} {L n : Nat} {w w' : World}
theorem aV.relayP{i j:Nat}{x:dJ}{y:eL}{s:List UInt8}{g:aG}{v rv wv:Value}(h:aV B p frs rus (bJ lgs) (bS lgs) (bT lgs) L n w)(E:frs[i]?=some x)(F:lgs[j]?=some y)(t:aN (fun k=>k=x.p∨k=y.p∨x.v.ownBlock=some k∨y.rv.ownBlock=some k∨y.wv.ownBlock=some k) w w')(M:aW w' x.p ((aE.fresh x.b).feed (x.A++s)).1 v)(G:bD w' y.p g rv wv)(ne:∀k,v.ownBlock=some k->rv.ownBlock≠some k)(N:∀k,v.ownBlock=some k->x.v.ownBlock=some k∨w.heap.size<=k)(O:∀k,rv.ownBlock=some k->y.rv.ownBlock=some k∨w.heap.size<=k)(P:∀k,wv.ownBlock=some k->y.wv.ownBlock=some k∨w.heap.size<=k):
  aV B p (frs.set i ⟨x.p,x.q,x.b,x.A++s,x.C,v⟩) rus (bJ (lgs.set j ⟨y.p,y.q,g,y.h,y.ls,rv,wv,y.lv⟩)) (bS (lgs.set j ⟨y.p,y.q,g,y.h,y.ls,rv,wv,y.lv⟩)) (bT (lgs.set j ⟨y.p,y.q,g,y.h,y.ls,rv,wv,y.lv⟩)) L n w'/\Below B w w':=by
 obtain⟨Q,xs,li,ρ,hI,h0,h1,h2,h3,h4,h5,h6,h7,hL⟩:=h;have d:=hI.i1 i x E;have c:=hI.i3 j y F;obtain⟨ρ',hρ⟩:∃ρ':Nat->Nat×Nat,ρ'=fun k=>if k<w.heap.size then ρ k else if v.ownBlock=some k then(1,3*i+1)else if rv.ownBlock=some k then(3,5*j+1)else(3,5*j+2):=⟨_,rfl⟩
 have l:∀k,k<w.heap.size->ρ' k=ρ k:=fun k o=>by rw[hρ];exact aD o
 have f:∀k,k<w.heap.size->(k=x.p∨k=y.p∨x.v.ownBlock=some k∨y.rv.ownBlock=some k∨y.wv.ownBlock=some k)->(ρ k=(1,3*i)∨ρ k=(1,3*i+1))∨ρ k=(3,5*j)∨ρ k=(3,5*j+1)∨ρ k=(3,5*j+2):=fun k _ e=>by
  rcases e with e|e|e|e|e
  ·subst e;exact .inl (.inl d.rp)
  ·subst e;exact .inr (.inl c.rp)
  ·exact .inl (.inr (d.rv k e))
  ·exact .inr (.inr (.inl (c.rr k e)))
  ·exact .inr (.inr (.inr (c.rw' k e)))
 have r:∀k,k<w.heap.size->(k=x.p∨k=y.p∨x.v.ownBlock=some k∨y.rv.ownBlock=some k∨y.wv.ownBlock=some k)->(ρ k).1=1∨(ρ k).1=3:=fun k o e=>by rcases f k o e with(e|e)|e|e|e <;> rw[e] <;> simp
 refine⟨⟨Q,xs,li,ρ',hI.set13 t l r ?_ (nI.stable _) ?_ (bJ.stable _),h0.trans (Eq.symm (qJ E rfl)),h1.trans (Eq.symm (qJ E rfl)),h2,h3,h4.trans (Eq.symm (qO F rfl)),h5.trans (Eq.symm (qO F rfl)),h6,h7,hL⟩,hI.below t (fun k o s e=>by have:=r k o s;omega)⟩
 ·intro a z u;rcases wQ u with⟨rfl,rfl⟩|⟨R,u⟩
  ·have S:x.p<w.heap.size:=(aM.1 d.prog.row).1;have H:x.q<w.heap.size:=(aM.1 d.ref).1;refine⟨M,(t.block _ H (fun s=>?_)).trans d.ref,d.b1,d.b2,(l _ S).trans d.rp,fun k e=>?_,(l _ H).trans d.rq⟩
   ·have:=f _ H s;rw[d.rq]at this;rcases this with(e|e)|e|e|e <;> exact hU (by omega) e
   ·rcases N k e with m|m
    ·rw[l k (fE d.prog.own m)];exact d.rv k m
    ·rw[hρ];show(if k<w.heap.size then _ else _)=_;rw[aB (by omega),aD e]
  ·refine(hI.i1 a z u).keep t l (fun k o s=>?_);rcases f k o s with(e|e)|e|e|e <;> rw[e] <;> exact⟨hU (by omega),hU (by omega),hU (by omega)⟩
 ·intro a z u;rcases xY u with⟨rfl,rfl⟩|⟨R,u⟩
  ·obtain⟨T,U,V⟩:=c.prog.lts;have I:y.q<w.heap.size:=(aM.1 c.ref.row).1;refine⟨G,⟨(t.block _ I (fun s=>?_)).trans c.ref.row,cQ c.ref.own t (fun k e s=>?_),c.ref.wai,c.ref.len⟩,(l _ T).trans c.rp,fun k e=>?_,fun k e=>?_,(l _ I).trans c.rq,fun k e=>(l _ (fE c.ref.own e)).trans (c.rl k e)⟩
   ·have:=f _ I s;rw[c.rq]at this;rcases this with(e|e)|e|e|e <;> exact hU (by omega) e
   ·have:=f _ (fE c.ref.own e) s;rw[c.rl k e]at this;rcases this with(e|e)|e|e|e <;> exact hU (by omega) e
   ·rcases O k e with m|m
    ·rw[l k (U k m)];exact c.rr k m
    ·rw[hρ];show(if k<w.heap.size then _ else _)=_;rw[aB (by omega),aB (fun D=>ne k D e),aD e]
   ·rcases P k e with m|m
    ·rw[l k (V k m)];exact c.rw' k m
    ·rw[hρ];show(if k<w.heap.size then _ else _)=_;rw[aB (by omega),aB (fun D=>?_),aB (fun D=>G.apart.2.2 k D e)];obtain⟨W,J⟩:=dN M.own D;obtain⟨X,K⟩:=(jF G.wai e).2;exact dU J K (by decide) rfl
  ·refine(hI.i3 a z u).keep t l (fun k o s=>?_);rcases f k o s with(e|e)|e|e|e <;> rw[e] <;> exact⟨hU (by omega),hU (by omega),hU (by omega),hU (by omega),hU (by omega)⟩
theorem aV.relayR{i j:Nat}{x:dJ}{y:eL}{C:List UInt8}{g:aG}{ls:List (List UInt8)}{lv:Value}(h:aV B p frs rus (bJ lgs) (bS lgs) (bT lgs) L n w)(D:frs[i]?=some x)(E:lgs[j]?=some y)(t:aN (fun k=>k=x.q∨k=y.q∨y.lv.ownBlock=some k) w w')(J:w'.heap[x.q]?=some (.cells (iF x.b C (eC x.b C).1.length) 216 (0,0)))(K:bL w' y.q g ls lv)(M:∀k,lv.ownBlock=some k->y.lv.ownBlock=some k∨w.heap.size<=k):
  aV B p (frs.set i ⟨x.p,x.q,x.b,x.A,C,x.v⟩) rus (bJ (lgs.set j ⟨y.p,y.q,y.g,g,ls,y.rv,y.wv,lv⟩)) (bS (lgs.set j ⟨y.p,y.q,y.g,g,ls,y.rv,y.wv,lv⟩)) (bT (lgs.set j ⟨y.p,y.q,y.g,g,ls,y.rv,y.wv,lv⟩)) L n w'/\Below B w w':=by
 obtain⟨N,xs,li,ρ,hI,h0,h1,h2,h3,h4,h5,h6,h7,hL⟩:=h;have d:=hI.i1 i x D;have c:=hI.i3 j y E;have l:∀k,k<w.heap.size->lR ρ w.heap.size (3,5*j+4) k=ρ k:=fun k m=>oF m;have f:∀k,k<w.heap.size->(k=x.q∨k=y.q∨y.lv.ownBlock=some k)->ρ k=(1,3*i+2)∨ρ k=(3,5*j+3)∨ρ k=(3,5*j+4):=fun k _ e=>by
  rcases e with e|e|e
  ·subst e;exact .inl d.rq
  ·subst e;exact .inr (.inl c.rq)
  ·exact .inr (.inr (c.rl k e))
 have o:∀k,k<w.heap.size->(k=x.q∨k=y.q∨y.lv.ownBlock=some k)->(ρ k).1=1∨(ρ k).1=3:=fun k m e=>by rcases f k m e with e|e|e <;> rw[e] <;> simp
 refine⟨⟨N,xs,li,_,hI.set13 t l o ?_ (nI.stable _) ?_ (bJ.stable _),h0.trans (Eq.symm (qJ D rfl)),h1.trans (Eq.symm (qJ D rfl)),h2,h3,h4.trans (Eq.symm (qO E rfl)),h5.trans (Eq.symm (qO E rfl)),h6,h7,hL⟩,hI.below t (fun k m s e=>by have:=o k m s;omega)⟩
 ·intro a z r;rcases wQ r with⟨rfl,rfl⟩|⟨O,r⟩
  ·have F:x.p<w.heap.size:=(aM.1 d.prog.row).1;have P:x.q<w.heap.size:=(aM.1 d.ref).1;refine⟨d.prog.keep t (fun s=>?_) (fun k e s=>?_),J,d.b1,d.b2,(l _ F).trans d.rp,fun k e=>(l _ (fE d.prog.own e)).trans (d.rv k e),(l _ P).trans d.rq⟩
   ·have:=f _ F s;rw[d.rp]at this;rcases this with e|e|e <;> exact hU (by omega) e
   ·have:=f _ (fE d.prog.own e) s;rw[d.rv k e]at this;rcases this with e|e|e <;> exact hU (by omega) e
  ·refine(hI.i1 a z r).keep t l (fun k m s=>?_);rcases f k m s with e|e|e <;> rw[e] <;> exact⟨hU (by omega),hU (by omega),hU (by omega)⟩
 ·intro a z r;rcases xY r with⟨rfl,rfl⟩|⟨O,r⟩
  ·obtain⟨G,H,I⟩:=c.prog.lts;have Q:y.q<w.heap.size:=(aM.1 c.ref.row).1;have no:∀k,k<w.heap.size->(k=x.q∨k=y.q∨y.lv.ownBlock=some k)->ρ k≠(3,5*a)/\ρ k≠(3,5*a+1)/\ρ k≠(3,5*a+2):=fun k m s=>by
    rcases f k m s with e|e|e <;> rw[e] <;> exact⟨hU (by omega),hU (by omega),hU (by omega)⟩
   refine⟨c.prog.keep t (fun s=>(no _ G s).1 c.rp) (fun k e s=>(no _ (H k e) s).2.1 (c.rr k e)) (fun k e s=>(no _ (I k e) s).2.2 (c.rw' k e)),K,(l _ G).trans c.rp,fun k e=>(l _ (H k e)).trans (c.rr k e),fun k e=>(l _ (I k e)).trans (c.rw' k e),(l _ Q).trans c.rq,fun k e=>?_⟩;rcases M k e with u|u
   ·rw[l k (fE c.ref.own u)];exact c.rl k u
   ·rw[qF u]
  ·refine(hI.i3 a z r).keep t l (fun k m s=>?_);rcases f k m s with e|e|e <;> rw[e] <;> exact⟨hU (by omega),hU (by omega),hU (by omega),hU (by omega),hU (by omega)⟩
end
end Go.Proofs.Z
namespace Go.Proofs.Z
open Hm Hw Tryz Go.RowKit Go.Shelf Go.Sort
variable {B p : Nat} {frs : List dJ} {rus : List eI} {lgs : List eL} {L n : Nat} {w : World}
theorem aV.relP{i a j:Nat}{x:dJ}{z:eI}{y:eL}{R:Nat}(h:aV B p frs rus (bJ lgs) (bS lgs) (bT lgs) L n w)(N:aJ w)(F:frs[i]?=some x)(O:rus[a]?=some z)(H:lgs[j]?=some y)(s:List UInt8)(P:s.length<=2000000)(f:Int)(Q:1<=f)(S:f<=9999)(hF:iM R y)(T:R<=100000000000):
  Calls prog 39 #[.pointer (some ⟨x.p,0,none⟩),.pointer (some ⟨z.p,0,none⟩),.pointer (some ⟨y.p,0,none⟩),.string ⟨s.toArray⟩,.int .i64 f] w fun e r=>e= .returned (.tuple #[.string ⟨(dD z.rs f y.g (((aE.fresh x.b).feed x.A).1.feed s).2).2.toArray⟩,.int .i64 0])/\
   (∀(k:Nat)(o:Array Value)(t:TypeId),w.heap[k]?=some (.cells o t (0,0))->t≠100->t≠116->t≠5->t≠9->r.heap[k]?=w.heap[k]?)/\
   ∃v rv wv,aV B p (frs.set i ⟨x.p,x.q,x.b,x.A++s,x.C,v⟩) rus (bJ (lgs.set j ⟨y.p,y.q,(dD z.rs f y.g (((aE.fresh x.b).feed x.A).1.feed s).2).1,y.h,y.ls,rv,wv,y.lv⟩)) (bS (lgs.set j ⟨y.p,y.q,(dD z.rs f y.g (((aE.fresh x.b).feed x.A).1.feed s).2).1,y.h,y.ls,rv,wv,y.lv⟩)) (bT (lgs.set j ⟨y.p,y.q,(dD z.rs f y.g (((aE.fresh x.b).feed x.A).1.feed s).2).1,y.h,y.ls,rv,wv,y.lv⟩)) L n r/\Below B w r:=by
 have U:=h;obtain⟨vs,xs,li,ρ,hI,_⟩:=h;have c:=hI.i1 i x F;have l:=hI.i2 z (fG O);have d:=hI.i3 j y H;have u:∀k,x.v.ownBlock=some k->y.rv.ownBlock≠some k:=fun k V W=>by
  have I:=c.rv k V;rw[d.rr k W]at I;exact hU (by omega) I
 have D:(⟨s.toArray⟩:ByteArray).size=s.length:=by show Array.size _=_;simp
 obtain⟨ok,lo⟩:=eX.ok ⟨w,x.p,z.p,y.p,z.rs,z.v,⟨s.toArray⟩,f,x.v,y.rv,y.wv⟩ c.prog l.prog d.prog u;have G:=aCy ⟨w,x.p,z.p,y.p,z.rs,z.v,⟨s.toArray⟩,f,x.v,y.rv,y.wv⟩ ((aE.fresh x.b).feed x.A).1 y.g (by rw[D];exact P) Q S N ok lo (aE.feed_ok x.A (aE.fresh_ok c.b1 c.b2)) c.prog l.prog l.small l.len d.prog (cH hF.recl T) hF.few (cH hF.room (by omega));refine(callsIn_wide.1 G).mono ?_;rintro e r⟨rfl,v,rv,wv,X,Y,J,ne,Z,kr,kw⟩;have E:((aE.fresh x.b).feed (x.A++s)).1=(((aE.fresh x.b).feed x.A).1.feed s).1:=by rw[aE.feed_append]
 refine⟨rfl,fun k o t m t1 t2 K t4=>J.block k (aM.1 m).1 (fun e=>?_),v,rv,wv,U.relayP F H J (by rw[E];exact X) Y ne Z kr kw⟩;rcases e with e|e|e|e|e
 ·exact dU m c.prog.row t1 e
 ·exact dU m d.prog.row t2 e
 ·obtain⟨M,h2⟩:=dN c.prog.own e;exact dU m h2 K rfl
 ·obtain⟨M,h2⟩:=dN d.prog.recs e;exact dU m h2 K rfl
 ·obtain⟨_,M,h2⟩:=jF d.prog.wai e;exact dU m h2 t4 rfl
theorem aV.relR{i a j:Nat}{x:dJ}{z:eI}{y:eL}(h:aV B p frs rus (bJ lgs) (bS lgs) (bT lgs) L n w)(r:frs[i]?=some x)(D:rus[a]?=some z)(t:lgs[j]?=some y)(s:List UInt8)(E:(x.C++s).length<=10000000)(c:Int)(F:1<=c)(G:c<=9999)(f:y.h.records.length<=100000000000)(k:y.h.messages<=65535):
  Calls prog 122 #[.pointer (some ⟨x.q,0,none⟩),.pointer (some ⟨z.q,0,none⟩),.pointer (some ⟨y.q,0,none⟩),.string ⟨s.toArray⟩,.int .i64 c] w fun e m=>e= .returned (.tuple #[.string ⟨(dD z.rs c y.h (((aE.fresh x.b).feed x.C).1.feed s).2).2.toArray⟩,.int .i64 0])/\
   ∃ls lv,aV B p (frs.set i ⟨x.p,x.q,x.b,x.A,x.C++s,x.v⟩) rus (bJ (lgs.set j ⟨y.p,y.q,y.g,(dD z.rs c y.h (((aE.fresh x.b).feed x.C).1.feed s).2).1,ls,y.rv,y.wv,lv⟩)) (bS (lgs.set j ⟨y.p,y.q,y.g,(dD z.rs c y.h (((aE.fresh x.b).feed x.C).1.feed s).2).1,ls,y.rv,y.wv,lv⟩)) (bT (lgs.set j ⟨y.p,y.q,y.g,(dD z.rs c y.h (((aE.fresh x.b).feed x.C).1.feed s).2).1,ls,y.rv,y.wv,lv⟩)) L n m/\Below B w m:=by
 have H:=h;obtain⟨N,xs,li,ρ,hI,_⟩:=h;have d:=hI.i1 i x r;have l:=hI.i2 z (fG D);have o:=hI.i3 j y t;refine(aCi x.q z.q y.q x.b x.C s z.rs z.xs z.u y.h y.ls y.lv c F G d.b1 d.b2 E w d.ref l.ref l.len o.ref f k).mono ?_;rintro e m⟨rfl,I,ls,lv,J,K,M⟩;exact⟨rfl,ls,lv,H.relayR r t K I J M⟩
end Go.Proofs.Z

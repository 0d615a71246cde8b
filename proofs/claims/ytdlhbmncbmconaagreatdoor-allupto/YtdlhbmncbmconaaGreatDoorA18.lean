/- Pressed by program out of Bp Br. -/
import Derived.Test.YtdlhbmncbmconaaGreatDoorA17
namespace Go.Hm
def oK:aG->List iW->Option aG
 |g,[]=>some g
 |g,r::rs=>if(g.back r).2=true then oK (g.back r).1 rs else none
theorem MU:∀(rs:List iW)(g g2:aG)(r:iW),oK g rs=some g2->oK g (rs++[r])=if(g2.back r).2=true then some (g2.back r).1 else none
 |[],g,g2,r,h=>by cases h;rfl
 |x::rs,g,g2,r,h=>by
  unfold oK at h;split at h
  ·next hx=>
   show(if(g.back x).2=true then oK (g.back x).1 (rs++[r])else none)=_;rw[aD hx];exact MU rs _ _ r h
  ·cases h
theorem BC:∀(rs:List iW)(g g2:aG)(more:List iW),oK g rs=some g2->g.backs (rs++more)=g2.backs more
 |[],g,g2,more,h=>by cases h;rfl
 |x::rs,g,g2,more,h=>by
  unfold oK at h;split at h
  ·next hx=>
   show(if(g.back x).2=true then(g.back x).1.backs (rs++more)else g)=_;rw[aD hx];exact BC rs _ _ more h
  ·cases h
theorem U4{g:aG}{r:iW}(h:¬(g.back r).2=true):(g.back r).1=g:=by
 unfold aG.back at h⊢;split
 ·next h1=>
  rw[aD h1]at h;split
  ·next h2=>rw[aD h2]at h;exact absurd rfl h
  ·rfl
 ·next h1=>
  rw[aB h1]at h;split
  ·next h2=>
   rw[aD h2]at h;split
   ·next h3=>rw[aD h3]at h;exact absurd rfl h
   ·rfl
  ·rfl
structure uN(g:aG)(room:Nat)(rs:List iW):Prop where
 room:g.room=room
 text:g.records=lT rs
 most:g.messages<=65535
theorem U5(room:Nat):uN (aG.fresh room) room []:=⟨rfl,rfl,by simp[aG.fresh,aG.messages]⟩
theorem U6{g:aG}{room:Nat}{rs:List iW}{r:iW}(h:uN g room rs)(b:(g.back r).2=true)(c:r.2.length<65536):uN (g.back r).1 room (rs++[r]) where
 room:=by
  rw[<-h.room];unfold aG.back at b⊢
  repeat' split
  all_goals first|rfl|(unfold aG.ack;split <;> rfl)
 text:=by rw[T8 b c,h.text,T6];simp[lT]
 most:=by
  have a:=h.most;unfold aG.back at b⊢;split
  ·next h1=>
   rw[aD h1]at b;split
   ·next h2=>simp only[aG.add,aG.messages,dL,bU,dS]at h2⊢;omega
   ·exact a
  ·split
   ·split
    ·next h3=>
     have h4:=h3.2;unfold aG.ack at h4⊢;split
     ·exact a
     ·next h5=>
      simp only[aG.ackTo,aG.messages,bC,Int.toNat_natCast]at h5 a⊢;omega
    ·exact a
   ·exact a
end Go.Hm
namespace Go.Proofs.Z
open Hm Tryz Go.RowKit Go.Shelf Go.Sort
attribute [local go_sem] Oper.semAt_some
abbrev mX:={r:iW // r.2.length<65536}
def xG(x:mX):Array Value:=#[.agg #[.int .u8 x.1.1.toNat,.string ⟨x.1.2.toArray⟩]]
theorem MV(r:List UInt8)(n:Nat):(⟨r.toArray⟩:ByteArray).extract n r.length=⟨(r.drop n).toArray⟩:=by
 apply ByteArray.ext;simp;rw[fV (by simp)]
def MW(_ _:World):Prop:=True
set_option maxRecDepth 100000 in
set_option maxHeartbeats 1000000 in
theorem U7(n:Nat)(hn:2<=n)(l U:Nat)(s:ByteArray)(V:s.size<=3000000000)(xs:List mX)(p:xs.map (·.1)=Hm.recs s.data.toList)(J X:List mX->World->Prop)(hA:∀a A B,J a A->Below A.heap.size A B->J a B)(hY:∀a x W,J a W->a.length<xs.length->YieldAt Fence.wide (n-1) prog l (xG x) W fun e j=>
   (e= .returned (.bool true)/\J (a++[x]) j/\MW W j)∨(e= .returned (.bool false)/\X (a++[x]) j))(W:World)(aa:W.cell? ⟨U,0,none⟩=some (.string s))(h0:J [] W):
  CallsIn Fence.wide n prog 98 #[.func (.yield l) #[] #[],.pointer (some ⟨U,0,none⟩)] W fun e j=>(∃v,e= .returned v)/\
   ((∃Y,Y=xs/\J Y j)∨(∃a,a <+: xs/\X a j)):=by
 obtain⟨d,rfl⟩:∃d:List UInt8,s=⟨d.toArray⟩:=⟨s.data.toList,by cases s;simp⟩;have u:xs.map (·.1)=kC (d.length+1) d:=by rw[p];simp[Hm.recs]
 have N:d.length<=3000000000:=by simpa[ByteArray.size]using V
 clear p V;refine callsIn_of_wp func98 rfl trivial ?_ rfl;simp only[ntmps98,pR,bU,dS,Nat.reduceAdd,Nat.reduceSub,rV,rR,List.push_toArray,rQ,iR,eN]
 gi_wp2
 gi_loopw [3] (fun rest wr=>∃(a more:List mX)(r:List UInt8)(f:Nat),rest= .string ⟨r.toArray⟩/\r.length<f/\r.length<=3000000000/\xs=a++more/\more.map (·.1)=kC f r/\J a wr) (fun rest _=>zV rest)
 case atStart=>exact⟨[],xs,d,d.length+1,rfl,by omega,N,rfl,u,h0⟩
 case round=>
  obtain⟨a,more,r,f,rfl,hf,ab,L,c,g⟩:=hrel;have m:Hid (∀w,Calls prog 99 #[.string ⟨r.toArray⟩] w fun e o=>e= .returned (.tuple #[.agg (uI (gU r)),.int .i64 (uJ (gU r))])/\Below w.heap.size w o):=fun w=>by
   have:=L4 ⟨r.toArray⟩ (by show r.toArray.size<=_;rw[pR];omega) w
   rwa [show(⟨r.toArray⟩:ByteArray).data.toList=r by simp]at this
  obtain⟨y,rfl⟩:∃y,f=y+1:=⟨f-1,by omega⟩;have O:Hid (xs=a++more):=L;have Z:Hid (∀a A B,J a A->Below A.heap.size A B->J a B):=hA;have HJ:=show Hid _ from g;unfold kC at c;cases C:gU r with
  |none=>
   rw[C]at m c;have M:Hid (more=[]):=List.map_eq_nil_iff.1 c;simp only[uI,uJ]at m;clear c C L g
   gi_wp2_with fail
   refine⟨trivial,fun _=>by omega,?_⟩;refine(callsIn_wide.2 (m.out _)).mono ?_;rintro z o⟨rfl,D⟩;have E:Hid (Below wr.heap.size wr o):=D;clear D
   gi_wp2
   refine⟨fun _ h=>(by cases h),?_⟩
   gi_wp2
   refine bB (results_none rfl _ _ _) rfl ?_;exact⟨⟨_,rfl⟩,.inl ⟨a,by rw[O.out,M.out,kZ],Z.out _ _ _ HJ.out (E.out.alloc E.out.size _)⟩⟩
  |some q=>
   obtain⟨k,bs,len⟩:=q;rw[C]at m c;obtain⟨F,P,t,ht⟩:=MN C;have ac:len<=r.length:=by
    rw[ht,dL,mS];omega
   have ad:0<len:=by omega
   have b0:((len:Int)==0)=false:=bG.2 (by omega);dsimp only at c;obtain⟨x,b,i,Q,G⟩:∃x b,more=x::b/\x.1=(k,bs)/\b.map (·.1)=kC y (r.drop len):=by
    cases more with
    |nil=>simp at c
    |cons x b=>
     rw[jX,List.cons.injEq]at c;exact⟨x,b,rfl,c.1,c.2⟩
   have M:Hid (more=x::b):=i;have R:Hid (b.map (·.1)=kC y (r.drop len)):=G;simp only[uI,uJ]at m;have H:=fun W hJ=>hY a x W hJ (by rw[L,i];simp);have HY:=show Hid _ from H;clear c C L g H ht F P i G
   gi_wp2_with fail
   refine⟨trivial,fun _=>by omega,?_⟩;refine(callsIn_wide.2 (m.out _)).mono ?_;rintro z o⟨rfl,D⟩;have E:Hid (Below wr.heap.size wr o):=D;clear D;have I:J a (o.alloc (.cells #[.int .u8 k.toNat,.string ⟨bs.toArray⟩] 121)):=Z.out _ _ _ HJ.out (E.out.alloc E.out.size _);obtain⟨fn,tmps,assign,body,S,hR⟩:=HY.out _ I;unfold xG at S;rw[Q]at S;dsimp only at S;clear I
   gi_wp2
   refine⟨fun _=>by omega,hR.mono ?_⟩;rintro z W3(⟨rfl,T,_⟩|⟨rfl,K⟩)
   ·gi_wp2
    go_roundw;case rel=>exact⟨a++[x],b,r.drop len,y,by rw[<-MV],by rw[bC];omega,by rw[bC];omega,by rw[O.out,M.out];simp,R.out,T⟩
    case measure=>rw[MV];simp[zV,ByteArray.size];omega
   ·gi_wp2
    refine bB (results_none rfl _ _ _) rfl ?_;exact⟨⟨_,rfl⟩,.inr ⟨a++[x],⟨b,by rw[O.out,M.out];simp⟩,K⟩⟩
end Go.Proofs.Z
namespace Go.Hm
theorem MX:∀rs:List iW,5*rs.length<=(lT rs).length
 |[]=>by simp
 |r::rs=>by
  have:=MX rs;rw[xE,dL,BB,bU];omega
theorem MY:∀rs:List iW,MM rs->(lT rs).length<=65541*rs.length
 |[],_=>by simp[T5]
 |r::rs,h=>by
  have:=MY rs (fun q a=>h q (by simp[a]));have:=h r (by simp);rw[xE,dL,BB,bU];omega
end Go.Hm
namespace Go.Proofs.Z
open Hm Hw Tryz Go.RowKit Go.Shelf Go.Sort
attribute [local go_sem] Oper.semAt_some
def uO(w:World)(p room:Nat)(pre:List mX)(W:World):Prop:=
 ∃g rv wv,oK (aG.fresh room) (pre.map (·.1))=some g/\uN g room (pre.map (·.1))/\bD W p g rv wv/\(∀k,rv.ownBlock=some k->p<=k)/\(∀k,wv.ownBlock=some k->p<=k)/\W.heap[p+1]?=some (.cells #[.pointer (some ⟨p,0,none⟩)] 63 (0,0))/\Below p w W
def MZ(w:World)(p room:Nat)(c:Code)(pre:List mX)(W:World):Prop:=
 c= .exit 0/\∃g rv wv pre' x,pre=pre'++[x]/\oK (aG.fresh room) (pre'.map (·.1))=some g/\¬(g.back x.1).2=true/\bD W p g rv wv/\(∀k,rv.ownBlock=some k->p<=k)/\(∀k,wv.ownBlock=some k->p<=k)/\W.heap[p+1]?=some (.cells #[.pointer (some ⟨p,0,none⟩)] 63 (0,0))/\Below p w W
theorem NA{W a:World}{row:Option Nat}(h:W.grownBy a row):aN (fun k=>some k=row) W a:=aN.of_grown h
theorem bD.grown{W c:World}{p:Nat}{g:aG}{rv wv:Value}{row:Option Nat}(h:bD W p g rv wv)(i:W.grownBy c row)(j:∀r,row=some r->∃o:Obj,W.heap[r]?=some o/\o.isCells=false):bD c p g rv wv:=by
 have no:∀k d t fr,W.heap[k]?=some (.cells d t fr)->¬some k=row:=fun k d t fr l e=>by
  obtain⟨o,f,a⟩:=j k e.symm;rw[l]at f;cases f;cases a
 refine h.keep (NA i) (no _ _ _ _ h.row) (fun k e=>?_) (fun k e=>?_)
 ·obtain⟨b,a⟩:=dN h.recs e;exact no _ _ _ _ a
 ·obtain⟨_,b,a⟩:=jF h.wai e;exact no _ _ _ _ a
theorem NC{W a:World}{row:Option Nat}{k:Nat}{b:Array Value}{t:TypeId}{fr:Nat×Nat}(h:W.heap[k]?=some (.cells b t fr))(d:W.grownBy a row)(f:∀r,row=some r->∃o:Obj,W.heap[r]?=some o/\o.isCells=false):a.heap[k]?=some (.cells b t fr):=
 (d.block k (aM.1 h).1 (fun e=>by
  obtain⟨o,c,g⟩:=f k e.symm;rw[h]at c;cases c;cases g)).trans h
theorem ND:∀{l:List iW},(∀r∈l,r.2.length<65536)->∃xs:List mX,xs.map (·.1)=l
 |[],_=>⟨[],rfl⟩
 |r::l,h=>by
  obtain⟨xs,e⟩:=ND (l:=l) (fun q a=>h q (by simp[a]));exact⟨⟨r,h r (by simp)⟩::xs,by rw[jX,e]⟩
theorem bR.var{p:Nat}{rv wv b c:Value}{g:aG}{W i:World}{k:Nat}{j:Array Value}(h:bD W p g rv wv)(l:bR p rv wv W b c i)(a:W.heap[k]?=some (.cells j 63 (0,0))):i.heap[k]?=some (.cells j 63 (0,0)):=
 (l.kept.block k (aM.1 a).1 (fun e=>by
  rcases e with e|e|e
  ·exact dU a h.row (by decide) e
  ·obtain⟨d,f⟩:=dN h.recs e;exact dU a f (by decide) rfl
  ·obtain⟨_,d,f⟩:=jF h.wai e;exact dU a f (by decide) rfl)).trans a
theorem NE{w W a:World}{p:Nat}{row:Option Nat}(h:Below p w W)(b:W.grownBy a row)(c:∀r,row=some r->p<=r)(d:p<=W.heap.size):Below p w a:=
 h.trans ((NA b).below (fun k _ e=>c k e.symm) d)
theorem NG(w:World)(p room B:Nat)(a:p<=B):OwnFrom B (uO w p room):=fun _ _ _ _⟨g,rv,wv,h1,h2,h3,h4,h5,h6,h7⟩ hg hr=>
 ⟨g,rv,wv,h1,h2,h3.grown hg (fun r e=>(hr r e).2),h4,h5,NC h6 hg (fun r e=>(hr r e).2),NE h7 hg (fun r e=>cH a (hr r e).1) (iT (aM.1 h3.row).1)⟩
theorem U8(w:World)(p room B:Nat)(a:p<=B)(c:Code):OwnFrom B (MZ w p room c):=fun _ _ _ _⟨hc,g,rv,wv,pre',x,h0,h1,h2,h3,h4,h5,h6,h7⟩ hg hr=>
 ⟨hc,g,rv,wv,pre',x,h0,h1,h2,h3.grown hg (fun r e=>(hr r e).2),h4,h5,NC h6 hg (fun r e=>(hr r e).2),NE h7 hg (fun r e=>cH a (hr r e).1) (iT (aM.1 h3.row).1)⟩
theorem NH{A B:World}(h:Below A.heap.size A B):A.grownBy B none:=⟨h.os,h.tape,h.output,h.size,fun k a _=>h.block k a⟩
theorem bR.keeps{p:Nat}{rv wv b c:Value}{g:aG}{W j:World}(h:bD W p g rv wv)(l:bR p rv wv W b c j)(B:Nat):KeepsFrom B W j:=
 ⟨l.kept.size,fun k o _ a d=>(l.kept.block k (aM.1 a).1 (fun e=>by
  rcases e with rfl|e|e
  ·rw[h.row]at a;cases a;cases d
  ·obtain⟨f,i⟩:=dN h.recs e;rw[i]at a;cases a;cases d
  ·obtain⟨_,f,i⟩:=jF h.wai e;rw[i]at a;cases a;cases d)).trans a⟩
theorem uO.step{w W d:World}{p room:Nat}{a:List mX}{x:mX}{g:aG}{rv wv b c:Value}(h1:oK (aG.fresh room) (a.map (·.1))=some g)(h2:uN g room (a.map (·.1)))(h3:bD W p g rv wv)(h4:∀k,rv.ownBlock=some k->p<=k)(h5:∀k,wv.ownBlock=some k->p<=k)(h7:Below p w W)(h:(g.back x.1).2=true)(i:bD d p (g.back x.1).1 b c)(f:bR p rv wv W b c d)(h8:d.heap[p+1]?=some (.cells #[.pointer (some ⟨p,0,none⟩)] 63 (0,0))):uO w p room (a++[x]) d:=by
 have j:p<W.heap.size:=(aM.1 h3.row).1;refine⟨(g.back x.1).1,b,c,?_,?_,i,?_,?_,h8,?_⟩
 ·rw[iN,jX,List.map_nil,MU _ _ _ x.1 h1,aD h]
 ·rw[iN,jX,List.map_nil];exact U6 h2 h x.2
 ·intro k e;rcases f.lr k e with e|e
  ·exact h4 k e
  ·omega
 ·intro k e;rcases f.lw k e with e|e
  ·exact h5 k e
  ·omega
 ·exact h7.trans (f.kept.below (fun k _ e=>by
   rcases e with rfl|e|e
   ·exact aC _
   ·exact h4 k e
   ·exact h5 k e) (by omega))
def NI(s:ByteArray)(room p B:Nat)(x:mX):Array Value:=#[.string s,.int .i64 room,undef,undef,.pointer none,.int .i64 0,.pointer (some ⟨p+1,0,none⟩),.pointer (some ⟨B,0,none⟩),.int .i64 room,.bool false,.bool false,.int .i64 room,.bool false,.bool false,.int .i64 room,
 .agg #[.int .i64 room,.slice none 0 0,.int .i64 0,.slice none 0 0],.pointer (some ⟨p,0,none⟩),.string s,.func (.func 98) #[] #[.pointer (some ⟨p+1+1,0,none⟩)],.agg #[.int .u8 x.1.1.toNat,.string ⟨x.1.2.toArray⟩],undef,undef,undef,undef,undef]
def NJ(s:ByteArray)(room p:Nat)(x:mX)(a':Act)(W:World):Prop:=∃B,a'={tmps:=NI s room p B x,defers:=[]}/\W.heap[B]?=some (.cells #[.int .u8 x.1.1.toNat,.string ⟨x.1.2.toArray⟩] 121 (0,0))
theorem U9(s:ByteArray)(room p:Nat)(x:mX)(c:Act)(B:Nat):OwnFrom B (fun(_:Unit) W=>NJ s room p x c W):=fun _ _ _ _⟨b,h1,h2⟩ hg hr=>
 ⟨b,h1,(hg.block b (aM.1 h2).1 (fun e=>by
  obtain⟨_,o,a,d⟩:=hr b e.symm;rw[h2]at a;cases a;cases d)).trans h2⟩
set_option maxRecDepth 100000 in
set_option maxHeartbeats 2000000 in
theorem V0(s:ByteArray)(hs:s.size<=1100000)(room:Nat)(h1:1<=room)(h2:room<=8)(w:World)(hT:aJ w):
  CallsIn Fence.wide 4 prog 34 #[.string s,.int .i64 room] w fun e S=>∃p rv wv,e= .returned (.tuple #[.pointer (some ⟨p,0,none⟩),.int .i64 0])/\w.heap.size<=p/\bD S p (iQ s.data.toList room) rv wv/\Below w.heap.size w S/\(∀k,rv.ownBlock=some k->p<=k)/\(∀k,wv.ownBlock=some k->p<=k):=by
 have hw:11<=w.heap.size:=hT.size;have i1:¬(room:Int)<1:=by omega
 have i2:¬8<(room:Int):=by omega
 refine callsIn_of_wp_marks func34 rfl trivial ?_ rfl;simp only[ntmps34,pR,bU,dS,Nat.reduceAdd,Nat.reduceSub,rV,rR,List.push_toArray,rQ,iR,eN]
 gi_wp2_with fail
 refine⟨trivial,?_⟩;refine(callsIn_wide.2 (L9 _ _)).mono ?_;rintro e S⟨rfl,rfl⟩
 gi_wp2_with fail
 obtain⟨u,hW0⟩:∃u,(((w.alloc (.cells #[.int .i64 room,.slice none 0 0,.int .i64 0,.slice none 0 0] 116)).alloc (.cells #[.pointer (some ⟨w.heap.size,0,none⟩)] 63)).alloc (.cells #[.string s] 9))=u:=⟨_,rfl⟩;have hz:u.heap.size=w.heap.size+3:=by subst hW0;simp
 have ac:Below w.heap.size w u:=by
  rw[<-hW0];exact(((aF _ w).alloc (aC _) _).alloc (by simp) _).alloc (by simp;omega) _
 have r0:u.heap[w.heap.size]?=some (.cells #[.int .i64 room,.slice none 0 0,.int .i64 0,.slice none 0 0] 116 (0,0)):=by
  rw[<-hW0];exact(heap_alloc_old _ _ (by simp;omega)).trans ((heap_alloc_old _ _ (by simp)).trans (heap_alloc_new _ _))
 have r1:u.heap[w.heap.size+1]?=some (.cells #[.pointer (some ⟨w.heap.size,0,none⟩)] 63 (0,0)):=by
  rw[<-hW0];refine(heap_alloc_old _ _ (by simp)).trans ?_;have:=heap_alloc_new (w.alloc (.cells #[.int .i64 room,.slice none 0 0,.int .i64 0,.slice none 0 0] 116)) (.cells #[.pointer (some ⟨w.heap.size,0,none⟩)] 63)
  rwa [World.size_alloc]at this
 have r2:u.cell? ⟨w.heap.size+1+1,0,none⟩=some (.string s):=by subst hW0;go_simp
 rw[hW0];clear hW0;have ad:=(xF (s.data.toList.length+1) s.data.toList).1;have ae:=(xF (s.data.toList.length+1) s.data.toList).2;have C:(lT (Hm.recs s.data.toList)).length<=1100000:=by
  obtain⟨t,ht⟩:=ae;have:=aQ List.length ht;rw[dL]at this;have e:s.data.toList.length=s.size:=by rw[Hm.len]
  unfold Hm.recs;omega
 obtain⟨xs,E⟩:∃xs:List mX,xs.map (·.1)=Hm.recs s.data.toList:=ND ad;have j:iQ s.data.toList room=(aG.fresh room).backs (xs.map (·.1)):=by rw[E];rfl
 rw[<-E]at C;have h:SeqStopsK Fence.wide (4-1) prog 98 #[.pointer (some ⟨w.heap.size+1+1,0,none⟩)] xG MW (fun ys=>ys=xs) (fun a=>a <+: xs) xs.length u:=fun l J Jx W hW hJ _ hY h0=>
  U7 (4-1) (by omega) l (w.heap.size+1+1) s (by omega) xs E J Jx (fun a A B hj F=>hJ a A B none hj (NH F) (fun r e=>by cases e)) hY W ((hW.cell (p:=⟨w.heap.size+1+1,0,none⟩) (by show w.heap.size+1+1<_;omega)).trans r2) h0
 refine wpIn_rangeFunc_ownH rfl (by omega) (gf:=98) (lb:=#[.pointer (some ⟨w.heap.size+1+1,0,none⟩)]) rfl trivial (enters_of func98 (by kernel_rfl) rfl) h (fun _ _=>trivial) (fun _ _ _ _ _ _ _ _=>trivial) (aF _ _) (fun _=>rfl)
  (uO w w.heap.size room) (MZ w w.heap.size room) (NG w _ room _ (by omega)) (fun c=>U8 w _ room _ (by omega) c) ?start (NJ s room w.heap.size) (fun x a'=>U9 s room _ x a' _) ?assign ?body ?done ?stop
 case start=>
  exact⟨aG.fresh room,.slice none 0 0,.slice none 0 0,rfl,U5 room,⟨r0,World.ownsRow_nil _ _ _ _,ZA _ _ _,hw⟩,(fun k e=>by cases e),(fun k e=>by cases e),r1,ac⟩
 case assign=>
  intro l a x W K hI G;unfold xG
  gi_wp2
  exact G _ _ ⟨by simp,fun k o _ v _=>(heap_alloc_old _ _ (aM.1 v).1).trans v⟩ trivial (NG w _ room w.heap.size (aC _) a W _ none hI (NH ((aF _ _).alloc (aC _) _)) (fun r e=>by cases e)) ⟨W.heap.size,rfl,heap_alloc_new _ _⟩
 case body=>
  intro l a x a' W hl hL hI hA ai;obtain⟨g,rv,wv,T,H,b,I,L,M,N⟩:=hI;obtain⟨B,rfl,z⟩:=hA;unfold NI;have k6:W.cell? ⟨w.heap.size+1,0,none⟩=some (.pointer (some ⟨w.heap.size,0,none⟩)):=by simp[World.cell?,M]
  have k0:W.cell? ⟨B,0,none⟩=some (.int .u8 x.1.1.toNat):=by simp[World.cell?,z]
  have k1:W.cell? ⟨B,1,none⟩=some (.string ⟨x.1.2.toArray⟩):=by simp[World.cell?,z]
  have af:a.length<=220000:=by
   have:=MX (xs.map (·.1));rw[eS]at this;omega
  have U:g.records.length<=800000000000:=by
   rw[H.text];have:=MY (a.map (·.1)) (fun q hq=>by
    obtain⟨y,_,rfl⟩:=List.mem_map.1 hq;exact y.2)
   rw[eS]at this;omega
  have V:MQ g:=by
   have h8:=H.most;have h9:=H.room;unfold aG.messages at h8;exact⟨U,by omega,by omega,by omega⟩
  have TB:=U3 w.heap.size g rv wv W (hT.next N) b V x.1.1 x.1.2 (by have:=x.2;omega);have m:Hid (Calls prog 63 #[.pointer (some ⟨w.heap.size,0,none⟩),.agg #[.int .u8 x.1.1.toNat,.string ⟨x.1.2.toArray⟩]] W fun e S=>e= .returned (.bool (g.back x.1).2)/\∃X Y,bD S w.heap.size (g.back x.1).1 X Y/\bR w.heap.size rv wv W X Y S):=TB;clear TB U af V;by_cases F:(g.back x.1).2=true
  ·rw[F]at m
   gi_wp2_with fail
   refine⟨trivial,?_⟩;refine CallsIn.mono (show CallsIn (Fence.wide.inRound l) 1 _ _ _ _ _ from callsIn_wide.2 m.out) ?_;rintro e W3⟨rfl,Z,aa,n,d⟩
   gi_wp2
   exact⟨bR.keeps b d _,trivial,uO.step T H b I L N F n d (bR.var b d M)⟩
  ·have ag:(g.back x.1).2=false:=by simpa using F
   rw[ag]at m
   gi_wp2_with fail
   refine⟨trivial,?_⟩;refine CallsIn.mono (show CallsIn (Fence.wide.inRound l) 1 _ _ _ _ _ from callsIn_wide.2 m.out) ?_;rintro e W3⟨rfl,Z,aa,n,d⟩
   gi_wp2
   rw[U4 F]at n;have hp:w.heap.size<W.heap.size:=(aM.1 b.row).1;refine⟨bR.keeps b d _,rfl,g,Z,aa,a,x,rfl,T,F,n,(fun k e=>by rcases d.lr k e with e|e;exact I k e;omega),(fun k e=>by rcases d.lw k e with e|e;exact L k e;omega),bR.var b d M,?_⟩;exact N.trans (d.kept.below (fun k _ e=>by
    rcases e with rfl|e|e
    ·exact aC _
    ·exact I k e
    ·exact L k e) (by omega))
 case done=>
  rintro D ys W hD rfl⟨g,rv,wv,T,H,b,I,L,M,N⟩G;have hg:iQ s.data.toList room=g:=by
   have:=BC _ _ _ [] T;rw[kZ]at this;rw[j,this];rfl
  have O:Hid (iQ s.data.toList room=g):=hg;have k1:W.cell? ⟨w.heap.size+1,0,none⟩=some (.pointer (some ⟨w.heap.size,0,none⟩)):=by simp[World.cell?,M]
  clear hg j C h
  gi_wp2
  have i:aN (fun k=>k=D) W (W.putObj D (.deferred none)):=pA _;have f:∀k cs t fr,W.heap[k]?=some (.cells cs t fr)->¬k=D:=fun k cs t fr v e=>by
   rw[e,G]at v;cases v
  have P:Below w.heap.size w (W.putObj D (.deferred none)):=N.trans (i.below (fun k _ e=>by omega) (iT (aM.1 b.row).1));refine⟨by simp,.inl ⟨_,_,rfl,run_takeDeferred G,?_⟩⟩;refine⟨.tuple #[.pointer (some ⟨w.heap.size,0,none⟩),.int .i64 0],by simp[results,results34,go_sem],?_⟩;exact⟨w.heap.size,rv,wv,rfl,aC _,(by rw[O.out];exact b.keep i (f _ _ _ _ b.row) (fun k e=>by obtain⟨Q,R⟩:=dN b.recs e;exact f _ _ _ _ R) (fun k e=>by obtain⟨_,Q,R⟩:=jF b.wai e;exact f _ _ _ _ R)),P,I,L⟩
 case stop=>
  rintro D c a W hD⟨more,ab⟩⟨rfl,g,rv,wv,ah,x,rfl,T,H,b,I,L,M,N⟩G;have hg:iQ s.data.toList room=g:=by
   have:=BC _ _ _ (x.1::more.map (·.1)) T;rw[j,<-ab,iN,iN,jH];refine this.trans ?_;unfold aG.backs;rw[aB H]
  have O:Hid (iQ s.data.toList room=g):=hg;have k1:W.cell? ⟨w.heap.size+1,0,none⟩=some (.pointer (some ⟨w.heap.size,0,none⟩)):=by simp[World.cell?,M]
  clear hg j C h
  gi_wp2
  have i:aN (fun k=>k=D) W (W.putObj D (.deferred none)):=pA _;have f:∀k cs t fr,W.heap[k]?=some (.cells cs t fr)->¬k=D:=fun k cs t fr v e=>by
   rw[e,G]at v;cases v
  have P:Below w.heap.size w (W.putObj D (.deferred none)):=N.trans (i.below (fun k _ e=>by omega) (iT (aM.1 b.row).1));refine⟨by simp,.inl ⟨_,_,rfl,run_takeDeferred G,?_⟩⟩;refine⟨.tuple #[.pointer (some ⟨w.heap.size,0,none⟩),.int .i64 0],by simp[results,results34,go_sem],?_⟩;exact⟨w.heap.size,rv,wv,rfl,aC _,(by rw[O.out];exact b.keep i (f _ _ _ _ b.row) (fun k e=>by obtain⟨Q,R⟩:=dN b.recs e;exact f _ _ _ _ R) (fun k e=>by obtain⟨_,Q,R⟩:=jF b.wai e;exact f _ _ _ _ R)),P,I,L⟩
theorem V1(s:ByteArray)(b:s.size<=1100000)(room:Nat)(h1:1<=room)(h2:room<=8)(w:World)(c:aJ w):
  Calls prog 34 #[.string s,.int .i64 room] w fun e a=>∃p rv wv,e= .returned (.tuple #[.pointer (some ⟨p,0,none⟩),.int .i64 0])/\w.heap.size<=p/\bD a p (iQ s.data.toList room) rv wv/\Below w.heap.size w a/\(∀k,rv.ownBlock=some k->p<=k)/\(∀k,wv.ownBlock=some k->p<=k):=callsIn_wide.1 (V0 s b room h1 h2 w c)
end Go.Proofs.Z

/- Pressed by program out of Fa Fb Fc. -/
import Derived.Test.YtdlhbmncbmconaaGreatDoorA14
import Derived.Test.YtdlhbmncbmconaaGreatDoorA30
namespace Go.Proofs.Z
open Hm Tryz Go.RowKit Go.Sort
attribute [local go_sem] dY fR fS
theorem NK(w:World)(x y z:UInt8)(t u v:Int)(a:t=x.toNat)(b:u=y.toNat)(c:v=z.toNat):
  (convert 72 9 (.slice (some ⟨w.heap.size,0,none⟩) 3 3)).run prog (w.alloc (.cells #[.int .u8 t,.int .u8 u,.int .u8 v] 5))= .ok (.string ⟨[x,y,z].toArray⟩) (w.alloc (.cells #[.int .u8 t,.int .u8 u,.int .u8 v] 5)):=by
 subst a b c;exact run_convert_bytes_back _ 72 9 5 ⟨w.heap.size,0,none⟩ 3 [x,y,z] underlying72 underlying5 underlying9 (fun j d=>by
  rcases(by simp at d;omega:j=0∨j=1∨j=2)with h|h|h <;> subst h <;> simp[Addr.add])
theorem xH(w:World)(x y:UInt8)(u v:Int)(a:u=x.toNat)(b:v=y.toNat):
  (convert 72 9 (.slice (some ⟨w.heap.size,0,none⟩) 2 2)).run prog (w.alloc (.cells #[.int .u8 u,.int .u8 v] 5))= .ok (.string ⟨[x,y].toArray⟩) (w.alloc (.cells #[.int .u8 u,.int .u8 v] 5)):=wT w x y u v a b
set_option maxRecDepth 20000 in
set_option maxHeartbeats 2000000 in
theorem BD(k:UInt8)(l:List UInt8)(A:l.length<65536)(w:World):
  Calls prog 153 #[.int .u8 k.toNat,.string ⟨l.toArray⟩] w fun e u=>e= .returned (.string ⟨(bM k l).toArray⟩)/\Below w.heap.size w u:=by
 have g:¬9223372036854775807<3+l.length:=by omega
 have d:=NK w k (UInt8.ofNat (l.length/256)) (UInt8.ofNat l.length) (k.toNat:Int) ((l.length:Int)/256%256) ((l.length:Int)%256) rfl (by simp) (by simp);have c:=NK w k (UInt8.ofNat (l.length/256)) (UInt8.ofNat l.length) (k.toNat:Int) ((l.length:Int)/256) ((l.length:Int)%256) rfl (by simp;omega) (by simp);obtain⟨S,m⟩:∃S,k::UInt8.ofNat (l.length/256)::UInt8.ofNat l.length::l=S:=⟨_,rfl⟩;have v:Hid (jD k l=S):=show _=_ by rw[<-m];rfl
 have h:S.length=l.length+3:=by rw[<-m];simp
 have n:=aA h;clear h;go_enter func153,ntmps153;go_wp2;generalize r:w.alloc _=W;have s:Hid (Below w.heap.size w W):=show Below _ _ _ by rw[<-r];exact(aF _ _).alloc (aC _) _
 clear r d c m;go_loopw [6,7,8] (fun x y o wr=>∃k a b:Nat,k<=S.length/\o= .int .i64 k/\x= .int .i64 a/\y= .int .i64 b/\a<251/\b<251/\mB 1 0 S=mB a b (S.drop k)/\wr=W) (fun _ _ o _=>S.length-(intOf o).toNat)
 case atStart=>exact⟨0,1,0,by omega,rfl,rfl,rfl,by omega,by omega,rfl,rfl⟩
 case round=>
  obtain⟨j,a,b,B,rfl,rfl,rfl,C,D,t,f⟩:=hrel;have f:=f.symm;subst f;have i:=aA t;clear t;have z:S.length<=70000:=by have:=n.out;omega
  by_cases p:j<S.length
  ·have q:(j:Int)<(S.length:Int):=by omega
   rw[eE p,mB]at i;have E:S[j].toNat<256:=lA _;go_wp2;go_roundw;case rel=>exact⟨j+1,(a+S[j].toNat)%251,(b+(a+S[j].toNat)%251)%251,by omega,aY (by simp),aY (by simp),aY (by simp),Nat.mod_lt _ (by decide),Nat.mod_lt _ (by decide),i.out,by first|rfl|trivial⟩
   case measure=>simp[intOf];omega
  ·have q:¬(j:Int)<(S.length:Int):=by omega
   rw[gH (by omega),mB]at i;have d:=xH W (UInt8.ofNat a) (UInt8.ofNat b) ((a:Int)%256) ((b:Int)%256) (by simp) (by simp);have c:=xH W (UInt8.ofNat a) (UInt8.ofNat b) (a:Int) (b:Int) (by simp;omega) (by simp;omega);have g:¬9223372036854775807<S.length+2:=by omega
   go_wp2;go_ret;refine⟨?_,s.out.alloc s.out.size _⟩;unfold bM lL;rw[v.out,i.out];rfl
end Go.Proofs.Z
namespace Go.Hm
theorem NL{l:List UInt8}{y z:Int}(b:dB z=true)(h:cA (bH l y).1=(l,0)):(bH l z).2.1=0/\cA (bH l z).1=(l,0):=by
 have h2:(cA (bH l y).1).2=0:=by rw[h]
 have h1:(cA (bH l y).1).1=l:=by rw[h]
 have a:=LZ h2 b;rw[h1]at a;rw[a];exact⟨rfl,h⟩
theorem V2{l:List UInt8}(h:iU l=true):(bH l 2000).2.1=0/\cA (bH l 2000).1=(l,0):=by
 unfold iU at h;rw[Bool.and_eq_true_iff]at h;exact NL (by decide) (of_decide_eq_true h.2)
theorem V3{l:List UInt8}(h:iU l=false):¬((bH l 2000).2.1=0/\cA (bH l 2000).1=(l,0)):=fun a=>by
 obtain⟨h1,h2⟩:=NL (z:=1) (by decide) a.2;unfold iU at h;rw[decide_eq_true h1,decide_eq_true h2]at h;cases h
theorem V4{l:List UInt8}(h:200<l.length):iU l=false:=by
 unfold iU bH;rw[aD h];rfl
theorem V5(a b:UInt8):iC (cT [a,b])=[a,b]:=by
 have c:a.toNat<256:=lA _;have d:b.toNat<256:=lA _;have h:cT [a,b]=256*a.toNat+b.toNat:=rfl;rw[h];unfold iC;congr 1
 ·rw[show(256*a.toNat+b.toNat)/256=a.toNat by omega];simp
 ·congr 1;apply eY.1;simp
end Go.Hm
namespace Go.Proofs.Z
open Hm Hw Go.RowKit Go.Sort
def kL(g:aG)(lv:Value):Array Value:=#[.int .i64 g.room,.string ⟨g.records.toArray⟩,lv,.int .i64 g.had]
structure bL(w:World)(q:Nat)(g:aG)(ls:List (List UInt8))(lv:Value):Prop where
 row:w.heap[q]?=some (.cells (kL g lv) 190 (0,0))
 own:w.ownsRow 0 9 1 lv ls.length (ls.map aU)
 wai:ls.drop g.had=g.waiting
 len:ls.length=g.messages
structure cV(q:Nat)(lv:Value)(w:World)(lv':Value)(w':World):Prop where
 kept:aN (fun k=>k=q∨lv.ownBlock=some k) w w'
 lies:∀k,lv'.ownBlock=some k->lv.ownBlock=some k∨w.heap.size<=k
theorem cV.refl{q:Nat}{lv:Value}{w:World}:cV q lv w lv w:=⟨aN.refl _ _,fun _ e=> .inl e⟩
theorem cV.next{q:Nat}{lv d:Value}{a b c:World}(h:cV q lv a d b)(k:Below b.heap.size b c):cV q lv a d c:=⟨h.kept.next k,h.lies⟩
theorem cV.trans{q:Nat}{v v' d:Value}{a b c:World}(h:cV q v a v' b)(k:cV q v' b d c):cV q v a d c where
 kept:=h.kept.trans k.kept (fun i hi e=>by
  rcases e with e|e
  ·exact .inl e
  ·rcases h.lies i e with e|e
   ·exact .inr e
   ·omega)
 lies i e:=by
  rcases k.lies i e with e|e
  ·exact h.lies i e
  ·exact .inr (cH h.kept.size e)
theorem cV.of_put{q:Nat}{v:Value}{t:TypeId}{c:Array Value}{a b:World}(P:aI a q t c b):cV q v a v b:=⟨P.kept.mono (fun _ _ e=> .inl e),fun _ e=> .inl e⟩
theorem bL.ne{w:World}{q:Nat}{g:aG}{ls:List (List UInt8)}{lv:Value}(h:bL w q g ls lv):lv.ownBlock≠some q:=fun e=>by
 obtain⟨a,b⟩:=dN h.own e;exact dU b h.row (by decide) rfl
theorem bL.next{w a:World}{q:Nat}{g:aG}{ls:List (List UInt8)}{lv:Value}(h:bL w q g ls lv)(b:Below w.heap.size w a):bL a q g ls lv:=
 ⟨(b.block _ (aM.1 h.row).1).trans h.row,cQ (S:=fun _=>False) h.own (aN.of_below b) (fun _ _ f=>f),h.wai,h.len⟩
theorem bL.cells{w:World}{q:Nat}{g:aG}{ls:List (List UInt8)}{lv:Value}(h:bL w q g ls lv):
  w.cell? ⟨q,0,none⟩=some (.int .i64 g.room)/\w.cell? ⟨q,1,none⟩=some (.string ⟨g.records.toArray⟩)/\w.cell? ⟨q,2,none⟩=some lv/\w.cell? ⟨q,3,none⟩=some (.int .i64 g.had):=by
 have a:=h.row;unfold kL at a;refine⟨?_,?_,?_,?_⟩ <;> simp[World.cell?,a]
theorem bL.line{w d f:World}{q:Nat}{g:aG}{ls:List (List UInt8)}{lv a:Value}{x:List UInt8}{o:Obj}(h:bL w q g ls lv)(b:d.ownsRow 0 9 1 a (ls.length+1) (ls.map aU++[aU x]))(l:(w.alloc o).grownBy d lv.ownBlock)(c:a.ownBlock=lv.ownBlock∨a.ownBlock=some (w.alloc o).heap.size)(P:aI d q 190 (kL g a) f):bL f q ⟨g.room,g.records,g.had,g.waiting++[x]⟩ (ls++[x]) a/\cV q lv w a f:=by
 have p:q<w.heap.size:=(aM.1 h.row).1;have j:a.ownBlock≠some q:=by
  rcases c with e|e
  ·rw[e];exact h.ne
  ·rw[e];simp;omega
 refine⟨⟨P.row,?_,?_,?_⟩,?_,?_⟩
 ·have:=cQ b P.kept (fun k e s=>j (by rw[e,s]));simpa using this
 ·show(ls++[x]).drop g.had=g.waiting++[x];have m:g.had<=ls.length:=by rw[h.len];exact Nat.le_add_right _ _
  rw[List.drop_append_of_le_length m,h.wai]
 ·have:=h.len;simp[aG.messages]at this⊢;omega
 ·have n:aN (fun k=>k=q∨lv.ownBlock=some k) w (w.alloc o):=(aN.refl _ _).alloc o;exact(n.trans (aN.of_grown l) (fun i _ e=> .inr e.symm)).trans P.kept (fun i _ e=> .inl e)
 ·intro k e;rcases c with h|h
  ·exact .inl (by rw[<-h];exact e)
  ·rw[h]at e;cases e;simp
theorem bL.row5{w a:World}{q:Nat}{g:aG}{ls:List (List UInt8)}{lv:Value}{o:Obj}(h:bL w q g ls lv)(b:(w.alloc o).grownBy a lv.ownBlock):a.heap[q]?=some (.cells (kL g lv) 190 (0,0)):=by
 have c:q<w.heap.size:=(aM.1 h.row).1;exact(b.block q (by simp;omega) (fun e=>h.ne e.symm)).trans ((heap_alloc_old w o c).trans h.row)
theorem bL.had{w a:World}{q:Nat}{g:aG}{ls:List (List UInt8)}{lv:Value}{n:Nat}(h:bL w q g ls lv)(h1:g.had<=n)(h2:n<=g.messages)(P:aI w q 190 (kL ⟨g.room,g.records,n,g.waiting.drop (n-g.had)⟩ lv) a):bL a q ⟨g.room,g.records,n,g.waiting.drop (n-g.had)⟩ ls lv:=by
 refine⟨P.row,cQ h.own P.kept (fun k e s=>h.ne (by rw[e,s])),?_,?_⟩
 ·show ls.drop n=g.waiting.drop (n-g.had);rw[<-h.wai,dW];congr 1;omega
 ·have:=h.len;simp only[aG.messages,bC]at this h2⊢;omega
theorem bL.text{w a:World}{q:Nat}{g:aG}{ls:List (List UInt8)}{lv:Value}{r:List UInt8}(h:bL w q g ls lv)(P:aI w q 190 (kL ⟨g.room,r,g.had,g.waiting⟩ lv) a):bL a q ⟨g.room,r,g.had,g.waiting⟩ ls lv:=
 ⟨P.row,cQ h.own P.kept (fun k e s=>h.ne (by rw[e,s])),h.wai,h.len⟩
end Go.Proofs.Z
namespace Go.Proofs.Z
open Hm Hw Tryz Go.RowKit Go.Sort
attribute [local go_sem] cN cO dY fR fS
theorem aBt:(prog.info? 3).map (·.size)=some 1:=by kernel_rfl
theorem aBu:(prog.info? 42).map (·.size)=some 1:=by kernel_rfl
set_option maxRecDepth 20000 in
set_option maxHeartbeats 4000000 in
theorem PQ(q:Nat)(k:UInt8)(l:List UInt8)(d:¬k.toNat=80)(h:¬k.toNat=65∨¬l.length=2)(w:World):Calls prog 154 #[.pointer (some ⟨q,0,none⟩),.int .u8 k.toNat,.string ⟨l.toArray⟩] w fun e f=>e= .returned (.bool false)/\f=w:=by
 have g:((k.toNat:Int)==80)=false:=bG.2 (by omega);have c:¬(k.toNat:Int)=80:=by omega
 clear d;by_cases h1:k.toNat=65
 ·have i:¬(l.length:Int)=2:=by omega
  have j:((l.length:Int)==2)=false:=bG.2 i;have b:((k.toNat:Int)==65)=true:=dZ.2 (by omega);have a:(k.toNat:Int)=65:=by omega
  clear h h1;go_enter func154,ntmps154;go_wp2;go_ret;exact⟨rfl,rfl⟩
 ·have b:((k.toNat:Int)==65)=false:=bG.2 (by omega);have a:¬(k.toNat:Int)=65:=by omega
  clear h h1;go_enter func154,ntmps154;go_wp2;go_ret;exact⟨rfl,rfl⟩
set_option maxRecDepth 20000 in
set_option maxHeartbeats 4000000 in
theorem aBv(q:Nat)(l:List UInt8)(g:aG)(ls:List (List UInt8))(lv:Value)(w:World)(a:bL w q g ls lv)(c:l.length<=1000000000)(h:200<l.length∨65535<=ls.length):Calls prog 154 #[.pointer (some ⟨q,0,none⟩),.int .u8 80,.string ⟨l.toArray⟩] w fun e b=>e= .returned (.bool false)/\b=w:=by
 obtain⟨d,f,i,j⟩:=a.cells;obtain⟨k,m,rfl⟩:=gJ a.own;clear a;by_cases h1:200<l.length
 ·have hi:(200:Int)<(l.length:Int):=by omega
  clear h h1;go_enter func154,ntmps154;go_wp2;go_ret;exact⟨rfl,rfl⟩
 ·have hi:¬(200:Int)<(l.length:Int):=by omega
  have n:(65535:Int)<=(ls.length:Int):=by omega
  clear h h1;go_enter func154,ntmps154;go_wp2;go_ret;exact⟨rfl,rfl⟩
set_option maxRecDepth 20000 in
set_option maxHeartbeats 8000000 in
theorem aBw(q:Nat)(l:List UInt8)(g:aG)(ls:List (List UInt8))(lv:Value)(w:World)(v:bL w q g ls lv)(x:l.length<=200)(o:ls.length<65535)(z:iU l=false):Calls prog 154 #[.pointer (some ⟨q,0,none⟩),.int .u8 80,.string ⟨l.toArray⟩] w fun e r=>e= .returned (.bool false)/\Below w.heap.size w r:=by
 obtain⟨I,J,K,L⟩:=v.cells;obtain⟨N,O,rfl⟩:=gJ v.own;clear v;have hi:¬(200:Int)<(l.length:Int):=by omega
 have y:¬(65535:Int)<=(ls.length:Int):=by omega
 have f:=V3 z;have s:=tY l 2000;have t:Hid (∀w,Calls prog 110 #[.string ⟨l.toArray⟩,.int .i64 2000] w fun e r=>e= .returned (.tuple #[.agg (aL (bH l 2000).1),.int .i64 (bH l 2000).2.1,.int .i64 (bH l 2000).2.2])/\Below w.heap.size w r):=fun w=>uT l (by omega) 2000 w;have p:Hid (∀w,Calls prog 113 #[.agg (aL (bH l 2000).1)] w fun e r=>e= .returned (.tuple #[.string ⟨(cA (bH l 2000).1).1.toArray⟩,.int .i64 (cA (bH l 2000).1).2])/\Below w.heap.size w r):=fun w=>by
  obtain⟨P,Q,T,U,V,W,X⟩:=s;exact tF _ w (by omega) (by omega) (by omega) (by omega) (by omega) (by omega) (by omega)
 clear z s;generalize bH l 2000=R at t p f;obtain⟨M,E,A⟩:=R;dsimp only at t p f;generalize cA M=C at p f;obtain⟨S,F⟩:=C;dsimp only at p;have D:¬E=0∨(E=0/\¬F=0)∨(E=0/\F=0/\¬S=l):=by
  by_cases h1:E=0
  ·by_cases h2:F=0
   ·refine .inr (.inr ⟨h1,h2,fun h3=>f ⟨h1,by rw[h2,h3]⟩⟩)
   ·exact .inr (.inl ⟨h1,h2⟩)
  ·exact .inl h1
 clear f;rcases D with h|⟨h0,h⟩|⟨h0,G,h⟩
 ·have B:((E:Int)==0)=false:=bG.2 (by omega);have H:¬(E:Int)=0:=by omega
  clear h;go_enter func154,ntmps154;go_wp2_with fail;clear hi y o x;refine(t.out _).mono ?_;rintro e d⟨rfl,b⟩;have a:=aA b;clear b;go_wp2_with(first
   |(refine bI rfl _ _ _ rfl rfl d.heap.size (aL M) rfl rfl _ _ (heap_alloc_new _ _) bP rfl rfl ?_;intro k m;have n:=aA m;clear m)
   |(refine cG rfl _ _ rfl d.heap.size rfl _ _ _ _ n.out.row underlying80 rfl bP ?_)
   |fail)
  have i:Hid (Below w.heap.size w k):=(a.out.alloc a.out.size _).trans (n.out.below a.out.size);refine(p.out _).mono ?_;rintro e u⟨rfl,c⟩;have j:Hid (Below w.heap.size w u):=Below.next i.out (aC _) c;clear c;go_wp2;go_ret;exact⟨rfl,j.out⟩
 ·have B:((F:Int)==0)=false:=bG.2 (by omega);have H:¬(F:Int)=0:=by omega
  subst h0;clear h;go_enter func154,ntmps154;go_wp2_with fail;clear hi y o x;refine(t.out _).mono ?_;rintro e d⟨rfl,b⟩;have a:=aA b;clear b;go_wp2_with(first
   |(refine bI rfl _ _ _ rfl rfl d.heap.size (aL M) rfl rfl _ _ (heap_alloc_new _ _) bP rfl rfl ?_;intro k m;have n:=aA m;clear m)
   |(refine cG rfl _ _ rfl d.heap.size rfl _ _ _ _ n.out.row underlying80 rfl bP ?_)
   |fail)
  have i:Hid (Below w.heap.size w k):=(a.out.alloc a.out.size _).trans (n.out.below a.out.size);refine(p.out _).mono ?_;rintro e u⟨rfl,c⟩;have j:Hid (Below w.heap.size w u):=Below.next i.out (aC _) c;clear c;go_wp2;go_ret;exact⟨rfl,j.out⟩
 ·have B:(S==l)=false:=bG.2 h;subst h0 G;go_enter func154,ntmps154;go_wp2_with fail;clear hi y o x;refine(t.out _).mono ?_;rintro e d⟨rfl,b⟩;have a:=aA b;clear b;go_wp2_with(first
   |(refine bI rfl _ _ _ rfl rfl d.heap.size (aL M) rfl rfl _ _ (heap_alloc_new _ _) bP rfl rfl ?_;intro k m;have n:=aA m;clear m)
   |(refine cG rfl _ _ rfl d.heap.size rfl _ _ _ _ n.out.row underlying80 rfl bP ?_)
   |fail)
  have i:Hid (Below w.heap.size w k):=(a.out.alloc a.out.size _).trans (n.out.below a.out.size);refine(p.out _).mono ?_;rintro e u⟨rfl,c⟩;have j:Hid (Below w.heap.size w u):=Below.next i.out (aC _) c;clear c;go_wp2;go_ret;exact⟨rfl,j.out⟩
set_option maxRecDepth 20000 in
set_option maxHeartbeats 8000000 in
theorem PR(q:Nat)(l:List UInt8)(g:aG)(ls:List (List UInt8))(lv:Value)(w:World)(V:bL w q g ls lv)(hl:l.length<=200)(z:ls.length<65535)(ac:g.records.length<=1000000000000)(ha:iU l=true):
  Calls prog 154 #[.pointer (some ⟨q,0,none⟩),.int .u8 80,.string ⟨l.toArray⟩] w fun e o=>e= .returned (.bool true)/\∃B,bL o q (g.add l) (ls++[l]) B/\cV q lv w B o:=by
 obtain⟨i7,X,C,D,E⟩:=info_parts qZ;have HR:=aA V;obtain⟨Y,Z,F,c3⟩:=V.cells;obtain⟨al,cl,p⟩:=gJ V.own;rw[p]at F;have s:=aA p;clear V p;have hi:¬(200:Int)<(l.length:Int):=by omega
 have hj:¬(65535:Int)<=(ls.length:Int):=by omega
 obtain⟨y1,y2⟩:=V2 ha;have G:=tY l 2000;have aa:Hid ((bM 80 l).length<=300):=show _<=_ by rw[mS];omega
 have H:Hid (∀w,Calls prog 153 #[.int .u8 80,.string ⟨l.toArray⟩] w fun e o=>e= .returned (.string ⟨(bM 80 l).toArray⟩)/\Below w.heap.size w o):=fun w=>BD 80 l (by omega) w;have RD:Hid (∀w,Calls prog 110 #[.string ⟨l.toArray⟩,.int .i64 2000] w fun e o=>e= .returned (.tuple #[.agg (aL (bH l 2000).1),.int .i64 0,.int .i64 (bH l 2000).2.2])/\Below w.heap.size w o):=fun w=>by
  have:=uT l (by omega) 2000 w;rw[y1]at this;exact this
 have LN:Hid (∀w,Calls prog 113 #[.agg (aL (bH l 2000).1)] w fun e o=>e= .returned (.tuple #[.string ⟨l.toArray⟩,.int .i64 0])/\Below w.heap.size w o):=fun w=>by
  obtain⟨a1,a2,a3,a4,f,a6,a7⟩:=G;have:=tF (bH l 2000).1 w (by omega) (by omega) (by omega) (by omega) (by omega) (by omega) (by omega);rw[y2]at this;exact this
 clear ha G y1 y2;generalize(bH l 2000).1=M at RD LN;generalize(bH l 2000).2.2=A at RD;have I:=aA z;go_enter func154,ntmps154;go_wp2_with fail;clear hi hj z hl;refine(RD.out _).mono ?_;rintro e W⟨rfl,J⟩;have m:=aA J;clear J;go_wp2_with(first
  |(refine bI rfl _ _ _ rfl rfl W.heap.size (aL M) rfl rfl _ _ (heap_alloc_new _ _) bP rfl rfl ?_;intro w2 p2;have P2:=aA p2;clear p2)
  |(refine cG rfl _ _ rfl W.heap.size rfl _ _ _ _ P2.out.row underlying80 rfl bP ?_)
  |fail)
 have L:Hid (Below w.heap.size w w2):=(m.out.alloc m.out.size _).trans (P2.out.below m.out.size);refine(LN.out _).mono ?_;rintro e w3⟨rfl,N⟩;have t:Hid (Below w.heap.size w w3):=Below.next L.out (aC _) N;have j:Hid (bL w3 q g ls lv):=HR.out.next t.out;clear N Y Z F c3;obtain⟨Y,Z,F,c3⟩:=j.out.cells;rw[s.out]at F;have O3:Hid (w3.ownsRow 0 9 1 (.slice al ls.length cl) ls.length (ls.map aU)):=by
  show World.ownsRow _ _ _ _ _ _ _;rw[<-s.out];exact j.out.own
 go_wp2_with(first
  |(at_builtin;refine nF rfl _ _ 42 rfl 9 i7 (.string ByteArray.empty) 16 underlying42 X C D E rfl _ _ (ls.map aU) rfl (O3.out.alloc _) ⟨_,0,none⟩ (.string ⟨l.toArray⟩) rfl (cell_one_new _ _ _) rfl (by have:=I.out;unfold maxLen;omega) (by have:=I.out;omega) ?_;intro v5 w5 b n k _;rw[<-s.out]at n k;have O:=aA b;have P:=show Hid _ from n;have Q:=show Hid _ from k;have R:=show Hid _ from j.out.row5 n;obtain⟨f,a,ab⟩:=gJ b;subst ab;clear b n k)
  |(refine bK rfl _ _ _ rfl rfl q 2 (.slice f _ a) rfl rfl _ _ (kL g (.slice f (ls.length+1) a)) R.out aBu (by simp[kL]) rfl rfl ?_;intro w6 p6;have u:Hid (_/\_):=j.out.line O.out P.out Q.out p6;clear p6 Y Z F c3)
  |fail)
 have RT:=aA u.out.1;have ST:Hid (cV q lv w (.slice f (ls.length+1) a) w6):=(cV.refl.next t.out).trans u.out.2;have ad:¬9223372036854775807<g.records.length+(bM 80 l).length:=by have:=aa.out;omega
 clear O P Q R u j t L m P2 O3;go_wp2_with fail;refine wp_region_any gT ?_;change wpAny _ _ _ _ _ _ _ (World.drew _);refine wpAny_take (i:=0) (v:= .pointer (some ⟨q,0,none⟩)) rfl (by kernel_rfl) (by kernel_rfl) (by kernel_rfl) (fun _ _ _ h=>h) (Or.inl ⟨by rfl,?_⟩) ?_
 ·intro w;go_simp
 refine wpAny_take (i:=1) (v:= .pointer (some ⟨q,0,none⟩)) rfl (by kernel_rfl) (by kernel_rfl) (by kernel_rfl) (fun _ _ _ h=>h) (Or.inl ⟨by rfl,?_⟩) ?_
 ·intro w;go_simp
 refine wpAny_take (i:=2) (v:= .pointer (some ⟨q,0,none⟩)) rfl (by kernel_rfl) (by kernel_rfl) (by kernel_rfl) (fun _ _ _ h=>h) (Or.inl ⟨by rfl,?_⟩) ?_
 ·intro w;go_simp
 refine wpAny_take (i:=3) (v:= .pointer (some ⟨q,1,none⟩)) rfl (by kernel_rfl) (by kernel_rfl) (by kernel_rfl) (fun _ _ _ h=>h) (Or.inl ⟨by rfl,?_⟩) ?_
 ·intro w;go_simp
 refine wpAny_take (i:=5) (v:= .int .u8 80) rfl (by kernel_rfl) (by kernel_rfl) (by kernel_rfl) (fun _ _ _ h=>h) (Or.inl ⟨by rfl,?_⟩) ?_
 ·intro w;go_simp
 refine wpAny_take (i:=6) (v:= .string ⟨l.toArray⟩) rfl (by kernel_rfl) (by kernel_rfl) (by kernel_rfl) (fun _ _ _ h=>h) (Or.inl ⟨by rfl,?_⟩) ?_
 ·intro w;go_simp
 obtain⟨t0,t1,t2,t3⟩:=RT.out.cells;refine wpAny_ready (rs:=[4,7]) (by kernel_rfl) (by simp) ?_;refine AllReady.cons rfl (fun K x=>?_) (AllReady.cons rfl (fun K x=>?_) AllReady.nil)
 ·go_simp;refine x _ _ ?_;clear x K;refine wpAny_ready (rs:=[7]) (by kernel_rfl) (by simp) ?_;refine AllReady.cons rfl (fun K x=>?_) AllReady.nil;go_wp2_with fail;refine(H.out _).mono ?_;rintro e S⟨rfl,c⟩;have d:Hid (bL S q ⟨g.room,g.records,g.had,g.waiting++[l]⟩ (ls++[l]) (.slice f (ls.length+1) a)):=(RT.out.next (aT ⟨1,rfl⟩)).next c;have y:Hid (cV q lv w (.slice f (ls.length+1) a) S):=(ST.out.next (aT ⟨1,rfl⟩)).next c;clear c t0 t1 t2 t3;go_wp2_with fail;refine mP 8 rfl (by kernel_rfl) ?_;simp only[iZ,fB];go_wp2_with(refine bK rfl _ _ _ rfl rfl q 1 (.string ⟨(g.records++bM 80 l).toArray⟩) rfl rfl _ _ (kL ⟨g.room,g.records++bM 80 l,g.had,g.waiting++[l]⟩ (.slice f (ls.length+1) a)) d.out.row fZ (by simp[kL]) rfl rfl ?_;intro w8 T;have U:=aA T;clear T);go_ret;exact⟨rfl,_,d.out.text (r:=g.records++bM 80 l) U.out,y.out.trans (cV.of_put U.out)⟩
 ·go_wp2_with fail;refine(H.out _).mono ?_;rintro e S⟨rfl,c⟩;have d:Hid (bL S q ⟨g.room,g.records,g.had,g.waiting++[l]⟩ (ls++[l]) (.slice f (ls.length+1) a)):=(RT.out.next (aT ⟨1,rfl⟩)).next c;have y:Hid (cV q lv w (.slice f (ls.length+1) a) S):=(ST.out.next (aT ⟨1,rfl⟩)).next c;clear c t0 t1 t2 t3;obtain⟨t0,t1,t2,t3⟩:=d.out.cells;go_wp2_with fail;refine wpAny_ready (rs:=[4]) (by kernel_rfl) (by simp) ?_;refine AllReady.cons rfl (fun K x=>?_) AllReady.nil;go_simp;refine x _ _ ?_;clear x K;refine mP 8 rfl (by kernel_rfl) ?_;simp only[iZ,fB];go_wp2_with(refine bK rfl _ _ _ rfl rfl q 1 (.string ⟨(g.records++bM 80 l).toArray⟩) rfl rfl _ _ (kL ⟨g.room,g.records++bM 80 l,g.had,g.waiting++[l]⟩ (.slice f (ls.length+1) a)) d.out.row fZ (by simp[kL]) rfl rfl ?_;intro w8 T;have U:=aA T;clear T);go_ret;exact⟨rfl,_,d.out.text (r:=g.records++bM 80 l) U.out,y.out.trans (cV.of_put U.out)⟩
end Go.Proofs.Z

/- Pressed by program out of Eo Ep Eq Er. -/
import Derived.Test.YtdlhbmncbmconaaGreatDoorA36
namespace Go.Proofs.Z
open Tryz Go.RowKit Go.Sort
theorem oI:(prog.info? 82).map (·.size)=some 16:=by kernel_rfl
theorem H5{W wr:World}{b a k:Nat}{o:cK}(d:W.rangeAt b (a+k*16) (bA o).toList)(e:Below W.heap.size W wr):
  wr.cell? ⟨b,a+k*16,none⟩=some (.int .i64 o.kind)/\wr.cell? ⟨b,a+k*16+1,none⟩=some (.int .i64 o.w)/\wr.cell? ⟨b,a+k*16+2,none⟩=some (.int .i64 o.v)/\wr.cell? ⟨b,a+k*16+3,none⟩=some (.int .i64 o.u)/\wr.cell? ⟨b,a+k*16+4,none⟩=some (.int .i64 o.n)/\wr.cell? ⟨b,a+k*16+5,none⟩=some (.int .i64 o.m)/\wr.cell? ⟨b,a+k*16+6,none⟩=some (.string ⟨o.s.toArray⟩)/\wr.cell? ⟨b,a+k*16+7,none⟩=some (.int .i64 o.msg.fac)/\wr.cell? ⟨b,a+k*16+8,none⟩=some (.int .i64 o.msg.sev)/\wr.cell? ⟨b,a+k*16+9,none⟩=some (.string ⟨o.msg.time.toArray⟩)/\wr.cell? ⟨b,a+k*16+10,none⟩=some (.string ⟨o.msg.host.toArray⟩)/\wr.cell? ⟨b,a+k*16+11,none⟩=some (.string ⟨o.msg.app.toArray⟩)/\wr.cell? ⟨b,a+k*16+12,none⟩=some (.string ⟨o.msg.proc.toArray⟩)/\wr.cell? ⟨b,a+k*16+13,none⟩=some (.string ⟨o.msg.id.toArray⟩)/\wr.cell? ⟨b,a+k*16+14,none⟩=some (.string ⟨o.msg.data.toArray⟩)/\wr.cell? ⟨b,a+k*16+15,none⟩=some (.string ⟨o.msg.text.toArray⟩):=by
 have h0:=d 0 _ rfl;have f:b<W.heap.size:=block_lt_of_cell h0;have c:∀j v,(bA o).toList[j]?=some v->wr.cell? ⟨b,a+k*16+j,none⟩=some v:=fun j v h=>(e.cell (p:=⟨b,a+k*16+j,none⟩) f).trans (d j v h);exact⟨c 0 _ rfl,c 1 _ rfl,c 2 _ rfl,c 3 _ rfl,c 4 _ rfl,c 5 _ rfl,c 6 _ rfl,c 7 _ rfl,c 8 _ rfl,c 9 _ rfl,c 10 _ rfl,c 11 _ rfl,c 12 _ rfl,c 13 _ rfl,c 14 _ rfl,c 15 _ rfl⟩
set_option maxRecDepth 20000 in
set_option maxHeartbeats 4000000 in
theorem H9(p:Nat)(o:cK)(j:o.kind=3)(w:World)(Q:World->Prop)(h:Calls prog 70 #[.pointer (some ⟨p,0,none⟩),.agg (bA o)] (w.alloc (.cells (bA o) 82)) fun r g=>r= .returned (.bool true)/\Q g):
  Calls prog 41 #[.pointer (some ⟨p,0,none⟩),.agg (bA o)] w fun r g=>r= .returned (.bool true)/\Q g:=by
 have i:Hid (Calls prog 70 #[.pointer (some ⟨p,0,none⟩),.agg (bA o)] (w.alloc (.cells (bA o) 82)) fun r g=>r= .returned (.bool true)/\Q g):=h;clear h;obtain⟨u,a,b,c,n,q,s,⟨f,v,t,h1,h2,h3,h4,d,x⟩⟩:=o;unfold bA at i⊢;dsimp only at j i⊢;subst j;go_enter func41,ntmps41;go_wp2_with(first
  |(refine cG rfl _ _ rfl w.heap.size rfl _ _ _ _ (heap_alloc_new _ _) underlying82 rfl oI ?_)
  |fail)
 refine i.out.mono ?_;rintro e l⟨rfl,k⟩;have m:Hid (Q l):=k;clear k;go_wp2;go_ret;exact⟨rfl,m.out⟩
set_option maxRecDepth 20000 in
set_option maxHeartbeats 4000000 in
theorem I0(p:Nat)(o:cK)(j:o.kind=5)(w:World)(Q:World->Prop)(h:Calls prog 70 #[.pointer (some ⟨p,0,none⟩),.agg (bA o)] (w.alloc (.cells (bA o) 82)) fun r g=>r= .returned (.bool true)/\Q g):
  Calls prog 41 #[.pointer (some ⟨p,0,none⟩),.agg (bA o)] w fun r g=>r= .returned (.bool true)/\Q g:=by
 have i:Hid (Calls prog 70 #[.pointer (some ⟨p,0,none⟩),.agg (bA o)] (w.alloc (.cells (bA o) 82)) fun r g=>r= .returned (.bool true)/\Q g):=h;clear h;obtain⟨u,a,b,c,n,q,s,⟨f,v,t,h1,h2,h3,h4,d,x⟩⟩:=o;unfold bA at i⊢;dsimp only at j i⊢;subst j;go_enter func41,ntmps41;go_wp2_with(first
  |(refine cG rfl _ _ rfl w.heap.size rfl _ _ _ _ (heap_alloc_new _ _) underlying82 rfl oI ?_)
  |fail)
 refine i.out.mono ?_;rintro e l⟨rfl,k⟩;have m:Hid (Q l):=k;clear k;go_wp2;go_ret;exact⟨rfl,m.out⟩
set_option maxRecDepth 20000 in
set_option maxHeartbeats 4000000 in
theorem I4(p:Nat)(o:cK)(j:o.kind=7)(w:World)(Q:World->Prop)(h:Calls prog 70 #[.pointer (some ⟨p,0,none⟩),.agg (bA o)] (w.alloc (.cells (bA o) 82)) fun r g=>r= .returned (.bool true)/\Q g):
  Calls prog 41 #[.pointer (some ⟨p,0,none⟩),.agg (bA o)] w fun r g=>r= .returned (.bool true)/\Q g:=by
 have i:Hid (Calls prog 70 #[.pointer (some ⟨p,0,none⟩),.agg (bA o)] (w.alloc (.cells (bA o) 82)) fun r g=>r= .returned (.bool true)/\Q g):=h;clear h;obtain⟨u,a,b,c,n,q,s,⟨f,v,t,h1,h2,h3,h4,d,x⟩⟩:=o;unfold bA at i⊢;dsimp only at j i⊢;subst j;go_enter func41,ntmps41;go_wp2_with(first
  |(refine cG rfl _ _ rfl w.heap.size rfl _ _ _ _ (heap_alloc_new _ _) underlying82 rfl oI ?_)
  |fail)
 refine i.out.mono ?_;rintro e l⟨rfl,k⟩;have m:Hid (Q l):=k;clear k;go_wp2;go_ret;exact⟨rfl,m.out⟩
set_option maxRecDepth 20000 in
set_option maxHeartbeats 4000000 in
theorem I5(p:Nat)(o:cK)(j:o.kind=4)(w:World)(Q:World->Prop)(h:Calls prog 72 #[.pointer (some ⟨p,0,none⟩),.agg (bA o)] (w.alloc (.cells (bA o) 82)) fun r g=>r= .returned (.bool true)/\Q g):
  Calls prog 41 #[.pointer (some ⟨p,0,none⟩),.agg (bA o)] w fun r g=>r= .returned (.bool true)/\Q g:=by
 have i:Hid (Calls prog 72 #[.pointer (some ⟨p,0,none⟩),.agg (bA o)] (w.alloc (.cells (bA o) 82)) fun r g=>r= .returned (.bool true)/\Q g):=h;clear h;obtain⟨u,a,b,c,n,q,s,⟨f,v,t,h1,h2,h3,h4,d,x⟩⟩:=o;unfold bA at i⊢;dsimp only at j i⊢;subst j;go_enter func41,ntmps41;go_wp2_with(first
  |(refine cG rfl _ _ rfl w.heap.size rfl _ _ _ _ (heap_alloc_new _ _) underlying82 rfl oI ?_)
  |fail)
 refine i.out.mono ?_;rintro e l⟨rfl,k⟩;have m:Hid (Q l):=k;clear k;go_wp2;go_ret;exact⟨rfl,m.out⟩
set_option maxRecDepth 20000 in
set_option maxHeartbeats 4000000 in
theorem I6(p:Nat)(o:cK)(j:o.kind=6)(w:World)(Q:World->Prop)(h:Calls prog 72 #[.pointer (some ⟨p,0,none⟩),.agg (bA o)] (w.alloc (.cells (bA o) 82)) fun r g=>r= .returned (.bool true)/\Q g):
  Calls prog 41 #[.pointer (some ⟨p,0,none⟩),.agg (bA o)] w fun r g=>r= .returned (.bool true)/\Q g:=by
 have i:Hid (Calls prog 72 #[.pointer (some ⟨p,0,none⟩),.agg (bA o)] (w.alloc (.cells (bA o) 82)) fun r g=>r= .returned (.bool true)/\Q g):=h;clear h;obtain⟨u,a,b,c,n,q,s,⟨f,v,t,h1,h2,h3,h4,d,x⟩⟩:=o;unfold bA at i⊢;dsimp only at j i⊢;subst j;go_enter func41,ntmps41;go_wp2_with(first
  |(refine cG rfl _ _ rfl w.heap.size rfl _ _ _ _ (heap_alloc_new _ _) underlying82 rfl oI ?_)
  |fail)
 refine i.out.mono ?_;rintro e l⟨rfl,k⟩;have m:Hid (Q l):=k;clear k;go_wp2;go_ret;exact⟨rfl,m.out⟩
set_option maxRecDepth 20000 in
set_option maxHeartbeats 4000000 in
theorem I7(p:Nat)(o:cK)(j:o.kind=8)(w:World)(Q:World->Prop)(h:Calls prog 73 #[.pointer (some ⟨p,0,none⟩),.agg (bA o)] (w.alloc (.cells (bA o) 82)) fun r g=>r= .returned (.bool true)/\Q g):
  Calls prog 41 #[.pointer (some ⟨p,0,none⟩),.agg (bA o)] w fun r g=>r= .returned (.bool true)/\Q g:=by
 have i:Hid (Calls prog 73 #[.pointer (some ⟨p,0,none⟩),.agg (bA o)] (w.alloc (.cells (bA o) 82)) fun r g=>r= .returned (.bool true)/\Q g):=h;clear h;obtain⟨u,a,b,c,n,q,s,⟨f,v,t,h1,h2,h3,h4,d,x⟩⟩:=o;unfold bA at i⊢;dsimp only at j i⊢;subst j;go_enter func41,ntmps41;go_wp2_with(first
  |(refine cG rfl _ _ rfl w.heap.size rfl _ _ _ _ (heap_alloc_new _ _) underlying82 rfl oI ?_)
  |fail)
 refine i.out.mono ?_;rintro e l⟨rfl,k⟩;have m:Hid (Q l):=k;clear k;go_wp2;go_ret;exact⟨rfl,m.out⟩
set_option maxRecDepth 20000 in
set_option maxHeartbeats 4000000 in
theorem I8(p:Nat)(o:cK)(j:o.kind=9)(w:World)(Q:World->Prop)(h:Calls prog 73 #[.pointer (some ⟨p,0,none⟩),.agg (bA o)] (w.alloc (.cells (bA o) 82)) fun r g=>r= .returned (.bool true)/\Q g):
  Calls prog 41 #[.pointer (some ⟨p,0,none⟩),.agg (bA o)] w fun r g=>r= .returned (.bool true)/\Q g:=by
 have i:Hid (Calls prog 73 #[.pointer (some ⟨p,0,none⟩),.agg (bA o)] (w.alloc (.cells (bA o) 82)) fun r g=>r= .returned (.bool true)/\Q g):=h;clear h;obtain⟨u,a,b,c,n,q,s,⟨f,v,t,h1,h2,h3,h4,d,x⟩⟩:=o;unfold bA at i⊢;dsimp only at j i⊢;subst j;go_enter func41,ntmps41;go_wp2_with(first
  |(refine cG rfl _ _ rfl w.heap.size rfl _ _ _ _ (heap_alloc_new _ _) underlying82 rfl oI ?_)
  |fail)
 refine i.out.mono ?_;rintro e l⟨rfl,k⟩;have m:Hid (Q l):=k;clear k;go_wp2;go_ret;exact⟨rfl,m.out⟩
set_option maxRecDepth 20000 in
set_option maxHeartbeats 4000000 in
theorem I9(p:Nat)(o:cK)(j:o.kind=10)(w:World)(Q:World->Prop)(h:Calls prog 73 #[.pointer (some ⟨p,0,none⟩),.agg (bA o)] (w.alloc (.cells (bA o) 82)) fun r g=>r= .returned (.bool true)/\Q g):
  Calls prog 41 #[.pointer (some ⟨p,0,none⟩),.agg (bA o)] w fun r g=>r= .returned (.bool true)/\Q g:=by
 have i:Hid (Calls prog 73 #[.pointer (some ⟨p,0,none⟩),.agg (bA o)] (w.alloc (.cells (bA o) 82)) fun r g=>r= .returned (.bool true)/\Q g):=h;clear h;obtain⟨u,a,b,c,n,q,s,⟨f,v,t,h1,h2,h3,h4,d,x⟩⟩:=o;unfold bA at i⊢;dsimp only at j i⊢;subst j;go_enter func41,ntmps41;go_wp2_with(first
  |(refine cG rfl _ _ rfl w.heap.size rfl _ _ _ _ (heap_alloc_new _ _) underlying82 rfl oI ?_)
  |fail)
 refine i.out.mono ?_;rintro e l⟨rfl,k⟩;have m:Hid (Q l):=k;clear k;go_wp2;go_ret;exact⟨rfl,m.out⟩
set_option maxRecDepth 20000 in
set_option maxHeartbeats 4000000 in
theorem J1(p:Nat)(o:cK)(j:o.kind=11)(w:World)(Q:World->Prop)(h:Calls prog 73 #[.pointer (some ⟨p,0,none⟩),.agg (bA o)] (w.alloc (.cells (bA o) 82)) fun r g=>r= .returned (.bool true)/\Q g):
  Calls prog 41 #[.pointer (some ⟨p,0,none⟩),.agg (bA o)] w fun r g=>r= .returned (.bool true)/\Q g:=by
 have i:Hid (Calls prog 73 #[.pointer (some ⟨p,0,none⟩),.agg (bA o)] (w.alloc (.cells (bA o) 82)) fun r g=>r= .returned (.bool true)/\Q g):=h;clear h;obtain⟨u,a,b,c,n,q,s,⟨f,v,t,h1,h2,h3,h4,d,x⟩⟩:=o;unfold bA at i⊢;dsimp only at j i⊢;subst j;go_enter func41,ntmps41;go_wp2_with(first
  |(refine cG rfl _ _ rfl w.heap.size rfl _ _ _ _ (heap_alloc_new _ _) underlying82 rfl oI ?_)
  |fail)
 refine i.out.mono ?_;rintro e l⟨rfl,k⟩;have m:Hid (Q l):=k;clear k;go_wp2;go_ret;exact⟨rfl,m.out⟩
set_option maxRecDepth 20000 in
set_option maxHeartbeats 4000000 in
theorem J2(p:Nat)(o:cK)(j:o.kind=12)(w:World)(Q:World->Prop)(h:Calls prog 74 #[.pointer (some ⟨p,0,none⟩),.agg (bA o)] (w.alloc (.cells (bA o) 82)) fun r g=>r= .returned (.bool true)/\Q g):
  Calls prog 41 #[.pointer (some ⟨p,0,none⟩),.agg (bA o)] w fun r g=>r= .returned (.bool true)/\Q g:=by
 have i:Hid (Calls prog 74 #[.pointer (some ⟨p,0,none⟩),.agg (bA o)] (w.alloc (.cells (bA o) 82)) fun r g=>r= .returned (.bool true)/\Q g):=h;clear h;obtain⟨u,a,b,c,n,q,s,⟨f,v,t,h1,h2,h3,h4,d,x⟩⟩:=o;unfold bA at i⊢;dsimp only at j i⊢;subst j;go_enter func41,ntmps41;go_wp2_with(first
  |(refine cG rfl _ _ rfl w.heap.size rfl _ _ _ _ (heap_alloc_new _ _) underlying82 rfl oI ?_)
  |fail)
 refine i.out.mono ?_;rintro e l⟨rfl,k⟩;have m:Hid (Q l):=k;clear k;go_wp2;go_ret;exact⟨rfl,m.out⟩
set_option maxRecDepth 20000 in
set_option maxHeartbeats 8000000 in
theorem J3(lo hi:Int)(L:Option Addr)(ops:List cK)(x:Nat)(w:World)(y:oG 4000000000 w L ops)(c:Nat->World->Prop)(i:Calls prog 40 #[.int .i64 lo,.int .i64 hi] w fun e a=>e= .returned (.pointer (some ⟨w.heap.size,0,none⟩))/\c 0 a)(d:∀k o a,ops[k]?=some o->lo<=o.kind->o.kind<=hi->c k a->Calls prog 41 #[.pointer (some ⟨w.heap.size,0,none⟩),.agg (bA o)] a fun r l=>r= .returned (.bool true)/\c (k+1) l)(f:∀k a,k<ops.length->c k a->c (k+1) a)(g:∀k a,c k a->Calls prog 42 #[.pointer (some ⟨w.heap.size,0,none⟩)] a fun r l=>r= .returned (.bool true)/\c k l)(j:∀k a,c k a->Below w.heap.size w a):
  Calls prog 17 #[.slice L ops.length x,.int .i64 lo,.int .i64 hi] w fun e a=>e= .returned (.bool true)/\Below w.heap.size w a:=by
 have O:Hid (Calls prog 40 #[.int .i64 lo,.int .i64 hi] w fun e a=>e= .returned (.pointer (some ⟨w.heap.size,0,none⟩))/\c 0 a):=i;have P:=show Hid _ from g;have Q:=show Hid _ from f;have M:=show Hid _ from j;have z:=show Hid _ from d;have R:=show Hid _ from y;have A:=y.most;clear y i g f j d;go_enter func17,ntmps17;go_wp2_with fail;refine O.out.mono ?_;rintro e S⟨rfl,n⟩;have B:Hid (c 0 S):=n;clear n;go_wp2;go_loopw [8,9,10,11] (fun s8 _ _ _ wr=>∃k:Nat,k<=ops.length/\s8= .int .i64 k/\c k wr) (fun s8 _ _ _ _=>ops.length-(intOf s8).toNat)
 case atStart=>exact⟨0,dM _,rfl,B.out⟩
 case round=>
  obtain⟨k,hk,rfl,p⟩:=hrel;have h:Hid (c k wr):=p;clear p;by_cases q:k<ops.length;case neg=>
   have C:¬(k:Int)<(ops.length:Int):=by omega
   go_wp2;go_ret;exact⟨rfl,M.out _ _ h.out⟩
  have C:(k:Int)<(ops.length:Int):=by omega
  obtain⟨o,s⟩:∃o,ops[k]?=some o:=⟨_,dP q⟩;obtain⟨b,T,rfl,t⟩:=R.out.cells k o s;have m:Hid (c (k+1) wr):=Q.out k wr q h.out;obtain⟨U,d1,d2,d3,d4,V,W,X,Y,Z,D,E,F,G,H,I⟩:=H5 t (M.out _ _ h.out);clear t;by_cases h1:lo<=o.kind;case neg=>
   clear s;go_wp2;go_roundw;case rel=>exact⟨k+1,by omega,aY (by simp),m.out⟩
   case measure=>simp[intOf];omega
  by_cases h2:o.kind<=hi;case neg=>
   clear s;go_wp2;go_roundw;case rel=>exact⟨k+1,by omega,aY (by simp),m.out⟩
   case measure=>simp[intOf];omega
  have N:Hid (Calls prog 41 #[.pointer (some ⟨w.heap.size,0,none⟩),.agg (bA o)] wr fun r l=>r= .returned (.bool true)/\c (k+1) l):=z.out k o wr s h1 h2 h.out;unfold bA at N;clear s h m;go_wp2_with fail;refine N.out.mono ?_;rintro e l⟨rfl,u⟩;have J:Hid (c (k+1) l):=u;clear u U d1 d2 d3 d4 V W X Y Z D E F G H I;go_wp2_with fail;refine(P.out _ _ J.out).mono ?_;rintro e w3⟨rfl,v⟩;have K:Hid (c (k+1) w3):=v;clear v;go_wp2;go_roundw;case rel=>exact⟨k+1,by omega,aY (by simp),K.out⟩
  case measure=>simp[intOf];omega
end Go.Proofs.Z
namespace Go.Hm
def KJ:List UInt8:=[42,46,100,101,98,117,103,32,100,114,111,112,10]
theorem J8:nC KJ= .ok [⟨16777215,255,false⟩]:=by kernel_rfl
end Go.Hm
namespace Go.Proofs.Z
open Hm Go.RowKit Go.Sort
def KL:cK:=⟨3,0,0,0,100,0,[],⟨0,0,[],[],[],[],[],[],[]⟩⟩
def KN:cK:=⟨5,0,0,0,0,0,KJ,⟨0,0,[],[],[],[],[],[],[]⟩⟩
theorem J9:bA KL=#[.int .i64 3,.int .i64 0,.int .i64 0,.int .i64 0,.int .i64 100,.int .i64 0,.string ⟨#[]⟩,.int .i64 0,.int .i64 0,.string ⟨#[]⟩,.string ⟨#[]⟩,.string ⟨#[]⟩,.string ⟨#[]⟩,.string ⟨#[]⟩,.string ⟨#[]⟩,.string ⟨#[]⟩]:=rfl
theorem K4:bA KN=#[.int .i64 5,.int .i64 0,.int .i64 0,.int .i64 0,.int .i64 0,.int .i64 0,.string ⟨#[42,46,100,101,98,117,103,32,100,114,111,112,10]⟩,.int .i64 0,.int .i64 0,.string ⟨#[]⟩,.string ⟨#[]⟩,.string ⟨#[]⟩,.string ⟨#[]⟩,.string ⟨#[]⟩,.string ⟨#[]⟩,.string ⟨#[]⟩]:=rfl
end Go.Proofs.Z
namespace Go.Proofs.Z
open Hm Tryz Go.RowKit Go.Sort
attribute [local go_sem] cN cO
theorem K5{B p:Nat}{k:List dJ}{c:List eI}{X:World->(Nat->Nat×Nat)->Prop}{r pf:List Value}{L n:Nat}{W:World}(h:aV B p k c X r pf L n W){i:Nat}{x:eI}(o:c[i]?=some x)(f s:Int):
  ∃(b:Bool)(E:Int),(∀w:World,Below W.heap.size W w->Calls prog 33 #[.pointer (some ⟨x.p,0,none⟩),.int .i64 f,.int .i64 s] w fun e j=>e= .returned (.tuple #[.bool b,.int .i64 E])/\Below w.heap.size w j)/\
   (∀w:World,Below W.heap.size W w->Calls prog 118 #[.pointer (some ⟨x.q,0,none⟩),.int .i64 f,.int .i64 s] w fun e j=>e= .returned (.tuple #[.bool b,.int .i64 E])/\Below w.heap.size w j):=by
 cases a:fH f s with
 |false=>
  refine⟨false,10,fun w _=>XX x.p f s w a,fun w _=>(z7 x.q f s w a).mono ?_⟩;rintro e j⟨rfl,rfl⟩;exact⟨rfl,aF _ _⟩
 |true=>
  have y:((0<=f/\f<24)/\0<=s)/\s<8:=by simpa[fH]using a
  obtain⟨d,rfl⟩:∃d:Nat,f=d:=⟨f.toNat,by omega⟩;obtain⟨g,rfl⟩:∃g:Nat,s=g:=⟨s.toNat,by omega⟩;refine⟨fD x.rs d g,0,fun w hw=>?_,fun w hw=>?_⟩
  ·obtain⟨_,_,_,_,_,_,_,_,l,_,t,m⟩:=(h.next hw).fresh.ruleAt o;exact IC x.p x.rs x.v d g w l t (by omega) (by omega) m
  ·obtain⟨_,_,_,_,_,_,_,_,_,l,_,m⟩:=(h.next hw).fresh.ruleAt o;exact JO x.q x.rs x.xs x.u d g (by omega) (by omega) m w l
set_option maxRecDepth 20000 in
set_option maxHeartbeats 8000000 in
theorem K7{B p:Nat}{z:List dJ}{g:List eI}{X:World->(Nat->Nat×Nat)->Prop}{pe pf:List Value}{L n:Nat}{w:World}(h:aV B p z g X pe pf L n w)(o:cK)(hk:o.kind=6)(A: -9223372036854775808<=o.v/\o.v<=9223372036854775807)(u:0<g.length)(G:g.length<=4000000000):
  Calls prog 72 #[.pointer (some ⟨p,0,none⟩),.agg (bA o)] w fun e k=>e= .returned (.bool true)/\Below w.heap.size w k:=by
 have PK:Hid (∀w,Calls prog 114 #[.int .i64 o.v,.int .i64 g.length] w fun e k=>e= .returned (.int .i64 (iV o.v g.length))/\k=w):=fun w=>pG o.v g.length u G A.1 A.2 w;have y:=pF o.v u;generalize iV o.v g.length=i at PK y;obtain⟨x,hx⟩:∃x,g[i]?=some x:=⟨_,dP y⟩;clear A;obtain⟨kd,a,b,c,mm,q,s,⟨f,sv,t,h1,h2,h3,h4,d,tx⟩⟩:=o;dsimp only at hk PK;subst hk;unfold bA;dsimp only;have HH:Hid (aV B p z g X pe pf L n w):=h;clear h;have aa:(i:Int)<(g.length:Int):=by omega
 go_enter func72,ntmps72;go_wp2_with fail;generalize hW:w.alloc _=W;have H:Hid (Below w.heap.size w W):=by
  show Below _ _ _;rw[<-hW];exact(aF _ _).alloc (aC _) _
 have I:Hid (W.heap[w.heap.size]?=some (.cells #[.int .i64 6,.int .i64 a,.int .i64 b,.int .i64 c,.int .i64 mm,.int .i64 q,.string ⟨s.toArray⟩,.int .i64 f,.int .i64 sv,.string ⟨t.toArray⟩,.string ⟨h1.toArray⟩,.string ⟨h2.toArray⟩,.string ⟨h3.toArray⟩,.string ⟨h4.toArray⟩,.string ⟨d.toArray⟩,.string ⟨tx.toArray⟩] 82 (0,0))):=by
  show _=_;rw[<-hW];exact heap_alloc_new _ _
 clear hW;have m:w.heap.size<W.heap.size:=(aM.1 I.out).1;have J:Hid (aV B p z g X pe pf L n W):=HH.out.next H.out;obtain⟨bb,E,k1,k2⟩:=K5 J.out hx mm q;have K1:=show Hid _ from k1;have K2:=show Hid _ from k2;have NU:Hid (∀w,Calls prog 107 #[.int .i64 E] w fun r k=>r= .returned (.int .i64 E)/\k=w):=fun w=>oH E w;obtain⟨g0,K,g1,M,c0,s0,N,s1,_⟩:=J.out.fresh.ruleAt hx;unfold bQ at s0 s1;clear k1 k2 hx;obtain⟨y0,y1,y2,y3,y4,y5,y6⟩:=rI I.out;go_quiet((go_at_call 114;exact Calls.quiet_of_same (PK.out _)))
 go_wp2_with fail;go_region_held (fun k=>k.cell? ⟨p,2,none⟩=some (.slice (some ⟨g0,0,none⟩) g.length K)/\k.cell? ⟨g0,i,none⟩=some (.pointer (some ⟨x.p,0,none⟩))/\k.cell? ⟨w.heap.size,4,none⟩=some (.int .i64 mm)/\k.cell? ⟨w.heap.size,5,none⟩=some (.int .i64 q)) (first|exact⟨c0,s0,y4,y5⟩|exact⟨O,P,C,D⟩)
  (first|(go_at_call 33;refine(K1.out _ (aT ⟨_,rfl⟩)).mono ?_;rintro e w1⟨rfl,Q⟩;have j:Hid (Below W.heap.size W w1):=Below.next (aT ⟨_,rfl⟩) (aC _) Q;have O:=(j.out.cell (p:=⟨p,2,none⟩) (block_lt_of_cell c0)).trans c0;have P:=(j.out.cell (p:=⟨g0,i,none⟩) (block_lt_of_cell s0)).trans s0;have C:=(j.out.cell (p:=⟨w.heap.size,4,none⟩) m).trans y4;have D:=(j.out.cell (p:=⟨w.heap.size,5,none⟩) m).trans y5;clear Q))
 have R:=(j.out.cell (p:=⟨p,3,none⟩) (block_lt_of_cell N)).trans N;have S:=(j.out.cell (p:=⟨g1,i,none⟩) (block_lt_of_cell s1)).trans s1;clear c0 s0 O P;go_wp2_with fail;go_region_held (fun k=>k.cell? ⟨p,3,none⟩=some (.slice (some ⟨g1,0,none⟩) g.length M)/\k.cell? ⟨g1,i,none⟩=some (.pointer (some ⟨x.q,0,none⟩))/\k.cell? ⟨w.heap.size,4,none⟩=some (.int .i64 mm)/\k.cell? ⟨w.heap.size,5,none⟩=some (.int .i64 q)) (first|exact⟨R,S,C,D⟩|exact⟨T,U,V,Y⟩)
  (first|(go_at_call 118;refine(K2.out _ (Below.next j.out (aC _) (aT ⟨1,rfl⟩))).mono ?_;rintro e w2⟨rfl,Z⟩;have l:Hid (Below W.heap.size W w2):=Below.next (Below.next j.out (aC _) (aT ⟨1,rfl⟩)) (aC _) Z;have T:=(l.out.cell (p:=⟨p,3,none⟩) (block_lt_of_cell N)).trans N;have U:=(l.out.cell (p:=⟨g1,i,none⟩) (block_lt_of_cell s1)).trans s1;have V:=(l.out.cell (p:=⟨w.heap.size,4,none⟩) m).trans y4;have Y:=(l.out.cell (p:=⟨w.heap.size,5,none⟩) m).trans y5;clear Z))
 clear N s1 R S T U y0 y1 y2 y3 y4 y5 y6 C D V Y;go_wp2_with fail;refine(NU.out _).mono ?_;rintro e w3⟨rfl,F⟩;have F:=F.symm;subst F;go_wp2;go_ret;exact⟨rfl,Below.next H.out (aC _) l.out⟩
end Go.Proofs.Z
namespace Go.Proofs.Z
open Go.RowKit Go.Sort
def pJ(ops:List cK)(k:Nat):Nat:=((ops.take k).map fun o=>o.s.length).sum
theorem wS{ops:List cK}{k:Nat}{o:cK}(h:ops[k]?=some o):pJ ops (k+1)=pJ ops k+o.s.length:=by
 unfold pJ;rw[pS,h];simp
theorem AU(ops:List cK)(k:Nat):pJ ops k<=(ops.map fun o=>o.s.length).sum:=by
 have h:=aQ (fun l:List cK=>(l.map fun o=>o.s.length).sum) (qS k ops);simp only[iN,List.sum_append]at h;unfold pJ;omega
theorem oG.mono{A B:Nat}{W:World}{b:Option Addr}{ops:List cK}(h:oG A W b ops)(a:A<=B):oG B W b ops:=
 ⟨h.cells,fun o c=>(h.small o c).mono a,cH h.most a,cH h.sum a⟩
end Go.Proofs.Z

/- Pressed by program out of Bi Bh. -/
import Derived.Test.YtdlhbmncbmconaaGreatDoorA11
namespace Go.Proofs.Z
open Hm Hw Tryz Go.RowKit
def dI(f:aE)(v:Value):Array Value:=#[.int .i64 f.bound,.int .i64 f.stage,.int .i64 f.head,.int .i64 f.number,v]
structure aW(w:World)(p:Nat)(f:aE)(v:Value):Prop where
 row:w.heap[p]?=some (.cells (dI f v) 100 (0,0))
 own:w.ownsRow 11 5 1 v f.own.length (f.own.map fun b=>Value.int .u8 b.toNat)
 ne:v.ownBlock≠some p
 lo:11<=p
theorem aW.cells{w:World}{p:Nat}{f:aE}{v:Value}(h:aW w p f v):
  w.cell? ⟨p,0,none⟩=some (.int .i64 f.bound)/\w.cell? ⟨p,1,none⟩=some (.int .i64 f.stage)/\w.cell? ⟨p,2,none⟩=some (.int .i64 f.head)/\w.cell? ⟨p,3,none⟩=some (.int .i64 f.number)/\w.cell? ⟨p,4,none⟩=some v:=by
 have a:=h.row;unfold dI at a;refine⟨?_,?_,?_,?_,?_⟩ <;> simp[World.cell?,a]
theorem rA{w:World}{c e n:Nat}{v:Value}{xs:List Value}(h:w.ownsRow c e 1 v n xs)(d:0<n):
  ∃g a b,v= .slice (some ⟨g,0,none⟩) n a/\c<=g/\w.heap[g]?=some (.cells b e (0,0))/\n<=a/\a<=maxLen/\b.size=a/\b.toList.take n=xs:=by
 rcases h.2 with⟨_,h0⟩|⟨g,a,b,h1,h2,h3,h4,h5,h6,h7⟩
 ·omega
 ·exact⟨g,a,b,h1,h2,h3,h4,h5,by simpa using h6,by simpa using h7⟩
theorem GH{w:World}{c g a:Nat}{l:List UInt8}(h:w.ownsRow c 5 1 (.slice (some ⟨g,0,none⟩) l.length a) l.length (l.map fun b=>Value.int .u8 b.toNat)):
  (convert 72 9 (.slice (some ⟨g,0,none⟩) l.length a)).run prog w= .ok (.string ⟨l.toArray⟩) w:=
 run_convert_bytes_back w 72 9 5 ⟨g,0,none⟩ a l underlying72 underlying5 underlying9 (fun j d=>h.cells rfl j _ (by simp[d]))
theorem GI:(prog.info? 100).map (·.size)=some 5:=by kernel_rfl
structure dF(p:Nat)(v:Value)(w:World)(v':Value)(w':World):Prop where
 kept:aN (fun k=>k=p∨v.ownBlock=some k) w w'
 lies:∀k,v'.ownBlock=some k->v.ownBlock=some k∨w.heap.size<=k
theorem dF.trans{p:Nat}{v v' d:Value}{a b c:World}(h:dF p v a v' b)(k:dF p v' b d c):dF p v a d c where
 kept:=h.kept.trans k.kept (fun i hi e=>by
  rcases e with e|e
  ·exact .inl e
  ·rcases h.lies i e with e|e
   ·exact .inr e
   ·omega)
 lies i e:=by
  rcases k.lies i e with e|e
  ·exact h.lies i e
  ·exact .inr (cH h.kept.size e)
theorem Put.framesAt{w c:World}{p:Nat}{f:aE}{v:Value}(P:aI w p 100 (dI f v) c)(a:w.ownsRow 11 5 1 v f.own.length (f.own.map fun b=>Value.int .u8 b.toNat))(ne:v.ownBlock≠some p)(lo:11<=p):aW c p f v:=
 ⟨P.row,cQ a P.kept (fun k e h=>ne (by rw[e,h])),ne,lo⟩
theorem Put.stepF{w a:World}{p:Nat}{t:TypeId}{b:Array Value}{v v':Value}(P:aI w p t b a)(h:∀k,v'.ownBlock=some k->v.ownBlock=some k):dF p v w v' a:=
 ⟨P.kept.mono (fun _ _ e=> .inl e),fun k e=> .inl (h k e)⟩
set_option maxRecDepth 20000 in
theorem GJ(p:Nat)(f:aE)(v:Value)(w:World)(h:aW w p f v)(b:f.own≠[])(y:f.own.length<=1000):
  Calls prog 181 #[.pointer (some ⟨p,0,none⟩)] w fun e q=>e= .returned (.string ⟨(61::f.own).toArray⟩)/\∃v',aW q p (aE.fresh f.bound) v'/\dF p v w v' q:=by
 obtain⟨z,A,B,C,D⟩:=h.cells;obtain⟨row,own,ne,lo⟩:=h;have a:0<f.own.length:=List.length_pos_iff.2 b;obtain⟨g,d,u,rfl,E,c,i,j,l,m⟩:=rA own a;have n:=GH own;have o:=aA row;clear row own c l m i j a b;have r:¬9223372036854775807<1+f.own.length:=by omega
 go_enter func181,ntmps181;go_wp2_with(refine bI rfl _ _ _ rfl rfl p #[.int .i64 f.bound,.int .i64 0,.int .i64 0,.int .i64 0,.slice none 0 0] rfl rfl _ _ o.out GI rfl rfl ?_;intro x s;have t:=aA s;clear s);go_ret;refine⟨by congr 2,.slice none 0 0,Put.framesAt (f:=aE.fresh f.bound) t.out (World.ownsRow_nil _ _ _ _) (by simp[Value.ownBlock]) lo,Put.stepF t.out (fun k e=>by cases e)⟩
theorem rB:(prog.info? 98).map (·.size)=some 1:=by kernel_rfl
theorem sN:(prog.info? 3).map (·.size)=some 1:=by kernel_rfl
theorem nQ:(prog.info? 72).map (·.size)=some 1:=by kernel_rfl
theorem wC{c:UInt8}{n:Nat}(h:¬c=UInt8.ofNat n)(a:n<256):¬(c.toNat:Int)=(n:Int):=fun e=>h (eY.1 (by simp;omega))
theorem dF.refl{p:Nat}{v:Value}{w:World}:dF p v w v w:=⟨aN.refl _ _,fun _ e=> .inl e⟩
theorem GK(p:Nat)(f:aE)(v:Value)(w:World)(h:aW w p f v)(c:UInt8):
  Calls prog 142 #[.pointer (some ⟨p,0,none⟩),.int .u8 c.toNat] w fun e i=>(∃u,e= .returned u)/\aW i p ⟨f.bound,if c=10 then 0 else f.stage,f.head,f.number,f.own⟩ v/\dF p v w v i:=by
 by_cases a:c=10
 ·rw[aD a];subst a;have d:=aA h.row;have b:=aA h;clear h;go_enter func142,ntmps142;go_wp2_with(refine bK rfl _ _ _ rfl rfl p 1 (.int .i64 0) rfl rfl _ _ _ d.out rB (by simp[dI]) rfl rfl ?_;intro m j;have l:=aA j;clear j);refine bodyPost_end (results_none rfl _ _ _) rfl ?_;exact⟨⟨_,rfl⟩,Put.framesAt (f:=⟨f.bound,0,f.head,f.number,f.own⟩) l.out b.out.own b.out.ne b.out.lo,Put.stepF l.out (fun k e=>e)⟩
 ·rw[aB a];have g:=wC (n:=10) a (by omega);have o:((c.toNat:Int)==10)=false:=bG.2 g;clear a;have b:=aA h;clear h;go_enter func142,ntmps142;go_wp2;refine bodyPost_end (results_none rfl _ _ _) rfl ?_;exact⟨⟨_,rfl⟩,b.out,dF.refl⟩
set_option maxRecDepth 20000 in
theorem zP(p:Nat)(f:aE)(v:Value)(w:World)(h:aW w p f v)(c:UInt8):
  Calls prog 180 #[.pointer (some ⟨p,0,none⟩),.int .u8 c.toNat] w fun e d=>e= .returned (.string ⟨(f.endBad c).2.toArray⟩)/\∃v',aW d p (f.endBad c).1 v'/\dF p v w v' d:=by
 obtain⟨t,j,l,m,n⟩:=h.cells;have a:=aA h.row;have o:=aA h.lo;clear h j l m n;go_enter func180,ntmps180;go_wp2_with(refine bI rfl _ _ _ rfl rfl p #[.int .i64 f.bound,.int .i64 4,.int .i64 0,.int .i64 0,.slice none 0 0] rfl rfl _ _ a.out GI rfl rfl ?_;intro b g;have i:=aA g;clear g);have q:aW b p ⟨f.bound,4,0,0,[]⟩ (.slice none 0 0):=Put.framesAt (f:=⟨f.bound,4,0,0,[]⟩) i.out (World.ownsRow_nil _ _ _ _) (by simp[Value.ownBlock]) o.out;refine(GK p _ _ b q c).mono ?_;rintro e x⟨⟨u,rfl⟩,r,s⟩;go_wp2;go_ret;exact⟨rfl,.slice none 0 0,r,(Put.stepF (v':= .slice none 0 0) i.out (fun k e=>by cases e)).trans s⟩
theorem aW.cellsH{w:World}{p:Nat}{f:aE}{v:Value}(h:w.heap[p]?=some (.cells (dI f v) 100 (0,0))):
  w.cell? ⟨p,0,none⟩=some (.int .i64 f.bound)/\w.cell? ⟨p,1,none⟩=some (.int .i64 f.stage)/\w.cell? ⟨p,2,none⟩=some (.int .i64 f.head)/\w.cell? ⟨p,3,none⟩=some (.int .i64 f.number)/\w.cell? ⟨p,4,none⟩=some v:=by
 unfold dI at h;refine⟨?_,?_,?_,?_,?_⟩ <;> simp[World.cell?,h]
theorem aW.drewN{w:World}{p:Nat}{f:aE}{v:Value}(h:aW w p f v)(n:Nat):aW (w.drewN n) p f v:=⟨h.row,h.own,h.ne,h.lo⟩
theorem dF.drewN{p:Nat}{v v':Value}{a b:World}(h:dF p v a v' b)(n:Nat):dF p v a v' (b.drewN n):=⟨h.kept.next (aT ⟨_,rfl⟩),h.lies⟩
set_option maxRecDepth 20000 in
theorem GM(p:Nat)(f:aE)(v:Value)(w:World)(h:aW w p f v)(c:UInt8)(h1:f.head<=1000)(h2:f.number<=1000)(h3:f.bound<=1000):
  Calls prog 139 #[.pointer (some ⟨p,0,none⟩),.int .u8 c.toNat] w fun e E=>e= .returned (.string ⟨(f.takeNumber c).2.toArray⟩)/\∃v',aW E p (f.takeNumber c).1 v'/\dF p v w v' E:=by
 obtain⟨b,st,a,i,d⟩:=f;dsimp only at h1 h2 h3;obtain⟨F,G,H,I,J⟩:=h.cells;dsimp only at F G H I J;have s:Hid (w.heap[p]?=some (.cells (dI ⟨b,st,a,i,d⟩ v) 100 (0,0))):=h.row;have j:Hid (aW w p ⟨b,st,a,i,d⟩ v):=h;clear h;have A:Hid (∀w,Calls prog 84 #[.int .u8 c.toNat] w fun e E=>e= .returned (.bool (aH c))/\E=w):=fun w=>pX c w;unfold aE.takeNumber;cases m:aH c
 ·rw[aB (by simp)];rw[m]at A;clear m;by_cases B:c=32
  ·rw[aD B];subst B;go_enter func139,ntmps139;go_wp2_with(first
    |(refine bK rfl _ _ _ rfl rfl p 2 _ rfl rfl _ _ _ s.out sN (by simp[dI]) rfl rfl ?_;intro x o;have g:Hid (aI w p 100 (dI ⟨b,st,a+1,i,d⟩ v) x):=o;clear o;obtain⟨t,d1,d2,d3,d4⟩:=aW.cellsH g.out.row;dsimp only at t d1 d2 d3 d4)
    |(go_at_call 84;refine(A.out _).mono ?_;rintro e K⟨rfl,rfl⟩)
    |(refine bK rfl _ _ _ rfl rfl p 1 _ rfl rfl _ _ (dI ⟨b,2,a+1,i,d⟩ v) g.out.row rB (by simp[dI]) rfl rfl ?_;intro r u;have l:Hid (aI _ p 100 (dI ⟨b,2,a+1,i,d⟩ v) r):=u;clear u))
   go_ret;exact⟨rfl,v,Put.framesAt (f:=⟨b,2,a+1,i,d⟩) l.out (Put.framesAt (f:=⟨b,st,a+1,i,d⟩) g.out j.out.own j.out.ne j.out.lo).own j.out.ne j.out.lo,(Put.stepF g.out (fun k e=>e)).trans (Put.stepF l.out (fun k e=>e))⟩
  ·rw[aB B];have L:=wC (n:=32) B (by omega);have Z:((c.toNat:Int)==32)=false:=bG.2 L;clear B;go_enter func139,ntmps139;go_wp2_with(first
    |(refine bK rfl _ _ _ rfl rfl p 2 _ rfl rfl _ _ _ s.out sN (by simp[dI]) rfl rfl ?_;intro x o;have g:Hid (aI w p 100 (dI ⟨b,st,a+1,i,d⟩ v) x):=o;clear o;obtain⟨t,d1,d2,d3,d4⟩:=aW.cellsH g.out.row;dsimp only at t d1 d2 d3 d4)
    |(go_at_call 84;refine(A.out _).mono ?_;rintro e K⟨rfl,rfl⟩))
   have F2:=Put.framesAt (f:=⟨b,st,a+1,i,d⟩) g.out j.out.own j.out.ne j.out.lo;refine(zP p _ _ _ F2 c).mono ?_;rintro e w4⟨rfl,M,N,O⟩;go_wp2;go_ret;exact⟨rfl,M,N,(Put.stepF g.out (fun k e=>e)).trans O⟩
 ·rw[aD rfl];have P:=(zC c).1 m;have Q:Hid (10*(i:Int)+((c.toNat:Int)-48)%256=((10*i+(c.toNat-48):Nat):Int)):=by show _=_;omega
  have R:Hid (10*i+(c.toNat-48)<=20000):=by show _<=_;omega
  rw[m]at A;clear m P;generalize 10*i+(c.toNat-48)=q at Q R⊢;by_cases Y:b<q
  ·rw[aD Y];have S:(b:Int)<(q:Int):=by omega
   go_enter func139,ntmps139;go_wp2_with(first
    |(refine bK rfl _ _ _ rfl rfl p 2 _ rfl rfl _ _ _ s.out sN (by simp[dI]) rfl rfl ?_;intro x o;have g:Hid (aI w p 100 (dI ⟨b,st,a+1,i,d⟩ v) x):=o;clear o;obtain⟨t,d1,d2,d3,d4⟩:=aW.cellsH g.out.row;dsimp only at t d1 d2 d3 d4)
    |(go_at_call 84;refine(A.out _).mono ?_;rintro e K⟨rfl,rfl⟩)
    |(refine bK rfl _ _ _ rfl rfl p 3 (.int .i64 (10*(i:Int)+((c.toNat:Int)-48)%256)) rfl rfl _ _ (dI ⟨b,st,a+1,q,d⟩ v) g.out.row sN (by simp[dI]) rfl (by rw[Q.out];rfl) ?_;intro r u;have l:Hid (aI _ p 100 (dI ⟨b,st,a+1,q,d⟩ v) r):=u;clear u;obtain⟨T,U,V,W,X⟩:=aW.cellsH l.out.row;dsimp only at T U V W X;clear t d1 d2 d3 d4))
   have C:=Put.framesAt (f:=⟨b,st,a+1,q,d⟩) l.out (Put.framesAt (f:=⟨b,st,a+1,i,d⟩) g.out j.out.own j.out.ne j.out.lo).own j.out.ne j.out.lo;have D:dF p v w v r:=(Put.stepF g.out (fun k e=>e)).trans (Put.stepF l.out (fun k e=>e));have y:Hid (aW r p ⟨b,st,a+1,q,d⟩ v):=C;have z:Hid (dF p v w v r):=D;clear C D l g F G H I J;go_quiet(fail)
   go_wp2_with fail;refine(zP p _ _ _ (y.out.drewN _) c).mono ?_;rintro e w4⟨rfl,M,N,O⟩;go_wp2;go_ret;exact⟨rfl,M,N,(z.out.drewN _).trans O⟩
  ·rw[aB Y];have S:¬(b:Int)<(q:Int):=by omega
   go_enter func139,ntmps139;go_wp2_with(first
    |(refine bK rfl _ _ _ rfl rfl p 2 _ rfl rfl _ _ _ s.out sN (by simp[dI]) rfl rfl ?_;intro x o;have g:Hid (aI w p 100 (dI ⟨b,st,a+1,i,d⟩ v) x):=o;clear o;obtain⟨t,d1,d2,d3,d4⟩:=aW.cellsH g.out.row;dsimp only at t d1 d2 d3 d4)
    |(go_at_call 84;refine(A.out _).mono ?_;rintro e K⟨rfl,rfl⟩)
    |(refine bK rfl _ _ _ rfl rfl p 3 (.int .i64 (10*(i:Int)+((c.toNat:Int)-48)%256)) rfl rfl _ _ (dI ⟨b,st,a+1,q,d⟩ v) g.out.row sN (by simp[dI]) rfl (by rw[Q.out];rfl) ?_;intro r u;have l:Hid (aI _ p 100 (dI ⟨b,st,a+1,q,d⟩ v) r):=u;clear u;obtain⟨T,U,V,W,X⟩:=aW.cellsH l.out.row;dsimp only at T U V W X;clear t d1 d2 d3 d4))
   have C:=Put.framesAt (f:=⟨b,st,a+1,q,d⟩) l.out (Put.framesAt (f:=⟨b,st,a+1,i,d⟩) g.out j.out.own j.out.ne j.out.lo).own j.out.ne j.out.lo;have D:dF p v w v r:=(Put.stepF g.out (fun k e=>e)).trans (Put.stepF l.out (fun k e=>e));have y:Hid (aW r p ⟨b,st,a+1,q,d⟩ v):=C;have z:Hid (dF p v w v r):=D;clear C D l g F G H I J;go_quiet(fail)
   go_wp2;go_ret;exact⟨rfl,v,y.out.drewN _,z.out.drewN _⟩
end Go.Proofs.Z
namespace Go.Proofs.Z
open Hm Hw Tryz Go.RowKit Go.Sort
theorem sO:(prog.info? 5).map (fun i=>(i.zero,i.size,i.bytes))=some (some (.int .u8 0),1,1):=by kernel_rfl
theorem aW.grown_row{w b:World}{p:Nat}{f:aE}{v:Value}{o:Obj}(h:aW w p f v)(a:(w.alloc o).grownBy b v.ownBlock):b.heap[p]?=some (.cells (dI f v) 100 (0,0)):=by
 have c:p<w.heap.size:=(aM.1 h.row).1;exact(a.block p (by simp;omega) (fun e=>h.ne e.symm)).trans ((heap_alloc_old w o c).trans h.row)
theorem aW.appended{w l m:World}{p:Nat}{b st n q:Nat}{f:List UInt8}{v v':Value}{c:UInt8}{o:Obj}(h:aW w p ⟨b,st,n,q,f⟩ v)(a:l.ownsRow 11 5 1 v' (f.length+1) ((f.map fun b=>Value.int .u8 b.toNat)++[.int .u8 c.toNat]))(d:(w.alloc o).grownBy l v.ownBlock)(g:v'.ownBlock=v.ownBlock∨v'.ownBlock=some (w.alloc o).heap.size)(P:aI l p 100 (dI ⟨b,st,n,q,f⟩ v') m):aW m p ⟨b,st,n,q,f++[c]⟩ v'/\dF p v w v' m:=by
 have t:p<w.heap.size:=(aM.1 h.row).1;have j:v'.ownBlock≠some p:=by
  rcases g with e|e
  ·rw[e];exact h.ne
  ·rw[e];simp;omega
 refine⟨⟨P.row,?_,j,h.lo⟩,?_,?_⟩
 ·have:=cQ a P.kept (fun k e h=>j (by rw[e,h]));simpa using this
 ·have r:aN (fun k=>k=p∨v.ownBlock=some k) w (w.alloc o):=(aN.refl _ _).alloc o;have s:=r.trans (aN.of_grown d) (fun i _ e=> .inr e.symm);exact s.trans P.kept (fun i _ e=> .inl e)
 ·intro k e;rcases g with h|h
  ·exact .inl (by rw[<-h];exact e)
  ·rw[h]at e;cases e;simp
set_option maxRecDepth 20000 in
theorem WS(p:Nat)(f:aE)(v:Value)(w:World)(h:aW w p f v)(c:UInt8)(h1:f.own.length<=900):
  Calls prog 140 #[.pointer (some ⟨p,0,none⟩),.int .u8 c.toNat] w fun e S=>e= .returned (.string ⟨(f.takeCounted c).2.toArray⟩)/\∃v',aW S p (f.takeCounted c).1 v'/\dF p v w v' S:=by
 obtain⟨b,st,F,y,i⟩:=f;dsimp only at h1;obtain⟨G,H,I,J,K⟩:=h.cells;dsimp only at G H I J K;obtain⟨T,hi,n,o,q⟩:=info_parts sO;have k:=aA h;clear h;unfold aE.takeCounted;dsimp only;by_cases U:i.length+1<y
 ·rw[aD U];have L:(i.length:Int)+1<(y:Int):=by omega
  go_enter func140,ntmps140;go_wp2_with(first
   |(at_builtin;refine wpList_append_own_at _ rfl _ _ 72 rfl 11 5 T (.int .u8 0) 1 1 underlying72 hi n o q rfl (by decide) _ _ _ rfl (k.out.own.alloc _) ⟨w.heap.size,0,none⟩ 1 1 [.int .u8 c.toNat] rfl rfl (cell_one_new _ _ _) (fun x z=>by simp at z;subst z;rfl) (by unfold maxLen;dsimp only;omega) (by dsimp only;omega) (by have:=(aM.1 k.out.row).1;have:=k.out.lo;simp;omega) ?_;intro v' r d g l m;have A:=aA d;have s:=aA g;have B:=aA m;obtain⟨C,d1,d2,d3,d4⟩:=aW.cellsH (k.out.grown_row g);dsimp only at C d1 d2 d3 d4;obtain⟨j,a,t⟩:∃j a,v'= .slice (some ⟨j,0,none⟩) (i.length+1) a:=(by rcases d.2 with⟨_,h⟩|⟨j,a,_,h,_⟩;omega;exact⟨j,a,h⟩);subst t;clear d g m l)
   |(refine bK rfl _ _ _ rfl rfl p 4 (.slice (some ⟨j,0,none⟩) (i.length+1) a) rfl rfl _ _ _ (k.out.grown_row s.out) nQ (by simp[dI]) rfl rfl ?_;intro M D;have u:=aA D;clear D;obtain⟨N,O,P,Q,R⟩:=aW.cellsH u.out.row;dsimp only at N O P Q R;clear C d1 d2 d3 d4))
  have E:Hid (_/\_):=k.out.appended A.out s.out B.out u.out;clear A s B u G H I J K hi n o q;go_quiet(fail)
  go_wp2;go_ret;exact⟨rfl,_,E.out.1.drewN _,E.out.2.drewN _⟩
 ·rw[aB U];have L:¬(i.length:Int)+1<(y:Int):=by omega
  go_enter func140,ntmps140;go_wp2_with(first
   |(at_builtin;refine wpList_append_own_at _ rfl _ _ 72 rfl 11 5 T (.int .u8 0) 1 1 underlying72 hi n o q rfl (by decide) _ _ _ rfl (k.out.own.alloc _) ⟨w.heap.size,0,none⟩ 1 1 [.int .u8 c.toNat] rfl rfl (cell_one_new _ _ _) (fun x z=>by simp at z;subst z;rfl) (by unfold maxLen;dsimp only;omega) (by dsimp only;omega) (by have:=(aM.1 k.out.row).1;have:=k.out.lo;simp;omega) ?_;intro v' r d g l m;have A:=aA d;have s:=aA g;have B:=aA m;obtain⟨C,d1,d2,d3,d4⟩:=aW.cellsH (k.out.grown_row g);dsimp only at C d1 d2 d3 d4;obtain⟨j,a,t⟩:∃j a,v'= .slice (some ⟨j,0,none⟩) (i.length+1) a:=(by rcases d.2 with⟨_,h⟩|⟨j,a,_,h,_⟩;omega;exact⟨j,a,h⟩);subst t;clear d g m l)
   |(refine bK rfl _ _ _ rfl rfl p 4 (.slice (some ⟨j,0,none⟩) (i.length+1) a) rfl rfl _ _ _ (k.out.grown_row s.out) nQ (by simp[dI]) rfl rfl ?_;intro M D;have u:=aA D;clear D;obtain⟨N,O,P,Q,R⟩:=aW.cellsH u.out.row;dsimp only at N O P Q R;clear C d1 d2 d3 d4))
  have E:Hid (_/\_):=k.out.appended A.out s.out B.out u.out;clear A s B u G H I J K hi n o q;go_quiet(fail)
  go_wp2_with fail;refine(GJ p _ _ _ (E.out.1.drewN _) (by simp) (by simp;omega)).mono ?_;rintro e Y⟨rfl,V,W,X⟩;go_wp2;go_ret;exact⟨rfl,V,W,(E.out.2.drewN _).trans X⟩
theorem gJ{w:World}{b e n:Nat}{v:Value}{xs:List Value}(h:w.ownsRow b e 1 v n xs):∃a c,v= .slice a n c:=by
 rcases h.2 with⟨h0,h1⟩|⟨g,c,d,h1,_⟩
 ·exact⟨none,0,by rw[h0,h1]⟩
 ·exact⟨_,_,h1⟩
set_option maxRecDepth 20000 in
theorem zQ(p:Nat)(f:aE)(v:Value)(w:World)(h:aW w p f v)(c:UInt8)(h1:f.own.length<=900):
  Calls prog 141 #[.pointer (some ⟨p,0,none⟩),.int .u8 c.toNat] w fun e W=>e= .returned (.string ⟨(f.takeLine c).2.toArray⟩)/\∃v',aW W p (f.takeLine c).1 v'/\dF p v w v' W:=by
 obtain⟨b,st,t,u,a⟩:=f;dsimp only at h1;obtain⟨I,J,K,L,H⟩:=h.cells;dsimp only at I J K L H;obtain⟨i0,hi,m,o,q⟩:=info_parts sO;have y:=aA h;obtain⟨z,l,rfl⟩:=gJ h.own;have HR:=aA h.row;dsimp only at H;clear h;unfold aE.takeLine;dsimp only;by_cases B:c=10
 ·rw[aD B];subst B;by_cases s:a=[]
  ·rw[aD s];have r:a.length=0:=by rw[s];rfl
   have M:((a.length:Int)==0)=true:=by rw[r];rfl
   have C:=aA s;clear s hi m o q r;go_enter func141,ntmps141;go_wp2_with(refine bK rfl _ _ _ rfl rfl p 1 (.int .i64 0) rfl rfl _ _ (dI ⟨b,0,t,u,a⟩ (.slice z a.length l)) HR.out rB (by simp[dI]) rfl rfl ?_;intro N X;have Y:=aA X;clear X);go_ret;exact⟨rfl,_,Put.framesAt (f:=⟨b,0,t,u,a⟩) Y.out y.out.own y.out.ne y.out.lo,Put.stepF Y.out (fun k e=>e)⟩
  ·rw[aB s];have r:¬a.length=0:=fun e=>s (tJ e);have M:((a.length:Int)==0)=false:=bG.2 (by omega);have aa:¬(a.length:Int)=0:=by omega
   have C:=aA s;clear s hi m o q r;go_enter func141,ntmps141;go_wp2_with fail;refine(GJ p _ _ _ y.out C.out (by dsimp only;omega)).mono ?_;rintro e w7⟨rfl,O,P,Q⟩;go_wp2;go_ret;exact⟨rfl,O,P,Q⟩
 ·rw[aB B];have R:=wC (n:=10) B (by omega);have ab:((c.toNat:Int)==10)=false:=bG.2 R;clear B;by_cases D:a.length=b
  ·rw[aD D];have S:((a.length:Int)==(b:Int))=true:=by rw[D];simp
   have T:(a.length:Int)=(b:Int):=by omega
   clear D hi m o q;go_enter func141,ntmps141;go_wp2_with fail;go_quiet(fail)
   go_wp2_with fail;refine(zP p _ _ _ (y.out.drewN _) c).mono ?_;rintro e w7⟨rfl,O,P,Q⟩;go_wp2;go_ret;exact⟨rfl,O,P,(dF.refl.drewN _).trans Q⟩
  ·rw[aB D];have S:((a.length:Int)==(b:Int))=false:=bG.2 (by omega);have T:¬(a.length:Int)=(b:Int):=by omega
   clear D;go_enter func141,ntmps141;go_wp2_with fail;go_quiet(fail)
   have g:Hid (aW (w.drewN nq) p ⟨b,st,t,u,a⟩ (.slice z a.length l)):=y.out.drewN nq;have E:Hid (dF p (.slice z a.length l) w (.slice z a.length l) (w.drewN nq)):=dF.refl.drewN nq;generalize w.drewN nq=N at g E⊢;obtain⟨I,J,K,L,H⟩:=g.out.cells;dsimp only at I J K L H;go_wp2_with(first
    |(at_builtin;refine wpList_append_own_at _ rfl _ _ 72 rfl 11 5 i0 (.int .u8 0) 1 1 underlying72 hi m o q rfl (by decide) _ _ _ rfl (g.out.own.alloc _) ⟨N.heap.size,0,none⟩ 1 1 [.int .u8 c.toNat] rfl rfl (cell_one_new _ _ _) (fun x Z=>by simp at Z;subst Z;rfl) (by unfold maxLen;dsimp only;omega) (by dsimp only;omega) (by have:=(aM.1 g.out.row).1;have:=g.out.lo;simp;omega) ?_;intro v' U i j F G;have HO:=aA i;have HG:=aA j;have HA:=aA G;obtain⟨d0,d1,d2,d3,d4⟩:=aW.cellsH (g.out.grown_row j);dsimp only at d0 d1 d2 d3 d4;obtain⟨A,d,V⟩:∃A d,v'= .slice (some ⟨A,0,none⟩) (a.length+1) d:=(by rcases i.2 with⟨_,h⟩|⟨A,d,_,h,_⟩;omega;exact⟨A,d,h⟩);subst V;clear i j G F)
    |(refine bK rfl _ _ _ rfl rfl p 4 (.slice (some ⟨A,0,none⟩) (a.length+1) d) rfl rfl _ _ _ (g.out.grown_row HG.out) nQ (by simp[dI]) rfl rfl ?_;intro w6 p6;have P6:=aA p6;clear p6))
   have HF:Hid (_/\_):=g.out.appended HO.out HG.out HA.out P6.out;go_ret;exact⟨rfl,_,HF.out.1,E.out.trans HF.out.2⟩
def tZ(f:aE):Prop:=f.head<=1000/\f.number<=1000/\f.bound<=1000/\f.own.length<=900/\f.stage<=4
theorem GN{f:aE}(h:f.Ok):tZ f:=by
 have:=h.head;have:=h.b2;unfold tZ;omega
set_option maxRecDepth 20000 in
theorem WT(p:Nat)(b st f g:Nat)(i:List UInt8)(v:Value)(w:World)(h:aW w p ⟨b,st,f,g,i⟩ v)(c:UInt8)(x:tZ ⟨b,st,f,g,i⟩)(h0:st≠0):
  Calls prog 94 #[.pointer (some ⟨p,0,none⟩),.int .u8 c.toNat] w fun e j=>e= .returned (.string ⟨((aE.mk b st f g i).goes c).2.toArray⟩)/\∃v',aW j p ((aE.mk b st f g i).goes c).1 v'/\dF p v w v' j:=by
 obtain⟨h1,h2,h3,h4,h5⟩:=x;dsimp only at h1 h2 h3 h4 h5;obtain⟨n,y,o,r,s⟩:=h.cells;dsimp only at n y o r s;have l:=aA h;clear h n o r s;unfold aE.goes;dsimp only;rcases(by omega:st=1∨st=2∨st=3∨st=4)with h|h|h|h
 ·subst h;rw[aD rfl];go_enter func94,ntmps94;go_wp2_with fail;refine(GM p _ _ _ l.out c h1 h2 h3).mono ?_;rintro e m⟨rfl,k,a,d⟩;go_wp2;go_ret;exact⟨rfl,k,a,d⟩
 ·subst h;rw[aB (by decide),aD rfl];go_enter func94,ntmps94;go_wp2_with fail;refine(WS p _ _ _ l.out c h4).mono ?_;rintro e m⟨rfl,k,a,d⟩;go_wp2;go_ret;exact⟨rfl,k,a,d⟩
 ·subst h;rw[aB (by decide),aB (by decide),aD rfl];go_enter func94,ntmps94;go_wp2_with fail;refine(zQ p _ _ _ l.out c h4).mono ?_;rintro e m⟨rfl,k,a,d⟩;go_wp2;go_ret;exact⟨rfl,k,a,d⟩
 ·subst h;rw[aB (by decide),aB (by decide),aB (by decide)];have t:Hid (Calls prog 142 #[.pointer (some ⟨p,0,none⟩),.int .u8 c.toNat] w fun e j=>(∃u,e= .returned u)/\aW j p ⟨b,if c=10 then 0 else 4,f,g,i⟩ v/\dF p v w v j):=GK p _ _ _ l.out c;generalize(if c=10 then 0 else 4)=q at t⊢;go_enter func94,ntmps94;go_wp2_with fail;refine t.out.mono ?_;rintro e m⟨⟨u,rfl⟩,a,d⟩;go_wp2;go_ret;exact⟨rfl,v,a,d⟩
set_option maxRecDepth 20000 in
theorem WU(p:Nat)(b a d:Nat)(g:List UInt8)(v:Value)(w:World)(h:aW w p ⟨b,0,a,d,g⟩ v)(c:UInt8)(K:tZ ⟨b,0,a,d,g⟩):
  Calls prog 94 #[.pointer (some ⟨p,0,none⟩),.int .u8 c.toNat] w fun e z=>e= .returned (.string ⟨((aE.mk b 0 a d g).take c).2.toArray⟩)/\∃v',aW z p ((aE.mk b 0 a d g).take c).1 v'/\dF p v w v' z:=by
 obtain⟨h1,h2,h3,h4,h5⟩:=K;dsimp only at h1 h2 h3 h4 h5;obtain⟨C,L,D,E,F⟩:=h.cells;dsimp only at C L D E F;have l:=aA h;have q:=aA h.row;have r:Hid (∀w,Calls prog 84 #[.int .u8 c.toNat] w fun e z=>e= .returned (.bool (aH c))/\z=w):=fun w=>pX c w;clear h C D E F;unfold aE.take aE.begun;dsimp only;rw[aD rfl];by_cases i:aH c=true/\c≠48
 ·rw[aD i];unfold aE.goes;rw[aD rfl];rw[i.1]at r;have A:=wC (n:=48) i.2 (by omega);have M:((c.toNat:Int)==48)=false:=bG.2 A;clear i;go_enter func94,ntmps94;go_wp2_with(first
   |(refine bK rfl _ _ _ rfl rfl p 1 (.int .i64 3) rfl rfl _ _ (dI ⟨b,3,a,d,g⟩ v) q.out rB (by simp[dI]) rfl rfl ?_;intro t o;have j:=aA o;clear o;obtain⟨s,d1,d2,d3,d4⟩:=aW.cellsH j.out.row;dsimp only at s d1 d2 d3 d4)
   |(go_at_call 84;refine(r.out _).mono ?_;rintro e G⟨rfl,rfl⟩)
   |(refine bK rfl _ _ _ rfl rfl p 1 (.int .i64 1) rfl rfl _ _ (dI ⟨b,1,a,d,g⟩ v) j.out.row rB (by simp[dI]) rfl rfl ?_;intro H I;have B:=aA I;clear I;obtain⟨N,O,P,Q,R⟩:=aW.cellsH B.out.row;dsimp only at N O P Q R;clear s d1 d2 d3 d4))
  have S:=Put.framesAt (f:=⟨b,1,a,d,g⟩) B.out (Put.framesAt (f:=⟨b,3,a,d,g⟩) j.out l.out.own l.out.ne l.out.lo).own l.out.ne l.out.lo;have T:dF p v w v H:=(Put.stepF j.out (fun k e=>e)).trans (Put.stepF B.out (fun k e=>e));refine(GM p _ _ _ S c h1 h2 h3).mono ?_;rintro e J⟨rfl,u,x,y⟩;go_wp2;go_ret;exact⟨rfl,u,x,T.trans y⟩
 ·rw[aB i];unfold aE.goes;dsimp only;rw[aB (by decide),aB (by decide),aD rfl];cases m:aH c
  ·rw[m]at r;clear i m;go_enter func94,ntmps94;go_wp2_with(first
    |(refine bK rfl _ _ _ rfl rfl p 1 (.int .i64 3) rfl rfl _ _ (dI ⟨b,3,a,d,g⟩ v) q.out rB (by simp[dI]) rfl rfl ?_;intro t o;have j:=aA o;clear o;obtain⟨s,d1,d2,d3,d4⟩:=aW.cellsH j.out.row;dsimp only at s d1 d2 d3 d4)
    |(go_at_call 84;refine(r.out _).mono ?_;rintro e G⟨rfl,rfl⟩))
   refine(zQ p _ _ _ (Put.framesAt (f:=⟨b,3,a,d,g⟩) j.out l.out.own l.out.ne l.out.lo) c h4).mono ?_;rintro e J⟨rfl,u,x,y⟩;go_wp2;go_ret;exact⟨rfl,u,x,(Put.stepF j.out (fun k e=>e)).trans y⟩
  ·have U:c=48:=nY fun e=>i ⟨m,e⟩;rw[m]at r;clear i m;subst U;go_enter func94,ntmps94;go_wp2_with(first
    |(refine bK rfl _ _ _ rfl rfl p 1 (.int .i64 3) rfl rfl _ _ (dI ⟨b,3,a,d,g⟩ v) q.out rB (by simp[dI]) rfl rfl ?_;intro t o;have j:=aA o;clear o;obtain⟨s,d1,d2,d3,d4⟩:=aW.cellsH j.out.row;dsimp only at s d1 d2 d3 d4)
    |(go_at_call 84;refine(r.out _).mono ?_;rintro e G⟨rfl,rfl⟩))
   refine(zQ p _ _ _ (Put.framesAt (f:=⟨b,3,a,d,g⟩) j.out l.out.own l.out.ne l.out.lo) 48 h4).mono ?_;rintro e J⟨rfl,u,x,y⟩;go_wp2;go_ret;exact⟨rfl,u,x,(Put.stepF j.out (fun k e=>e)).trans y⟩
theorem GO(p:Nat)(f:aE)(v:Value)(w:World)(h:aW w p f v)(c:UInt8)(a:tZ f):
  Calls prog 94 #[.pointer (some ⟨p,0,none⟩),.int .u8 c.toNat] w fun e d=>e= .returned (.string ⟨(f.take c).2.toArray⟩)/\∃v',aW d p (f.take c).1 v'/\dF p v w v' d:=by
 obtain⟨b,st,g,i,j⟩:=f;by_cases h0:st=0
 ·subst h0;exact WU p b g i j v w h c a
 ·have:=WT p b st g i j v w h c a h0;unfold aE.take aE.begun;dsimp only;rw[aB h0];exact this
end Go.Proofs.Z
namespace Go.Proofs.Z
open Hm Hw Tryz Go.RowKit Go.Shelf
attribute [local go_sem] Oper.semAt_some
theorem GQ(p:Nat)(s:ByteArray)(w:World):
  Calls prog 57 #[.pointer (some ⟨p,0,none⟩),.string s] w fun e a=>e= .returned (.func (.func 93) #[] #[.pointer (some ⟨w.heap.size+1,0,none⟩),.pointer (some ⟨w.heap.size,0,none⟩)])/\
   a=(w.alloc (.cells #[.pointer (some ⟨p,0,none⟩)] 45)).alloc (.cells #[.string s] 9):=by
 go_enter func57,ntmps57;go_wp2;go_ret;exact⟨rfl,rfl⟩
theorem dF.others{p:Nat}{f:aE}{v v':Value}{w b:World}(h:dF p v w v' b)(c:aW w p f v):KeepsOthers w b:=
 h.kept.others (fun k o d a=>by
  rcases d with rfl|e
  ·rw[c.row]at a;cases a;rfl
  ·obtain⟨g,i⟩:=dN c.own e;rw[i]at a;cases a;rfl)
def sP(x:List UInt8):Array Value:=#[.string ⟨x.toArray⟩]
set_option maxRecDepth 100000 in
set_option maxHeartbeats 1000000 in
theorem WV(n:Nat)(hn:2<=n)(X Y p:Nat)(s:ByteArray)(hs:s.size<=9000000000)(f0:aE)(v0:Value)(O:f0.Ok)(J:List (List UInt8)->Value->World->Prop)(Z:∀a f v A v' B,J a v A->aW A p f v->dF p v A v' B->J a v' B)(hC:∀a v A,J a v A->A.cell? ⟨Y,0,none⟩=some (.pointer (some ⟨p,0,none⟩))/\A.cell? ⟨X,0,none⟩=some (.string s)):
  yC (β:=aE×Value) Fence.wide n prog 93 #[.pointer (some ⟨X,0,none⟩),.pointer (some ⟨Y,0,none⟩)] sP (fun a b W=>J a b.2 W/\aW W p b.1 b.2) (f0,v0)
   (fun xs b=>xs=(f0.feed s.data.toList).2/\b.1=(f0.feed s.data.toList).1) s.size:=by
 intro l Bk W y hY M hb;refine callsIn_of_wp func93 rfl trivial ?_ rfl;simp only[ntmps93,pR,bU,dS,Nat.reduceAdd,Nat.reduceSub,rV,rR,List.push_toArray,rQ,iR,eN];obtain⟨d0,d1⟩:=hC _ _ _ M.1
 gi_wp2
 gi_loopw [8] (fun P wr=>∃(k:Nat)(a:List (List UInt8))(f:aE)(v:Value),P= .int .i64 k/\k<=s.size/\a.length<=k/\f.Ok/\f0.feed s.data.toList=((f.feed (s.data.toList.drop k)).1,a++(f.feed (s.data.toList.drop k)).2)/\J a v wr/\aW wr p f v/\Bk wr)
  (fun P _=>s.size-(intOf P).toNat)
 case atStart=>exact⟨0,[],f0,v0,rfl,dM _,aC _,O,by simp,M.1,M.2,hb⟩
 case round=>
  obtain⟨k,a,f,v,rfl,hk,ab,C,D,Q,hf,o⟩:=hrel;clear d0 d1 M hb;obtain⟨d0,d1⟩:=hC _ _ _ Q;have R:=aA Q;have d:=aA hf;have c:=aA D;clear Q hf D;by_cases E:k<s.size
  ·have S:(k:Int)<(s.size:Int):=by omega
   have N:Hid (∀W,aW W p f v->Calls prog 94 #[.pointer (some ⟨p,0,none⟩),.int .u8 s[k].toNat] W fun e w'=>e= .returned (.string ⟨(f.take s[k]).2.toArray⟩)/\∃v',aW w' p (f.take s[k]).1 v'/\dF p v W v' w'):=fun W h=>GO p f v W h s[k] (GN C);have T:=eE (l:=s.data.toList) (i:=k) (by rw[Hm.len];exact E);have hg:s.data.toList[k]'(by rw[Hm.len];exact E)=s[k]:=by simp;rfl
   rw[hg]at T;rw[T,aE.feed]at c;have m:Hid ((f.take s[k]).1.Ok):=aE.take_ok C s[k];clear T hg;generalize f.take s[k]=r at N c m;obtain⟨u,t⟩:=r;dsimp only at N c m;have aa:=gT;cases t with
   |nil=>
    gi_wp2_with fail
    gi_region_with_o (refine⟨trivial,fun _=>by omega,?_⟩;refine(callsIn_wide.2 (N.out wr.drew (show aW wr.drew p f v from⟨d.out.row,d.out.own,d.out.ne,d.out.lo⟩))).mono ?_;rintro e w⟨rfl,j,F,G⟩;have q:=aA F;have g:Hid (dF p v wr j w):=(dF.refl.drewN 1).trans G;clear F G)
    all_goals gi_wp2
    all_goals refine⟨fun _ h=>(by cases h),?_⟩
    all_goals gi_wp2
    all_goals(
     go_roundw;case rel=>exact⟨k+1,a,u,j,aY (by simp),by omega,by omega,m.out,by rw[c.out,aD trivial],Z _ _ _ _ _ _ R.out d.out g.out,q.out,y _ _ (g.out.others d.out) o⟩
     case measure=>simp[intOf];omega)
   |cons x t=>
    gi_wp2_with fail
    gi_region_with_o (refine⟨trivial,fun _=>by omega,?_⟩;refine(callsIn_wide.2 (N.out wr.drew (show aW wr.drew p f v from⟨d.out.row,d.out.own,d.out.ne,d.out.lo⟩))).mono ?_;rintro e w⟨rfl,j,F,G⟩;have q:=aA F;have g:Hid (dF p v wr j w):=(dF.refl.drewN 1).trans G;clear F G)
    all_goals(
     obtain⟨fn,tmps,assign,body,hy,hR⟩:=hY a (u,j) (x::t) w ⟨Z _ _ _ _ _ _ R.out d.out g.out,q.out⟩ (y _ _ (g.out.others d.out) o) (by omega);unfold sP at hy
     gi_wp2
     refine⟨fun _=>by omega,hR.mono ?_⟩;rintro z w5⟨rfl,⟨H,I⟩,K⟩;have U:=aA H;have V:=aA I;clear H I
     gi_wp2
     go_roundw;case rel=>exact⟨k+1,a++[x::t],u,j,aY (by simp),by omega,by simp;omega,m.out,by rw[c.out];simp,U.out,V.out,K⟩
     case measure=>simp[intOf];omega)
  ·have S:¬(k:Int)<(s.size:Int):=by omega
   have L:s.data.toList.drop k=[]:=gH (by rw[Hm.len];omega);rw[L]at c;clear L
   gi_wp2
   refine bodyPost_end (results_none rfl _ _ _) rfl ?_;exact⟨⟨_,rfl⟩,a,f,⟨by rw[c.out];simp[aE.feed],by rw[c.out];rfl⟩,⟨v,R.out,d.out⟩,o⟩
end Go.Proofs.Z
namespace Go.Proofs.Z
open Hm Hw Tryz Go.RowKit Go.Shelf Go.Sort
attribute [local go_sem] Oper.semAt_some
theorem dU{w:World}{a b:Nat}{c i:Array Value}{t f:TypeId}{fr d:Nat×Nat}(h:w.heap[a]?=some (.cells c t fr))(g:w.heap[b]?=some (.cells i f d))(j:t≠f):a≠b:=by
 intro e;subst e;rw[h]at g;cases g;exact j rfl
theorem pA{W:World}{l:Nat}(a:Obj):aN (fun k=>k=l) W (W.putObj l a):=
 (aN.of_grown (grownBy_putObj' W l a)).mono (fun i _ e=>by cases e;rfl)
theorem sQ{w:World}{g i:Nat}{t:TypeId}{old:Array Value}(v:Value)(a:w.heap[g]?=some (.cells old t (0,0))):aI w g t (old.setIfInBounds i v) (w.setCell ⟨g,i,none⟩ v):=by
 rw[setCell_eq_setRow w g i old t (0,0) v a];exact mO a _
theorem uA{w:World}{b a:Nat}{e:TypeId}{size:Nat}{v:Value}{n:Nat}{xs:List Value}(h:w.ownsRow b e size v n xs)(c:a<=b):w.ownsRow a e size v n xs:=
 ⟨h.1,h.2.imp id (fun⟨g,cap,cur,h1,h2,h3⟩=>⟨g,cap,cur,h1,cH c h2,h3⟩)⟩
structure mI(w:World)(p:Nat)(v0:Value)(s:ByteArray)(pre:List (List UInt8))(v:Value)(W:World):Prop where
 rt:∃tv,W.heap[w.heap.size]?=some (.cells #[tv] 42 (0,0))/\W.ownsRow (w.heap.size+3) 9 1 tv pre.length (pre.map aU)
 rf:W.heap[w.heap.size+1]?=some (.cells #[.pointer (some ⟨p,0,none⟩)] 45 (0,0))
 rb:W.heap[w.heap.size+1+1]?=some (.cells #[.string s] 9 (0,0))
 kept:aN (fun k=>k=p∨v0.ownBlock=some k) w W
 lies:∀k,v.ownBlock=some k->v0.ownBlock=some k∨w.heap.size<=k
theorem mI.cells{w:World}{p:Nat}{v0 v:Value}{s:ByteArray}{a:List (List UInt8)}{W:World}(h:mI w p v0 s a v W):
  W.cell? ⟨w.heap.size+1,0,none⟩=some (.pointer (some ⟨p,0,none⟩))/\W.cell? ⟨w.heap.size+1+1,0,none⟩=some (.string s):=by
 refine⟨?_,?_⟩ <;> simp[World.cell?,h.rf,h.rb]
theorem mI.keep{w:World}{p:Nat}{v0 v v':Value}{s:ByteArray}{a:List (List UInt8)}{A B:World}{S:Nat->Prop}(h:mI w p v0 s a v A)(b:aN S A B)(d:∀k,S k->∀c t,A.heap[k]?=some (.cells c t (0,0))->t≠42/\t≠45/\t≠9)(hw:∀k,k<w.heap.size->S k->k=p∨v0.ownBlock=some k)(f:∀k,v'.ownBlock=some k->v.ownBlock=some k∨w.heap.size<=k):mI w p v0 s a v' B where
 rt:=by
  obtain⟨g,h1,h2⟩:=h.rt;refine⟨g,(b.block _ (aM.1 h1).1 (fun e=>(d _ e _ _ h1).1 rfl)).trans h1,cQ h2 b (fun k e i=>?_)⟩;obtain⟨j,l⟩:=dN h2 e;exact(d _ i _ _ l).2.2 rfl
 rf:=(b.block _ (aM.1 h.rf).1 (fun e=>(d _ e _ _ h.rf).2.1 rfl)).trans h.rf
 rb:=(b.block _ (aM.1 h.rb).1 (fun e=>(d _ e _ _ h.rb).2.2 rfl)).trans h.rb
 kept:=h.kept.trans b hw
 lies k e:=by
  rcases f k e with e|e
  ·exact h.lies k e
  ·exact .inr e
theorem mI.step{w:World}{p:Nat}{v0 v v':Value}{s:ByteArray}{a:List (List UInt8)}{A B:World}{f:aE}(h:mI w p v0 s a v A)(g:aW A p f v)(i:dF p v A v' B):mI w p v0 s a v' B:=
 h.keep i.kept (fun k e c t d=>by
  rcases e with rfl|e
  ·rw[g.row]at d;cases d;decide
  ·obtain⟨j,b⟩:=dN g.own e;rw[b]at d;cases d;decide)
  (fun k l e=>by
   rcases e with rfl|e
   ·exact .inl rfl
   ·rcases h.lies k e with e|e
    ·exact .inr e
    ·omega)
  (fun k e=>by
   rcases i.lies k e with e|e
   ·exact .inl e
   ·exact .inr (cH h.kept.size e))
theorem aW.keep{p:Nat}{f:aE}{v:Value}{A B:World}{S:Nat->Prop}(h:aW A p f v)(a:aN S A B)(h1:¬S p)(h2:∀k,v.ownBlock=some k->¬S k):aW B p f v:=
 ⟨(a.block _ (aM.1 h.row).1 h1).trans h.row,cQ h.own a h2,h.ne,h.lo⟩
theorem GR{w:World}{c:List (List UInt8)}{W d:World}{b:Value}{o:Obj}(f:W.heap[w.heap.size]?=some (.cells #[b] 42 (0,0)))(h:W.ownsRow (w.heap.size+3) 9 1 b c.length (c.map aU))(a:(W.alloc o).grownBy d b.ownBlock):
  d.heap[w.heap.size]?=some (.cells #[b] 42 (0,0))/\aN (fun k=>some k=b.ownBlock) W d:=by
 have g:aN (fun k=>some k=b.ownBlock) W d:=((aN.refl _ W).alloc o).trans (aN.of_grown a) (fun _ _ e=>e);refine⟨(g.block _ (aM.1 f).1 (fun e=>?_)).trans f,g⟩;obtain⟨i,j⟩:=dN h e.symm;exact dU f j (by decide) rfl
theorem WW{w:World}{p:Nat}{v0 u:Value}{s:ByteArray}{a:List (List UInt8)}{W l:World}{g:aE}{x:List UInt8}{d v':Value}{o:Obj}(m:mI w p v0 s a u W)(E:aW W p g u)(F:p<w.heap.size)(C:W.heap[w.heap.size]?=some (.cells #[d] 42 (0,0)))(A:W.ownsRow (w.heap.size+3) 9 1 d a.length (a.map aU))(b:l.ownsRow (w.heap.size+3) 9 1 v' (a.length+1) (a.map aU++[.string ⟨x.toArray⟩]))(f:(W.alloc o).grownBy l d.ownBlock):
  KeepsOthers W (l.setCell ⟨w.heap.size,0,none⟩ v')/\mI w p v0 s (a++[x]) u (l.setCell ⟨w.heap.size,0,none⟩ v')/\aW (l.setCell ⟨w.heap.size,0,none⟩ v') p g u:=by
 obtain⟨G,H⟩:=GR C A f;have B:=sQ (i:=0) v' G;generalize l.setCell ⟨w.heap.size,0,none⟩ v'=I at B⊢;have q:aN (fun k=>some k=d.ownBlock∨k=w.heap.size) W I:=(H.mono (fun _ _ e=> .inl e)).trans B.kept (fun _ _ e=> .inr e);have r:∀k,some k=d.ownBlock->w.heap.size+3<=k:=fun k e=>(A.lt k e.symm).1;have J:∀{k:Nat}{c:Array Value}{t:TypeId},W.heap[k]?=some (.cells c t (0,0))->t≠9->t≠42->¬(some k=d.ownBlock∨k=w.heap.size):=by
  intro k c t n h1 h2 e;rcases e with e|e
  ·obtain⟨v,D⟩:=dN A e.symm;exact dU n D h1 rfl
  ·subst e;exact dU n C h2 rfl
 have y:∀k,k<w.heap.size->¬(some k=d.ownBlock∨k=w.heap.size):=by
  rintro k j(e|e)
  ·have:=r k e;omega
  ·omega
 have z:∀k,w.heap.size<k->k<w.heap.size+3->¬(some k=d.ownBlock∨k=w.heap.size):=by
  rintro k h1 h2(e|e)
  ·have:=r k e;omega
  ·omega
 refine⟨q.others (fun k o e j=>?_),⟨⟨v',B.row,?_⟩,?_,?_,m.kept.trans q (fun k j e=>absurd e (y k j)),m.lies⟩,E.keep q (y p F) (fun k e=>?_)⟩
 ·rcases e with e|e
  ·obtain⟨v,n⟩:=dN A e.symm;rw[n]at j;cases j;rfl
  ·subst e;rw[C]at j;cases j;rfl
 ·have:=cQ b B.kept (fun k e h=>by have:=(b.lt k e).1;omega);simpa[aU]using this
 ·exact(q.block _ (aM.1 m.rf).1 (z _ (by omega) (by omega))).trans m.rf
 ·exact(q.block _ (aM.1 m.rb).1 (z _ (by omega) (by omega))).trans m.rb
 ·obtain⟨v,n⟩:=dN E.own e;exact J n (by decide) (by decide)
set_option maxRecDepth 100000 in
set_option maxHeartbeats 1000000 in
theorem WX(p:Nat)(f:aE)(v:Value)(s:ByteArray)(hs:s.size<=9000000000)(w:World)(hf:aW w p f v)(J:f.Ok):
  CallsIn Fence.wide 4 prog 28 #[.pointer (some ⟨p,0,none⟩),.string s] w fun e R=>∃n v',e= .returned (.tuple #[n,.int .i64 ((f.feed s.data.toList).1.head+(f.feed s.data.toList).1.own.length:Nat)])/\
   aW R p (f.feed s.data.toList).1 v'/\dF p v w v' R/\R.ownsRow w.heap.size 9 1 n (f.feed s.data.toList).2.length ((f.feed s.data.toList).2.map aU):=by
 have ae:Hid (∀w,Calls prog 57 #[.pointer (some ⟨p,0,none⟩),.string s] w fun e R=>e= .returned (.func (.func 93) #[] #[.pointer (some ⟨w.heap.size+1,0,none⟩),.pointer (some ⟨w.heap.size,0,none⟩)])/\
   R=(w.alloc (.cells #[.pointer (some ⟨p,0,none⟩)] 45)).alloc (.cells #[.string s] 9)):=fun w=>GQ p s w
 have HF:=aA hf;have hp:p<w.heap.size:=(aM.1 hf.row).1;have aq:11<=p:=hf.lo;clear hf;obtain⟨i0,hi,af,ag,T⟩:=info_parts qZ;refine callsIn_of_wp_marks func28 rfl trivial ?_ rfl;simp only[ntmps28,pR,bU,dS,Nat.reduceAdd,Nat.reduceSub,rV,rR,List.push_toArray,rQ,iR,eN]
 gi_wp2_with fail
 refine⟨trivial,?_⟩;refine(callsIn_wide.2 (ae.out _)).mono ?_;rintro e R⟨rfl,rfl⟩
 gi_wp2_with fail
 obtain⟨G,hW0⟩:∃G,(((w.alloc (.cells #[.slice none 0 0] 42)).alloc (.cells #[.pointer (some ⟨p,0,none⟩)] 45)).alloc (.cells #[.string s] 9))=G:=⟨_,rfl⟩;have hz:G.heap.size=w.heap.size+3:=by subst hW0;simp
 have U:Below w.heap.size w G:=by
  rw[<-hW0];exact(((aF _ w).alloc (aC _) _).alloc (by simp) _).alloc (by simp;omega) _
 have J0:mI w p v s [] v G:=by
  refine⟨⟨.slice none 0 0,?_,World.ownsRow_nil _ _ _ _⟩,?_,?_,aN.of_below U,fun k e=> .inl e⟩
  ·rw[<-hW0];exact(heap_alloc_old _ _ (by simp;omega)).trans ((heap_alloc_old _ _ (by simp)).trans (heap_alloc_new _ _))
  ·rw[<-hW0];refine(heap_alloc_old _ _ (by simp)).trans ?_;have:=heap_alloc_new (w.alloc (.cells #[.slice none 0 0] 42)) (.cells #[.pointer (some ⟨p,0,none⟩)] 45)
   rwa [World.size_alloc]at this
  ·rw[<-hW0];have:=heap_alloc_new ((w.alloc (.cells #[.slice none 0 0] 42)).alloc (.cells #[.pointer (some ⟨p,0,none⟩)] 45)) (.cells #[.string s] 9)
   rwa [World.size_alloc,World.size_alloc]at this
 have F0:aW G p f v:=HF.out.keep (S:=fun _=>False) (aN.of_below U) (fun e=>e) (fun _ _ e=>e);rw[hW0];clear hW0;have q:∀(A:World)(g:aE)(u:Value),aW A p g u->∀k,u.ownBlock=some k->∃H,A.heap[k]?=some (.cells H 5 (0,0)):=fun A g u h k e=>dN h.own e;refine DK rfl (by omega) (gf:=93) (lb:=#[.pointer (some ⟨w.heap.size+1+1,0,none⟩),.pointer (some ⟨w.heap.size+1,0,none⟩)]) rfl trivial (enters_of func93 (by kernel_rfl) rfl)
  (WV (4-1) (by omega) (w.heap.size+1+1) (w.heap.size+1) p s hs f v J (mI w p v s) (fun a g u A u' B h d ah=>h.step d ah) (fun a u A h=>h.cells)) (fun _=>rfl) ?put ?start
  (fun x=>{tmps:=#[.pointer (some ⟨p,0,none⟩),.string s,undef,undef,.slice none 0 0,.int .i64 0,.pointer (some ⟨w.heap.size,0,none⟩),.string ⟨x.toArray⟩,.pointer (some ⟨p,0,none⟩),.bool false,.pointer (some ⟨p,0,none⟩),.string s,.func (.func 93) #[] #[.pointer (some ⟨w.heap.size+1+1,0,none⟩),.pointer (some ⟨w.heap.size+1,0,none⟩)],.string ⟨x.toArray⟩,undef,undef,undef,undef,undef,undef,undef,undef,undef,undef,undef,undef,undef,undef,undef],defers:=[]}) ?assign ?body ?done
 case put=>
  rintro a⟨g,u⟩W l o o' hl⟨z,d⟩ho V;dsimp only at z d⊢;refine⟨z.keep (pA o') (fun k e c t C=>?_) (fun k hk e=>?_) (fun k e=> .inl e),d.keep (pA o') (fun e=>by omega) (fun k e e2=>?_)⟩
  ·subst e;rw[ho]at C;cases C;cases V
  ·subst e;omega
  ·subst e2;obtain⟨H,C⟩:=q _ _ _ d k e;rw[ho]at C;cases C;cases V
 case start=>
  intro o o';have hb:Below G.heap.size G ((G.alloc o).alloc o'):=((aF _ _).alloc (aC _) _).alloc (by simp) _;exact⟨J0.keep (S:=fun _=>False) (aN.of_below hb) (fun _ e=>e.elim) (fun _ _ e=>e.elim) (fun k e=> .inl e),F0.keep (S:=fun _=>False) (aN.of_below hb) (fun e=>e) (fun _ _ e=>e)⟩
 case assign=>
  intro l x W K hK;unfold sP
  gi_wp2
  exact hK
 case body=>
  rintro l a⟨g,u⟩x W⟨z,d⟩an;dsimp only at z d⊢;obtain⟨n,L,X⟩:=z.rt;have t1:W.cell? ⟨w.heap.size,0,none⟩=some n:=by simp[World.cell?,L]
  have f1:W.frozen? ⟨w.heap.size,0,none⟩=false:=by simp[World.frozen?,L]
  have M:=aA z;have Y:=aA d;have N:=aA X;have HR:=aA L;clear z d X L J0 F0;have ao:w.heap.size+3<=W.heap.size:=(aM.1 M.out.rb).1
  gi_wp2_with (gi_at_builtin;refine wpListIn_append_own_at _ rfl _ _ 42 rfl (w.heap.size+3) 9 i0 (.string ByteArray.empty) 1 16 underlying42 hi af ag T rfl (by decide) _ _ _ rfl (N.out.alloc _) ⟨W.heap.size,0,none⟩ 1 1 [.string ⟨x.toArray⟩] rfl rfl (cell_one_new _ _ _) (fun x hx=>by simp at hx;subst hx;rfl) (by unfold maxLen;omega) (by omega) (by simp;omega) ?_;intro v' w5 j m Z ai;have aj:=aA j;have ak:=aA m;have r5:=(GR HR.out N.out m).1;have t5:w5.cell? ⟨w.heap.size,0,none⟩=some n:=(by simp[World.cell?,r5]);have f5:w5.frozen? ⟨w.heap.size,0,none⟩=false:=(by simp[World.frozen?,r5]);obtain⟨g5,y,al⟩:∃g5 y,v'= .slice (some ⟨g5,0,none⟩) (a.length+1) y:=(by rcases j.2 with⟨_,h⟩|⟨g5,y,_,h,_⟩;omega;exact⟨g5,y,h⟩);subst al;clear j m ai Z r5)
  exact WW M.out Y.out hp HR.out N.out aj.out ak.out
 case done=>
  rintro D xs⟨g,u⟩W hD⟨rfl,aa⟩⟨z,d⟩hK;dsimp only at z d aa;subst aa;obtain⟨n,L,X⟩:=z.rt;have t1:W.cell? ⟨w.heap.size,0,none⟩=some n:=by simp[World.cell?,L]
  obtain⟨c0,c1,c2,c3,c4⟩:=d.cells;obtain⟨ad,O,hu⟩:=gJ d.own;have E:=(aE.feed_ok s.data.toList J).head;have M:=aA z;have Y:=aA d;have N:=aA X;clear z d X L J0 F0 c0 c1 c3;obtain⟨r,hr⟩:∃r,f.feed s.data.toList=r:=⟨_,rfl⟩;rw[hr]at M Y N c2 hu E;have I:=aA hr;clear hr;obtain⟨f',tl⟩:=r;dsimp only at M Y N c2 c4 hu E⊢;obtain⟨b',ab,F,ac,b⟩:=f';dsimp only at c2 c4 hu E⊢;subst hu;have ap:=gT
  gi_wp2_with fail
  gi_region
  gi_wp2
  have am:b'<=200:=by
   have h1:=aE.feed_bound s.data.toList f;rw[I.out]at h1;have:=J.b2;dsimp only at h1;omega
  have hw:wrap64 ((F:Int)+(b.length:Int))=((F+b.length:Nat):Int):=by unfold wrap64;omega
  have P:W.drew.heap[D]?=some (.deferred (some [])):=hK;have Q:aN (fun k=>k=D) W.drew (W.drew.putObj D (.deferred none)):=pA _;have G1:aW W.drew p ⟨b',ab,F,ac,b⟩ (.slice ad b.length O):=Y.out.drewN 1;have G2:aW (W.drew.putObj D (.deferred none)) p ⟨b',ab,F,ac,b⟩ (.slice ad b.length O):=G1.keep Q (by omega) (fun k e h=>by
   obtain⟨H,C⟩:=q _ _ _ G1 k e;subst h;rw[P]at C;cases C)
  have O1:W.drew.ownsRow (w.heap.size+3) 9 1 n tl.length (tl.map aU):=N.out;have O2:=cQ O1 Q (fun k e h=>by
   obtain⟨H,C⟩:=dN O1 e;subst h;rw[P]at C;cases C)
  refine⟨by simp,.inl ⟨_,_,rfl,run_takeDeferred P,?_⟩⟩;refine⟨.tuple #[n,.int .i64 (wrap64 ((F:Int)+(b.length:Int)))],by simp[results,results28,go_sem],?_⟩;refine⟨n,.slice ad b.length O,by rw[I.out,hw],by rw[I.out];exact G2,⟨?_,M.out.lies⟩,?_⟩
  ·exact(M.out.kept.next (aT ⟨1,rfl⟩)).trans Q (fun i hi e=>by omega)
  ·rw[I.out];exact uA O2 (by omega)
theorem WY(p:Nat)(f:aE)(v:Value)(s:ByteArray)(d:s.size<=9000000000)(w:World)(g:aW w p f v)(a:f.Ok):
  Calls prog 28 #[.pointer (some ⟨p,0,none⟩),.string s] w fun e b=>∃c v',e= .returned (.tuple #[c,.int .i64 ((f.feed s.data.toList).1.head+(f.feed s.data.toList).1.own.length:Nat)])/\
   aW b p (f.feed s.data.toList).1 v'/\dF p v w v' b/\b.ownsRow w.heap.size 9 1 c (f.feed s.data.toList).2.length ((f.feed s.data.toList).2.map aU):=callsIn_wide.1 (WX p f v s d w g a)
end Go.Proofs.Z
namespace Go.Proofs.Z
open Hm Tryz Go.RowKit Go.Sort
attribute [local go_sem] cN cO
theorem WZ(n:Int)(w:World)(h:n<1∨200<n):
  Calls prog 27 #[.int .i64 n] w fun e a=>e= .returned (.tuple #[.pointer none,.int .i64 10])/\a=w:=by
 rcases h with h|h
 ·go_enter func27,ntmps27;go_wp2;refine bB (results_tmp2 rfl _ _ _) rfl ?_;exact⟨rfl,rfl⟩
 ·have h1:¬n<1:=by omega
  go_enter func27,ntmps27;go_wp2;refine bB (results_tmp2 rfl _ _ _) rfl ?_;exact⟨rfl,rfl⟩
theorem XA(n:Nat)(w:World)(hw:11<=w.heap.size)(h1:1<=n)(h2:n<=200):
  Calls prog 27 #[.int .i64 n] w fun e a=>e= .returned (.tuple #[.pointer (some ⟨w.heap.size,0,none⟩),.int .i64 0])/\aW a w.heap.size (aE.fresh n) (.slice none 0 0)/\Below w.heap.size w a:=by
 have i1:¬(n:Int)<1:=by omega
 have i2:¬200<(n:Int):=by omega
 go_enter func27,ntmps27;go_wp2;refine bB (results_tmp2 rfl _ _ _) rfl ?_;exact⟨rfl,⟨heap_alloc_new _ _,World.ownsRow_nil _ _ _ _,by simp[Value.ownBlock],hw⟩,(aF _ _).alloc (aC _) _⟩
def zR:Array Value:=(cL.map fun l=>Value.string ⟨l.toArray⟩).toArray
theorem XB:(prog.info? 243).map (·.size)=some 8:=by kernel_rfl
theorem XC(k:Nat)(a:k<8)(w:World):(Instr.index 243 (.agg zR) (.int .i64 k)).run prog w= .ok (.string ⟨(cL.getD k []).toArray⟩) w:=by
 rcases(by omega:k=0∨k=1∨k=2∨k=3∨k=4∨k=5∨k=6∨k=7)with h|h|h|h|h|h|h|h <;> subst h <;> kernel_rfl
theorem XD(s:ByteArray)(w:World)(o:aJ w):
  Calls prog 146 #[.string s] w fun e r=>e= .returned (.tuple #[.int .i64 (bF s.data.toList cL 0-1:Nat),.bool (bF s.data.toList cL 0 !=0)])/\r=w:=by
 obtain⟨t,fr,a⟩:=o.sn;have p:Hid (w.heap[4]?=some (.cells zR t fr)):=a;clear a o;obtain⟨C,h⟩:∃C,C=zR:=⟨_,rfl⟩;have u:Hid (∀(k:Nat),k<8->∀w:World,(Instr.index 243 (.agg C) (.int .i64 k)).run prog w= .ok (.string ⟨(cL.getD k []).toArray⟩) w):=by
  show∀(k:Nat),_;rw[h];exact XC
 have j:Hid (C.size=8):=by show _=_;rw[h];rfl
 rw[<-h]at p;clear h;go_enter func146,ntmps146;go_wp2_with(refine cG rfl _ _ rfl 4 rfl _ _ _ _ p.out underlying243 rfl (by rw[j.out];exact XB) ?_);go_loopw [7] (fun i wr=>∃k:Nat,k<=8/\i= .int .i64 k/\bF s.data.toList cL 0=bF s.data.toList (cL.drop k) k/\wr=w) (fun i _=>8-(intOf i).toNat)
 case atStart=>exact⟨0,by omega,rfl,rfl,rfl⟩
 case round=>
  obtain⟨k,x,rfl,q,rfl⟩:=hrel;have l:Hid (bF s.data.toList cL 0=bF s.data.toList (cL.drop k) k):=q;clear q;by_cases b:k<8
  ·have n:=u.out k b;have f:cL.drop k=cL.getD k []::cL.drop (k+1):=by
    rw[eE (by simpa[cL]using b),gQ,dP (by simpa[cL]using b)];rfl
   obtain⟨m,c⟩:∃m,cL.getD k []=m:=⟨_,rfl⟩;rw[c]at n f;by_cases d:m=s.data.toList
   ·have g:Hid (bF s.data.toList cL 0=k+1):=by show _=_;rw[l.out,f,bF,aD d]
    have v:(m==s.toList)=true:=by rw[Lib.toList_data];simpa using d
    clear d f c;go_wp2;go_ret2;exact⟨by rw[g.out];rfl,rfl⟩
   ·have g:Hid (bF s.data.toList cL 0=bF s.data.toList (cL.drop (k+1)) (k+1)):=by show _=_;rw[l.out,f,bF,aB d]
    have v:(m==s.toList)=false:=by rw[Lib.toList_data];simpa using d
    clear d f c;go_wp2;go_roundw;case rel=>exact⟨k+1,by omega,aY (by simp),g.out,trivial⟩
    case measure=>simp[intOf];omega
  ·have g:Hid (bF s.data.toList cL 0=0):=by
    show _=_;rw[l.out,gH (by simp[cL];omega),bF]
   go_wp2;go_ret2;exact⟨by rw[g.out];rfl,rfl⟩
end Go.Proofs.Z
namespace Go.Hm
def oB(k:Nat):List UInt8:=if k<16 then rW.getD k []else[108,111,99,97,108]++Lib.decDigits (k-16)
def cX:List (List UInt8):=(List.range 24).map oB
end Go.Hm
namespace Go.Proofs.Z
open Hm Tryz Go.RowKit Go.Sort
attribute [local go_sem] cN cO
theorem XE{w:World}(b:aJ w)(k:Nat)(c:k<16):w.cell? ⟨8,k,none⟩=some (.string ⟨(rW.getD k []).toArray⟩):=by
 obtain⟨t,fr,a⟩:=b.on;rcases(by omega:k=0∨k=1∨k=2∨k=3∨k=4∨k=5∨k=6∨k=7∨k=8∨k=9∨k=10∨k=11∨k=12∨k=13∨k=14∨k=15)with h|h|h|h|h|h|h|h|h|h|h|h|h|h|h|h <;> subst h <;> exact aS _ _ _ _ _ _ a
theorem XF(k:Nat)(j:k<24)(w:World)(b:aJ w):
  Calls prog 187 #[.int .i64 k] w fun e c=>e= .returned (.string ⟨(oB k).toArray⟩)/\Below w.heap.size w c:=by
 by_cases h:k<16
 ·have f:=XE b k h;have a:Hid (oB k=rW.getD k []):=by show _=_;unfold oB;rw[aD h]
  have hi:(k:Int)<16:=by omega
  generalize rW.getD k []=N at f a;clear h;go_enter func187,ntmps187;go_wp2;go_ret;exact⟨by rw[a.out];rfl,aF _ _⟩
 ·have a:Hid (oB k=[108,111,99,97,108]++Lib.decDigits (k-16)):=by show _=_;unfold oB;rw[aB h]
  have hi:¬(k:Int)<16:=by omega
  have d:Hid (∀w,aJ w->Calls prog 48 #[.int .i64 ((k:Int)-16)] w fun e c=>e= .returned (.string ⟨(Lib.decDigits (k-16)).toArray⟩)/\Below w.heap.size w c):=fun w b=>by
   have:=vQ ((k:Int)-16) w (by omega) (by omega) b
   rwa [show((k:Int)-16).toNat=k-16 by omega]at this
  have g:(Lib.decDigits (k-16)).length<=3:=GG (by omega);generalize Lib.decDigits (k-16)=D at a d g;clear h;go_enter func187,ntmps187;go_wp2_with fail;refine(d.out _ b).mono ?_;rintro e l⟨rfl,i⟩;go_wp2;go_ret;refine⟨?_,i⟩;rw[a.out,<-dY];rfl
theorem XG(k:Nat)(h:k<24):cX.drop k=oB k::cX.drop (k+1):=by
 have a:k<cX.length:=by unfold cX;rw[eS,List.length_range];exact h
 rw[eE a];have b:cX[k]'a=oB ((List.range 24)[k]'(by simpa using h)):=List.getElem_map _;rw[b,List.getElem_range]
theorem XH(s:ByteArray)(w:World)(h:aJ w):
  Calls prog 145 #[.string s] w fun e j=>e= .returned (.tuple #[.int .i64 (bF s.data.toList cX 0-1:Nat),.bool (bF s.data.toList cX 0 !=0)])/\Below w.heap.size w j:=by
 go_enter func145,ntmps145;go_wp2_with fail;go_loopw [5] (fun i wr=>∃k:Nat,k<=24/\i= .int .i64 k/\bF s.data.toList cX 0=bF s.data.toList (cX.drop k) k/\Below w.heap.size w wr) (fun i _=>24-(intOf i).toNat)
 case atStart=>exact⟨0,by omega,rfl,rfl,aF _ _⟩
 case round=>
  obtain⟨k,t,rfl,p,b⟩:=hrel;have l:=aA p;have c:=aA b;clear p b;by_cases d:k<24
  ·have f:=XG k d;have n:Hid (∀w,aJ w->Calls prog 187 #[.int .i64 k] w fun e j=>e= .returned (.string ⟨(oB k).toArray⟩)/\Below w.heap.size w j):=fun w h=>XF k d w h;generalize oB k=m at f n;by_cases a:m=s.data.toList
   ·have g:Hid (bF s.data.toList cX 0=k+1):=by show _=_;rw[l.out,f,bF,aD a]
    have q:(m==s.toList)=true:=by rw[Lib.toList_data];simpa using a
    clear a f;go_wp2_with fail;refine(n.out _ (h.next c.out)).mono ?_;rintro e r⟨rfl,o⟩;go_wp2;go_ret2;exact⟨by rw[g.out];rfl,Below.next c.out (aC _) o⟩
   ·have g:Hid (bF s.data.toList cX 0=bF s.data.toList (cX.drop (k+1)) (k+1)):=by show _=_;rw[l.out,f,bF,aB a]
    have q:(m==s.toList)=false:=by rw[Lib.toList_data];simpa using a
    clear a f;go_wp2_with fail;refine(n.out _ (h.next c.out)).mono ?_;rintro e r⟨rfl,o⟩;go_wp2;go_roundw;case rel=>exact⟨k+1,by omega,aY (by simp),g.out,Below.next c.out (aC _) o⟩
    case measure=>simp[intOf];omega
  ·have g:Hid (bF s.data.toList cX 0=0):=by
    show _=_;rw[l.out,gH (by unfold cX;rw[eS,List.length_range];omega),bF]
   go_wp2;go_ret2;exact⟨by rw[g.out];rfl,c.out⟩
end Go.Proofs.Z
namespace Go.Hm
theorem wD(l:List UInt8)(a:List (List UInt8))(k:Nat):bF l a k<=k+a.length:=by
 induction a generalizing k with
 |nil=>exact dM _
 |cons m ms ih=>
  unfold bF;split
  ·rw[bU];omega
  ·have:=ih (k+1);rw[bU];omega
def gV(l:List UInt8):Nat:=
 if l=[42]then 255 else
 if bF (Lib.trimPrefix l [61]) cL 0=0 then 0 else
 if Lib.hasPrefix l [61]=true then 2^(bF (Lib.trimPrefix l [61]) cL 0-1)else 2^bF (Lib.trimPrefix l [61]) cL 0-1
end Go.Hm
namespace Go.Proofs.Z
open Hm Tryz Go.RowKit Go.Sort
attribute [local go_sem] cN cO
theorem XI(s:ByteArray)(w:World)(d:aJ w):
  Calls prog 97 #[.string s] w fun e a=>e= .returned (.int .u32 (gV s.data.toList))/\a=w:=by
 by_cases h0:s.data.toList=[42]
 ·have b:Hid (gV s.data.toList=255):=by show _=_;unfold gV;rw[aD h0]
  have b0:s.toList=[42]:=by rw[Lib.toList_data];exact h0
  clear h0;go_enter func97,ntmps97;go_wp2;go_ret;exact⟨by rw[b.out];rfl,rfl⟩
 ·have b0:(s.toList==[42])=false:=by rw[Lib.toList_data];simpa using h0
  have i:¬s.toList=[42]:=by rw[Lib.toList_data];exact h0
  have f:Hid (∀w,Calls prog 104 #[.string s,.string ⟨#[61]⟩] w fun e a=>e= .returned (.tuple #[.string ⟨(Lib.trimPrefix s.data.toList [61]).toArray⟩,.bool (Lib.hasPrefix s.data.toList [61])])/\a=w):=fun w=>CX s ⟨#[61]⟩ w;have g:Hid (∀w,aJ w->Calls prog 146 #[.string ⟨(Lib.trimPrefix s.data.toList [61]).toArray⟩] w fun e a=>e= .returned (.tuple #[.int .i64 (bF (Lib.trimPrefix s.data.toList [61]) cL 0-1:Nat),.bool (bF (Lib.trimPrefix s.data.toList [61]) cL 0 !=0)])/\a=w):=fun w d=>XD ⟨_⟩ w d;have b:Hid (gV s.data.toList=if bF (Lib.trimPrefix s.data.toList [61]) cL 0=0 then 0 else if Lib.hasPrefix s.data.toList [61]=true then 2^(bF (Lib.trimPrefix s.data.toList [61]) cL 0-1)else 2^bF (Lib.trimPrefix s.data.toList [61]) cL 0-1):=by
   show _=_;rw[gV,aB h0]
  have c:=wD (Lib.trimPrefix s.data.toList [61]) cL 0;rw[show cL.length=8 from rfl]at c;generalize bF (Lib.trimPrefix s.data.toList [61]) cL 0=n at g b c;generalize Lib.trimPrefix s.data.toList [61]=k at f g;generalize Lib.hasPrefix s.data.toList [61]=j at f b;clear h0;rcases(by omega:n=0∨n=1∨n=2∨n=3∨n=4∨n=5∨n=6∨n=7∨n=8)with h|h|h|h|h|h|h|h|h <;> subst h <;> cases j <;> (
   go_enter func97,ntmps97;go_wp2_with fail;refine(f.out _).mono ?_;rintro e l⟨rfl,rfl⟩;go_wp2_with fail;refine(g.out _ d).mono ?_;rintro e m⟨rfl,rfl⟩;go_wp2;go_ret;exact⟨by rw[b.out];rfl,rfl⟩)
end Go.Proofs.Z
namespace Go.Proofs.Z
open Tryz Go.RowKit Go.Sort
attribute [local go_sem] cN cO
theorem GU(n:Int)(a:0<=n)(b:n<2^32):IntKind.u32.wrap n=n:=by rw[IntKind.wrap_u32];omega
theorem GV(b k:Nat)(a:b<4294967296):bits .and .u32 ((b:Int)/2^k) 1=if b.testBit k then 1 else 0:=by
 have d:b/2^k<4294967296:=Nat.lt_of_le_of_lt (Nat.div_le_self _ _) a;have h:=(bits_nat .u32 32 (by decide) GU (b/2^k) 1 (by omega) (by decide)).1;have e:((b/2^k:Nat):Int)=(b:Int)/2^k:=by simp
 rw[e]at h;rw[show((1:Nat):Int)=1 from rfl]at h;rw[h,Nat.and_one_is_mod,Nat.testBit_eq_decide_div_mod_eq];by_cases c:b/2^k%2=1
 ·rw[c];simp
 ·rw[show b/2^k%2=0 by omega];simp
theorem XJ(b c:Nat)(keep:Bool)(f s:Nat)(d:b<4294967296)(g:c<4294967296)(j:f<24)(k:s<8)(w:World):
  Calls prog 61 #[.agg #[.int .u32 b,.int .u32 c,.bool keep],.int .i64 f,.int .i64 s] w fun e h=>e= .returned (.bool (b.testBit f&&c.testBit s))/\Below w.heap.size w h:=by
 have h1:=GV b f d;have h2:=GV c s g;cases a:b.testBit f
 ·rw[a]at h1;go_enter func61,ntmps61;go_wp2;go_ret;exact⟨rfl,(aF _ _).alloc (aC _) _⟩
 ·rw[a]at h1;cases i:c.testBit s <;> rw[i]at h2 <;> (
   go_enter func61,ntmps61;go_wp2;go_ret;exact⟨rfl,(aF _ _).alloc (aC _) _⟩)
end Go.Proofs.Z
namespace Go.Hm
def fT:List (List UInt8)->Nat->Nat
 |[],b=>b
 |n::ns,b=>if bF n cX 0=0 then 0 else fT ns (b ||| 2^(bF n cX 0-1))
end Go.Hm
namespace Go.Proofs.Z
open Hm Tryz Go.RowKit Go.Sort
attribute [local go_sem] cN cO
def oC(s:ByteArray):List ByteArray:=Lib.splitB ⟨#[44]⟩ 0 (Lib.countB s ⟨#[44]⟩) s
theorem XK(s:ByteArray)(w:World)(i:aJ w)(V:s.size<=4000000000)(h0:¬s.data.toList=[42])(F:(oC s).length=Lib.countB s ⟨#[44]⟩+1)(M:(oC s).length<=4000000000):
  Calls prog 96 #[.string s] w fun e j=>e= .returned (.int .u32 (fT ((oC s).map (·.data.toList)) 0))/\Below w.heap.size w j:=by
 have b0:(s.toList==[42])=false:=by rw[Lib.toList_data];simpa using h0
 have N:¬s.toList=[42]:=by rw[Lib.toList_data];exact h0
 obtain⟨ml,l⟩:=i.ml;have G:Hid (Calls prog 144 #[.string s,.string ⟨#[44]⟩] w fun e j=>
   e= .returned (.slice (some ⟨w.heap.size,0,none⟩) (oC s).length (oC s).length)/\j=w.alloc (.cells ((oC s).map Value.string).toArray 9)):=by
  have:=aDi s ⟨#[44]⟩ ml w (by omega) l (by decide);rw[F];exact this
 generalize oC s=L at G M⊢;clear h0 F l;go_enter func96,ntmps96;go_wp2_with fail;refine G.out.mono ?_;rintro e y⟨rfl,h⟩;have H:y.heap[w.heap.size]?=some (.cells (L.map Value.string).toArray 9 (0,0)):=h▸heap_alloc_new _ _;have o:Below w.heap.size w y:=h▸(aF _ _).alloc (aC _) _;have z:=aA o;have A:=aA H;clear h H o;go_wp2_with fail;go_loopw [3,13] (fun O B wr=>∃k b:Nat,k<=L.length/\B= .int .i64 k/\O= .int .u32 b/\b<4294967296/\fT (L.map (·.data.toList)) 0=fT ((L.drop k).map (·.data.toList)) b/\wr.heap[w.heap.size]?=some (.cells (L.map Value.string).toArray 9 (0,0))/\Below w.heap.size w wr) (fun _ B _=>L.length-(intOf B).toNat)
 case atStart=>exact⟨0,0,by omega,rfl,rfl,by omega,rfl,A.out,z.out⟩
 case round=>
  obtain⟨k,b,W,rfl,rfl,P,I,q,p⟩:=hrel;have J:=aA I;have Q:=aA q;have c:=aA p;have R:w.heap.size<wr.heap.size:=(aM.1 q).1;clear I q p;by_cases r:k<L.length
  ·have C:(k:Int)<(L.length:Int):=by omega
   have D:=eE r;have S:wr.cell? ⟨w.heap.size,k,none⟩=some (.string L[k]):=by simp[World.cell?,Q.out,r]
   generalize L[k]=x at D S;have t:Hid (∀w,aJ w->Calls prog 145 #[.string x] w fun e j=>e= .returned (.tuple #[.int .i64 (bF x.data.toList cX 0-1:Nat),.bool (bF x.data.toList cX 0 !=0)])/\Below w.heap.size w j):=fun w i=>XH x w i;have u:=wD x.data.toList cX 0;rw[show cX.length=24 by unfold cX;rw[eS,List.length_range]]at u;have a:Hid (fT (L.map (·.data.toList)) 0=if bF x.data.toList cX 0=0 then 0 else fT ((L.drop (k+1)).map (·.data.toList)) (b ||| 2^(bF x.data.toList cX 0-1))):=by
    show _=_;rw[J.out,D,jX,fT]
   clear D;generalize bF x.data.toList cX 0=n at t u a;by_cases d:n=0
   ·subst d;go_wp2_with fail;refine(t.out _ (i.next c.out)).mono ?_;rintro e T⟨rfl,f⟩;go_wp2;go_ret;exact⟨by rw[a.out];rfl,Below.next c.out (aC _) f⟩
   ·have E:2^(n-1)<4294967296:=Nat.lt_of_le_of_lt (qQ (by decide) (show n-1<=23 by omega)) (by decide);have v:=(bits_nat .u32 32 (by decide) GU b (2^(n-1)) (by omega) (by omega)).2;have g:b ||| 2^(n-1)<4294967296:=Nat.or_lt_two_pow (n:=32) P E
    rw[aB d]at a;have K:(n !=0)=true:=by simpa using d
    obtain⟨m,rfl⟩:∃m,n=m+1:=⟨n-1,by omega⟩;rw[Nat.add_sub_cancel]at a g v E t;rw[K]at t;clear d K;go_wp2_with fail;refine(t.out _ (i.next c.out)).mono ?_;rintro e T⟨rfl,f⟩;go_wp2;have U:((2:Int)^m%4294967296)=((2^m:Nat):Int):=by
     have:((2:Int)^m)=((2^m:Nat):Int):=by simp
     rw[this];generalize 2^m=q at E;omega
    go_roundw;case rel=>exact⟨k+1,b ||| 2^m,by omega,aY (by simp),aY (by rw[U];exact v),g,a.out,(f.block _ R).trans Q.out,Below.next c.out (aC _) f⟩
    case measure=>simp[intOf];omega
  ·have a:Hid (fT (L.map (·.data.toList)) 0=b):=by
    show _=_;rw[J.out,gH (by omega)];rfl
   have C:¬(k:Int)<(L.length:Int):=by omega
   go_wp2;go_ret;exact⟨by rw[a.out];rfl,c.out⟩
end Go.Proofs.Z

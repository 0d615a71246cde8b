/- Pressed by program out of Bl. -/
import Derived.Test.YtdlhbmncbmconaaGreatDoorA14
namespace Go.Proofs.Z
open Hm Hw Tryz Go.RowKit Go.Sort
attribute [local go_sem] cN cO
structure bD(w:World)(p:Nat)(g:aG)(rv wv:Value):Prop where
 row:w.heap[p]?=some (.cells (gN g rv wv) 116 (0,0))
 recs:w.ownsRow 11 5 1 rv g.records.length (g.records.map fun b=>Value.int .u8 b.toNat)
 wai:eQ w 11 9 wv (g.waiting.map aU)
 lo:11<=p
theorem bD.form{w:World}{p:Nat}{g:aG}{rv wv:Value}(h:bD w p g rv wv):∃b a,wv= .slice b g.waiting.length a:=by
 obtain⟨b,a,e⟩:=IN h.wai;exact⟨b,a,by rw[e,eS]⟩
theorem bD.cells{w:World}{p:Nat}{g:aG}{rv wv:Value}(h:bD w p g rv wv):
  w.cell? ⟨p,0,none⟩=some (.int .i64 g.room)/\w.cell? ⟨p,1,none⟩=some rv/\w.cell? ⟨p,2,none⟩=some (.int .i64 g.had)/\w.cell? ⟨p,3,none⟩=some wv:=by
 have a:=h.row;unfold gN at a;refine⟨?_,?_,?_,?_⟩ <;> simp[World.cell?,a]
theorem rK(p:Nat)(g:aG)(rv wv:Value)(w:World)(h:bD w p g rv wv)(h1:g.had<=1000000)(h2:g.waiting.length<=1000000):
  Calls prog 75 #[.pointer (some ⟨p,0,none⟩)] w fun e a=>e= .returned (.int .i64 g.messages)/\∃n,a=w.drewN n:=by
 obtain⟨c,d,f,i⟩:=h.cells;obtain⟨j,b,rfl⟩:=h.form;clear h;go_enter func75,ntmps75;go_wp2_with fail;go_quiet(fail)
 go_wp2;go_ret;refine⟨?_,⟨_,rfl⟩⟩;show Ending.returned (.int .i64 ((g.had:Int)+(g.waiting.length:Int)))=Ending.returned (.int .i64 ((g.had+g.waiting.length:Nat):Int));rw[Int.natCast_add]
theorem bD.keep{p:Nat}{g:aG}{rv wv:Value}{A B:World}{S:Nat->Prop}(h:bD A p g rv wv)(a:aN S A B)(h1:¬S p)(h2:∀k,rv.ownBlock=some k->¬S k)(h3:∀k,wv.ownBlock=some k->¬S k):bD B p g rv wv:=
 ⟨(a.block _ (aM.1 h.row).1 h1).trans h.row,cQ h.recs a h2,qD h.wai a h3,h.lo⟩
theorem bD.below{p:Nat}{g:aG}{rv wv:Value}{A B:World}(h:bD A p g rv wv)(a:Below A.heap.size A B):bD B p g rv wv:=
 h.keep (S:=fun _=>False) (aN.of_below a) (fun e=>e) (fun _ _ e=>e) (fun _ _ e=>e)
theorem bD.apart{w:World}{p:Nat}{g:aG}{rv wv:Value}(h:bD w p g rv wv):rv.ownBlock≠some p/\wv.ownBlock≠some p/\∀k,rv.ownBlock=some k->wv.ownBlock≠some k:=by
 refine⟨fun e=>?_,fun e=>?_,fun k e d=>?_⟩
 ·obtain⟨c,a⟩:=dN h.recs e;exact dU a h.row (by decide) rfl
 ·obtain⟨_,c,a⟩:=jF h.wai e;exact dU a h.row (by decide) rfl
 ·obtain⟨c,a⟩:=dN h.recs e;obtain⟨_,f,b⟩:=jF h.wai d;exact dU a b (by decide) rfl
theorem bD.grownR{w b:World}{p:Nat}{g:aG}{rv wv:Value}(h:bD w p g rv wv)(a:w.grownBy b rv.ownBlock):b.heap[p]?=some (.cells (gN g rv wv) 116 (0,0)):=
 (a.block p (aM.1 h.row).1 (fun e=>h.apart.1 e.symm)).trans h.row
theorem bD.putR{w i j:World}{p:Nat}{g:aG}{rv a wv:Value}{l:List UInt8}(h:bD w p g rv wv)(c:i.ownsRow 11 5 1 a (g.records.length+l.length) ((g.records.map fun b=>Value.int .u8 b.toNat)++Lib.strCells ⟨l.toArray⟩))(d:w.grownBy i rv.ownBlock)(f:∀k,a.ownBlock=some k->rv.ownBlock=some k∨w.heap.size<=k)(P:aI i p 116 (gN g a wv) j):
  bD j p ⟨g.room,g.records++l,g.had,g.waiting⟩ a wv/\bR p rv wv w a wv j:=by
 have n:aN (fun k=>some k=rv.ownBlock) w i:=aN.of_grown d;have r:p<w.heap.size:=(aM.1 h.row).1;have m:a.ownBlock≠some p:=fun e=>by
  rcases f p e with e|e
  ·exact h.apart.1 e
  ·omega
 refine⟨⟨P.row,?_,?_,h.lo⟩,(n.mono (fun _ _ e=> .inr (.inl e.symm))).trans P.kept (fun _ _ e=> .inl e),f,fun _ e=> .inl e⟩
 ·have:=cQ c P.kept (fun k e h=>m (by rw[e,h]));rw[L5]at this;simpa using this
 ·have:=qD h.wai n (fun k e o=>h.apart.2.2 k o.symm e);exact qD this P.kept (fun k e q=>h.apart.2.1 (by rw[e,q]))
theorem bD.grownW{w b:World}{p:Nat}{g:aG}{rv wv:Value}{o:Obj}(h:bD w p g rv wv)(a:(w.alloc o).grownBy b wv.ownBlock):b.heap[p]?=some (.cells (gN g rv wv) 116 (0,0)):=by
 have c:p<w.heap.size:=(aM.1 h.row).1;exact(a.block p (by simp;omega) (fun e=>h.apart.2.1 e.symm)).trans ((heap_alloc_old w o c).trans h.row)
theorem bD.putW{w f i:World}{p:Nat}{g:aG}{rv wv a:Value}{x:List UInt8}{o:Obj}(h:bD w p g rv wv)(c:eQ f 11 9 a (g.waiting.map aU++[.string ⟨x.toArray⟩]))(d:(w.alloc o).grownBy f wv.ownBlock)(j:a.ownBlock=wv.ownBlock∨a.ownBlock=some (w.alloc o).heap.size)(P:aI f p 116 (gN g rv a) i):
  bD i p ⟨g.room,g.records,g.had,g.waiting++[x]⟩ rv a/\bR p rv wv w rv a i:=by
 have n:aN (fun k=>some k=wv.ownBlock) w (w.alloc o):=(aN.refl _ _).alloc o;have m:aN (fun k=>some k=wv.ownBlock) w f:=n.trans (aN.of_grown d) (fun _ _ e=>e);have s:p<w.heap.size:=(aM.1 h.row).1;have b:∀k,a.ownBlock=some k->wv.ownBlock=some k∨w.heap.size<=k:=fun k e=>by
  rcases j with h|h
  ·exact .inl (by rw[<-h];exact e)
  ·rw[h]at e;cases e;right;simp
 have l:a.ownBlock≠some p:=fun e=>by
  rcases b p e with e|e
  ·exact h.apart.2.1 e
  ·omega
 refine⟨⟨P.row,?_,?_,h.lo⟩,(m.mono (fun _ _ e=> .inr (.inr e.symm))).trans P.kept (fun _ _ e=> .inl e),fun _ e=> .inl e,b⟩
 ·have:=cQ h.recs m (fun k e q=>h.apart.2.2 k e q.symm);exact cQ this P.kept (fun k e r=>h.apart.1 (by rw[e,r]))
 ·have:=qD c P.kept (fun k e h=>l (by rw[e,h]));simpa[aU]using this
set_option maxRecDepth 20000 in
set_option maxHeartbeats 800000 in
theorem KV(p:Nat)(g:aG)(rv wv:Value)(w:World)(h:bD w p g rv wv)(l:List UInt8)(hl:l.length<=4000)(h1:g.records.length<=1000000000000)(h2:g.waiting.length<=1000000):
  Calls prog 76 #[.pointer (some ⟨p,0,none⟩),.string ⟨l.toArray⟩] w fun e Z=>(∃u,e= .returned u)/\∃J L,bD Z p (g.add l) J L/\bR p rv wv w J L Z:=by
 obtain⟨c0,c1,c2,c3⟩:=h.cells;have HH:=aA h;clear h;have HW:Hid (∀w,Calls prog 123 #[.agg #[.int .u8 80,.string ⟨l.toArray⟩]] w fun e Z=>e= .returned (.string ⟨(bM 80 l).toArray⟩)/\Below w.heap.size w Z):=fun w=>KR 80 l (by omega) w;have aa:(bM 80 l).length<=5000:=by rw[mS];omega
 have ab:0<(bM 80 l).length:=by rw[mS];omega
 have o:(⟨(bM 80 l).toArray⟩:ByteArray).size=(bM 80 l).length:=by show Array.size _=_;simp
 obtain⟨i0,hi,M,N,O⟩:=info_parts sO;obtain⟨j0,hj,P,Q,R⟩:=info_parts qZ;go_enter func76,ntmps76;go_wp2_with fail;refine wp_region_any gT ?_;change wpAny _ _ _ _ _ _ _ (World.drew _);refine wpAny_take (i:=0) (v:= .pointer (some ⟨p,0,none⟩)) rfl (by kernel_rfl) (by kernel_rfl) (by kernel_rfl) (fun _ _ _ h=>h) (Or.inl ⟨by rfl,?_⟩) ?_
 ·intro w;go_simp
 refine wpAny_take (i:=1) (v:= .pointer (some ⟨p,0,none⟩)) rfl (by kernel_rfl) (by kernel_rfl) (by kernel_rfl) (fun _ _ _ h=>h) (Or.inl ⟨by rfl,?_⟩) ?_
 ·intro w;go_simp
 refine wpAny_take (i:=2) (v:= .pointer (some ⟨p,0,none⟩)) rfl (by kernel_rfl) (by kernel_rfl) (by kernel_rfl) (fun _ _ _ h=>h) (Or.inl ⟨by rfl,?_⟩) ?_
 ·intro w;go_simp
 refine wpAny_take (i:=3) (v:= .pointer (some ⟨p,1,none⟩)) rfl (by kernel_rfl) (by kernel_rfl) (by kernel_rfl) (fun _ _ _ h=>h) (Or.inl ⟨by rfl,?_⟩) ?_
 ·intro w;go_simp
 refine wpAny_take (i:=5) (v:= .string ⟨l.toArray⟩) rfl (by kernel_rfl) (by kernel_rfl) (by kernel_rfl) (fun _ _ _ h=>h) (Or.inl ⟨by rfl,?_⟩) ?_
 ·intro w;go_simp
 refine wpAny_take (i:=6) (v:= .agg #[.int .u8 80,.string ⟨l.toArray⟩]) rfl (by kernel_rfl) (by kernel_rfl) (by kernel_rfl) (fun _ _ _ h=>h) (Or.inl ⟨by rfl,?_⟩) ?_
 ·intro w;go_simp
 refine wpAny_ready (rs:=[4,7]) (by kernel_rfl) (by simp) ?_;refine AllReady.cons rfl (fun K C=>?_) (AllReady.cons rfl (fun K C=>?_) AllReady.nil)
 ·go_simp;refine C _ _ ?_;clear C K;refine wpAny_ready (rs:=[7]) (by kernel_rfl) (by simp) ?_;refine AllReady.cons rfl (fun K C=>?_) AllReady.nil;go_wp2_with fail;refine(HW.out _).mono ?_;rintro e q⟨rfl,n⟩;have f:Hid (bD q p g rv wv):=(HH.out.below (aT ⟨1,rfl⟩)).below n;have D:Hid (bR p rv wv w rv wv q):=(bR.refl.next (aT ⟨1,rfl⟩)).next n;clear n;go_wp2_with fail;refine mP 8 rfl (by kernel_rfl) ?_;simp only[iZ,fB];have r:11<=q.heap.size:=by have:=f.out.lo;have:=(aM.1 f.out.row).1;omega
  go_wp2_with(first
   |(at_builtin;refine qU _ rfl _ _ 72 9 rfl 11 5 i0 underlying72 underlying9 hi M N O _ _ _ rfl f.out.recs ⟨(bM 80 l).toArray⟩ rfl (by unfold maxLen;rw[o];omega) (by rw[o];omega) r ?_;intro s T a c j;have t:Hid (T.ownsRow 11 5 1 s (g.records.length+(bM 80 l).length) ((g.records.map fun b=>Value.int .u8 b.toNat)++Lib.strCells ⟨(bM 80 l).toArray⟩)):=(by rw[<-o];exact a);have y:=aA c;have E:=aA j;obtain⟨U,m,V,F,_⟩:=rA t.out (by omega);subst F;clear a c j)
   |(refine bK rfl _ _ _ rfl rfl p 1 (.slice (some ⟨U,0,none⟩) (g.records.length+(bM 80 l).length) m) rfl rfl _ _ (gN g (.slice (some ⟨U,0,none⟩) (g.records.length+(bM 80 l).length) m) wv) (f.out.grownR y.out) nQ (by simp[gN]) rfl rfl ?_;intro w6 W;have d:Hid (_/\_):=f.out.putR (l:=bM 80 l) t.out y.out E.out W;clear W;obtain⟨d0,d1,d2,d3⟩:=d.out.1.cells;dsimp only at d0 d1 d2 d3)
   |(at_builtin;refine IQ rfl _ _ 42 rfl 11 9 j0 (.string ByteArray.empty) 16 underlying42 hj P Q R rfl _ _ rfl (qD (S:=fun _=>False) d.out.1.wai ((aN.refl _ _).alloc _) (fun _ _ e=>e)) ⟨w6.heap.size,0,none⟩ 1 1 [.string ⟨l.toArray⟩] rfl rfl (cell_one_new _ _ _) (fun x X=>by simp at X;subst X;rfl) (by decide) (by unfold maxLen;rw[eS];dsimp only;omega) (by rw[eS];dsimp only;omega) (by have:=d.out.1.lo;have:=(aM.1 d.out.1.row).1;simp;omega) ?_;intro G z w7 a c j;rw[eS]at a;rw[eS];dsimp only at a⊢;have H:=show Hid _ from a;have A:=show Hid _ from c;have I:=aA j;clear a c j)
   |(refine bK rfl _ _ _ rfl rfl p 3 (.slice (some G) (g.waiting.length+1) z) rfl rfl _ _ _ (d.out.1.grownW A.out) wU (by simp[gN]) rfl rfl ?_;intro w8 Y;have B:Hid (_/\_):=d.out.1.putW H.out A.out (I.out.imp (fun e=>e.symm) (fun e=>aQ some e.symm)) Y;clear Y))
  refine bodyPost_end (results_none rfl _ _ _) rfl ?_;exact⟨⟨_,rfl⟩,_,_,B.out.1,(D.out.trans d.out.2).trans B.out.2⟩
 ·go_wp2_with fail;refine(HW.out _).mono ?_;rintro e q⟨rfl,n⟩;have f:Hid (bD q p g rv wv):=(HH.out.below (aT ⟨1,rfl⟩)).below n;have D:Hid (bR p rv wv w rv wv q):=(bR.refl.next (aT ⟨1,rfl⟩)).next n;clear n;obtain⟨b0,b1,b2,b3⟩:=f.out.cells;go_wp2_with fail;refine wpAny_ready (rs:=[4]) (by kernel_rfl) (by simp) ?_;refine AllReady.cons rfl (fun K C=>?_) AllReady.nil;go_simp;refine C _ _ ?_;clear C K;refine mP 8 rfl (by kernel_rfl) ?_;simp only[iZ,fB];have r:11<=q.heap.size:=by have:=f.out.lo;have:=(aM.1 f.out.row).1;omega
  go_wp2_with(first
   |(at_builtin;refine qU _ rfl _ _ 72 9 rfl 11 5 i0 underlying72 underlying9 hi M N O _ _ _ rfl f.out.recs ⟨(bM 80 l).toArray⟩ rfl (by unfold maxLen;rw[o];omega) (by rw[o];omega) r ?_;intro s T a c j;have t:Hid (T.ownsRow 11 5 1 s (g.records.length+(bM 80 l).length) ((g.records.map fun b=>Value.int .u8 b.toNat)++Lib.strCells ⟨(bM 80 l).toArray⟩)):=(by rw[<-o];exact a);have y:=aA c;have E:=aA j;obtain⟨U,m,V,F,_⟩:=rA t.out (by omega);subst F;clear a c j)
   |(refine bK rfl _ _ _ rfl rfl p 1 (.slice (some ⟨U,0,none⟩) (g.records.length+(bM 80 l).length) m) rfl rfl _ _ (gN g (.slice (some ⟨U,0,none⟩) (g.records.length+(bM 80 l).length) m) wv) (f.out.grownR y.out) nQ (by simp[gN]) rfl rfl ?_;intro w6 W;have d:Hid (_/\_):=f.out.putR (l:=bM 80 l) t.out y.out E.out W;clear W;obtain⟨d0,d1,d2,d3⟩:=d.out.1.cells;dsimp only at d0 d1 d2 d3)
   |(at_builtin;refine IQ rfl _ _ 42 rfl 11 9 j0 (.string ByteArray.empty) 16 underlying42 hj P Q R rfl _ _ rfl (qD (S:=fun _=>False) d.out.1.wai ((aN.refl _ _).alloc _) (fun _ _ e=>e)) ⟨w6.heap.size,0,none⟩ 1 1 [.string ⟨l.toArray⟩] rfl rfl (cell_one_new _ _ _) (fun x X=>by simp at X;subst X;rfl) (by decide) (by unfold maxLen;rw[eS];dsimp only;omega) (by rw[eS];dsimp only;omega) (by have:=d.out.1.lo;have:=(aM.1 d.out.1.row).1;simp;omega) ?_;intro G z w7 a c j;rw[eS]at a;rw[eS];dsimp only at a⊢;have H:=show Hid _ from a;have A:=show Hid _ from c;have I:=aA j;clear a c j)
   |(refine bK rfl _ _ _ rfl rfl p 3 (.slice (some G) (g.waiting.length+1) z) rfl rfl _ _ _ (d.out.1.grownW A.out) wU (by simp[gN]) rfl rfl ?_;intro w8 Y;have B:Hid (_/\_):=d.out.1.putW H.out A.out (I.out.imp (fun e=>e.symm) (fun e=>aQ some e.symm)) Y;clear Y))
  refine bodyPost_end (results_none rfl _ _ _) rfl ?_;exact⟨⟨_,rfl⟩,_,_,B.out.1,(D.out.trans d.out.2).trans B.out.2⟩
theorem bR.tabs_in{w c:World}{p:Nat}{g:aG}{rv wv a b:Value}(d:aJ w)(h:bD w p g rv wv)(f:bR p rv wv w a b c):aJ c:=
 d.below (f.kept.below (B:=11) (fun k _ e=>by
  rcases e with rfl|e|e
  ·exact h.lo
  ·exact(h.recs.lt k e).1
  ·exact(jF h.wai e).1) d.size) (aC _)
set_option maxRecDepth 20000 in
set_option maxHeartbeats 800000 in
theorem KW(p:Nat)(g:aG)(rv wv:Value)(w:World)(x:aJ w)(h:bD w p g rv wv)(hg:uK g)(m:aO)(lt:m.time.length<=4000000000)(P:m.host.length<=4000000000)(Q:m.app.length<=4000000000)(R:m.proc.length<=4000000000)(S:m.id.length<=4000000000)(T:m.data.length<=4000000000)(U:m.text.length<=4000000000):
  Calls prog 43 #[.pointer (some ⟨p,0,none⟩),.agg (aL m)] w fun e E=>e= .returned (.tuple #[.int .i64 (g.put m).2.1,.int .i64 (g.put m).2.2])/\∃y z,bD E p (g.put m).1 y z/\bR p rv wv w y z E:=by
 obtain⟨aa,ab,ac,ae⟩:=hg;have v:Hid (∀w,aJ w->Calls prog 20 #[.agg (aL m)] w fun r E=>r= .returned (.tuple #[.string ⟨(cA m).1.toArray⟩,.int .i64 (cA m).2])/\Below w.heap.size w E):=fun w x=>wB m w x lt P Q R S T U;have q:= @L6 m;clear lt P Q R S T U;unfold aL at v⊢;unfold aG.put;generalize cA m=r at v q⊢;obtain⟨l,G⟩:=r;dsimp only at v q⊢;have F:=aA h;clear h;by_cases H:G=0
 ·have hl:l.length<=200:=q H;subst H;rw[aB (by simp)];clear q;by_cases hr:g.room<=g.waiting.length
  ·rw[aD (.inl hr)];have ir:(g.room:Int)<=(g.waiting.length:Int):=by omega
   go_enter func43,ntmps43;go_wp2_with fail;refine(v.out _ (x.next ((aF _ _).alloc (aC _) _))).mono ?_;rintro e f⟨rfl,d⟩;have a:Below w.heap.size w f:=Below.next ((aF _ _).alloc (aC _) _) (aC _) d;clear d;have b:Hid (bD f p g rv wv):=F.out.below a;have n:Hid (bR p rv wv w rv wv f):=bR.refl.next a;clear a;obtain⟨V,W,X,Y⟩:=b.out.cells;obtain⟨k,c,o⟩:=b.out.form;subst o;go_wp2_with fail;go_quiet((go_at_call 75;exact Calls.quiet_of (rK p g rv _ _ (b.out.below (aT ⟨_,rfl⟩)) (by omega) (by omega))))
   have i:Hid (bD (f.drewN nq) p g rv (.slice k g.waiting.length c)):=b.out.below (aT ⟨_,rfl⟩);have j:Hid (bR p rv (.slice k g.waiting.length c) w rv (.slice k g.waiting.length c) (f.drewN nq)):=n.out.next (aT ⟨_,rfl⟩);generalize f.drewN nq=I at i j⊢;go_wp2;refine bB (results_tmp2 rfl _ _ _) rfl ?_;exact⟨rfl,_,_,i.out,j.out⟩
  ·have ir:¬(g.room:Int)<=(g.waiting.length:Int):=by omega
   by_cases Z:65535<=g.messages
   ·rw[aD (.inr Z)];have im:(65535:Int)<=(g.messages:Int):=by omega
    go_enter func43,ntmps43;go_wp2_with fail;refine(v.out _ (x.next ((aF _ _).alloc (aC _) _))).mono ?_;rintro e f⟨rfl,d⟩;have a:Below w.heap.size w f:=Below.next ((aF _ _).alloc (aC _) _) (aC _) d;clear d;have b:Hid (bD f p g rv wv):=F.out.below a;have n:Hid (bR p rv wv w rv wv f):=bR.refl.next a;clear a;obtain⟨V,W,X,Y⟩:=b.out.cells;obtain⟨k,c,o⟩:=b.out.form;subst o;go_wp2_with fail;go_quiet((go_at_call 75;exact Calls.quiet_of (rK p g rv _ _ (b.out.below (aT ⟨_,rfl⟩)) (by omega) (by omega))))
    have i:Hid (bD (f.drewN nq) p g rv (.slice k g.waiting.length c)):=b.out.below (aT ⟨_,rfl⟩);have j:Hid (bR p rv (.slice k g.waiting.length c) w rv (.slice k g.waiting.length c) (f.drewN nq)):=n.out.next (aT ⟨_,rfl⟩);generalize f.drewN nq=I at i j⊢;go_wp2;refine bB (results_tmp2 rfl _ _ _) rfl ?_;exact⟨rfl,_,_,i.out,j.out⟩
   ·rw[aB (by simp;omega)];have im:¬(65535:Int)<=(g.messages:Int):=by omega
    have J:(g.messages:Int)<65535:=by omega
    have K:Hid (decide ((65535:Int)<=(g.messages:Int))=false):=decide_eq_false (by omega);clear Z im J;go_enter func43,ntmps43;go_wp2_with fail;refine(v.out _ (x.next ((aF _ _).alloc (aC _) _))).mono ?_;rintro e f⟨rfl,d⟩;have a:Below w.heap.size w f:=Below.next ((aF _ _).alloc (aC _) _) (aC _) d;clear d;have b:Hid (bD f p g rv wv):=F.out.below a;have n:Hid (bR p rv wv w rv wv f):=bR.refl.next a;clear a;obtain⟨V,W,X,Y⟩:=b.out.cells;obtain⟨k,c,o⟩:=b.out.form;subst o;go_wp2_with fail;go_quiet((go_at_call 75;exact Calls.quiet_of (rK p g rv _ _ (b.out.below (aT ⟨_,rfl⟩)) (by omega) (by omega))))
    have i:Hid (bD (f.drewN nq) p g rv (.slice k g.waiting.length c)):=b.out.below (aT ⟨_,rfl⟩);have j:Hid (bR p rv (.slice k g.waiting.length c) w rv (.slice k g.waiting.length c) (f.drewN nq)):=n.out.next (aT ⟨_,rfl⟩);generalize f.drewN nq=I at i j⊢;rw[K.out];go_wp2_with fail;refine(KV p g rv _ I i.out l (by omega) (by omega) (by omega)).mono ?_;rintro e L⟨⟨u,rfl⟩,s,t,A,B⟩;have C:=aA A;have M:Hid (bR p rv (.slice k g.waiting.length c) w s t L):=j.out.trans B;clear A B;go_wp2_with fail;refine(rK p (g.add l) s t L C.out (by show g.had<=_;omega) (by show(g.waiting++[l]).length<=_;simp;omega)).mono ?_;rintro e w4⟨rfl,N⟩;have D:=aT N;go_wp2;refine bB (results_tmp2 rfl _ _ _) rfl ?_;refine⟨?_,s,t,C.out.below D,M.out.next D⟩;have O:(g.add l).messages=g.messages+1:=by simp[aG.add,aG.messages];omega
    rw[O];rfl
 ·rw[aD (by simpa using H)];have f1:((G:Int)==0)=false:=bG.2 (by omega);have f2:¬(G:Int)=0:=by omega
  go_enter func43,ntmps43;go_wp2_with fail;refine(v.out _ (x.next ((aF _ _).alloc (aC _) _))).mono ?_;rintro e f⟨rfl,d⟩;have a:Below w.heap.size w f:=Below.next ((aF _ _).alloc (aC _) _) (aC _) d;clear d;go_wp2;refine bB (results_tmp2 rfl _ _ _) rfl ?_;exact⟨rfl,rv,wv,F.out.below a,bR.refl.next a⟩
set_option maxRecDepth 20000 in
theorem M0(p:Nat)(g:aG)(rv wv:Value)(w:World)(h:bD w p g rv wv):
  Calls prog 37 #[.pointer (some ⟨p,0,none⟩)] w fun e d=>e= .returned (.string ⟨g.records.toArray⟩)/\d=w:=by
 obtain⟨j,k,l,m⟩:=h.cells;rcases h.recs.2 with⟨rfl,h0⟩|⟨b,f,i,rfl,_⟩
 ·have c:g.records=[]:=tJ h0;rw[c];clear h c h0;have a:=L8 w;go_enter func37,ntmps37;go_wp2;go_ret;exact⟨rfl,rfl⟩
 ·have a:=GH h.recs;clear h;go_enter func37,ntmps37;go_wp2;go_ret;exact⟨rfl,rfl⟩
end Go.Proofs.Z

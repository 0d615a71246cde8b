/- Pressed by program out of Bm. -/
import Derived.Test.YtdlhbmncbmconaaGreatDoorA15
namespace Go.Hw
open Go.RowKit
section
variable {P : Program}
theorem KX{ops:Array Oper}{rest:List Oper}{o:Oper}{a:Act}{w:World}{Q:Exit->Act->World->Prop}(i:o.guard=none)(s:Operand)(t:TypeId)(q:o.op= .call {callee:= .builtin .clear,args:=#[s],argTypes:=#[t]})(r:o.dst=none)(e:TypeId)(z:Value)(u:P.underlying t=some (.slice e))(v:∀w,(zeroValue e).run P w= .ok z w)(x:z.cells=#[z])(h1:z.oneCell'=true)(g b n c:Nat)(y:a.eval s= .slice (some ⟨g,b,none⟩) n c)(A:0<n)(f:Array Value)(k:w.heap[g]?=some (.cells f e (0,0)))(l:b+n<=f.size)(h:∀d m,aI w g e d m->d.toList=f.toList.take b++List.replicate n z++f.toList.drop (b+n)->wpList P ops Q rest a m):wpList P ops Q (o::rest) a w:=by
 refine wpList_plain i fun K B=>?_;have C:=Lib.run_clear_slice (P:=P) w t e o.type z u v x h1 g b n c A (fun j E=>by simp[World.cell?,k,show b+j<f.size by omega]) (fun j _=>by simp[World.frozen?,k]);obtain⟨d,p,D⟩:=wE (List.replicate n z) b w f k (by simpa using l);unfold Oper.wp execOp;simp only[q,resolve,invoke,builtin,Sem.run_bind,Sem.run_pure,Result.andThen_ok,List.map_toArray,jX,List.map_nil,y,C];exact B (a.put o.dst (.tuple #[])) _ (by rw[r];exact h d _ p (by rw[D,List.length_replicate]))
end
end Go.Hw
namespace Go.Proofs.Z
open Hm Hw Tryz Go.RowKit Go.Sort
attribute [local go_sem] cN cO
theorem bD.wait{w:World}{p:Nat}{g:aG}{rv:Value}{c o n b:Nat}(h:bD w p g rv (.slice (some ⟨c,o,none⟩) n b)):
  n=g.waiting.length/\∃a,w.heap[c]?=some (.cells a 9 (0,0))/\11<=c/\g.waiting.length<=b/\b<=maxLen/\o+b<=a.size/\(a.toList.drop o).take g.waiting.length=g.waiting.map aU:=by
 rcases h.wai with⟨d,_⟩|⟨j,k,e,a,d,f,i,h1,h2,h3,h4⟩
 ·cases d
 ·cases d;rw[eS]at h1 h4⊢;exact⟨rfl,a,i,f,h1,h2,h3,h4⟩
theorem M1{l xs:List Value}{o d n:Nat}(h:(l.drop o).take n=xs)(a:o+n<=l.length)(r:List Value)(b:r.length=d):((l.take o++r++l.drop (o+d)).drop (o+d)).take (n-d)=xs.drop d:=by
 have c:(l.take o++r).length=o+d:=by simp;omega
 rw[List.drop_append_of_le_length (by omega),gH (by omega),iR,<-h,List.drop_take,dW]
theorem bD.acked{w v E m:World}{p:Nat}{g:aG}{rv:Value}{b o c d n f i L q:Nat}{a:Array Value}{j:Array Value}{z:Value}(h:bD w p g rv (.slice (some ⟨b,o,none⟩) L c))(M:w.heap[b]?=some (.cells j 9 (0,0)))(Q:d<=L)(x:q=L-d)(N:(f=o+d/\i=c-d)∨(f=o/\i=0/\L=d))(F:a.toList=j.toList.take o++List.replicate d z++j.toList.drop (o+d))(G:aI w b 9 a v)(H:aI v p 116 #[.int .i64 g.room,rv,.int .i64 g.had,.slice (some ⟨b,f,none⟩) q i] E)(y:aI E p 116 #[.int .i64 g.room,rv,.int .i64 n,.slice (some ⟨b,f,none⟩) q i] m):
  bD m p ⟨g.room,g.records,n,g.waiting.drop d⟩ rv (.slice (some ⟨b,f,none⟩) q i)/\bR p rv (.slice (some ⟨b,o,none⟩) L c) w rv (.slice (some ⟨b,f,none⟩) q i) m:=by
 obtain⟨A,I,r,B,h1,h2,h3,h4⟩:=h.wait;subst x;rw[M]at r;cases r;have C:=h.apart;have s:b≠p:=fun e=>C.2.1 (by rw[<-e];rfl);have O:o+c<=a.size:=by
  have:=aQ List.length F;simp at this;omega
 have J:aN (fun k=>k=p) v m:=H.kept.trans y.kept (fun _ _ e=>e);have K:aN (fun k=>k=b) w v:=G.kept;have t:m.heap[b]?=some (.cells a 9 (0,0)):=(y.other _ s).trans ((H.other _ s).trans G.row);have u:(a.toList.drop f).take (L-d)=(g.waiting.drop d).map aU:=by
  rcases N with⟨rfl,_⟩|⟨_,_,e⟩
  ·rw[F,List.map_drop,A];exact M1 (d:=d) (n:=g.waiting.length) h4 (by simp;omega) (List.replicate d z) (by simp)
  ·rw[e,Nat.sub_self,List.take_zero,gH (l:=g.waiting) (by omega)];rfl
 refine⟨⟨y.row,?_,.inr ⟨b,f,i,a,by simp[A],B,t,by simp;omega,by omega,by omega,?_⟩,h.lo⟩,?_,fun _ e=> .inl e,fun _ e=> .inl e⟩
 ·have:=cQ h.recs K (fun k e D=>C.2.2 k e (by rw[D];rfl));exact cQ this J (fun k e D=>C.1 (by rw[e,D]))
 ·rw[eS,bC,<-A];exact u
 ·exact(K.mono (fun _ _ e=> .inr (.inr (by rw[e];rfl)))).trans J (fun _ _ e=> .inl e)
set_option maxRecDepth 20000 in
set_option maxHeartbeats 1600000 in
theorem M2(p:Nat)(g:aG)(rv:Value)(q o a L:Nat)(w:World)(h:bD w p g rv (.slice (some ⟨q,o,none⟩) L a))(n d:Nat)(hn:n=g.had+d)(ad:0<d)(hd:d<=L)(h1:g.records.length<=1000000000000)(h2:L<=1000000)(_h3:g.had<=1000000):
  Calls prog 102 #[.pointer (some ⟨p,0,none⟩),.int .i64 n] w fun e w'=>(∃u,e= .returned u)/\∃ae af,bD w' p (g.ackTo n) ae af/\bR p rv (.slice (some ⟨q,o,none⟩) L a) w ae af w':=by
 obtain⟨c0,c1,c2,c3⟩:=h.cells;have HH:=aA h;obtain⟨M,_,_,_,ai,_⟩:=h.wait;have ai:L<=a:=by omega
 clear h;have HT:Hid (∀w,Calls prog 148 #[.int .i64 n] w fun e w'=>e= .returned (.string ⟨(iC n).toArray⟩)/\Below w.heap.size w w'):=fun w=>KO n w;have aj:(iC n).length=2:=rfl;have HA:Hid (g.ackTo n=⟨g.room,g.records++bM 65 (iC n),n,g.waiting.drop d⟩):=by
  show _=_;unfold aG.ackTo;rw[hn,Nat.add_sub_cancel_left]
 generalize iC n=l at HT aj HA;have HW:Hid (∀w,Calls prog 123 #[.agg #[.int .u8 65,.string ⟨l.toArray⟩]] w fun e w'=>e= .returned (.string ⟨(bM 65 l).toArray⟩)/\Below w.heap.size w w'):=fun w=>KR 65 l (by omega) w;have al:(bM 65 l).length<=5000:=by rw[mS];omega
 have am:0<(bM 65 l).length:=by rw[mS];omega
 have x:(⟨(bM 65 l).toArray⟩:ByteArray).size=(bM 65 l).length:=by show Array.size _=_;simp
 have an:(n:Int)-(g.had:Int)=(d:Int):=by omega
 clear hn M;obtain⟨i0,hi,Y,Z,aa⟩:=info_parts sO;go_enter func102,ntmps102;go_upto_region 0 with fail;go_cut [] (fun wc=>∃s,bD wc p ⟨g.room,g.records++bM 65 l,g.had,g.waiting⟩ s (.slice (some ⟨q,o,none⟩) L a)/\bR p rv (.slice (some ⟨q,o,none⟩) L a) w s (.slice (some ⟨q,o,none⟩) L a) wc);case first=>
  refine wp_region_any gT ?_;change wpAny _ _ _ _ _ _ _ (World.drew _);refine wpAny_take (i:=0) (v:= .pointer (some ⟨p,0,none⟩)) rfl (by kernel_rfl) (by kernel_rfl) (by kernel_rfl) (fun _ _ _ h=>h) (Or.inl ⟨by rfl,?_⟩) ?_
  ·intro w;go_simp
  refine wpAny_take (i:=1) (v:= .pointer (some ⟨p,0,none⟩)) rfl (by kernel_rfl) (by kernel_rfl) (by kernel_rfl) (fun _ _ _ h=>h) (Or.inl ⟨by rfl,?_⟩) ?_
  ·intro w;go_simp
  refine wpAny_take (i:=2) (v:= .pointer (some ⟨p,0,none⟩)) rfl (by kernel_rfl) (by kernel_rfl) (by kernel_rfl) (fun _ _ _ h=>h) (Or.inl ⟨by rfl,?_⟩) ?_
  ·intro w;go_simp
  refine wpAny_take (i:=3) (v:= .pointer (some ⟨p,1,none⟩)) rfl (by kernel_rfl) (by kernel_rfl) (by kernel_rfl) (fun _ _ _ h=>h) (Or.inl ⟨by rfl,?_⟩) ?_
  ·intro w;go_simp
  refine wpAny_take (i:=5) (v:= .int .i64 n) rfl (by kernel_rfl) (by kernel_rfl) (by kernel_rfl) (fun _ _ _ h=>h) (Or.inl ⟨by rfl,?_⟩) ?_
  ·intro w;go_simp
  refine wpAny_ready (rs:=[4,6]) (by kernel_rfl) (by simp) ?_;refine AllReady.cons rfl (fun K E=>?_) (AllReady.cons rfl (fun K E=>?_) AllReady.nil)
  ·go_simp;refine E _ _ ?_;clear E K;refine mP 6 rfl (by kernel_rfl) ?_;simp only[iZ,fB];go_wp2_with fail;refine(HT.out _).mono ?_;rintro e w1⟨rfl,F⟩;have J:Hid (bD w1 p g rv (.slice (some ⟨q,o,none⟩) L a)):=(HH.out.below (aT ⟨1,rfl⟩)).below F;have N:Hid (bR p rv (.slice (some ⟨q,o,none⟩) L a) w rv (.slice (some ⟨q,o,none⟩) L a) w1):=(bR.refl.next (aT ⟨1,rfl⟩)).next F;clear F;go_wp2_with fail;refine(HW.out _).mono ?_;rintro e y⟨rfl,t⟩;have c:Hid (bD y p g rv (.slice (some ⟨q,o,none⟩) L a)):=J.out.below t;have G:Hid (bR p rv (.slice (some ⟨q,o,none⟩) L a) w rv (.slice (some ⟨q,o,none⟩) L a) y):=N.out.next t;clear t;have z:11<=y.heap.size:=by have:=c.out.lo;have:=(aM.1 c.out.row).1;omega
   go_wp2_with(first
    |(at_builtin;refine qU _ rfl _ _ 72 9 rfl 11 5 i0 underlying72 underlying9 hi Y Z aa _ _ _ rfl c.out.recs ⟨(bM 65 l).toArray⟩ rfl (by unfold maxLen;rw[x];omega) (by rw[x];omega) z ?_;intro s O j m A;have B:Hid (O.ownsRow 11 5 1 s (g.records.length+(bM 65 l).length) ((g.records.map fun b=>Value.int .u8 b.toNat)++Lib.strCells ⟨(bM 65 l).toArray⟩)):=(by rw[<-x];exact j);have C:=aA m;have H:=aA A;obtain⟨Q,r,R,I,_⟩:=rA B.out (by omega);subst I;clear j m A)
    |(refine bK rfl _ _ _ rfl rfl p 1 (.slice (some ⟨Q,0,none⟩) (g.records.length+(bM 65 l).length) r) rfl rfl _ _ (gN g (.slice (some ⟨Q,0,none⟩) (g.records.length+(bM 65 l).length) r) (.slice (some ⟨q,o,none⟩) L a)) (c.out.grownR C.out) nQ (by simp[gN]) rfl rfl ?_;intro w6 S;have f:Hid (_/\_):=c.out.putR (l:=bM 65 l) B.out C.out H.out S;clear S))
   go_meet
   case rel=>exact⟨_,f.out.1,G.out.trans f.out.2⟩
  ·go_wp2_with fail;refine(HT.out _).mono ?_;rintro e w1⟨rfl,F⟩;have J:Hid (bD w1 p g rv (.slice (some ⟨q,o,none⟩) L a)):=(HH.out.below (aT ⟨1,rfl⟩)).below F;have N:Hid (bR p rv (.slice (some ⟨q,o,none⟩) L a) w rv (.slice (some ⟨q,o,none⟩) L a) w1):=(bR.refl.next (aT ⟨1,rfl⟩)).next F;clear F;obtain⟨b0,b1,b2,b3⟩:=J.out.cells;go_wp2_with fail;refine wpAny_ready (rs:=[4,7]) (by kernel_rfl) (by simp) ?_;refine AllReady.cons rfl (fun K E=>?_) (AllReady.cons rfl (fun K E=>?_) AllReady.nil)
   ·go_simp;refine E _ _ ?_;clear E K;refine mP 7 rfl (by kernel_rfl) ?_;simp only[iZ,fB];go_wp2_with fail;refine(HW.out _).mono ?_;rintro e y⟨rfl,t⟩;have c:Hid (bD y p g rv (.slice (some ⟨q,o,none⟩) L a)):=J.out.below t;have G:Hid (bR p rv (.slice (some ⟨q,o,none⟩) L a) w rv (.slice (some ⟨q,o,none⟩) L a) y):=N.out.next t;clear t;have z:11<=y.heap.size:=by have:=c.out.lo;have:=(aM.1 c.out.row).1;omega
    go_wp2_with(first
     |(at_builtin;refine qU _ rfl _ _ 72 9 rfl 11 5 i0 underlying72 underlying9 hi Y Z aa _ _ _ rfl c.out.recs ⟨(bM 65 l).toArray⟩ rfl (by unfold maxLen;rw[x];omega) (by rw[x];omega) z ?_;intro s O j m A;have B:Hid (O.ownsRow 11 5 1 s (g.records.length+(bM 65 l).length) ((g.records.map fun b=>Value.int .u8 b.toNat)++Lib.strCells ⟨(bM 65 l).toArray⟩)):=(by rw[<-x];exact j);have C:=aA m;have H:=aA A;obtain⟨Q,r,R,I,_⟩:=rA B.out (by omega);subst I;clear j m A)
     |(refine bK rfl _ _ _ rfl rfl p 1 (.slice (some ⟨Q,0,none⟩) (g.records.length+(bM 65 l).length) r) rfl rfl _ _ (gN g (.slice (some ⟨Q,0,none⟩) (g.records.length+(bM 65 l).length) r) (.slice (some ⟨q,o,none⟩) L a)) (c.out.grownR C.out) nQ (by simp[gN]) rfl rfl ?_;intro w6 S;have f:Hid (_/\_):=c.out.putR (l:=bM 65 l) B.out C.out H.out S;clear S))
    go_meet
    case rel=>exact⟨_,f.out.1,G.out.trans f.out.2⟩
   ·go_simp;refine E _ _ ?_;clear E K;refine wpAny_ready (rs:=[4,8]) (by kernel_rfl) (by simp) ?_;refine AllReady.cons rfl (fun K E=>?_) (AllReady.cons rfl (fun K E=>?_) AllReady.nil)
    ·go_simp;refine E _ _ ?_;clear E K;refine mP 8 rfl (by kernel_rfl) ?_;simp only[iZ,fB];go_wp2_with fail;refine(HW.out _).mono ?_;rintro e y⟨rfl,t⟩;have c:Hid (bD y p g rv (.slice (some ⟨q,o,none⟩) L a)):=J.out.below t;have G:Hid (bR p rv (.slice (some ⟨q,o,none⟩) L a) w rv (.slice (some ⟨q,o,none⟩) L a) y):=N.out.next t;clear t;have z:11<=y.heap.size:=by have:=c.out.lo;have:=(aM.1 c.out.row).1;omega
     go_wp2_with(first
      |(at_builtin;refine qU _ rfl _ _ 72 9 rfl 11 5 i0 underlying72 underlying9 hi Y Z aa _ _ _ rfl c.out.recs ⟨(bM 65 l).toArray⟩ rfl (by unfold maxLen;rw[x];omega) (by rw[x];omega) z ?_;intro s O j m A;have B:Hid (O.ownsRow 11 5 1 s (g.records.length+(bM 65 l).length) ((g.records.map fun b=>Value.int .u8 b.toNat)++Lib.strCells ⟨(bM 65 l).toArray⟩)):=(by rw[<-x];exact j);have C:=aA m;have H:=aA A;obtain⟨Q,r,R,I,_⟩:=rA B.out (by omega);subst I;clear j m A)
      |(refine bK rfl _ _ _ rfl rfl p 1 (.slice (some ⟨Q,0,none⟩) (g.records.length+(bM 65 l).length) r) rfl rfl _ _ (gN g (.slice (some ⟨Q,0,none⟩) (g.records.length+(bM 65 l).length) r) (.slice (some ⟨q,o,none⟩) L a)) (c.out.grownR C.out) nQ (by simp[gN]) rfl rfl ?_;intro w6 S;have f:Hid (_/\_):=c.out.putR (l:=bM 65 l) B.out C.out H.out S;clear S))
     go_meet
     case rel=>exact⟨_,f.out.1,G.out.trans f.out.2⟩
    ·go_wp2_with fail;refine(HW.out _).mono ?_;rintro e y⟨rfl,t⟩;have c:Hid (bD y p g rv (.slice (some ⟨q,o,none⟩) L a)):=J.out.below t;have G:Hid (bR p rv (.slice (some ⟨q,o,none⟩) L a) w rv (.slice (some ⟨q,o,none⟩) L a) y):=N.out.next t;clear t;obtain⟨b0,b1,b2,b3⟩:=c.out.cells;go_wp2_with fail;refine wpAny_ready (rs:=[4]) (by kernel_rfl) (by simp) ?_;refine AllReady.cons rfl (fun K E=>?_) AllReady.nil;go_simp;refine E _ _ ?_;clear E K;refine mP 9 rfl (by kernel_rfl) ?_;simp only[iZ,fB];have z:11<=y.heap.size:=by have:=c.out.lo;have:=(aM.1 c.out.row).1;omega
     go_wp2_with(first
      |(at_builtin;refine qU _ rfl _ _ 72 9 rfl 11 5 i0 underlying72 underlying9 hi Y Z aa _ _ _ rfl c.out.recs ⟨(bM 65 l).toArray⟩ rfl (by unfold maxLen;rw[x];omega) (by rw[x];omega) z ?_;intro s O j m A;have B:Hid (O.ownsRow 11 5 1 s (g.records.length+(bM 65 l).length) ((g.records.map fun b=>Value.int .u8 b.toNat)++Lib.strCells ⟨(bM 65 l).toArray⟩)):=(by rw[<-x];exact j);have C:=aA m;have H:=aA A;obtain⟨Q,r,R,I,_⟩:=rA B.out (by omega);subst I;clear j m A)
      |(refine bK rfl _ _ _ rfl rfl p 1 (.slice (some ⟨Q,0,none⟩) (g.records.length+(bM 65 l).length) r) rfl rfl _ _ (gN g (.slice (some ⟨Q,0,none⟩) (g.records.length+(bM 65 l).length) r) (.slice (some ⟨q,o,none⟩) L a)) (c.out.grownR C.out) nQ (by simp[gN]) rfl rfl ?_;intro w6 S;have f:Hid (_/\_):=c.out.putR (l:=bM 65 l) B.out C.out H.out S;clear S))
     go_meet
     case rel=>exact⟨_,f.out.1,G.out.trans f.out.2⟩
 case rest=>
  obtain⟨s,ag,D⟩:=hcut;have f:Hid (_/\_):=⟨ag,D⟩;clear ag D HH HT HW c0 c1 c2 c3;rcases(by omega:(a=d/\L=d)∨d<a)with⟨rfl,rfl⟩|ao
  ·obtain⟨d0,d1,d2,d3⟩:=f.out.1.cells;obtain⟨M,T,U,_,_,_,D,_⟩:=f.out.1.wait;clear M;have V:=show Hid _ from U;have ab:=show Hid _ from D;clear U D;dsimp only at d0 d1 d2 d3;go_wp2_with(first
    |(refine KX rfl _ 42 rfl rfl 9 (.string ByteArray.empty) underlying42 zeroValue9 rfl rfl q o L _ rfl ad T V.out (by have:=ab.out;omega) ?_;intro ah w7 p7 e7;have P7:=show Hid _ from p7;have E7:=show Hid _ from e7;have ac:q≠p:=(fun e=>f.out.1.apart.2.1 (by rw[<-e];rfl));have W:Hid (w7.heap[p]?=_):=(p7.other p (fun e=>ac e.symm)).trans f.out.1.row;clear p7 e7;have k3:w7.cell? ⟨p,3,none⟩=some (.slice (some ⟨q,o,none⟩) L L):=(by simp[World.cell?,W.out,gN]))
    |(refine bK rfl _ _ _ rfl rfl p 3 (.slice (some ⟨q,o,none⟩) (0) (0)) rfl rfl _ _ _ W.out wU (by simp[gN]) rfl rfl ?_;intro w8 p8;have P8:=show Hid _ from p8;clear p8)
    |(refine bK rfl _ _ _ rfl rfl p 2 (.int .i64 n) rfl rfl _ _ _ P8.out.row jC (by simp[gN]) rfl rfl ?_;intro w9 p9;have P9:=show Hid _ from p9;clear p9))
   have X:=f.out.1.acked (d:=L) (n:=n) V.out hd (by omega) (.inr ⟨rfl,rfl,rfl⟩) E7.out P7.out P8.out P9.out;refine bodyPost_end (results_none rfl _ _ _) rfl ?_;rw[HA.out];exact⟨⟨_,rfl⟩,_,_,X.1,f.out.2.trans X.2⟩
  ·have ak:¬a=d:=by omega
   obtain⟨d0,d1,d2,d3⟩:=f.out.1.cells;obtain⟨M,T,U,_,_,_,D,_⟩:=f.out.1.wait;clear M;have V:=show Hid _ from U;have ab:=show Hid _ from D;clear U D;dsimp only at d0 d1 d2 d3;go_wp2_with(first
    |(refine KX rfl _ 42 rfl rfl 9 (.string ByteArray.empty) underlying42 zeroValue9 rfl rfl q o d _ rfl ad T V.out (by have:=ab.out;omega) ?_;intro ah w7 p7 e7;have P7:=show Hid _ from p7;have E7:=show Hid _ from e7;have ac:q≠p:=(fun e=>f.out.1.apart.2.1 (by rw[<-e];rfl));have W:Hid (w7.heap[p]?=_):=(p7.other p (fun e=>ac e.symm)).trans f.out.1.row;clear p7 e7;have k3:w7.cell? ⟨p,3,none⟩=some (.slice (some ⟨q,o,none⟩) L a):=(by simp[World.cell?,W.out,gN]))
    |(refine bK rfl _ _ _ rfl rfl p 3 (.slice (some ⟨q,o+d,none⟩) (L-d) (a-d)) rfl rfl _ _ _ W.out wU (by simp[gN]) rfl rfl ?_;intro w8 p8;have P8:=show Hid _ from p8;clear p8)
    |(refine bK rfl _ _ _ rfl rfl p 2 (.int .i64 n) rfl rfl _ _ _ P8.out.row jC (by simp[gN]) rfl rfl ?_;intro w9 p9;have P9:=show Hid _ from p9;clear p9))
   have X:=f.out.1.acked (d:=d) (n:=n) V.out hd (by omega) (.inl ⟨rfl,rfl⟩) E7.out P7.out P8.out P9.out;refine bodyPost_end (results_none rfl _ _ _) rfl ?_;rw[HA.out];exact⟨⟨_,rfl⟩,_,_,X.1,f.out.2.trans X.2⟩
end Go.Proofs.Z

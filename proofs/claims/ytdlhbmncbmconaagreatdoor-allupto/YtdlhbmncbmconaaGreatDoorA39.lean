/- Pressed by program out of Fd Fe Ff Fg Fh. -/
import Derived.Test.YtdlhbmncbmconaaGreatDoorA38
import Derived.Deep.RegionHeld
namespace Go.Proofs.Z
open Hm Hw Tryz Go.RowKit Go.Sort
attribute [local go_sem] cN cO dY fR fS
theorem bL.drewN{w:World}{q:Nat}{g:aG}{ls:List (List UInt8)}{lv:Value}(h:bL w q g ls lv)(n:Nat):bL (w.drewN n) q g ls lv:=h.next (aT ⟨_,rfl⟩)
theorem CG(a b:UInt8):wrap64 (a.toNat:Int)=a.toNat/\wrap64 (b.toNat:Int)=b.toNat/\(256*(a.toNat:Int)+(b.toNat:Int))=(cT [a,b]:Int)/\cT [a,b]<65536:=by
 have c:a.toNat<256:=lA _;have d:b.toNat<256:=lA _;refine⟨by unfold wrap64;omega,by unfold wrap64;omega,?_,?_⟩
 ·show _=(((256*a.toNat+b.toNat:Nat)):Int);omega
 ·show 256*a.toNat+b.toNat<65536;omega
set_option maxRecDepth 20000 in
set_option maxHeartbeats 8000000 in
theorem aBx(q:Nat)(a b:UInt8)(g:aG)(ls:List (List UInt8))(lv:Value)(w:World)(d:bL w q g ls lv)(h:cT [a,b]<=g.had∨ls.length<cT [a,b]):
  Calls prog 154 #[.pointer (some ⟨q,0,none⟩),.int .u8 65,.string ⟨[a,b].toArray⟩] w fun e f=>e= .returned (.bool false)/\Below w.heap.size w f:=by
 obtain⟨l,m,n,o⟩:=d.cells;obtain⟨p,r,rfl⟩:=gJ d.own;clear d;have s:a.toNat<256:=lA _;have t:b.toNat<256:=lA _;obtain⟨i,j,k,c⟩:=CG a b;generalize cT [a,b]=N at h k c;by_cases h1:N<=g.had
 ·have hi:(N:Int)<=(g.had:Int):=by omega
  clear h h1 c;go_enter func154,ntmps154;go_wp2_with fail;go_quiet(fail)
  go_wp2;go_ret;exact⟨rfl,aT ⟨_,rfl⟩⟩
 ·have hi:¬(N:Int)<=(g.had:Int):=by omega
  have u:(ls.length:Int)<(N:Int):=by omega
  clear h h1 c;go_enter func154,ntmps154;go_wp2_with fail;go_quiet(fail)
  go_wp2;go_ret;exact⟨rfl,aT ⟨_,rfl⟩⟩
set_option maxRecDepth 20000 in
set_option maxHeartbeats 8000000 in
theorem PS(q:Nat)(a b:UInt8)(g:aG)(ls:List (List UInt8))(lv:Value)(w:World)(o:bL w q g ls lv)(h1:g.had<cT [a,b])(h2:cT [a,b]<=ls.length)(P:g.records.length<=1000000000000):
  Calls prog 154 #[.pointer (some ⟨q,0,none⟩),.int .u8 65,.string ⟨[a,b].toArray⟩] w fun e A=>e= .returned (.bool true)/\bL A q (g.ackTo (cT [a,b])) ls lv/\cV q lv w lv A:=by
 have Q:=aA o;obtain⟨V,W,X,Y⟩:=o.cells;obtain⟨f,j,rfl⟩:=gJ o.own;have p:=o.len;have B:=aA p;clear o p;have Z:a.toNat<256:=lA _;have hb:b.toNat<256:=lA _;obtain⟨C,D,R,s⟩:=CG a b;have l:=show Hid _ from V5 a b;have E:Hid ((bM 65 [a,b]).length<=300):=show _<=_ by rw[mS];simp
 have t:Hid (∀w,Calls prog 153 #[.int .u8 65,.string ⟨[a,b].toArray⟩] w fun e A=>e= .returned (.string ⟨(bM 65 [a,b]).toArray⟩)/\Below w.heap.size w A):=fun w=>BD 65 [a,b] (by simp) w;generalize cT [a,b]=N at h1 h2 R s l;have hi:¬(N:Int)<=(g.had:Int):=by omega
 have hj:¬(ls.length:Int)<(N:Int):=by omega
 have u:Hid (g.had<=N/\N<=g.messages):=show _/\_ from⟨by omega,by have:=B.out;omega⟩;clear h1 h2 s;go_enter func154,ntmps154;go_wp2_with fail;go_quiet(fail)
 go_wp2_with(first
  |(refine bK rfl _ _ _ rfl rfl q 3 (.int .i64 (N:Int)) rfl rfl _ _ (kL ⟨g.room,g.records,N,g.waiting.drop (N-g.had)⟩ (.slice f ls.length j)) (Q.out.drewN _).row aBt (by simp[kL]) rfl rfl ?_;intro F S;have G:=aA S;clear S)
  |fail)
 have H:Hid (bL F q ⟨g.room,g.records,N,g.waiting.drop (N-g.had)⟩ ls (.slice f ls.length j)):=(Q.out.drewN _).had u.out.1 u.out.2 G.out;have T:Hid (cV q (.slice f ls.length j) w (.slice f ls.length j) F):=(cV.refl.next (aT ⟨_,rfl⟩)).trans (cV.of_put G.out);have U:¬9223372036854775807<g.records.length+(bM 65 [a,b]).length:=by have:=E.out;omega
 clear G V W X Y hi hj R C D Z hb;go_wp2_with fail;refine wp_region_any gT ?_;change wpAny _ _ _ _ _ _ _ (World.drew _);refine wpAny_take (i:=0) (v:= .pointer (some ⟨q,0,none⟩)) rfl (by kernel_rfl) (by kernel_rfl) (by kernel_rfl) (fun _ _ _ h=>h) (Or.inl ⟨by rfl,?_⟩) ?_
 ·intro w;go_simp
 refine wpAny_take (i:=1) (v:= .pointer (some ⟨q,0,none⟩)) rfl (by kernel_rfl) (by kernel_rfl) (by kernel_rfl) (fun _ _ _ h=>h) (Or.inl ⟨by rfl,?_⟩) ?_
 ·intro w;go_simp
 refine wpAny_take (i:=2) (v:= .pointer (some ⟨q,0,none⟩)) rfl (by kernel_rfl) (by kernel_rfl) (by kernel_rfl) (fun _ _ _ h=>h) (Or.inl ⟨by rfl,?_⟩) ?_
 ·intro w;go_simp
 refine wpAny_take (i:=3) (v:= .pointer (some ⟨q,1,none⟩)) rfl (by kernel_rfl) (by kernel_rfl) (by kernel_rfl) (fun _ _ _ h=>h) (Or.inl ⟨by rfl,?_⟩) ?_
 ·intro w;go_simp
 refine wpAny_take (i:=5) (v:= .int .u8 65) rfl (by kernel_rfl) (by kernel_rfl) (by kernel_rfl) (fun _ _ _ h=>h) (Or.inl ⟨by rfl,?_⟩) ?_
 ·intro w;go_simp
 refine wpAny_take (i:=6) (v:= .string ⟨[a,b].toArray⟩) rfl (by kernel_rfl) (by kernel_rfl) (by kernel_rfl) (fun _ _ _ h=>h) (Or.inl ⟨by rfl,?_⟩) ?_
 ·intro w;go_simp
 obtain⟨I,J,L,M⟩:=H.out.cells;refine wpAny_ready (rs:=[4,7]) (by kernel_rfl) (by simp) ?_;refine AllReady.cons rfl (fun K m=>?_) (AllReady.cons rfl (fun K m=>?_) AllReady.nil)
 ·go_simp;refine m _ _ ?_;clear m K;refine wpAny_ready (rs:=[7]) (by kernel_rfl) (by simp) ?_;refine AllReady.cons rfl (fun K m=>?_) AllReady.nil;go_wp2_with fail;refine(t.out _).mono ?_;rintro e x⟨rfl,c⟩;have d:Hid (bL x q ⟨g.room,g.records,N,g.waiting.drop (N-g.had)⟩ ls (.slice f ls.length j)):=(H.out.next (aT ⟨1,rfl⟩)).next c;have n:Hid (cV q (.slice f ls.length j) w (.slice f ls.length j) x):=(T.out.next (aT ⟨1,rfl⟩)).next c;clear c I J L M;go_wp2_with fail;refine mP 8 rfl (by kernel_rfl) ?_;simp only[iZ,fB];go_wp2_with(refine bK rfl _ _ _ rfl rfl q 1 (.string ⟨(g.records++bM 65 [a,b]).toArray⟩) rfl rfl _ _ (kL ⟨g.room,g.records++bM 65 [a,b],N,g.waiting.drop (N-g.had)⟩ (.slice f ls.length j)) d.out.row fZ (by simp[kL]) rfl rfl ?_;intro O y;have z:=aA y;clear y);go_ret;refine⟨rfl,?_,n.out.trans (cV.of_put z.out)⟩;have k:=d.out.text (r:=g.records++bM 65 [a,b]) z.out;unfold aG.ackTo;rw[l.out];exact k
 ·go_wp2_with fail;refine(t.out _).mono ?_;rintro e x⟨rfl,c⟩;have d:Hid (bL x q ⟨g.room,g.records,N,g.waiting.drop (N-g.had)⟩ ls (.slice f ls.length j)):=(H.out.next (aT ⟨1,rfl⟩)).next c;have n:Hid (cV q (.slice f ls.length j) w (.slice f ls.length j) x):=(T.out.next (aT ⟨1,rfl⟩)).next c;clear c I J L M;obtain⟨I,J,L,M⟩:=d.out.cells;go_wp2_with fail;refine wpAny_ready (rs:=[4]) (by kernel_rfl) (by simp) ?_;refine AllReady.cons rfl (fun K m=>?_) AllReady.nil;go_simp;refine m _ _ ?_;clear m K;refine mP 8 rfl (by kernel_rfl) ?_;simp only[iZ,fB];go_wp2_with(refine bK rfl _ _ _ rfl rfl q 1 (.string ⟨(g.records++bM 65 [a,b]).toArray⟩) rfl rfl _ _ (kL ⟨g.room,g.records++bM 65 [a,b],N,g.waiting.drop (N-g.had)⟩ (.slice f ls.length j)) d.out.row fZ (by simp[kL]) rfl rfl ?_;intro O y;have z:=aA y;clear y);go_ret;refine⟨rfl,?_,n.out.trans (cV.of_put z.out)⟩;have k:=d.out.text (r:=g.records++bM 65 [a,b]) z.out;unfold aG.ackTo;rw[l.out];exact k
end Go.Proofs.Z
namespace Go.Hm
theorem aBy{l:List UInt8}(h:l.length=2):∃a b,l=[a,b]:=by
 match l,h with
 |[a,b],_=>exact⟨a,b,rfl⟩
theorem PT{k:UInt8}{n:Nat}(a:n<256):k.toNat=n↔k=UInt8.ofNat n:=by
 constructor
 ·intro h;apply eY.1;simp;omega
 ·intro h;rw[h];simp;omega
end Go.Hm
namespace Go.Proofs.Z
open Hm Tryz Go.RowKit Go.Sort
attribute [local go_sem] cN cO dY fR fS
theorem aBz(q:Nat)(k:UInt8)(l:List UInt8)(g:aG)(ls:List (List UInt8))(lv:Value)(w:World)(f:bL w q g ls lv)(u:l.length<65536)(t:ls.length<=1000000)(i:g.records.length<=1000000000000):
  Calls prog 154 #[.pointer (some ⟨q,0,none⟩),.int .u8 k.toNat,.string ⟨l.toArray⟩] w fun e d=>e= .returned (.bool (g.back (k,l)).2)/\∃m c,bL d q (g.back (k,l)).1 m c/\cV q lv w c d:=by
 have v:=f.len;by_cases h80:k=80
 ·subst h80;unfold aG.back;rw[aD rfl];by_cases j:200<l.length∨65535<=ls.length
  ·rw[aB (by
    rintro⟨h1,h2⟩;rcases j with h|h
    ·rw[V4 h]at h1;cases h1
    ·omega)]
   refine(aBv q l g ls lv w f (by omega) j).mono ?_;rintro e d⟨rfl,rfl⟩;exact⟨rfl,ls,lv,f,cV.refl⟩
  ·cases s:iU l with
   |false=>
    rw[aB (by rintro⟨h1,_⟩;cases h1)];refine(aBw q l g ls lv w f (by omega) (by omega) s).mono ?_;rintro e d⟨rfl,o⟩;exact⟨rfl,ls,lv,f.next o,cV.refl.next o⟩
   |true=>
    rw[aD ⟨rfl,by omega⟩];refine(PR q l g ls lv w f (by omega) (by omega) i s).mono ?_;rintro e d⟨rfl,c,h1,h2⟩;exact⟨rfl,_,c,h1,h2⟩
 ·have p:¬k.toNat=80:=fun e=>h80 ((PT (n:=80) (by omega)).1 e);unfold aG.back;rw[aB h80];by_cases h65:k=65
  ·subst h65;rw[aD rfl];by_cases h2:l.length=2
   ·obtain⟨a,b,rfl⟩:=aBy h2;show Calls _ _ _ _ fun e d=>e= .returned (.bool (if([a,b]:List UInt8).length=2/\(g.ack (cT [a,b])).2=0 then((g.ack (cT [a,b])).1,true)else(g,false)).2)/\∃m c,bL d q (if([a,b]:List UInt8).length=2/\(g.ack (cT [a,b])).2=0 then((g.ack (cT [a,b])).1,true)else(g,false)).1 m c/\cV q lv w c d;unfold aG.ack;by_cases r:cT [a,b]<=g.had∨ls.length<cT [a,b]
    ·rw[aD (show((cT [a,b]:Nat):Int)<=(g.had:Int)∨(g.messages:Int)<((cT [a,b]:Nat):Int) by omega),aB (by rintro⟨_,h⟩;cases h)];refine(aBx q a b g ls lv w f r).mono ?_;rintro e d⟨rfl,o⟩;exact⟨rfl,ls,lv,f.next o,cV.refl.next o⟩
    ·rw[aB (show¬(((cT [a,b]:Nat):Int)<=(g.had:Int)∨(g.messages:Int)<((cT [a,b]:Nat):Int)) by omega),aD ⟨rfl,rfl⟩];refine(PS q a b g ls lv w f (by omega) (by omega) i).mono ?_;rintro e d⟨rfl,h1,h2⟩;exact⟨rfl,ls,lv,h1,h2⟩
   ·rw[aB (by rintro⟨h,_⟩;exact h2 h)];refine(PQ q 65 l (by decide) (.inr h2) w).mono ?_;rintro e d⟨rfl,rfl⟩;exact⟨rfl,ls,lv,f,cV.refl⟩
  ·rw[aB h65];refine(PQ q k l p (.inl fun e=>h65 ((PT (n:=65) (by omega)).1 e)) w).mono ?_;rintro e d⟨rfl,rfl⟩;exact⟨rfl,ls,lv,f,cV.refl⟩
theorem PV{q:Nat}(h:Hid (q<65535)):((65535:Int)<=(q:Int))=False:=by
 have:=h.out;simp;omega
theorem PW{q:Nat}(h:Hid (q<65535)):(65535<=q)=False:=by
 have:=h.out;simp;omega
set_option maxRecDepth 20000 in
set_option maxHeartbeats 4000000 in
theorem aBA(q:Nat)(m:aO)(w:World)(h:¬(cA m).2=0)(lt:m.time.length<=4000000000)(f:m.host.length<=4000000000)(g:m.app.length<=4000000000)(i:m.proc.length<=4000000000)(j:m.id.length<=4000000000)(k:m.data.length<=4000000000)(l:m.text.length<=4000000000):
  Calls prog 119 #[.pointer (some ⟨q,0,none⟩),.agg (aL m)] w fun e b=>e= .returned (.tuple #[.int .i64 0,.int .i64 (cA m).2])/\Below w.heap.size w b:=by
 have c:Hid (∀w,Calls prog 113 #[.agg (aL m)] w fun e b=>e= .returned (.tuple #[.string ⟨(cA m).1.toArray⟩,.int .i64 (cA m).2])/\Below w.heap.size w b):=fun w=>tF m w lt f g i j k l;generalize cA m=n at c h⊢;obtain⟨S,F⟩:=n;dsimp only at c h⊢;have p:((F:Int)==0)=false:=bG.2 (by omega);have r:¬(F:Int)=0:=by omega
 clear h lt f g i j k l;go_enter func119,ntmps119;go_wp2_with(first
  |(refine cG rfl _ _ rfl w.heap.size rfl _ _ _ _ (heap_alloc_new _ _) underlying80 rfl bP ?_)
  |fail)
 refine(c.out _).mono ?_;rintro e o⟨rfl,a⟩;have d:Hid (Below w.heap.size w o):=((aF _ _).alloc (aC _) _).trans (a.mono (by simp));clear a;go_wp2;go_ret2;exact⟨rfl,d.out⟩
attribute [local go_sem] PV PW
set_option maxRecDepth 20000 in
set_option maxHeartbeats 4000000 in
theorem aBB(q:Nat)(m:aO)(g:aG)(ls:List (List UInt8))(lv:Value)(w:World)(n:bL w q g ls lv)(h:(cA m).2=0)(lt:m.time.length<=4000000000)(C:m.host.length<=4000000000)(D:m.app.length<=4000000000)(E:m.proc.length<=4000000000)(F:m.id.length<=4000000000)(G:m.data.length<=4000000000)(H:m.text.length<=4000000000)(c:g.records.length<=1000000000000)(d:g.waiting.length<g.room)(f:g.messages<65535):
  Calls prog 119 #[.pointer (some ⟨q,0,none⟩),.agg (aL m)] w fun e i=>e= .returned (.tuple #[.int .i64 (g.messages+1:Nat),.int .i64 0])/\∃v a,bL i q (g.add (cA m).1) v a/\cV q lv w a i:=by
 have b:=xB h;have j:=T7 h;have o:=n.len;have I:Hid (∀w,Calls prog 113 #[.agg (aL m)] w fun e i=>e= .returned (.tuple #[.string ⟨(cA m).1.toArray⟩,.int .i64 0])/\Below w.heap.size w i):=fun w=>by
  have:=tF m w lt C D E F G H;rw[h]at this;exact this
 generalize(cA m).1=S at I b j⊢;have O:Hid (∀w,bL w q g ls lv->Calls prog 154 #[.pointer (some ⟨q,0,none⟩),.int .u8 80,.string ⟨S.toArray⟩] w fun e i=>e= .returned (.bool true)/\∃a,bL i q (g.add S) (ls++[S]) a/\cV q lv w a i):=fun w n=>PR q S g ls lv w n b (by omega) c j;have P:=aA n;have x:ls.length=g.had+g.waiting.length:=by rw[o];rfl
 have d1:¬(g.room:Int)<=(g.waiting.length:Int):=by omega
 have Q:¬g.room<=g.waiting.length:=by omega
 have y:Hid (g.messages+1=ls.length+1):=show _=_ by omega
 have V:Hid (ls.length<65535):=show _<_ by omega
 have d4:IntKind.i64.wrap ((ls.length:Int)-(g.had:Int))=(g.waiting.length:Int):=by rw[IntKind.wrap_i64];omega
 clear h lt C D E F G H n b j o x d f c;go_enter func119,ntmps119;go_wp2_with(first
  |(refine cG rfl _ _ rfl w.heap.size rfl _ _ _ _ (heap_alloc_new _ _) underlying80 rfl bP ?_)
  |fail)
 refine(I.out _).mono ?_;rintro e J⟨rfl,p⟩;have r:Hid (Below w.heap.size w J):=((aF _ _).alloc (aC _) _).trans (p.mono (by simp));have k:Hid (bL J q g ls lv):=P.out.next r.out;clear p;obtain⟨K,L,z,M⟩:=k.out.cells;obtain⟨R,T,rfl⟩:=gJ k.out.own;go_wp2_with fail;go_quiet(fail)
 clear d1 d4 Q;go_wp2_with fail;refine(O.out _ (k.out.drewN _)).mono ?_;rintro e N⟨rfl,s,t,u⟩;have l:=aA t;have A:Hid (cV q (.slice R ls.length T) w s N):=(cV.refl.next (Below.next r.out (aC _) (aT ⟨_,rfl⟩))).trans u;clear t u K L z M;obtain⟨K,L,z,M⟩:=l.out.cells;obtain⟨W,U,rfl⟩:=gJ l.out.own;have B:(ls++[S]).length=ls.length+1:=by simp
 rw[B]at z;go_wp2;go_ret2;exact⟨by rw[y.out];rfl,_,_,l.out,A.out⟩
end Go.Proofs.Z
namespace Go.Proofs.Z
open Hm Hw Tryz Go.RowKit Go.Sort
attribute [local go_sem] cN cO dY fR fS PV PW
theorem aBC{q:Nat}(h:Hid (65534<q)):((65535:Int)<=(q:Int))=True:=by
 have:=h.out;simp;omega
theorem aBD{q:Nat}(h:Hid (65534<q)):(65535<=q)=True:=by
 have:=h.out;simp;omega
attribute [local go_sem] aBC aBD
set_option maxRecDepth 20000 in
set_option maxHeartbeats 4000000 in
theorem aBE(q:Nat)(m:aO)(g:aG)(ls:List (List UInt8))(lv:Value)(w:World)(l:bL w q g ls lv)(h:(cA m).2=0)(lt:m.time.length<=4000000000)(n:m.host.length<=4000000000)(o:m.app.length<=4000000000)(p:m.proc.length<=4000000000)(r:m.id.length<=4000000000)(s:m.data.length<=4000000000)(t:m.text.length<=4000000000)(f:ls.length<=1000000)(a:g.room<=g.waiting.length∨65535<=g.messages):
  Calls prog 119 #[.pointer (some ⟨q,0,none⟩),.agg (aL m)] w fun e u=>e= .returned (.tuple #[.int .i64 0,.int .i64 12])/\Below w.heap.size w u:=by
 have i:=l.len;have v:Hid (∀w,Calls prog 113 #[.agg (aL m)] w fun e u=>e= .returned (.tuple #[.string ⟨(cA m).1.toArray⟩,.int .i64 0])/\Below w.heap.size w u):=fun w=>by
  have:=tF m w lt n o p r s t;rw[h]at this;exact this
 generalize(cA m).1=S at v;have x:=aA l;have j:ls.length=g.had+g.waiting.length:=by rw[i];rfl
 have d4:IntKind.i64.wrap ((ls.length:Int)-(g.had:Int))=(g.waiting.length:Int):=by rw[IntKind.wrap_i64];omega
 by_cases E:g.room<=g.waiting.length
 ·have d1:(g.room:Int)<=(g.waiting.length:Int):=by omega
  clear h lt n o p r s t l i j a f;go_enter func119,ntmps119;go_wp2_with(first
   |(refine cG rfl _ _ rfl w.heap.size rfl _ _ _ _ (heap_alloc_new _ _) underlying80 rfl bP ?_)
   |fail)
  refine(v.out _).mono ?_;rintro e k⟨rfl,b⟩;have c:Hid (Below w.heap.size w k):=((aF _ _).alloc (aC _) _).trans (b.mono (by simp));have d:Hid (bL k q g ls lv):=x.out.next c.out;clear b;obtain⟨y,z,A,B⟩:=d.out.cells;obtain⟨C,D,rfl⟩:=gJ d.out.own;go_wp2_with fail;go_quiet(fail)
  go_wp2;go_ret2;exact⟨rfl,Below.next c.out (aC _) (aT ⟨_,rfl⟩)⟩
 ·have d1:¬(g.room:Int)<=(g.waiting.length:Int):=by omega
  have F:Hid (65534<ls.length):=show _<_ by omega
  clear h lt n o p r s t l i j a f;go_enter func119,ntmps119;go_wp2_with(first
   |(refine cG rfl _ _ rfl w.heap.size rfl _ _ _ _ (heap_alloc_new _ _) underlying80 rfl bP ?_)
   |fail)
  refine(v.out _).mono ?_;rintro e k⟨rfl,b⟩;have c:Hid (Below w.heap.size w k):=((aF _ _).alloc (aC _) _).trans (b.mono (by simp));have d:Hid (bL k q g ls lv):=x.out.next c.out;clear b;obtain⟨y,z,A,B⟩:=d.out.cells;obtain⟨C,D,rfl⟩:=gJ d.out.own;go_wp2_with fail;go_quiet(fail)
  go_wp2;go_ret2;exact⟨rfl,Below.next c.out (aC _) (aT ⟨_,rfl⟩)⟩
theorem PX(q:Nat)(m:aO)(g:aG)(ls:List (List UInt8))(lv:Value)(w:World)(i:bL w q g ls lv)(lt:m.time.length<=4000000000)(k:m.host.length<=4000000000)(l:m.app.length<=4000000000)(n:m.proc.length<=4000000000)(o:m.id.length<=4000000000)(p:m.data.length<=4000000000)(r:m.text.length<=4000000000)(b:g.records.length<=1000000000000)(c:ls.length<=1000000):
  Calls prog 119 #[.pointer (some ⟨q,0,none⟩),.agg (aL m)] w fun e j=>e= .returned (.tuple #[.int .i64 (g.put m).2.1,.int .i64 (g.put m).2.2])/\∃s d,bL j q (g.put m).1 s d/\cV q lv w d j:=by
 unfold aG.put;by_cases h:(cA m).2=0
 ·rw[aB (by simp[h])];by_cases a:g.room<=g.waiting.length∨65535<=g.messages
  ·rw[aD a];refine(aBE q m g ls lv w i h lt k l n o p r c a).mono ?_;rintro e j⟨rfl,f⟩;exact⟨rfl,ls,lv,i.next f,cV.refl.next f⟩
  ·rw[aB a];exact aBB q m g ls lv w i h lt k l n o p r b (by omega) (by omega)
 ·rw[aD h];refine(aBA q m w h lt k l n o p r).mono ?_;rintro e j⟨rfl,f⟩;exact⟨rfl,ls,lv,i.next f,cV.refl.next f⟩
set_option maxRecDepth 20000 in
set_option maxHeartbeats 4000000 in
theorem aBF(q:Nat)(n:Int)(g:aG)(ls:List (List UInt8))(lv:Value)(w:World)(d:bL w q g ls lv)(a:g.records.length<=1000000000000)(b:ls.length<=65535):
  Calls prog 120 #[.pointer (some ⟨q,0,none⟩),.int .i64 n] w fun e k=>e= .returned (.int .i64 (g.ack n).2)/\bL k q (g.ack n).1 ls lv/\cV q lv w lv k:=by
 have c:=d.len;have p:=aA d;obtain⟨z,A,B,C⟩:=d.cells;obtain⟨i,j,rfl⟩:=gJ d.own;unfold aG.ack;by_cases h1:n<=(g.had:Int)
 ·rw[aD (.inl h1)];clear d c a b;go_enter func120,ntmps120;go_wp2;go_ret;exact⟨rfl,p.out,cV.refl⟩
 ·by_cases h2:(ls.length:Int)<n
  ·rw[aD (.inr (by rw[<-c];exact h2))];clear d c a b;go_enter func120,ntmps120;go_wp2;go_ret;exact⟨rfl,p.out,cV.refl⟩
  ·rw[aB (by rintro(h|h);exact h1 h;exact h2 (by rw[c];exact h))];obtain⟨N,rfl⟩:∃N:Nat,n=N:=⟨n.toNat,by omega⟩;have u:N<65536:=by omega
   have f:cT [UInt8.ofNat (N/256),UInt8.ofNat N]=N:=by
    have:=VT u [];rw[kZ]at this;exact this
   have x:Hid (∀w,bL w q g ls (.slice i ls.length j)->Calls prog 154 #[.pointer (some ⟨q,0,none⟩),.int .u8 65,.string ⟨[UInt8.ofNat (N/256),UInt8.ofNat N].toArray⟩] w fun e k=>e= .returned (.bool true)/\bL k q (g.ackTo N) ls (.slice i ls.length j)/\cV q (.slice i ls.length j) w (.slice i ls.length j) k):=fun w d=>by
    have:=PS q (UInt8.ofNat (N/256)) (UInt8.ofNat N) g ls _ w d (by rw[f];omega) (by rw[f];omega) a;rw[f]at this;exact this
   have r:=xH w (UInt8.ofNat (N/256)) (UInt8.ofNat N) ((N:Int)/256%256) ((N:Int)%256) (by simp) (by simp);have o:=xH w (UInt8.ofNat (N/256)) (UInt8.ofNat N) ((N:Int)/256) ((N:Int)%256) (by simp;omega) (by simp);have y:N<=70000:=by omega
   clear d c a b f u;go_enter func120,ntmps120;go_wp2_with fail;have D:Hid (Below w.heap.size w (w.alloc (.cells #[.int .u8 ((N:Int)/256),.int .u8 ((N:Int)%256)] 5))):=(aF _ _).alloc (aC _) _;refine(x.out _ (p.out.next ((aF _ _).alloc (aC _) _))).mono ?_;rintro e v⟨rfl,l,m⟩;have s:=aA l;have t:Hid (cV q (.slice i ls.length j) w (.slice i ls.length j) v):=(cV.refl.next ((aF _ _).alloc (aC _) _)).trans m;clear l m;go_wp2;go_ret;exact⟨rfl,s.out,t.out⟩
attribute [local go_sem high] IT
set_option maxRecDepth 20000 in
theorem aBG(q:Nat)(g:aG)(ls:List (List UInt8))(lv:Value)(w:World)(a:bL w q g ls lv):
  Calls prog 121 #[.pointer (some ⟨q,0,none⟩)] w fun e c=>∃v,e= .returned v/\eQ c 0 9 v (g.waiting.map aU)/\Below w.heap.size w c:=by
 have b:=a.len;have d:=aA a;obtain⟨i,j,k,l⟩:=a.cells;obtain⟨m,n,rfl⟩:=gJ a.own;have f:g.had<=ls.length:=by rw[b];exact Nat.le_add_right _ _
 have h:(g.had:Int)<=(ls.length:Int):=by omega
 clear a b;go_enter func121,ntmps121;go_wp2_with fail;go_quiet(fail)
 go_wp2;go_ret;refine⟨_,rfl,?_,aT ⟨_,rfl⟩⟩;have h1:=IR (qC (d.out.drewN nq).own) (lo:=g.had) (hi:=ls.length) f (by simp);rw[<-d.out.wai];have h2:((ls.map aU).drop g.had).take (ls.length-g.had)=(ls.drop g.had).map aU:=by
  rw[fV (by simp),List.map_drop]
 rw[h2]at h1;exact h1
end Go.Proofs.Z
namespace Go.Hm
theorem PY:∀(f1 f2:Nat)(l:List UInt8),l.length<f1->l.length<f2->kC f1 l=kC f2 l
 |0,_,l,h,_=>by omega
 | _+1,0,l,_,h=>by omega
 |f1+1,f2+1,l,h1,h2=>by
  unfold kC;cases a:gU l with
  |none=>rfl
  |some x=>
   obtain⟨k,b,n⟩:=x;have c:5<=n/\n<=l.length:=by
    unfold gU at a;split at a
    ·cases a
    ·split at a
     ·cases a
     ·split at a
      ·cases a
      ·have h4:=aQ (fun x=>x.2.2) (Option.some.inj a);dsimp only at h4;omega
   dsimp only;rw[PY f1 f2 (l.drop n) (by simp;omega) (by simp;omega)]
theorem aBH{l:List UInt8}(h:gU l=none):recs l=[]:=by
 unfold recs kC;rw[h]
theorem PZ{l:List UInt8}{k:UInt8}{a:List UInt8}{n:Nat}(h:gU l=some (k,a,n))(b:5<=n/\n<=l.length):recs l=(k,a)::recs (l.drop n):=by
 show kC (l.length+1) l=_;unfold kC;rw[h];dsimp only;congr 1;exact PY _ _ _ (by simp;omega) (by simp)
theorem QA{l:List UInt8}(h3:3<=l.length):l.take (3+cT (l.drop 1))=jD (l.getD 0 0) ((l.drop 3).take (cT (l.drop 1)))↔cT (l.drop 1)+3<=l.length:=by
 match l,h3 with
 |a::b::c::t,_=>
  have d:cT ((a::b::c::t).drop 1)=256*b.toNat+c.toNat:=rfl;rw[d];have n:b.toNat<256:=lA _;have o:c.toNat<256:=lA _;generalize i:256*b.toNat+c.toNat=N;have j:(a::b::c::t).take (3+N)=a::b::c::t.take N:=by
   rw[Nat.add_comm];rfl
  have k:(a::b::c::t).drop 3=t:=rfl;have m:(a::b::c::t).getD 0 0=a:=rfl;rw[j,k,m];unfold jD iC;constructor
  ·intro h;simp only[List.cons.injEq,eN,iR,true_and]at h;have h1:=h.1;have h2:=h.2.1;have e:(t.take N).length=min N t.length:=eJ;have f:b.toNat=(t.take N).length/256%256:=by rw[h1];simp
   have g:c.toNat=(t.take N).length%256:=by rw[h2];simp
   rw[e]at f g;simp only[bU];have:min N t.length<=65535:=by omega
   have:N=min N t.length:=by omega
   omega
  ·intro h;simp only[bU]at h;have e:(t.take N).length=N:=by rw[eJ];omega
   simp only[List.cons.injEq,eN,iR,true_and,and_true];rw[e,<-i];exact⟨by apply eY.1;simp;omega,by apply eY.1;simp⟩
theorem aBI{l:List UInt8}{N:Nat}(b:cT (l.drop 1)=N)(h:N+5<=l.length)(c:bM (l.getD 0 0) ((l.drop 3).take N)=l.take (N+5)):gU l=some (l.getD 0 0,(l.drop 3).take N,N+5):=by
 have d:=(QA (l:=l) (by omega)).2 (by omega);rw[b]at d;unfold gU;rw[b,aB (by omega),aB (by omega),aB ?_]
 ·congr 3;omega
 ·intro a;apply a;rw[d];unfold bM at c;have h1:(l.take (N+5)).drop (3+N)=lL (jD (l.getD 0 0) ((l.drop 3).take N)):=by
   rw[<-c,List.drop_append_of_le_length (by rw[vZ];simp;omega),gH (by rw[vZ];simp;omega),iR]
  rw[<-h1,List.drop_take];congr 1;omega
theorem aBJ{l:List UInt8}{N:Nat}(a:cT (l.drop 1)=N)(h:N+5<=l.length)(c:¬bM (l.getD 0 0) ((l.drop 3).take N)=l.take (N+5)):gU l=none:=by
 have b:=(QA (l:=l) (by omega)).2 (by omega);rw[a]at b;unfold gU;rw[a,aB (by omega),aB (by omega),aD ?_];intro h1;apply c;unfold bM;rw[<-b,<-h1,show N+5=3+N+2 by omega];exact(List.take_add).symm
theorem QB{l:List UInt8}(h:l.length<5∨l.length<cT (l.drop 1)+5):gU l=none:=by
 unfold gU;by_cases h1:l.length<3
 ·rw[aD h1]
 ·rw[aB h1,aD (by omega)]
theorem CH{g:aG}{l:List UInt8}(h:gU l=none):g.backs (recs l)=g:=by
 rw[aBH h];rfl
theorem aBK{g:aG}{l a:List UInt8}{k:UInt8}{n:Nat}(h:gU l=some (k,a,n))(b:5<=n/\n<=l.length)(c:(g.back (k,a)).2=false):g.backs (recs l)=g:=by
 rw[PZ h b];show(if(g.back (k,a)).2=true then _ else g)=g;rw[aB (by rw[c];decide)]
theorem aBL{g:aG}{l a:List UInt8}{k:UInt8}{n:Nat}(h:gU l=some (k,a,n))(b:5<=n/\n<=l.length)(c:(g.back (k,a)).2=true):g.backs (recs l)=(g.back (k,a)).1.backs (recs (l.drop n)):=by
 rw[PZ h b];show(if(g.back (k,a)).2=true then _ else g)=_;rw[aD c]
theorem QC(g:aG)(k:UInt8)(a:List UInt8):(g.back (k,a)).1.records.length<=g.records.length+a.length+7/\(g.back (k,a)).1.messages<=g.messages+1/\(g.back (k,a)).1.room=g.room:=by
 unfold aG.back;split
 ·split
  ·simp[aG.add,aG.messages,mS];omega
  ·simp;omega
 ·split
  ·split
   ·next h=>
    unfold aG.ack at h⊢;split
    ·simp;omega
    ·next hno=>
     simp[aG.ackTo,aG.messages,mS,vY]at hno⊢;omega
   ·simp;omega
  ·simp;omega
theorem QD{g:aG}{k:UInt8}{a:List UInt8}(h:g.messages<=65535):(g.back (k,a)).1.messages<=65535:=by
 unfold aG.back;split
 ·split
  ·next hc=>simp[aG.add,aG.messages]at hc⊢;omega
  ·exact h
 ·split
  ·split
   ·unfold aG.ack;split
    ·exact h
    ·next hno=>
     simp[aG.ackTo,aG.messages]at hno h⊢;omega
   ·exact h
  ·exact h
theorem aBM{g:aG}{r:UInt8×List UInt8}(h:(g.back r).2=false):(g.back r).1=g:=by
 unfold aG.back at h⊢;split
 ·next h1=>
  rw[aD h1]at h;split
  ·next h2=>rw[aD h2]at h;cases h
  ·rfl
 ·next h1=>
  rw[aB h1]at h;split
  ·next h2=>
   rw[aD h2]at h;split
   ·next h3=>rw[aD h3]at h;cases h
   ·rfl
  ·rfl
theorem aBN{s:List UInt8}{i:Nat}(h:i+5<=s.length):cT ((s.drop i).drop 1)=256*(s[i+1]'(by omega)).toNat+(s[i+2]'(by omega)).toNat:=by
 unfold cT;rw[dW];simp[List.getD,List.getElem?_drop,show i+1<s.length by omega,show i+1+1<s.length by omega]
theorem aBO{s:List UInt8}{i:Nat}(h:i<s.length):(s.drop i).getD 0 0=s[i]:=by
 simp[List.getD,List.getElem?_drop,h]
end Go.Hm
namespace Go.Proofs.Z
open Hm Tryz Go.RowKit Go.Sort
attribute [local go_sem] cN cO dY fR fS
theorem aBP(s:List UInt8)(room:Int)(h:room<1∨8<room)(w:World):Calls prog 109 #[.string ⟨s.toArray⟩,.int .i64 room] w fun e a=>e= .returned (.tuple #[.pointer none,.int .i64 10])/\a=w:=by
 by_cases h1:room<1
 ·clear h;go_enter func109,ntmps109;go_wp2;go_ret2;exact⟨rfl,rfl⟩
 ·have h2:8<room:=by omega
  clear h;go_enter func109,ntmps109;go_wp2;go_ret2;exact⟨rfl,rfl⟩
structure uV(s:List UInt8)(room q:Nat)(w:World)(i:Nat)(g:aG)(ls:List (List UInt8))(lv:Value)(wr:World):Prop where
 le:i<=s.length
 eq:iQ s room=g.backs (Hm.recs (s.drop i))
 at_:bL wr q g ls lv
 own:∀b,lv.ownBlock=some b->q<=b
 bel:Below q w wr
 recl:g.records.length<=3*i
 few:g.messages<=65535
set_option maxRecDepth 20000 in
set_option maxHeartbeats 8000000 in
theorem aBQ(s:List UInt8)(hs:s.length<=100000000)(room:Nat)(h1:1<=room)(h2:room<=8)(w:World):
  Calls prog 109 #[.string ⟨s.toArray⟩,.int .i64 room] w fun e m=>e= .returned (.tuple #[.pointer (some ⟨w.heap.size,0,none⟩),.int .i64 0])/\∃ls lv,bL m w.heap.size (iQ s room) ls lv/\(∀b,lv.ownBlock=some b->w.heap.size<=b)/\Below w.heap.size w m:=by
 have r1:¬(room:Int)<1:=by omega
 have r2:¬8<(room:Int):=by omega
 obtain⟨O,p⟩:∃O,iQ s room=O:=⟨_,rfl⟩;rw[p];have n:=aA p;clear p h1 h2;go_enter func109,ntmps109;go_wp2;generalize hW:w.alloc _=W;have HS:Hid (uV s room w.heap.size w 0 (aG.fresh room) [] (.slice none 0 0) W):=show uV _ _ _ _ _ _ _ _ _ by
  rw[<-hW];exact⟨dM _,rfl,⟨heap_alloc_new _ _,World.ownsRow_nil _ _ _ _,rfl,rfl⟩,fun b e=>(by cases e),(aF _ _).alloc (aC _) _,aC _,by simp[aG.fresh,aG.messages]⟩
 clear hW;go_loopw [7,8,9,10] (fun s7 _ _ _ wr=>∃i g ls lv,s7= .int .i64 (i:Nat)/\uV s room w.heap.size w i g ls lv wr) (fun s7 _ _ _ _=>s.length-(intOf s7).toNat)
 case atStart=>exact⟨0,_,_,_,rfl,HS.out⟩
 case round=>
  clear HS;obtain⟨i,g,ls,lv,rfl,y⟩:=hrel;have a:=aA y;have ab:=y.le;clear y;by_cases P:i+5<=s.length;case neg=>
   have Q:¬(i:Int)+5<=(s.length:Int):=by omega
   go_wp2;go_ret2;refine⟨rfl,ls,lv,?_,a.out.own,a.out.bel⟩;rw[<-n.out,a.out.eq,CH (QB (.inl (by simp;omega)))];exact a.out.at_
  have Q:(i:Int)+5<=(s.length:Int):=by omega
  have hn:=aBN P;have hf:=aBO (s:=s) (i:=i) (by omega);have b1:(s[i+1]'(by omega)).toNat<256:=lA _;have b2:(s[i+2]'(by omega)).toNat<256:=lA _;obtain⟨ad,ae,q,A⟩:=CG (s[i+1]'(by omega)) (s[i+2]'(by omega));have C:cT [s[i+1]'(by omega),s[i+2]'(by omega)]=cT ((s.drop i).drop 1):=by rw[hn];rfl
  rw[C]at q A;clear C hn;obtain⟨N,r⟩:∃N,cT ((s.drop i).drop 1)=N:=⟨_,rfl⟩;rw[r]at q A;have R:=aA r;clear r;have q1:IntKind.i64.wrap ((i:Int)+1)=((i+1:Nat):Int):=by rw[IntKind.wrap_i64];omega
  have q2:IntKind.i64.wrap ((i:Int)+2)=((i+2:Nat):Int):=by rw[IntKind.wrap_i64];omega
  have p1:((i+1:Nat):Int)<(s.length:Int):=by omega
  have p2:((i+2:Nat):Int)<(s.length:Int):=by omega
  have p5:(i:Int)+1<(s.length:Int):=by omega
  have p6:(i:Int)+2<(s.length:Int):=by omega
  have t1:((i:Int)+1).toNat=i+1:=by omega
  have t2:((i:Int)+2).toNat=i+2:=by omega
  have z1:(0:Int)<=(i:Int)+1:=by omega
  have z2:(0:Int)<=(i:Int)+2:=by omega
  have p3:i+1<s.length:=by omega
  have p4:i+2<s.length:=by omega
  go_wp2_with fail;go_quiet(fail)
  clear q1 q2 q;by_cases ac:i+N+5<=s.length;case neg=>
   have S:(s.length:Int)<(i:Int)+(N:Int)+5:=by omega
   go_wp2;go_ret2;refine⟨rfl,ls,lv,?_,a.out.own,Below.next a.out.bel (aC _) (aT ⟨_,rfl⟩)⟩;rw[<-n.out,a.out.eq,CH (QB (.inr (by rw[R.out];simp;omega)))];exact a.out.at_.drewN _
  have S:¬(s.length:Int)<(i:Int)+(N:Int)+5:=by omega
  have f1:(i:Int)+3<=(i:Int)+3+(N:Int):=by omega
  have f2:(i:Int)+3+(N:Int)<=(s.length:Int):=by omega
  have f3:(i:Int)<=(i:Int)+(N:Int)+5:=by omega
  have f4:(i:Int)+(N:Int)+5<=(s.length:Int):=by omega
  have t3:((i:Int)+3).toNat=i+3:=by omega
  have t4:((i:Int)+3+(N:Int)).toNat=i+3+N:=by omega
  have t5:((i:Int)+(N:Int)+5).toNat=i+N+5:=by omega
  have u3:i+3+N-(i+3)=N:=by omega
  have u4:i+N+5-i=N+5:=by omega
  have z3:(0:Int)<=(i:Int)+3:=by omega
  have p7:i<s.length:=by omega
  have p8:(i:Int)<(s.length:Int):=by omega
  obtain⟨d,T⟩:∃d,s[i]=d:=⟨_,rfl⟩;obtain⟨c,D⟩:∃c,(s.drop (i+3)).take N=c:=⟨_,rfl⟩;obtain⟨z,U⟩:∃z,(s.drop i).take (N+5)=z:=⟨_,rfl⟩;have t:Hid (c.length=N):=show _=_ by rw[<-D];simp;omega
  have V:Hid ((s.drop i).getD 0 0=d):=show _=_ by rw[<-T];exact hf
  have X:Hid (((s.drop i).drop 3).take N=c):=show _=_ by rw[<-D,dW]
  have E:=aA U;have F:Hid (∀w,Calls prog 153 #[.int .u8 d.toNat,.string ⟨c.toArray⟩] w fun e m=>e= .returned (.string ⟨(bM d c).toArray⟩)/\Below w.heap.size w m):=fun w=>BD d c (by have:=t.out;omega) w;have AD:Hid (∀w,bL w _ g ls lv->Calls prog 154 #[.pointer (some ⟨_,0,none⟩),.int .u8 d.toNat,.string ⟨c.toArray⟩] w fun e m=>e= .returned (.bool (g.back (d,c)).2)/\∃Y G,bL m _ (g.back (d,c)).1 Y G/\cV _ lv w G m):=fun m y=>aBz w.heap.size d c g ls lv m y (by have:=t.out;omega) (by have:=y.len;have:=a.out.few;omega) (by have:=a.out.recl;omega);have v1:IntKind.i64.wrap ((i:Int)+(N:Int))=(i:Int)+(N:Int):=by rw[IntKind.wrap_i64];omega
  have v2:IntKind.i64.wrap ((i:Int)+(N:Int)+5)=(i:Int)+(N:Int)+5:=by rw[IntKind.wrap_i64];omega
  have z4:(0:Int)<=(i:Int)+(N:Int)+5:=by omega
  clear hf;by_cases h:bM d c=z;case neg=>
   have Z:(bM d c==z)=false:=bG.2 h;have aa:Hid (gU (s.drop i)=none):=aBJ (N:=N) R.out (by simp;omega) (by rw[V.out,X.out,E.out];exact h);go_wp2_with fail;go_region_held (fun _=>True) (trivial) (first|(go_at_call 153;refine(F.out _).mono ?_;rintro e w1⟨rfl,j⟩;have f:Hid (Below wr.heap.size wr w1):=Below.next (aT ⟨_,rfl⟩) (aC _) j;clear j))
   go_wp2;go_ret2;refine⟨rfl,ls,lv,?_,a.out.own,Below.next a.out.bel (aC _) f.out⟩;rw[<-n.out,a.out.eq,CH aa.out];exact a.out.at_.next f.out
  have Z:(bM d c==z)=true:=dZ.2 h;have H:Hid (gU (s.drop i)=some (d,c,N+5)):=by
   have:=aBI (l:=s.drop i) (N:=N) R.out (by simp;omega) (by rw[V.out,X.out,E.out];exact h);rw[V.out,X.out]at this;exact this
  clear h;go_wp2_with fail;go_region_held (fun _=>True) (trivial) (first|(go_at_call 153;refine(F.out _).mono ?_;rintro e w1⟨rfl,j⟩;have f:Hid (Below wr.heap.size wr w1):=Below.next (aT ⟨_,rfl⟩) (aC _) j;clear j))
  go_wp2_with fail;refine(AD.out _ (a.out.at_.next f.out)).mono ?_;rintro e w2⟨rfl,u,o,I,v⟩;have af:=a.out.bel.size;have J:Hid (Below w.heap.size w w2):=(Below.next a.out.bel (aC _) f.out).trans (v.kept.below (B:=w.heap.size) (fun k _ e=>by
   rcases e with e|e
   ·omega
   ·exact a.out.own k e) (by have:=f.out.size;omega))
  have K:Hid (∀b,o.ownBlock=some b->w.heap.size<=b):=fun b e=>by
   rcases v.lies b e with e|e
   ·exact a.out.own b e
   ·have:=f.out.size;omega
  have x:=aA I;clear I v;have L:Hid (5<=N+5/\N+5<=(s.drop i).length):=show _/\_ by simp;omega
  cases M:(g.back (d,c)).2 with
  |false=>
   have HE:Hid ((g.back (d,c)).1=O):=show _=_ by
    rw[<-n.out,a.out.eq,aBK H.out L.out M];exact aBM M
   rw[HE.out]at x;clear M;go_wp2;go_ret2;exact⟨rfl,u,o,x.out,K.out,J.out⟩
  |true=>
   have HI:Hid (uV s room w.heap.size w (i+N+5) (g.back (d,c)).1 u o w2):=⟨by omega,by
     rw[a.out.eq,aBL H.out L.out M,dW];rfl,x.out,K.out,J.out,by
     have h1:=(QC g d c).1;have h2:=a.out.recl;have h3:=t.out;omega,QD a.out.few⟩
   clear M;go_wp2;go_roundw;case rel=>exact⟨i+N+5,_,_,_,aY (by simp),HI.out⟩
   case measure=>simp[intOf];omega
end Go.Proofs.Z

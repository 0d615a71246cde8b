/- Pressed by program out of Bn Bo. -/
import Derived.Test.YtdlhbmncbmconaaGreatDoorA16
import Derived.Test.YtdlhbmncbmconaaGreatDoorA03
namespace Go.Proofs.Z
open Hm Hw Tryz Go.RowKit Go.Sort
attribute [local go_sem] cN cO
set_option maxRecDepth 20000 in
theorem KZ(p:Nat)(g:aG)(rv wv:Value)(w:World)(h:bD w p g rv wv)(v:uK g)(n:Int)(I: -9223372036854775808<=n)(J:n<=9223372036854775807):
  Calls prog 64 #[.pointer (some ⟨p,0,none⟩),.int .i64 n] w fun e d=>e= .returned (.int .i64 (g.ack n).2)/\∃a b,bD d p (g.ack n).1 a b/\bR p rv wv w a b d:=by
 obtain⟨x,y,z,A⟩:=v;obtain⟨K,L,M,N⟩:=h.cells;have l:Hid (bD w p g rv wv):=h;clear h;have t:Hid (Calls prog 75 #[.pointer (some ⟨p,0,none⟩)] w fun e d=>e= .returned (.int .i64 g.messages)/\∃n,d=w.drewN n):=rK p g rv wv w l.out (by omega) (by omega);unfold aG.ack;by_cases h0:n<=g.had
 ·rw[aD (.inl h0)];go_enter func64,ntmps64;go_wp2;go_ret;exact⟨rfl,_,_,l.out,bR.refl⟩
 ·by_cases h1:(g.messages:Int)<n
  ·rw[aD (.inr h1)];go_enter func64,ntmps64;go_wp2_with fail;refine t.out.mono ?_;rintro e B⟨rfl,f⟩;have m:=aT f;go_wp2;go_ret;exact⟨rfl,_,_,l.out.below m,bR.refl.next m⟩
  ·rw[aB (by omega)];obtain⟨k,rfl⟩:∃k:Nat,n=k:=⟨n.toNat,by omega⟩;have i:g.messages=g.had+g.waiting.length:=rfl;have s:∃j o c,wv= .slice (some ⟨j,o,none⟩) g.waiting.length c:=by
    rcases l.out.wai with⟨_,C⟩|⟨j,o,c,D,E,_⟩
    ·have F:g.waiting=[]:=by simpa using C
     rw[F]at i;simp at i;omega
    ·exact⟨j,o,c,by rw[E,eS]⟩
   obtain⟨j,o,c,rfl⟩:=s;have G:Hid (∀d,bD d p g rv (.slice (some ⟨j,o,none⟩) g.waiting.length c)->Calls prog 102 #[.pointer (some ⟨p,0,none⟩),.int .i64 (k:Int)] d fun e q=>(∃u,e= .returned u)/\∃a b,bD q p (g.ackTo k) a b/\bR p rv (.slice (some ⟨j,o,none⟩) g.waiting.length c) d a b q):=fun d H=>M2 p g rv j o c g.waiting.length d H k (k-g.had) (by omega) (by omega) (by omega) (by omega) (by omega) (by omega);show Calls _ _ _ _ fun e d=>e= .returned (.int .i64 ((0:Nat):Int))/\∃a b,bD d p (g.ackTo (k:Int).toNat) a b/\_;rw[Int.toNat_natCast];clear i;go_enter func64,ntmps64;go_wp2_with fail;refine t.out.mono ?_;rintro e B⟨rfl,f⟩;have r:=show Hid _ from aT f;clear f;go_wp2_with fail;refine(G.out _ (l.out.below r.out)).mono ?_;rintro e O⟨⟨u,rfl⟩,a,b,h5,s5⟩;go_wp2;go_ret;exact⟨rfl,_,_,h5,(bR.refl.next r.out).trans s5⟩
theorem M3(p:Nat)(g:aG)(rv wv:Value)(w:World)(h:bD w p g rv wv)(q:g.waiting.length<=900000):
  Calls prog 36 #[.pointer (some ⟨p,0,none⟩)] w fun e a=>∃v,e= .returned v/\a.ownsRow w.heap.size 9 1 v g.waiting.length (g.waiting.map aU)/\Below w.heap.size w a:=by
 obtain⟨D,E,F,r⟩:=h.cells;rcases h.wai with⟨rfl,k⟩|⟨m,o,b,s,rfl,G,c,h1,h2,h3,h4⟩
 ·have n:g.waiting=[]:=by simpa using k
  have t:Hid (∀w,Calls prog 65 #[.slice none 0 0] w fun e a=>e= .returned (.slice none 0 0)/\a=w):=fun w=>aDo 0 0 w;rw[n];clear h k n;go_enter func36,ntmps36;go_wp2_with fail;refine(t.out _).mono ?_;rintro e u⟨rfl,rfl⟩;go_wp2;go_ret;exact⟨_,rfl,World.ownsRow_nil _ _ _ _,aF _ _⟩
 ·have x:(g.waiting.map aU).length=g.waiting.length:=eS _;have d:=aDn m o g.waiting.length b (g.waiting.map fun l=>(⟨l.toArray⟩:ByteArray)) w (by simp) (by omega) (fun j f=>by
   rw[eS]at f;have y:(g.waiting.map aU)[j]?=some (aU g.waiting[j]):=by simp[f]
   have:=AC h4 y;have z:(g.waiting.map fun l=>(⟨l.toArray⟩:ByteArray)).getD j ByteArray.empty=⟨g.waiting[j].toArray⟩:=by simp[List.getD_eq_getElem?_getD,f]
   rw[z];simp[World.cell?,c];simpa[aU]using this)
  have A:((g.waiting.map fun l=>(⟨l.toArray⟩:ByteArray)).take g.waiting.length).map Value.string=g.waiting.map aU:=by
   rw[fV (by simp),List.map_map];rfl
  rw[A]at d;have B:Hid (Calls prog 65 #[.slice (some ⟨m,o,none⟩) g.waiting.length b] w fun e a=>∃v',e= .returned v'/\a.ownsRow w.heap.size 9 1 v' g.waiting.length (g.waiting.map aU)/\v'≠ .slice none 0 0/\Below w.heap.size w a):=d;rw[x]at r;clear h d h1 h4 h3 c;go_enter func36,ntmps36;go_wp2_with fail;refine B.out.mono ?_;rintro e u⟨v',rfl,C,_,i⟩;go_wp2;go_ret;exact⟨_,rfl,C,i⟩
end Go.Proofs.Z
namespace Go.Proofs.Z
open Hm Tryz Go.RowKit Go.Sort
attribute [local go_sem] cN cO
theorem U0{q:Nat}(h:Hid (q<65535)):((65535:Int)<=(q:Int))=False:=by
 have:=h.out;simp;omega
theorem U1{q:Nat}(h:Hid (q<65535)):((q:Int)<65535)=True:=by
 have:=h.out;simp;omega
attribute [local go_sem] U0 U1
set_option maxRecDepth 20000 in
theorem U2(l:List UInt8)(J:l.length<=3000000000)(w:World)(o:aJ w):
  Calls prog 100 #[.string ⟨l.toArray⟩] w fun e s=>∃x:List UInt8,e= .returned (.tuple #[.string ⟨x.toArray⟩,.bool (iU l)])/\(iU l=true->x=l)/\Below w.heap.size w s:=by
 have f:Hid (∀w,aJ w->Calls prog 21 #[.string ⟨l.toArray⟩,.int .i64 1] w fun e s=>e= .returned (.tuple #[.agg (aL (bH l 1).1),.int .i64 (bH l 1).2.1,.int .i64 (bH l 1).2.2])/\Below w.heap.size w s):=fun w o=>by
  have:=vW ⟨l.toArray⟩ 1 w o (by show l.toArray.size<=_;rw[pR];omega);rw[show(⟨l.toArray⟩:ByteArray).data.toList=l by simp]at this;exact this
 by_cases y:(bH l 1).2.1=0
 ·have t:=tY l 1;have h:iU l=decide (cA (bH l 1).1=(l,0)):=by unfold iU;rw[y];rfl
  rw[h];rw[y]at f;generalize(bH l 1).2.2=at_ at f;generalize(bH l 1).1=m at f t⊢;obtain⟨s1,s2,s3,s4,s5,s6,s7⟩:=t;have p:Hid (∀w,aJ w->Calls prog 20 #[.agg (aL m)] w fun r s=>r= .returned (.tuple #[.string ⟨(cA m).1.toArray⟩,.int .i64 (cA m).2])/\Below w.heap.size w s):=fun w o=>wB m w o (by omega) (by omega) (by omega) (by omega) (by omega) (by omega) (by omega);generalize B:cA m=r at p;obtain⟨x,n⟩:=r;dsimp only at p;have A:decide ((x,n)=(l,0))=(decide (n=0)&&decide (x=l)):=by
   rw[Bool.eq_iff_iff];simp[Prod.ext_iff,and_comm]
  rw[A];clear h A B s1 s2 s3 s4 s5 s6 s7;obtain⟨C,D,E,F,G,H,mi,md,I⟩:=m;unfold aL at f p;dsimp only at f p;have g:Hid (aJ w):=o;clear o;by_cases h0:n=0
  ·have f1:((n:Int)==0)=true:=by simp[h0]
   have u:decide (n=0)=true:=by simp[h0]
   rw[u];clear h0 u;by_cases d:x=l
   ·have f2:(x==l)=true:=by simp[d]
    have i:decide (x=l)=true:=by simp[d]
    have z:Hid (x=l):=d;rw[i];clear i d;go_enter func100,ntmps100;go_wp2_with fail;refine(f.out _ g.out).mono ?_;rintro e q⟨rfl,a⟩;have j:Hid (aJ _):=g.out.next a;have b:Hid (Below w.heap.size w q):=a;clear a;go_wp2_with fail;refine(p.out _ (j.out.alloc _)).mono ?_;rintro e v⟨rfl,c⟩;have k:Hid (Below w.heap.size w v):=Below.next (b.out.alloc b.out.size _) (aC _) c;clear c;go_wp2;refine bB (results_tmp2 rfl _ _ _) rfl ?_;exact⟨x,rfl,fun _=>z.out,k.out⟩
   ·have f2:(x==l)=false:=by simp[d]
    have i:decide (x=l)=false:=by simp[d]
    rw[i];clear i d;go_enter func100,ntmps100;go_wp2_with fail;refine(f.out _ g.out).mono ?_;rintro e q⟨rfl,a⟩;have j:Hid (aJ _):=g.out.next a;have b:Hid (Below w.heap.size w q):=a;clear a;go_wp2_with fail;refine(p.out _ (j.out.alloc _)).mono ?_;rintro e v⟨rfl,c⟩;have k:Hid (Below w.heap.size w v):=Below.next (b.out.alloc b.out.size _) (aC _) c;clear c;go_wp2;refine bB (results_tmp2 rfl _ _ _) rfl ?_;exact⟨x,rfl,(fun e=>by simp at e),k.out⟩
  ·have f1:((n:Int)==0)=false:=by simp;omega
   have u:decide (n=0)=false:=by simp[h0]
   rw[u];clear h0 u;go_enter func100,ntmps100;go_wp2_with fail;refine(f.out _ g.out).mono ?_;rintro e q⟨rfl,a⟩;have j:Hid (aJ _):=g.out.next a;have b:Hid (Below w.heap.size w q):=a;clear a;go_wp2_with fail;refine(p.out _ (j.out.alloc _)).mono ?_;rintro e v⟨rfl,c⟩;have k:Hid (Below w.heap.size w v):=Below.next (b.out.alloc b.out.size _) (aC _) c;clear c;go_wp2;refine bB (results_tmp2 rfl _ _ _) rfl ?_;exact⟨x,rfl,(fun e=>by simp at e),k.out⟩
 ·have h:iU l=false:=by unfold iU;rw[decide_eq_false y];rfl
  rw[h];have f1:(((bH l 1).2.1:Int)==0)=false:=by simp;omega
  generalize(bH l 1).2.1=n at f f1;generalize(bH l 1).2.2=at_ at f;generalize(bH l 1).1=m at f;obtain⟨C,D,E,F,G,H,mi,md,I⟩:=m;unfold aL at f;dsimp only at f;clear y h;go_enter func100,ntmps100;go_wp2_with fail;refine(f.out _ o).mono ?_;rintro e q⟨rfl,a⟩;have b:Hid (Below w.heap.size w q):=a;clear a;go_wp2;refine bB (results_tmp2 rfl _ _ _) rfl ?_;exact⟨[],rfl,(fun e=>by simp at e),b.out.alloc b.out.size _⟩
def MQ(g:aG):Prop:=g.records.length<=800000000000/\g.waiting.length<=65535/\g.had<=65535/\g.room<=1000
set_option maxRecDepth 20000 in
theorem U3(p:Nat)(g:aG)(rv wv:Value)(w:World)(G:aJ w)(h:bD w p g rv wv)(U:MQ g)(k:UInt8)(l:List UInt8)(V:l.length<=65535):
  Calls prog 63 #[.pointer (some ⟨p,0,none⟩),.agg #[.int .u8 k.toNat,.string ⟨l.toArray⟩]] w fun e f=>e= .returned (.bool (g.back (k,l)).2)/\∃o q,bD f p (g.back (k,l)).1 o q/\bR p rv wv w o q f:=by
 obtain⟨W,X,Y,Z⟩:=U;have B:Hid (bD w p g rv wv):=h;have C:Hid (aJ w):=G;clear h G;unfold aG.back;dsimp only;by_cases H:k=80
 ·rw[aD H];have f0:((k.toNat:Int)==80)=true:=by rw[H];rfl
  have I:Hid (∀w,aJ w->Calls prog 100 #[.string ⟨l.toArray⟩] w fun e f=>∃x:List UInt8,e= .returned (.tuple #[.string ⟨x.toArray⟩,.bool (iU l)])/\(iU l=true->x=l)/\Below w.heap.size w f):=fun w G=>U2 l (by omega) w G;clear H;cases A:iU l with
  |false=>
   rw[A]at I;rw[aB (by simp)];go_enter func63,ntmps63;go_wp2_with fail;refine(I.out _ (C.out.alloc _)).mono ?_;rintro e i⟨x,rfl,_,d⟩;have c:Hid (Below w.heap.size w i):=Below.next ((aF _ _).alloc (aC _) _) (aC _) d;clear d;go_wp2;go_ret;exact⟨rfl,_,_,B.out.below c.out,bR.refl.next c.out⟩
  |true=>
   have I:Hid (∀w,aJ w->Calls prog 100 #[.string ⟨l.toArray⟩] w fun e f=>e= .returned (.tuple #[.string ⟨l.toArray⟩,.bool true])/\Below w.heap.size w f):=fun w G=>(I.out w G).mono fun e f⟨x,h1,h2,h3⟩=>by
    obtain rfl:=h2 A;rw[A]at h1;exact⟨h1,h3⟩
   have aa:l.length<=200:=by
    unfold iU at A;simp only[gP,mN]at A;have:=xB (m:=(bH l 1).1) (by rw[A.2]);rw[A.2]at this;exact this
   by_cases J:g.messages<65535
   ·rw[aD ⟨rfl,J⟩];have R:Hid (g.messages<65535):=J;clear J A;go_enter func63,ntmps63;go_wp2_with fail;refine(I.out _ (C.out.alloc _)).mono ?_;rintro e i⟨rfl,d⟩;have c:Hid (Below w.heap.size w i):=Below.next ((aF _ _).alloc (aC _) _) (aC _) d;have r:Hid (bD i p g rv wv):=B.out.below c.out;clear d;go_wp2_with fail;refine(rK p g rv wv i r.out (by omega) (by omega)).mono ?_;rintro e P⟨rfl,s⟩;have t:=show Hid _ from aT s;have D:Hid (bD P p g rv wv):=r.out.below t.out;clear s;go_wp2_with fail;refine(KV p g rv wv P D.out _ (by omega) (by omega) (by omega)).mono ?_;rintro e T⟨⟨u,rfl⟩,K,L,v,y⟩;go_wp2;go_ret;exact⟨rfl,_,_,v,((bR.refl.next c.out).next t.out).trans y⟩
   ·rw[aB (fun e=>J e.2)];have R:(65535:Int)<=(g.messages:Int):=by omega
    clear J A;go_enter func63,ntmps63;go_wp2_with fail;refine(I.out _ (C.out.alloc _)).mono ?_;rintro e i⟨rfl,d⟩;have c:Hid (Below w.heap.size w i):=Below.next ((aF _ _).alloc (aC _) _) (aC _) d;have r:Hid (bD i p g rv wv):=B.out.below c.out;clear d;go_wp2_with fail;refine(rK p g rv wv i r.out (by omega) (by omega)).mono ?_;rintro e P⟨rfl,s⟩;have t:=show Hid _ from aT s;have D:Hid (bD P p g rv wv):=r.out.below t.out;clear s;go_wp2;go_ret;exact⟨rfl,_,_,D.out,(bR.refl.next c.out).next t.out⟩
 ·rw[aB H];have f0:((k.toNat:Int)==80)=false:=by
   simp;intro e;exact H (eY.1 (show k.toNat=80 by omega))
  clear H;by_cases j:k=65
  ·rw[aD j];have f1:((k.toNat:Int)==65)=true:=by rw[j];rfl
   clear j;by_cases h2:l.length=2
   ·obtain⟨a,b,rfl⟩:∃a b,l=[a,b]:=by
     match l,h2 with
     |[a,b],_=>exact⟨a,b,rfl⟩
    have S:Hid (∀w,Calls prog 101 #[.string ⟨[a,b].toArray⟩] w fun e f=>e= .returned (.int .i64 (cT [a,b]))/\∃n,f=w.drewN n):=fun w=>by
     have:=KU ⟨#[a,b]⟩ rfl w;exact this
    have M:=KT [a,b];generalize cT [a,b]=n at S M;have Q:Hid (∀f,bD f p g rv wv->Calls prog 64 #[.pointer (some ⟨p,0,none⟩),.int .i64 (n:Int)] f fun e N=>e= .returned (.int .i64 (g.ack n).2)/\∃o q,bD N p (g.ack n).1 o q/\bR p rv wv f o q N):=fun f h'=>KZ p g rv wv f h' ⟨by omega,by omega,by omega,by omega⟩ n (by omega) (by omega);have E:(g.ack (n:Int)).2=0∨((g.ack (n:Int)).2=10/\(g.ack (n:Int)).1=g):=by
     unfold aG.ack;split
     ·exact .inr ⟨rfl,rfl⟩
     ·exact .inl rfl
    clear h2 V M;rcases E with F|⟨F,O⟩
    ·rw[aD ⟨rfl,F⟩];rw[F]at Q;clear F;go_enter func63,ntmps63;go_wp2_with fail;refine(S.out _).mono ?_;rintro e i⟨rfl,z⟩;have c:Hid (Below w.heap.size w i):=Below.next ((aF _ _).alloc (aC _) _) (aC _) (aT z);clear z;go_wp2_with fail;refine(Q.out _ (B.out.below c.out)).mono ?_;rintro e T⟨rfl,K,L,v,y⟩;go_wp2;go_ret;exact⟨rfl,_,_,v,(bR.refl.next c.out).trans y⟩
    ·rw[aB (by rw[F];simp)];rw[F,O]at Q;clear F O;go_enter func63,ntmps63;go_wp2_with fail;refine(S.out _).mono ?_;rintro e i⟨rfl,z⟩;have c:Hid (Below w.heap.size w i):=Below.next ((aF _ _).alloc (aC _) _) (aC _) (aT z);clear z;go_wp2_with fail;refine(Q.out _ (B.out.below c.out)).mono ?_;rintro e T⟨rfl,K,L,v,y⟩;go_wp2;go_ret;exact⟨rfl,_,_,v,(bR.refl.next c.out).trans y⟩
   ·rw[aB (fun e=>h2 e.1)];have f2:((l.length:Int)==2)=false:=by simp;omega
    clear h2;go_enter func63,ntmps63;go_wp2;go_ret;exact⟨rfl,_,_,B.out.below ((aF _ _).alloc (aC _) _),bR.refl.next ((aF _ _).alloc (aC _) _)⟩
  ·rw[aB j];have f1:((k.toNat:Int)==65)=false:=by
    simp;intro e;exact j (eY.1 (show k.toNat=65 by omega))
   clear j;go_enter func63,ntmps63;go_wp2;go_ret;exact⟨rfl,_,_,B.out.below ((aF _ _).alloc (aC _) _),bR.refl.next ((aF _ _).alloc (aC _) _)⟩
end Go.Proofs.Z

/- Pressed by program out of Db Dd. -/
import Derived.Test.YtdlhbmncbmconaaGreatDoorA30
import Derived.Test.YtdlhbmncbmconaaGreatDoorA35
namespace Go.Proofs.Z
open Hm Hw Tryz Go.RowKit Go.Sort
attribute [local go_sem] dY fR fS
theorem QM{w:World}{g:Nat}{i o p q j r k l m n a b c d e f:Value}{t:TypeId}{fr:Nat×Nat}(h:w.heap[g]?=some (.cells #[i,o,p,q,j,r,k,l,m,n,a,b,c,d,e,f] t fr)):
  w.cell? ⟨g,0,none⟩=some i/\w.cell? ⟨g,4,none⟩=some j/\w.cell? ⟨g,6,none⟩=some k/\w.cell? ⟨g,7,none⟩=some l/\w.cell? ⟨g,8,none⟩=some m/\w.cell? ⟨g,9,none⟩=some n/\w.cell? ⟨g,10,none⟩=some a/\w.cell? ⟨g,11,none⟩=some b/\w.cell? ⟨g,12,none⟩=some c/\w.cell? ⟨g,13,none⟩=some d/\w.cell? ⟨g,14,none⟩=some e/\w.cell? ⟨g,15,none⟩=some f:=
 ⟨aS _ _ _ _ _ _ h,aS _ _ _ _ _ _ h,aS _ _ _ _ _ _ h,aS _ _ _ _ _ _ h,aS _ _ _ _ _ _ h,aS _ _ _ _ _ _ h,aS _ _ _ _ _ _ h,aS _ _ _ _ _ _ h,aS _ _ _ _ _ _ h,aS _ _ _ _ _ _ h,aS _ _ _ _ _ _ h,aS _ _ _ _ _ _ h⟩
set_option maxRecDepth 20000 in
set_option maxHeartbeats 4000000 in
theorem aB8(o:cK)(S:o.kind=1)(W:o.s.length<=4000000000)(w:World)(y:aJ w):Calls prog 71 #[.agg (bA o)] w fun r g=>r= .returned (.bool true)/\Below w.heap.size w g:=by
 obtain⟨kd,a,b,c,n,q,s,⟨f,sv,t,h1,h2,h3,h4,d,x⟩⟩:=o;dsimp only at S W;subst S;unfold bA;dsimp only;have z:Hid (∀w,aJ w->Calls prog 21 #[.string ⟨s.toArray⟩,.int .i64 n] w fun e g=>e= .returned (.tuple #[.agg (aL (bH s n).1),.int .i64 (bH s n).2.1,.int .i64 (bH s n).2.2])/\Below w.heap.size w g):=fun w y=>vW ⟨s.toArray⟩ n w y (by simp[ByteArray.size];omega);have RR:Hid (∀w,Calls prog 110 #[.string ⟨s.toArray⟩,.int .i64 n] w fun e g=>e= .returned (.tuple #[.agg (aL (bH s n).1),.int .i64 (bH s n).2.1,.int .i64 (bH s n).2.2])/\Below w.heap.size w g):=fun w=>uT s (by omega) n w;have A:Hid (∀w,Calls prog 111 #[.agg (aL (bH s n).1),.agg (aL (bH s n).1)] w fun r g=>r= .returned (.bool true)/\Below w.heap.size w g):=fun w=>aBY _ w;generalize bH s n=R at z RR A;obtain⟨M,E,I⟩:=R;dsimp only at z RR A;have X:Hid (∀w,Calls prog 107 #[.int .i64 (E:Int)] w fun r g=>r= .returned (.int .i64 (E:Int))/\g=w):=fun w=>QI E w;go_enter func71,ntmps71;go_wp2_with fail;refine(z.out _ (y.alloc _)).mono ?_;rintro e j⟨rfl,h⟩;have B:Hid (Below w.heap.size w j):=((aF _ _).alloc (aC _) _).trans (h.mono (by simp));have C:w.heap.size<j.heap.size:=by have:=h.size;simp at this;omega
 have m:=(h.block w.heap.size (by simp)).trans (heap_alloc_new _ _);have D:=show Hid _ from m;clear h m;go_wp2_with(first
  |(refine bI rfl _ _ _ rfl rfl j.heap.size (aL M) rfl rfl _ _ (heap_alloc_new _ _) cJ rfl rfl ?_;intro T U;have u:=aA U;clear U;obtain⟨Y,Z,y6,y7,y8,y9,F,G,H,J,K,L⟩:=QM ((u.out.other _ (by omega)).trans ((heap_alloc_old _ _ C).trans D.out)))
  |fail)
 refine(RR.out _).mono ?_;rintro e l⟨rfl,i⟩;have aa:T.heap.size=j.heap.size+1:=by have:=u.out.size;simpa using this
 have N:Hid (Below w.heap.size w l):=((B.out.alloc (by omega) _).trans (u.out.below (by omega))).trans (i.mono (by omega));have O:Hid (l.heap[j.heap.size]?=_):=(i.block _ (by omega)).trans u.out.row;have P:j.heap.size<l.heap.size:=by have:=i.size;omega
 clear i Y Z y6 y7 y8 y9 F G H J K L;go_wp2_with(first
  |(refine bI rfl _ _ _ rfl rfl l.heap.size (aL M) rfl rfl _ _ (heap_alloc_new _ _) bP rfl rfl ?_;intro w4 V;have v:=aA V;clear V)
  |(refine cG rfl _ _ rfl j.heap.size rfl _ _ _ _ ((v.out.other _ (by omega)).trans ((heap_alloc_old _ _ P).trans O.out)) underlying29 rfl cJ ?_)
  |(refine cG rfl _ _ rfl l.heap.size rfl _ _ _ _ v.out.row underlying80 rfl bP ?_)
  |fail)
 refine(A.out _).mono ?_;rintro e w5⟨rfl,p⟩;have Q:Hid (Below w.heap.size w w5):=((N.out.alloc (by omega) _).trans (v.out.below (by omega))).trans (p.mono (by have:=v.out.size;simp at this;omega));clear p;go_wp2_with fail;refine(X.out _).mono ?_;rintro e w6⟨rfl,k⟩;have k:=k.symm;subst k;go_wp2;go_ret;exact⟨rfl,Q.out⟩
set_option maxRecDepth 20000 in
set_option maxHeartbeats 4000000 in
theorem aB9(o:cK)(L:o.kind=2)(g:o.Small 4000000000)(w:World)(y:aJ w):Calls prog 71 #[.agg (bA o)] w fun r h=>r= .returned (.bool true)/\Below w.heap.size w h:=by
 have z:Hid (∀w,Calls prog 112 #[.agg (aL o.msg)] w fun r h=>r= .returned (.agg (aL o.msg))/\Below w.heap.size w h):=fun w=>QJ o.msg w;have l:Hid (∀w,aJ w->Calls prog 20 #[.agg (aL o.msg)] w fun r h=>r= .returned (.tuple #[.string ⟨(cA o.msg).1.toArray⟩,.int .i64 (cA o.msg).2])/\Below w.heap.size w h):=fun w y=>wB o.msg w y g.time g.host g.app g.proc g.id g.data g.text;have m:Hid (∀w,Calls prog 113 #[.agg (aL o.msg)] w fun r h=>r= .returned (.tuple #[.string ⟨(cA o.msg).1.toArray⟩,.int .i64 (cA o.msg).2])/\Below w.heap.size w h):=fun w=>tF o.msg w g.time g.host g.app g.proc g.id g.data g.text;generalize cA o.msg=R at l m;obtain⟨S,E⟩:=R;dsimp only at l m;have N:Hid (∀w,Calls prog 107 #[.int .i64 (E:Int)] w fun r h=>r= .returned (.int .i64 (E:Int))/\h=w):=fun w=>QI E w;clear g;obtain⟨Y,a,b,c,n,q,s,⟨f,Z,t,h1,h2,h3,h4,d,x⟩⟩:=o;dsimp only at L;subst L;unfold bA;unfold aL at z l m;dsimp only at z l m⊢;go_enter func71,ntmps71;go_wp2_with fail;refine(z.out _).mono ?_;rintro e M⟨rfl,i⟩;have p:Hid (Below w.heap.size w M):=((aF _ _).alloc (aC _) _).trans (i.mono (by simp));have A:w.heap.size<M.heap.size:=by have:=i.size;simp at this;omega
 have B:=show Hid _ from(i.block w.heap.size (by simp)).trans (heap_alloc_new _ _);clear i;go_wp2_with fail;refine(l.out _ (y.next p.out)).mono ?_;rintro e O⟨rfl,j⟩;have u:Hid (Below w.heap.size w O):=Below.next p.out (by omega) j;have C:=show Hid _ from(j.block w.heap.size A).trans B.out;obtain⟨P,Q,T,U,V,W,D,F,G,H,I,J⟩:=QM C.out;clear j;go_wp2_with fail;refine(m.out _).mono ?_;rintro e X⟨rfl,v⟩;have K:Hid (Below w.heap.size w X):=Below.next u.out (by have:=u.out.size;omega) v;clear v P Q T U V W D F G H I J;go_wp2_with fail;refine(N.out _).mono ?_;rintro e w6⟨rfl,k⟩;have k:=k.symm;subst k;go_wp2;go_ret;exact⟨rfl,K.out⟩
end Go.Proofs.Z
namespace Go.Proofs.Z
open Tryz Go.RowKit Go.Sort
theorem QN:(prog.info? 82).map (·.size)=some 16:=by kernel_rfl
theorem aCa(o:cK)(c:o.kind=1∨o.kind=2)(a:o.Small 4000000000)(w:World)(b:aJ w):Calls prog 71 #[.agg (bA o)] w fun r d=>r= .returned (.bool true)/\Below w.heap.size w d:=by
 rcases c with h|h
 ·exact aB8 o h a.s w b
 ·exact aB9 o h a w b
set_option maxRecDepth 20000 in
set_option maxHeartbeats 4000000 in
theorem aCb(p:Nat)(o:cK)(k:o.kind=1∨o.kind=2)(u:o.Small 4000000000)(w:World)(v:aJ w):Calls prog 41 #[.pointer (some ⟨p,0,none⟩),.agg (bA o)] w fun r l=>r= .returned (.bool true)/\Below w.heap.size w l:=by
 have j:Hid (∀w,aJ w->Calls prog 71 #[.agg (bA o)] w fun r l=>r= .returned (.bool true)/\Below w.heap.size w l):=aCa o k u;clear u;obtain⟨y,a,b,c,n,q,s,⟨f,z,t,h1,h2,h3,h4,d,x⟩⟩:=o;unfold bA at j⊢;dsimp only at k j⊢;rcases k with h|h
 ·subst h;go_enter func41,ntmps41;go_wp2_with(first
   |(refine cG rfl _ _ rfl w.heap.size rfl _ _ _ _ (heap_alloc_new _ _) underlying82 rfl QN ?_)
   |fail)
  refine(j.out _ (v.alloc _)).mono ?_;rintro e m⟨rfl,g⟩;have i:Hid (Below w.heap.size w m):=((aF _ _).alloc (aC _) _).trans (g.mono (by simp));clear g;go_wp2;go_ret;exact⟨rfl,i.out⟩
 ·subst h;go_enter func41,ntmps41;go_wp2_with(first
   |(refine cG rfl _ _ rfl w.heap.size rfl _ _ _ _ (heap_alloc_new _ _) underlying82 rfl QN ?_)
   |fail)
  refine(j.out _ (v.alloc _)).mono ?_;rintro e m⟨rfl,g⟩;have i:Hid (Below w.heap.size w m):=((aF _ _).alloc (aC _) _).trans (g.mono (by simp));clear g;go_wp2;go_ret;exact⟨rfl,i.out⟩
end Go.Proofs.Z

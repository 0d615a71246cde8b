/- Pressed by program out of Gl Gm Gn. -/
import Derived.Test.YtdlhbmncbmconaaGreatDoorA47
namespace Go.Proofs.Z
open Tryz Go.RowKit Go.Sort
attribute [local go_sem] cN cO
theorem jL{w:World}{g:Nat}{n i j k l o m p q r a b c d e f:Value}{t:TypeId}{fr:Nat×Nat}(h:w.heap[g]?=some (.cells #[n,i,j,k,l,o,m,p,q,r,a,b,c,d,e,f] t fr)):
  w.cell? ⟨g,1,none⟩=some i/\w.cell? ⟨g,2,none⟩=some j/\w.cell? ⟨g,3,none⟩=some k/\w.cell? ⟨g,4,none⟩=some l/\w.cell? ⟨g,6,none⟩=some m:=
 ⟨aS _ _ _ _ _ _ h,aS _ _ _ _ _ _ h,aS _ _ _ _ _ _ h,aS _ _ _ _ _ _ h,aS _ _ _ _ _ _ h⟩
set_option maxRecDepth 20000 in
set_option maxHeartbeats 8000000 in
theorem RA{B p:Nat}{M:List dJ}{N:List eI}{lgs:List eL}{L n:Nat}{w:World}(h:aV B p M N (bJ lgs) (bS lgs) (bT lgs) L n w)(o:cK){x:dJ}{z:eI}{y:eL}(i a j:Nat)(hx:M[i]?=some x)(hz:N[a]?=some z)(hy:lgs[j]?=some y)(ag:0<=o.w->∀w,Calls prog 114 #[.int .i64 o.w,.int .i64 M.length] w fun e w'=>e= .returned (.int .i64 i)/\w'=w)(ah:0<=o.v->∀w,Calls prog 114 #[.int .i64 o.v,.int .i64 N.length] w fun e w'=>e= .returned (.int .i64 a)/\w'=w)(ai:0<=o.u->∀w,Calls prog 114 #[.int .i64 o.u,.int .i64 lgs.length] w fun e w'=>e= .returned (.int .i64 j)/\w'=w)(f f' r r' l l':Option Addr)(cf:(o.w<0/\f=none/\f'=none)∨(0<=o.w/\f=some ⟨x.p,0,none⟩/\f'=some ⟨x.q,0,none⟩))(cr:(o.v<0/\r=none/\r'=none)∨(0<=o.v/\r=some ⟨z.p,0,none⟩/\r'=some ⟨z.q,0,none⟩))(cl:(o.u<0/\l=none/\l'=none)∨(0<=o.u/\l=some ⟨y.p,0,none⟩/\l'=some ⟨y.q,0,none⟩))(T:List UInt8)(E:Nat)(ak al:World->Prop)(am:∀w',Below w.heap.size w w'->w'.heap[w.heap.size]?=some (.cells (bA o) 82 (0,0))->Calls prog 39 #[.pointer f,.pointer r,.pointer l,.string ⟨o.s.toArray⟩,.int .i64 o.n] w' fun e w1=>e= .returned (.tuple #[.string ⟨T.toArray⟩,.int .i64 E])/\w1.heap[w.heap.size]?=some (.cells (bA o) 82 (0,0))/\ak w1)(an:∀w',ak w'->Calls prog 122 #[.pointer f',.pointer r',.pointer l',.string ⟨o.s.toArray⟩,.int .i64 o.n] w' fun e w1=>e= .returned (.tuple #[.string ⟨T.toArray⟩,.int .i64 E])/\al w1):
  Calls prog 74 #[.pointer (some ⟨p,0,none⟩),.agg (bA o)] w fun e w'=>e= .returned (.bool true)/\al w':=by
 have hi:=(iY.1 hx).1;have ha:=(iY.1 hz).1;have hj:=(iY.1 hy).1;have HH:Hid (aV B p M N (bJ lgs) (bS lgs) (bT lgs) L n w):=h;have HX:Hid (M[i]?=some x):=hx;have HZ:Hid (N[a]?=some z):=hz;have HY:Hid (lgs[j]?=some y):=hy;have NU:Hid (∀w,Calls prog 107 #[.int .i64 (E:Int)] w fun r w'=>r= .returned (.int .i64 (E:Int))/\w'=w):=fun w=>oH E w;have RE:=show Hid _ from am;have RR:=show Hid _ from an;clear h hx hz hy am an;obtain⟨kd,W',V',U',N',M',s,⟨fc,sv,t,h1,h2,h3,h4,d,tx⟩⟩:=o;unfold bA at RE⊢;dsimp only at RE RR ag ah ai cf cr cl⊢;have aq:(i:Int)<(M.length:Int):=by omega
 have ar:(a:Int)<(N.length:Int):=by omega
 have au:(j:Int)<(lgs.length:Int):=by omega
 have P1:=show Hid _ from ag;have P2:=show Hid _ from ah;have P3:=show Hid _ from ai;clear ag ah ai hi ha hj;rcases cf with⟨w1,rfl,rfl⟩|⟨w1,rfl,rfl⟩ <;> rcases cr with⟨v1,rfl,rfl⟩|⟨v1,rfl,rfl⟩ <;> rcases cl with⟨u1,rfl,rfl⟩|⟨u1,rfl,rfl⟩
 ·have u2:¬0<=U':=by omega
  have v2:¬0<=V':=by omega
  have w2:¬0<=W':=by omega
  go_enter func74,ntmps74;go_wp2_with fail;generalize X:w.alloc _=O;have D:Hid (Below w.heap.size w O):=by
   show Below _ _ _;rw[<-X];exact(aF _ _).alloc (aC _) _
  have c:Hid (O.heap[w.heap.size]?=some (.cells #[.int .i64 kd,.int .i64 W',.int .i64 V',.int .i64 U',.int .i64 N',.int .i64 M',.string ⟨s.toArray⟩,.int .i64 fc,.int .i64 sv,.string ⟨t.toArray⟩,.string ⟨h1.toArray⟩,.string ⟨h2.toArray⟩,.string ⟨h3.toArray⟩,.string ⟨h4.toArray⟩,.string ⟨d.toArray⟩,.string ⟨tx.toArray⟩] 82 (0,0))):=by
   show _=_;rw[<-X];exact heap_alloc_new _ _
  clear X;refine Calls.mono (RE.out _ D.out c.out) ?_;rintro e ad⟨rfl,k,m⟩;have Y:=show Hid _ from m;clear m;obtain⟨G,H,I,J,K⟩:=jL k;clear k;go_wp2_with fail;refine(RR.out _ Y.out).mono ?_;rintro e ae⟨rfl,A⟩;have Z:=show Hid _ from A;clear G H I J K A;go_wp2_with fail;refine(NU.out _).mono ?_;rintro e af⟨rfl,b⟩;have b:=b.symm;subst b;go_wp2;go_ret;exact⟨rfl,Z.out⟩
 ·have v2:¬0<=V':=by omega
  have w2:¬0<=W':=by omega
  go_enter func74,ntmps74;go_wp2_with fail;generalize X:w.alloc _=O;have D:Hid (Below w.heap.size w O):=by
   show Below _ _ _;rw[<-X];exact(aF _ _).alloc (aC _) _
  have c:Hid (O.heap[w.heap.size]?=some (.cells #[.int .i64 kd,.int .i64 W',.int .i64 V',.int .i64 U',.int .i64 N',.int .i64 M',.string ⟨s.toArray⟩,.int .i64 fc,.int .i64 sv,.string ⟨t.toArray⟩,.string ⟨h1.toArray⟩,.string ⟨h2.toArray⟩,.string ⟨h3.toArray⟩,.string ⟨h4.toArray⟩,.string ⟨d.toArray⟩,.string ⟨tx.toArray⟩] 82 (0,0))):=by
   show _=_;rw[<-X];exact heap_alloc_new _ _
  clear X;have g:Hid (aV B p M N (bJ lgs) (bS lgs) (bT lgs) L n O):=HH.out.next D.out;obtain⟨g0,P,g1,Q,c0,s0,c1,s1,_⟩:=g.out.fresh.frameAt HX.out;obtain⟨g2,R,g3,S,c2,s2,c3,s3,_⟩:=g.out.fresh.ruleAt HZ.out;obtain⟨g4,U,g5,V,c4,s4,c5,s5,_⟩:=g.out.fresh.logAt HY.out;unfold bQ at s0 s1 s2 s3 s4 s5;obtain⟨G,H,I,J,K⟩:=jL c.out;go_quiet((go_at_call 114;exact Calls.quiet_of_same (P3.out u1 _)))
  go_wp2_with fail;generalize C:O.drewN _=D1;have W:Hid (Below w.heap.size w D1):=by
   show Below _ _ _;rw[<-C];exact D.out.trans ((aT ⟨_,rfl⟩).mono (iT (aM.1 c.out).1))
  have F:Hid (D1.heap[w.heap.size]?=some (.cells #[.int .i64 kd,.int .i64 W',.int .i64 V',.int .i64 U',.int .i64 N',.int .i64 M',.string ⟨s.toArray⟩,.int .i64 fc,.int .i64 sv,.string ⟨t.toArray⟩,.string ⟨h1.toArray⟩,.string ⟨h2.toArray⟩,.string ⟨h3.toArray⟩,.string ⟨h4.toArray⟩,.string ⟨d.toArray⟩,.string ⟨tx.toArray⟩] 82 (0,0))):=by
   show _=_;rw[<-C];exact c.out
  clear C;clear G H I J K c0 s0 c1 s1 c2 s2 c3 s3 c4 s4 c5 s5;refine Calls.mono (RE.out _ W.out F.out) ?_;rintro e ad⟨rfl,k,m⟩;have Y:=show Hid _ from m;clear m;obtain⟨G,H,I,J,K⟩:=jL k;clear k;go_wp2_with fail;refine(RR.out _ Y.out).mono ?_;rintro e ae⟨rfl,A⟩;have Z:=show Hid _ from A;clear G H I J K A;go_wp2_with fail;refine(NU.out _).mono ?_;rintro e af⟨rfl,b⟩;have b:=b.symm;subst b;go_wp2;go_ret;exact⟨rfl,Z.out⟩
 ·have u2:¬0<=U':=by omega
  have w2:¬0<=W':=by omega
  go_enter func74,ntmps74;go_wp2_with fail;generalize X:w.alloc _=O;have D:Hid (Below w.heap.size w O):=by
   show Below _ _ _;rw[<-X];exact(aF _ _).alloc (aC _) _
  have c:Hid (O.heap[w.heap.size]?=some (.cells #[.int .i64 kd,.int .i64 W',.int .i64 V',.int .i64 U',.int .i64 N',.int .i64 M',.string ⟨s.toArray⟩,.int .i64 fc,.int .i64 sv,.string ⟨t.toArray⟩,.string ⟨h1.toArray⟩,.string ⟨h2.toArray⟩,.string ⟨h3.toArray⟩,.string ⟨h4.toArray⟩,.string ⟨d.toArray⟩,.string ⟨tx.toArray⟩] 82 (0,0))):=by
   show _=_;rw[<-X];exact heap_alloc_new _ _
  clear X;have g:Hid (aV B p M N (bJ lgs) (bS lgs) (bT lgs) L n O):=HH.out.next D.out;obtain⟨g0,P,g1,Q,c0,s0,c1,s1,_⟩:=g.out.fresh.frameAt HX.out;obtain⟨g2,R,g3,S,c2,s2,c3,s3,_⟩:=g.out.fresh.ruleAt HZ.out;obtain⟨g4,U,g5,V,c4,s4,c5,s5,_⟩:=g.out.fresh.logAt HY.out;unfold bQ at s0 s1 s2 s3 s4 s5;obtain⟨G,H,I,J,K⟩:=jL c.out;go_quiet((go_at_call 114;exact Calls.quiet_of_same (P2.out v1 _)))
  go_wp2_with fail;generalize C:O.drewN _=D1;have W:Hid (Below w.heap.size w D1):=by
   show Below _ _ _;rw[<-C];exact D.out.trans ((aT ⟨_,rfl⟩).mono (iT (aM.1 c.out).1))
  have F:Hid (D1.heap[w.heap.size]?=some (.cells #[.int .i64 kd,.int .i64 W',.int .i64 V',.int .i64 U',.int .i64 N',.int .i64 M',.string ⟨s.toArray⟩,.int .i64 fc,.int .i64 sv,.string ⟨t.toArray⟩,.string ⟨h1.toArray⟩,.string ⟨h2.toArray⟩,.string ⟨h3.toArray⟩,.string ⟨h4.toArray⟩,.string ⟨d.toArray⟩,.string ⟨tx.toArray⟩] 82 (0,0))):=by
   show _=_;rw[<-C];exact c.out
  clear C;clear G H I J K c0 s0 c1 s1 c2 s2 c3 s3 c4 s4 c5 s5;refine Calls.mono (RE.out _ W.out F.out) ?_;rintro e ad⟨rfl,k,m⟩;have Y:=show Hid _ from m;clear m;obtain⟨G,H,I,J,K⟩:=jL k;clear k;go_wp2_with fail;refine(RR.out _ Y.out).mono ?_;rintro e ae⟨rfl,A⟩;have Z:=show Hid _ from A;clear G H I J K A;go_wp2_with fail;refine(NU.out _).mono ?_;rintro e af⟨rfl,b⟩;have b:=b.symm;subst b;go_wp2;go_ret;exact⟨rfl,Z.out⟩
 ·have w2:¬0<=W':=by omega
  go_enter func74,ntmps74;go_wp2_with fail;generalize X:w.alloc _=O;have D:Hid (Below w.heap.size w O):=by
   show Below _ _ _;rw[<-X];exact(aF _ _).alloc (aC _) _
  have c:Hid (O.heap[w.heap.size]?=some (.cells #[.int .i64 kd,.int .i64 W',.int .i64 V',.int .i64 U',.int .i64 N',.int .i64 M',.string ⟨s.toArray⟩,.int .i64 fc,.int .i64 sv,.string ⟨t.toArray⟩,.string ⟨h1.toArray⟩,.string ⟨h2.toArray⟩,.string ⟨h3.toArray⟩,.string ⟨h4.toArray⟩,.string ⟨d.toArray⟩,.string ⟨tx.toArray⟩] 82 (0,0))):=by
   show _=_;rw[<-X];exact heap_alloc_new _ _
  clear X;have g:Hid (aV B p M N (bJ lgs) (bS lgs) (bT lgs) L n O):=HH.out.next D.out;obtain⟨g0,P,g1,Q,c0,s0,c1,s1,_⟩:=g.out.fresh.frameAt HX.out;obtain⟨g2,R,g3,S,c2,s2,c3,s3,_⟩:=g.out.fresh.ruleAt HZ.out;obtain⟨g4,U,g5,V,c4,s4,c5,s5,_⟩:=g.out.fresh.logAt HY.out;unfold bQ at s0 s1 s2 s3 s4 s5;obtain⟨G,H,I,J,K⟩:=jL c.out;go_quiet((go_at_call 114;exact Calls.quiet_of_same (P2.out v1 _)))
  go_wp2_with fail;generalize C:O.drewN _=D1;have W:Hid (Below w.heap.size w D1):=by
   show Below _ _ _;rw[<-C];exact D.out.trans ((aT ⟨_,rfl⟩).mono (iT (aM.1 c.out).1))
  have F:Hid (D1.heap[w.heap.size]?=some (.cells #[.int .i64 kd,.int .i64 W',.int .i64 V',.int .i64 U',.int .i64 N',.int .i64 M',.string ⟨s.toArray⟩,.int .i64 fc,.int .i64 sv,.string ⟨t.toArray⟩,.string ⟨h1.toArray⟩,.string ⟨h2.toArray⟩,.string ⟨h3.toArray⟩,.string ⟨h4.toArray⟩,.string ⟨d.toArray⟩,.string ⟨tx.toArray⟩] 82 (0,0))):=by
   show _=_;rw[<-C];exact c.out
  clear C;clear G H I J K c0 s0 c1 s1 c2 s2 c3 s3 c4 s4 c5 s5;have aa:Hid (aV B p M N (bJ lgs) (bS lgs) (bT lgs) L n D1):=HH.out.next W.out;obtain⟨g0,P,g1,Q,c0,s0,c1,s1,_⟩:=aa.out.fresh.frameAt HX.out;obtain⟨g2,R,g3,S,c2,s2,c3,s3,_⟩:=aa.out.fresh.ruleAt HZ.out;obtain⟨g4,U,g5,V,c4,s4,c5,s5,_⟩:=aa.out.fresh.logAt HY.out;unfold bQ at s0 s1 s2 s3 s4 s5;obtain⟨G,H,I,J,K⟩:=jL F.out;go_quiet((go_at_call 114;exact Calls.quiet_of_same (P3.out u1 _)))
  go_wp2_with fail;generalize C:D1.drewN _=D2;have ac:Hid (Below w.heap.size w D2):=by
   show Below _ _ _;rw[<-C];exact W.out.trans ((aT ⟨_,rfl⟩).mono (iT (aM.1 F.out).1))
  have ab:Hid (D2.heap[w.heap.size]?=some (.cells #[.int .i64 kd,.int .i64 W',.int .i64 V',.int .i64 U',.int .i64 N',.int .i64 M',.string ⟨s.toArray⟩,.int .i64 fc,.int .i64 sv,.string ⟨t.toArray⟩,.string ⟨h1.toArray⟩,.string ⟨h2.toArray⟩,.string ⟨h3.toArray⟩,.string ⟨h4.toArray⟩,.string ⟨d.toArray⟩,.string ⟨tx.toArray⟩] 82 (0,0))):=by
   show _=_;rw[<-C];exact F.out
  clear C;clear G H I J K c0 s0 c1 s1 c2 s2 c3 s3 c4 s4 c5 s5;refine Calls.mono (RE.out _ ac.out ab.out) ?_;rintro e ad⟨rfl,k,m⟩;have Y:=show Hid _ from m;clear m;obtain⟨G,H,I,J,K⟩:=jL k;clear k;go_wp2_with fail;refine(RR.out _ Y.out).mono ?_;rintro e ae⟨rfl,A⟩;have Z:=show Hid _ from A;clear G H I J K A;go_wp2_with fail;refine(NU.out _).mono ?_;rintro e af⟨rfl,b⟩;have b:=b.symm;subst b;go_wp2;go_ret;exact⟨rfl,Z.out⟩
 ·have u2:¬0<=U':=by omega
  have v2:¬0<=V':=by omega
  go_enter func74,ntmps74;go_wp2_with fail;generalize X:w.alloc _=O;have D:Hid (Below w.heap.size w O):=by
   show Below _ _ _;rw[<-X];exact(aF _ _).alloc (aC _) _
  have c:Hid (O.heap[w.heap.size]?=some (.cells #[.int .i64 kd,.int .i64 W',.int .i64 V',.int .i64 U',.int .i64 N',.int .i64 M',.string ⟨s.toArray⟩,.int .i64 fc,.int .i64 sv,.string ⟨t.toArray⟩,.string ⟨h1.toArray⟩,.string ⟨h2.toArray⟩,.string ⟨h3.toArray⟩,.string ⟨h4.toArray⟩,.string ⟨d.toArray⟩,.string ⟨tx.toArray⟩] 82 (0,0))):=by
   show _=_;rw[<-X];exact heap_alloc_new _ _
  clear X;have g:Hid (aV B p M N (bJ lgs) (bS lgs) (bT lgs) L n O):=HH.out.next D.out;obtain⟨g0,P,g1,Q,c0,s0,c1,s1,_⟩:=g.out.fresh.frameAt HX.out;obtain⟨g2,R,g3,S,c2,s2,c3,s3,_⟩:=g.out.fresh.ruleAt HZ.out;obtain⟨g4,U,g5,V,c4,s4,c5,s5,_⟩:=g.out.fresh.logAt HY.out;unfold bQ at s0 s1 s2 s3 s4 s5;obtain⟨G,H,I,J,K⟩:=jL c.out;go_quiet((go_at_call 114;exact Calls.quiet_of_same (P1.out w1 _)))
  go_wp2_with fail;generalize C:O.drewN _=D1;have W:Hid (Below w.heap.size w D1):=by
   show Below _ _ _;rw[<-C];exact D.out.trans ((aT ⟨_,rfl⟩).mono (iT (aM.1 c.out).1))
  have F:Hid (D1.heap[w.heap.size]?=some (.cells #[.int .i64 kd,.int .i64 W',.int .i64 V',.int .i64 U',.int .i64 N',.int .i64 M',.string ⟨s.toArray⟩,.int .i64 fc,.int .i64 sv,.string ⟨t.toArray⟩,.string ⟨h1.toArray⟩,.string ⟨h2.toArray⟩,.string ⟨h3.toArray⟩,.string ⟨h4.toArray⟩,.string ⟨d.toArray⟩,.string ⟨tx.toArray⟩] 82 (0,0))):=by
   show _=_;rw[<-C];exact c.out
  clear C;clear G H I J K c0 s0 c1 s1 c2 s2 c3 s3 c4 s4 c5 s5;refine Calls.mono (RE.out _ W.out F.out) ?_;rintro e ad⟨rfl,k,m⟩;have Y:=show Hid _ from m;clear m;obtain⟨G,H,I,J,K⟩:=jL k;clear k;go_wp2_with fail;refine(RR.out _ Y.out).mono ?_;rintro e ae⟨rfl,A⟩;have Z:=show Hid _ from A;clear G H I J K A;go_wp2_with fail;refine(NU.out _).mono ?_;rintro e af⟨rfl,b⟩;have b:=b.symm;subst b;go_wp2;go_ret;exact⟨rfl,Z.out⟩
 ·have v2:¬0<=V':=by omega
  go_enter func74,ntmps74;go_wp2_with fail;generalize X:w.alloc _=O;have D:Hid (Below w.heap.size w O):=by
   show Below _ _ _;rw[<-X];exact(aF _ _).alloc (aC _) _
  have c:Hid (O.heap[w.heap.size]?=some (.cells #[.int .i64 kd,.int .i64 W',.int .i64 V',.int .i64 U',.int .i64 N',.int .i64 M',.string ⟨s.toArray⟩,.int .i64 fc,.int .i64 sv,.string ⟨t.toArray⟩,.string ⟨h1.toArray⟩,.string ⟨h2.toArray⟩,.string ⟨h3.toArray⟩,.string ⟨h4.toArray⟩,.string ⟨d.toArray⟩,.string ⟨tx.toArray⟩] 82 (0,0))):=by
   show _=_;rw[<-X];exact heap_alloc_new _ _
  clear X;have g:Hid (aV B p M N (bJ lgs) (bS lgs) (bT lgs) L n O):=HH.out.next D.out;obtain⟨g0,P,g1,Q,c0,s0,c1,s1,_⟩:=g.out.fresh.frameAt HX.out;obtain⟨g2,R,g3,S,c2,s2,c3,s3,_⟩:=g.out.fresh.ruleAt HZ.out;obtain⟨g4,U,g5,V,c4,s4,c5,s5,_⟩:=g.out.fresh.logAt HY.out;unfold bQ at s0 s1 s2 s3 s4 s5;obtain⟨G,H,I,J,K⟩:=jL c.out;go_quiet((go_at_call 114;exact Calls.quiet_of_same (P1.out w1 _)))
  go_wp2_with fail;generalize C:O.drewN _=D1;have W:Hid (Below w.heap.size w D1):=by
   show Below _ _ _;rw[<-C];exact D.out.trans ((aT ⟨_,rfl⟩).mono (iT (aM.1 c.out).1))
  have F:Hid (D1.heap[w.heap.size]?=some (.cells #[.int .i64 kd,.int .i64 W',.int .i64 V',.int .i64 U',.int .i64 N',.int .i64 M',.string ⟨s.toArray⟩,.int .i64 fc,.int .i64 sv,.string ⟨t.toArray⟩,.string ⟨h1.toArray⟩,.string ⟨h2.toArray⟩,.string ⟨h3.toArray⟩,.string ⟨h4.toArray⟩,.string ⟨d.toArray⟩,.string ⟨tx.toArray⟩] 82 (0,0))):=by
   show _=_;rw[<-C];exact c.out
  clear C;clear G H I J K c0 s0 c1 s1 c2 s2 c3 s3 c4 s4 c5 s5;have aa:Hid (aV B p M N (bJ lgs) (bS lgs) (bT lgs) L n D1):=HH.out.next W.out;obtain⟨g0,P,g1,Q,c0,s0,c1,s1,_⟩:=aa.out.fresh.frameAt HX.out;obtain⟨g2,R,g3,S,c2,s2,c3,s3,_⟩:=aa.out.fresh.ruleAt HZ.out;obtain⟨g4,U,g5,V,c4,s4,c5,s5,_⟩:=aa.out.fresh.logAt HY.out;unfold bQ at s0 s1 s2 s3 s4 s5;obtain⟨G,H,I,J,K⟩:=jL F.out;go_quiet((go_at_call 114;exact Calls.quiet_of_same (P3.out u1 _)))
  go_wp2_with fail;generalize C:D1.drewN _=D2;have ac:Hid (Below w.heap.size w D2):=by
   show Below _ _ _;rw[<-C];exact W.out.trans ((aT ⟨_,rfl⟩).mono (iT (aM.1 F.out).1))
  have ab:Hid (D2.heap[w.heap.size]?=some (.cells #[.int .i64 kd,.int .i64 W',.int .i64 V',.int .i64 U',.int .i64 N',.int .i64 M',.string ⟨s.toArray⟩,.int .i64 fc,.int .i64 sv,.string ⟨t.toArray⟩,.string ⟨h1.toArray⟩,.string ⟨h2.toArray⟩,.string ⟨h3.toArray⟩,.string ⟨h4.toArray⟩,.string ⟨d.toArray⟩,.string ⟨tx.toArray⟩] 82 (0,0))):=by
   show _=_;rw[<-C];exact F.out
  clear C;clear G H I J K c0 s0 c1 s1 c2 s2 c3 s3 c4 s4 c5 s5;refine Calls.mono (RE.out _ ac.out ab.out) ?_;rintro e ad⟨rfl,k,m⟩;have Y:=show Hid _ from m;clear m;obtain⟨G,H,I,J,K⟩:=jL k;clear k;go_wp2_with fail;refine(RR.out _ Y.out).mono ?_;rintro e ae⟨rfl,A⟩;have Z:=show Hid _ from A;clear G H I J K A;go_wp2_with fail;refine(NU.out _).mono ?_;rintro e af⟨rfl,b⟩;have b:=b.symm;subst b;go_wp2;go_ret;exact⟨rfl,Z.out⟩
 ·have u2:¬0<=U':=by omega
  go_enter func74,ntmps74;go_wp2_with fail;generalize X:w.alloc _=O;have D:Hid (Below w.heap.size w O):=by
   show Below _ _ _;rw[<-X];exact(aF _ _).alloc (aC _) _
  have c:Hid (O.heap[w.heap.size]?=some (.cells #[.int .i64 kd,.int .i64 W',.int .i64 V',.int .i64 U',.int .i64 N',.int .i64 M',.string ⟨s.toArray⟩,.int .i64 fc,.int .i64 sv,.string ⟨t.toArray⟩,.string ⟨h1.toArray⟩,.string ⟨h2.toArray⟩,.string ⟨h3.toArray⟩,.string ⟨h4.toArray⟩,.string ⟨d.toArray⟩,.string ⟨tx.toArray⟩] 82 (0,0))):=by
   show _=_;rw[<-X];exact heap_alloc_new _ _
  clear X;have g:Hid (aV B p M N (bJ lgs) (bS lgs) (bT lgs) L n O):=HH.out.next D.out;obtain⟨g0,P,g1,Q,c0,s0,c1,s1,_⟩:=g.out.fresh.frameAt HX.out;obtain⟨g2,R,g3,S,c2,s2,c3,s3,_⟩:=g.out.fresh.ruleAt HZ.out;obtain⟨g4,U,g5,V,c4,s4,c5,s5,_⟩:=g.out.fresh.logAt HY.out;unfold bQ at s0 s1 s2 s3 s4 s5;obtain⟨G,H,I,J,K⟩:=jL c.out;go_quiet((go_at_call 114;exact Calls.quiet_of_same (P1.out w1 _)))
  go_wp2_with fail;generalize C:O.drewN _=D1;have W:Hid (Below w.heap.size w D1):=by
   show Below _ _ _;rw[<-C];exact D.out.trans ((aT ⟨_,rfl⟩).mono (iT (aM.1 c.out).1))
  have F:Hid (D1.heap[w.heap.size]?=some (.cells #[.int .i64 kd,.int .i64 W',.int .i64 V',.int .i64 U',.int .i64 N',.int .i64 M',.string ⟨s.toArray⟩,.int .i64 fc,.int .i64 sv,.string ⟨t.toArray⟩,.string ⟨h1.toArray⟩,.string ⟨h2.toArray⟩,.string ⟨h3.toArray⟩,.string ⟨h4.toArray⟩,.string ⟨d.toArray⟩,.string ⟨tx.toArray⟩] 82 (0,0))):=by
   show _=_;rw[<-C];exact c.out
  clear C;clear G H I J K c0 s0 c1 s1 c2 s2 c3 s3 c4 s4 c5 s5;have aa:Hid (aV B p M N (bJ lgs) (bS lgs) (bT lgs) L n D1):=HH.out.next W.out;obtain⟨g0,P,g1,Q,c0,s0,c1,s1,_⟩:=aa.out.fresh.frameAt HX.out;obtain⟨g2,R,g3,S,c2,s2,c3,s3,_⟩:=aa.out.fresh.ruleAt HZ.out;obtain⟨g4,U,g5,V,c4,s4,c5,s5,_⟩:=aa.out.fresh.logAt HY.out;unfold bQ at s0 s1 s2 s3 s4 s5;obtain⟨G,H,I,J,K⟩:=jL F.out;go_quiet((go_at_call 114;exact Calls.quiet_of_same (P2.out v1 _)))
  go_wp2_with fail;generalize C:D1.drewN _=D2;have ac:Hid (Below w.heap.size w D2):=by
   show Below _ _ _;rw[<-C];exact W.out.trans ((aT ⟨_,rfl⟩).mono (iT (aM.1 F.out).1))
  have ab:Hid (D2.heap[w.heap.size]?=some (.cells #[.int .i64 kd,.int .i64 W',.int .i64 V',.int .i64 U',.int .i64 N',.int .i64 M',.string ⟨s.toArray⟩,.int .i64 fc,.int .i64 sv,.string ⟨t.toArray⟩,.string ⟨h1.toArray⟩,.string ⟨h2.toArray⟩,.string ⟨h3.toArray⟩,.string ⟨h4.toArray⟩,.string ⟨d.toArray⟩,.string ⟨tx.toArray⟩] 82 (0,0))):=by
   show _=_;rw[<-C];exact F.out
  clear C;clear G H I J K c0 s0 c1 s1 c2 s2 c3 s3 c4 s4 c5 s5;refine Calls.mono (RE.out _ ac.out ab.out) ?_;rintro e ad⟨rfl,k,m⟩;have Y:=show Hid _ from m;clear m;obtain⟨G,H,I,J,K⟩:=jL k;clear k;go_wp2_with fail;refine(RR.out _ Y.out).mono ?_;rintro e ae⟨rfl,A⟩;have Z:=show Hid _ from A;clear G H I J K A;go_wp2_with fail;refine(NU.out _).mono ?_;rintro e af⟨rfl,b⟩;have b:=b.symm;subst b;go_wp2;go_ret;exact⟨rfl,Z.out⟩
 ·go_enter func74,ntmps74;go_wp2_with fail;generalize X:w.alloc _=O;have D:Hid (Below w.heap.size w O):=by
   show Below _ _ _;rw[<-X];exact(aF _ _).alloc (aC _) _
  have c:Hid (O.heap[w.heap.size]?=some (.cells #[.int .i64 kd,.int .i64 W',.int .i64 V',.int .i64 U',.int .i64 N',.int .i64 M',.string ⟨s.toArray⟩,.int .i64 fc,.int .i64 sv,.string ⟨t.toArray⟩,.string ⟨h1.toArray⟩,.string ⟨h2.toArray⟩,.string ⟨h3.toArray⟩,.string ⟨h4.toArray⟩,.string ⟨d.toArray⟩,.string ⟨tx.toArray⟩] 82 (0,0))):=by
   show _=_;rw[<-X];exact heap_alloc_new _ _
  clear X;have g:Hid (aV B p M N (bJ lgs) (bS lgs) (bT lgs) L n O):=HH.out.next D.out;obtain⟨g0,P,g1,Q,c0,s0,c1,s1,_⟩:=g.out.fresh.frameAt HX.out;obtain⟨g2,R,g3,S,c2,s2,c3,s3,_⟩:=g.out.fresh.ruleAt HZ.out;obtain⟨g4,U,g5,V,c4,s4,c5,s5,_⟩:=g.out.fresh.logAt HY.out;unfold bQ at s0 s1 s2 s3 s4 s5;obtain⟨G,H,I,J,K⟩:=jL c.out;go_quiet((go_at_call 114;exact Calls.quiet_of_same (P1.out w1 _)))
  go_wp2_with fail;generalize C:O.drewN _=D1;have W:Hid (Below w.heap.size w D1):=by
   show Below _ _ _;rw[<-C];exact D.out.trans ((aT ⟨_,rfl⟩).mono (iT (aM.1 c.out).1))
  have F:Hid (D1.heap[w.heap.size]?=some (.cells #[.int .i64 kd,.int .i64 W',.int .i64 V',.int .i64 U',.int .i64 N',.int .i64 M',.string ⟨s.toArray⟩,.int .i64 fc,.int .i64 sv,.string ⟨t.toArray⟩,.string ⟨h1.toArray⟩,.string ⟨h2.toArray⟩,.string ⟨h3.toArray⟩,.string ⟨h4.toArray⟩,.string ⟨d.toArray⟩,.string ⟨tx.toArray⟩] 82 (0,0))):=by
   show _=_;rw[<-C];exact c.out
  clear C;clear G H I J K c0 s0 c1 s1 c2 s2 c3 s3 c4 s4 c5 s5;have aa:Hid (aV B p M N (bJ lgs) (bS lgs) (bT lgs) L n D1):=HH.out.next W.out;obtain⟨g0,P,g1,Q,c0,s0,c1,s1,_⟩:=aa.out.fresh.frameAt HX.out;obtain⟨g2,R,g3,S,c2,s2,c3,s3,_⟩:=aa.out.fresh.ruleAt HZ.out;obtain⟨g4,U,g5,V,c4,s4,c5,s5,_⟩:=aa.out.fresh.logAt HY.out;unfold bQ at s0 s1 s2 s3 s4 s5;obtain⟨G,H,I,J,K⟩:=jL F.out;go_quiet((go_at_call 114;exact Calls.quiet_of_same (P2.out v1 _)))
  go_wp2_with fail;generalize C:D1.drewN _=D2;have ac:Hid (Below w.heap.size w D2):=by
   show Below _ _ _;rw[<-C];exact W.out.trans ((aT ⟨_,rfl⟩).mono (iT (aM.1 F.out).1))
  have ab:Hid (D2.heap[w.heap.size]?=some (.cells #[.int .i64 kd,.int .i64 W',.int .i64 V',.int .i64 U',.int .i64 N',.int .i64 M',.string ⟨s.toArray⟩,.int .i64 fc,.int .i64 sv,.string ⟨t.toArray⟩,.string ⟨h1.toArray⟩,.string ⟨h2.toArray⟩,.string ⟨h3.toArray⟩,.string ⟨h4.toArray⟩,.string ⟨d.toArray⟩,.string ⟨tx.toArray⟩] 82 (0,0))):=by
   show _=_;rw[<-C];exact F.out
  clear C;clear G H I J K c0 s0 c1 s1 c2 s2 c3 s3 c4 s4 c5 s5;have aj:Hid (aV B p M N (bJ lgs) (bS lgs) (bT lgs) L n D2):=HH.out.next ac.out;obtain⟨g0,P,g1,Q,c0,s0,c1,s1,_⟩:=aj.out.fresh.frameAt HX.out;obtain⟨g2,R,g3,S,c2,s2,c3,s3,_⟩:=aj.out.fresh.ruleAt HZ.out;obtain⟨g4,U,g5,V,c4,s4,c5,s5,_⟩:=aj.out.fresh.logAt HY.out;unfold bQ at s0 s1 s2 s3 s4 s5;obtain⟨G,H,I,J,K⟩:=jL ab.out;go_quiet((go_at_call 114;exact Calls.quiet_of_same (P3.out u1 _)))
  go_wp2_with fail;generalize C:D2.drewN _=D3;have ao:Hid (Below w.heap.size w D3):=by
   show Below _ _ _;rw[<-C];exact ac.out.trans ((aT ⟨_,rfl⟩).mono (iT (aM.1 ab.out).1))
  have ap:Hid (D3.heap[w.heap.size]?=some (.cells #[.int .i64 kd,.int .i64 W',.int .i64 V',.int .i64 U',.int .i64 N',.int .i64 M',.string ⟨s.toArray⟩,.int .i64 fc,.int .i64 sv,.string ⟨t.toArray⟩,.string ⟨h1.toArray⟩,.string ⟨h2.toArray⟩,.string ⟨h3.toArray⟩,.string ⟨h4.toArray⟩,.string ⟨d.toArray⟩,.string ⟨tx.toArray⟩] 82 (0,0))):=by
   show _=_;rw[<-C];exact ab.out
  clear C;clear G H I J K c0 s0 c1 s1 c2 s2 c3 s3 c4 s4 c5 s5;refine Calls.mono (RE.out _ ao.out ap.out) ?_;rintro e ad⟨rfl,k,m⟩;have Y:=show Hid _ from m;clear m;obtain⟨G,H,I,J,K⟩:=jL k;clear k;go_wp2_with fail;refine(RR.out _ Y.out).mono ?_;rintro e ae⟨rfl,A⟩;have Z:=show Hid _ from A;clear G H I J K A;go_wp2_with fail;refine(NU.out _).mono ?_;rintro e af⟨rfl,b⟩;have b:=b.symm;subst b;go_wp2;go_ret;exact⟨rfl,Z.out⟩
end Go.Proofs.Z
namespace Go.Proofs.Z
open Hm Tryz Go.RowKit Go.Sort
theorem aCJ{B p:Nat}{d:List dJ}{k:List eI}{lgs:List eL}{L n R:Nat}{w:World}(h:aV B p d k (bJ lgs) (bS lgs) (bT lgs) L n w)(hT:aJ w)(o:cK)(hw: -9223372036854775808<=o.w/\o.w<=9223372036854775807)(hv: -9223372036854775808<=o.v/\o.v<=9223372036854775807)(hu: -9223372036854775808<=o.u/\o.u<=9223372036854775807)(f1:0<d.length)(f2:d.length<=4000000000)(r1:0<k.length)(r2:k.length<=4000000000)(l1:0<lgs.length)(l2:lgs.length<=4000000000)(hA:∀x∈d,x.C=x.A/\(x.A++o.s).length<=10000000)(hF:∀y∈lgs,iM R y)(hR:R<=100000000000)(hs:o.s.length<=2000000):
  Calls prog 74 #[.pointer (some ⟨p,0,none⟩),.agg (bA o)] w fun e O=>e= .returned (.bool true)/\Below B w O/\∃(J:List dJ)(lgs':List eL),J.length=d.length/\lgs'.length=lgs.length/\(∀x∈J,x.C=x.A/\∃z∈d,x.A.length<=z.A.length+o.s.length)/\(∀y∈lgs',iM (R+300*o.s.length) y)/\aV B p J k (bJ lgs') (bS lgs') (bT lgs') L n O:=by
 have K:=pF o.w f1;have T:=pF o.v r1;have M:=pF o.u l1;have P1:=fun w=>pG o.w d.length f1 f2 hw.1 hw.2 w;have P2:=fun w=>pG o.v k.length r1 r2 hv.1 hv.2 w;have P3:=fun w=>pG o.u lgs.length l1 l2 hu.1 hu.2 w;generalize iV o.w d.length=i at P1 K;generalize iV o.v k.length=a at P2 T;generalize iV o.u lgs.length=j at P3 M;obtain⟨x,U⟩:∃x,d[i]?=some x:=⟨_,dP K⟩;obtain⟨z,hz⟩:∃z,k[a]?=some z:=⟨_,dP T⟩;obtain⟨y,X⟩:∃y,lgs[j]?=some y:=⟨_,dP M⟩;have P:=hA x (fG U);have m:=hF y (fG X);have Y:B<=w.heap.size:=by have:=h.le;have:=h.lt;omega
 by_cases F:o.w<0∨o.v<0∨o.u<0∨dB o.n=false
 ·obtain⟨f,I,cf⟩:∃f I:Option Addr,(o.w<0/\f=none/\I=none)∨(0<=o.w/\f=some ⟨x.p,0,none⟩/\I=some ⟨x.q,0,none⟩):=by
   by_cases e:o.w<0
   ·exact⟨_,_,.inl ⟨e,rfl,rfl⟩⟩
   ·exact⟨_,_,.inr ⟨by omega,rfl,rfl⟩⟩
  obtain⟨r,r',cr⟩:∃f I:Option Addr,(o.v<0/\f=none/\I=none)∨(0<=o.v/\f=some ⟨z.p,0,none⟩/\I=some ⟨z.q,0,none⟩):=by
   by_cases e:o.v<0
   ·exact⟨_,_,.inl ⟨e,rfl,rfl⟩⟩
   ·exact⟨_,_,.inr ⟨by omega,rfl,rfl⟩⟩
  obtain⟨l,l',cl⟩:∃f I:Option Addr,(o.u<0/\f=none/\I=none)∨(0<=o.u/\f=some ⟨y.p,0,none⟩/\I=some ⟨y.q,0,none⟩):=by
   by_cases e:o.u<0
   ·exact⟨_,_,.inl ⟨e,rfl,rfl⟩⟩
   ·exact⟨_,_,.inr ⟨by omega,rfl,rfl⟩⟩
  have g1:f=none∨r=none∨l=none∨dB o.n=false:=by
   rcases F with e|e|e|e
   ·exact .inl (cf.elim (fun c=>c.2.1) (fun c=>by omega))
   ·exact .inr (.inl (cr.elim (fun c=>c.2.1) (fun c=>by omega)))
   ·exact .inr (.inr (.inl (cl.elim (fun c=>c.2.1) (fun c=>by omega))))
   ·exact .inr (.inr (.inr e))
  have g2:I=none∨r'=none∨l'=none∨dB o.n=false:=by
   rcases F with e|e|e|e
   ·exact .inl (cf.elim (fun c=>c.2.2) (fun c=>by omega))
   ·exact .inr (.inl (cr.elim (fun c=>c.2.2) (fun c=>by omega)))
   ·exact .inr (.inr (.inl (cl.elim (fun c=>c.2.2) (fun c=>by omega))))
   ·exact .inr (.inr (.inr e))
  refine(RA h o i a j U hz X (fun _=>P1) (fun _=>P2) (fun _=>P3) f I r r' l l' cf cr cl [] 10 (fun G=>Below w.heap.size w G) (fun G=>Below w.heap.size w G) (fun O E Z=>?_) (fun O E=>?_)).mono ?_
  ·refine(aCD f r l ⟨o.s.toArray⟩ o.n g1 O).mono ?_;rintro e G⟨rfl,H⟩;exact⟨rfl,(H.block _ (aM.1 Z).1).trans Z,E.trans (H.mono E.size)⟩
  ·refine(aCI I r' l' ⟨o.s.toArray⟩ o.n g2 O).mono ?_;rintro e G⟨rfl,rfl⟩;exact⟨rfl,E⟩
  ·rintro e O⟨rfl,E⟩;exact⟨rfl,E.mono Y,d,lgs,rfl,rfl,fun x U=>⟨(hA x U).1,x,U,by omega⟩,fun y X=>(hF y X).mono (by omega),h.next E⟩
 ·have aa:dB o.n=true:=by
   cases e:dB o.n
   ·exact absurd (.inr (.inr (.inr e))) F
   ·rfl
  have Q:1<=o.n/\o.n<=9999:=by simpa[dB]using aa
  have N:0<=o.w/\0<=o.v/\0<=o.u:=by
   refine⟨Int.not_lt.1 fun e=>F (.inl e),Int.not_lt.1 fun e=>F (.inr (.inl e)),Int.not_lt.1 fun e=>F (.inr (.inr (.inl e)))⟩
  have ae:=wG x.b o.s ((aE.fresh x.b).feed x.A).1;have t:=QZ z.rs o.n y.g m.few (((aE.fresh x.b).feed x.A).1.feed o.s).2;obtain⟨D,W⟩:∃D,dD z.rs o.n y.g (((aE.fresh x.b).feed x.A).1.feed o.s).2=D:=⟨_,rfl⟩;rw[W]at t;refine(RA h o i a j U hz X (fun _=>P1) (fun _=>P2) (fun _=>P3) _ _ _ _ _ _ (.inr ⟨N.1,rfl,rfl⟩) (.inr ⟨N.2.1,rfl,rfl⟩) (.inr ⟨N.2.2,rfl,rfl⟩) D.2 0
   (fun G=>Below B w G/\∃v rv wv,aV B p (d.set i ⟨x.p,x.q,x.b,x.A++o.s,x.C,v⟩) k (bJ (lgs.set j ⟨y.p,y.q,D.1,y.h,y.ls,rv,wv,y.lv⟩)) (bS (lgs.set j ⟨y.p,y.q,D.1,y.h,y.ls,rv,wv,y.lv⟩)) (bT (lgs.set j ⟨y.p,y.q,D.1,y.h,y.ls,rv,wv,y.lv⟩)) L n G)
   (fun G=>Below B w G/\∃v rv wv ls lv,aV B p (d.set i ⟨x.p,x.q,x.b,x.A++o.s,x.C++o.s,v⟩) k (bJ (lgs.set j ⟨y.p,y.q,D.1,D.1,ls,rv,wv,lv⟩)) (bS (lgs.set j ⟨y.p,y.q,D.1,D.1,ls,rv,wv,lv⟩)) (bT (lgs.set j ⟨y.p,y.q,D.1,D.1,ls,rv,wv,lv⟩)) L n G) (fun O E Z=>?_) (fun O hm=>?_)).mono ?_
  ·refine((h.next E).relP (hT.next E) U hz X o.s hs o.n Q.1 Q.2 m hR).mono ?_;rw[W];rintro e G⟨rfl,ab,v,rv,wv,S,H⟩;exact⟨rfl,(ab _ _ _ Z (by decide) (by decide) (by decide) (by decide)).trans Z,(E.mono Y).trans H,v,rv,wv,S⟩
  ·obtain⟨E,v,rv,wv,hl⟩:=hm;have ac:(d.set i ⟨x.p,x.q,x.b,x.A++o.s,x.C,v⟩)[i]?=some ⟨x.p,x.q,x.b,x.A++o.s,x.C,v⟩:=by simp[K]
   have ad:(lgs.set j ⟨y.p,y.q,D.1,y.h,y.ls,rv,wv,y.lv⟩)[j]?=some ⟨y.p,y.q,D.1,y.h,y.ls,rv,wv,y.lv⟩:=by simp[M]
   refine(hl.relR ac hz ad o.s (by rw[show(dJ.mk x.p x.q x.b (x.A++o.s) x.C v).C=x.A from P.1];exact P.2) o.n Q.1 Q.2 (by show y.h.records.length<=_;rw[m.eq];exact cH m.recl hR) (by show y.h.messages<=_;rw[m.eq];exact m.few)).mono ?_;dsimp only;rw[m.eq,P.1,W,List.set_set];rintro e G⟨rfl,ls,lv,S,H⟩;rw[List.set_set]at S;exact⟨rfl,E.trans H,v,rv,wv,ls,lv,S⟩
  ·rintro e O⟨rfl,E,v,rv,wv,ls,lv,hl⟩;refine⟨rfl,E,_,_,by simp,by simp,fun q V=>?_,fun q V=>?_,hl⟩
   ·rcases List.mem_or_eq_of_mem_set V with V|rfl
    ·exact⟨(hA q V).1,q,V,by omega⟩
    ·exact⟨by show x.C++o.s=x.A++o.s;rw[P.1],x,fG U,by simp⟩
   ·rcases List.mem_or_eq_of_mem_set V with V|rfl
    ·exact(hF q V).mono (by omega)
    ·exact⟨rfl,t.2.1,by show D.1.room<=8;rw[t.2.2.1];exact m.room,by have:=t.1;have:=m.recl;show D.1.records.length<=_;omega⟩
end Go.Proofs.Z
namespace Go.Proofs.Z
open Tryz Go.RowKit Go.Sort
attribute [local go_sem] cN cO
theorem fF.relay{b:World}(d:aJ b){D:Option Addr}{ops:List cK}(f:oG 1048576 b D ops){k:Nat}{w:World}{o:cK}(g:ops[k]?=some o)(i:o.kind=12)(h:fF b ops k w):
  Calls prog 41 #[.pointer (some ⟨b.heap.size,0,none⟩),.agg (bA o)] w fun r E=>r= .returned (.bool true)/\fF b ops (k+1) E:=by
 have T:k<ops.length:=(iY.1 g).1;have j:=f.most;have a:=f.small o (fG g);have F:=a.s;have t:=wS g;have u:=cH (AU ops (k+1)) f.sum;obtain⟨W,v⟩:∃W,w.alloc (.cells (bA o) 82)=W:=⟨_,rfl⟩;have l:Below w.heap.size w W:=by rw[<-v];exact(aF _ _).alloc (aC _) _
 have G:=h.next l;obtain⟨H,I,lgs,L,n,J,K,M,N,hA,hF,U,V,A⟩:=G;have O:aJ W:=d.next A;refine J2 _ o i w _ ?_;rw[v];refine(aCJ J O o a.iw a.iv a.iu K.1 (by omega) M.1 (by omega) N.1 (by omega) (fun x c=>⟨(hA x c).1,by have:=(hA x c).2;rw[dL];omega⟩) hF (by omega) (by omega)).mono ?_;rintro e X⟨rfl,m,B,C,Y,Z,hA2,p,q⟩;refine⟨rfl,_,_,_,_,_,q,by omega,by omega,by omega,fun x c=>?_,fun y P=>(p y P).mono (by omega),by omega,by omega,A.trans m⟩;obtain⟨Q,z,R,S⟩:=hA2 x c;have:=(hA z R).2;exact⟨Q,by omega⟩
theorem aCK(l:Option Addr)(ops:List cK)(d:Nat)(w:World)(i:aJ w)(h11:11<=w.heap.size)(g:oG 1048576 w l ops):Calls prog 16 #[.slice l ops.length d] w fun e f=>e= .returned (.bool true)/\Below w.heap.size w f:=by
 have p:Hid (Calls prog 17 #[.slice l ops.length d,.int .i64 1,.int .i64 12] w fun e f=>e= .returned (.bool true)/\Below w.heap.size w f):=J3 1 12 l ops d w (g.mono (by omega)) (fF w ops) (fF.start 1 12 (by omega) ops w i h11)
  (fun k o f m h1 h2 h=>by
   by_cases a:o.kind<=2
   ·exact fF.msgs i g m (by omega) h
   by_cases b:o.kind<=6
   ·exact fF.sorts i h11 g m (by omega) b h
   by_cases c:o.kind<=11
   ·exact fF.logs i g m (by omega) c h
   exact fF.relay i g m (by omega) h) (fun k f q h=>h.more q) (fun k f h=>h.kept) (fun k f h=>h.bel)
 clear g;go_enter func16,ntmps16;go_wp2_with fail;refine p.out.mono ?_;rintro e r⟨rfl,j⟩;have n:Hid (Below w.heap.size w r):=j;clear j;go_wp2;go_ret;exact⟨rfl,n.out⟩
end Go.Proofs.Z

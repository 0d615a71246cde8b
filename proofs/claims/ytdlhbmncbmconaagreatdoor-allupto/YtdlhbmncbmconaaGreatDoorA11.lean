/- Pressed by program out of Bg Rb Rc Dc. -/
import Derived.Test.YtdlhbmncbmconaaGreatDoorA10
namespace Go.Proofs.Z
open Hm Tryz Go.RowKit Go.Sort
attribute [local go_sem] cN cO
set_option maxRecDepth 20000 in
set_option maxHeartbeats 1000000 in
theorem WE(f n:Int)(t h a p i d x:List UInt8)(w:World)(s:aJ w)(lt:t.length<=4000000000)(lh:h.length<=4000000000)(la:a.length<=4000000000)(lp:p.length<=4000000000)(li:i.length<=4000000000)(ld:d.length<=4000000000)(lx:x.length<=4000000000):
  Calls prog 47 #[.agg (aL ⟨f,n,t,h,a,p,i,d,x⟩)] w fun e M=>
   e= .returned (.int .i64 (eP ⟨f,n,t,h,a,p,i,d,x⟩))/\Below w.heap.size w M:=by
 unfold aL;dsimp only;obtain⟨C,hC⟩:∃C,C=zK:=⟨_,rfl⟩;have HI:Hid (∀(k:Nat),k<4->∀w:World,(Instr.index 147 (.agg C) (.int .i64 k)).run prog w= .ok (.agg #[.int .i64 ((aX.getD k (0,0)).1:Nat),.int .i64 ((aX.getD k (0,0)).2:Nat)]) w):=by
  show∀(k:Nat),_;rw[hC];exact FT
 have ag:Hid (C.size=8):=by show _=_;rw[hC];rfl
 have HK:Hid (∀w,aJ w->∃t fr,w.heap[0]?=some (.cells C t fr)):=fun w s=>by rw[hC];exact s.wk
 clear hC;have h4:fH f n=false∨(fH f n=true/\¬t=[]/\eF t=false)∨(fH f n=true/\¬t=[]/\eF t=true)∨(fH f n=true/\t=[]):=by
  cases fH f n
  ·exact .inl rfl
  ·by_cases h:t=[]
   ·exact .inr (.inr (.inr ⟨rfl,h⟩))
   ·cases eF t
    ·exact .inr (.inl ⟨rfl,h,rfl⟩)
    ·exact .inr (.inr (.inl ⟨rfl,h,rfl⟩))
 rcases h4 with h1|⟨h1,ht,hm⟩|⟨h1,ht,hm⟩|⟨h1,ht⟩
 ·have N:Hid (eP ⟨f,n,t,h,a,p,i,d,x⟩=2):=by show _=_;unfold eP;rw[aD h1]
  go_enter func47,ntmps47;go_wp2_with fail;refine(sE f n _).mono ?_;rintro e g⟨rfl,rfl⟩;rw[h1];go_wp2;go_ret;exact⟨by rw[N.out];rfl,(aF _ _).alloc (aC _) _⟩
 ·have N:Hid (eP ⟨f,n,t,h,a,p,i,d,x⟩=3):=by show _=_;unfold eP;rw[aB (by rw[h1];decide),aD ⟨ht,hm⟩]
  have ac:Hid (∀w,aJ w->Calls prog 78 #[.string ⟨t.toArray⟩] w fun e M=>e= .returned (.bool false)/\Below w.heap.size w M):=fun w s=>by
   have:=vS ⟨t.toArray⟩ w s (by rw[lJ];omega)
   rwa [show(⟨t.toArray⟩:ByteArray).data.toList=t from rfl,hm]at this
  have bt:(t==[])=false:=by simpa using ht
  clear ht hm;go_enter func47,ntmps47;go_wp2_with fail;refine(sE f n _).mono ?_;rintro e g⟨rfl,rfl⟩;rw[h1];go_wp2_with fail;refine(ac.out _ (s.alloc _)).mono ?_;rintro e g⟨rfl,hb⟩;go_wp2;go_ret;exact⟨by rw[N.out];rfl,((aF _ _).alloc (aC _) _).trans (hb.mono (by simp))⟩
 ·have ac:Hid (∀w,aJ w->Calls prog 78 #[.string ⟨t.toArray⟩] w fun e M=>e= .returned (.bool true)/\Below w.heap.size w M):=fun w s=>by
   have:=vS ⟨t.toArray⟩ w s (by rw[lJ];omega)
   rwa [show(⟨t.toArray⟩:ByteArray).data.toList=t from rfl,hm]at this
  have N:Hid (eP ⟨f,n,t,h,a,p,i,d,x⟩=lK h a p i d x):=by show _=_;unfold eP;rw[aB (by rw[h1];decide),aB (by rintro⟨_,h⟩;rw[hm]at h;cases h)];rfl
  have bt:(t==[])=false:=by simpa using ht
  clear ht hm;go_enter func47,ntmps47;go_wp2_with fail;refine(sE f n _).mono ?_;rintro e g⟨rfl,rfl⟩;rw[h1];go_wp2_with fail;refine(ac.out _ (s.alloc _)).mono ?_;rintro e g⟨rfl,hb⟩;have l:Hid (g.heap[w.heap.size]?=some (.cells #[.int .i64 f,.int .i64 n,.string ⟨t.toArray⟩,.string ⟨h.toArray⟩,.string ⟨a.toArray⟩,.string ⟨p.toArray⟩,.string ⟨i.toArray⟩,.string ⟨d.toArray⟩,.string ⟨x.toArray⟩] 29 (0,0))):=(hb.block _ (by simp)).trans (heap_alloc_new _ _);have O:Hid (Below w.heap.size w g):=((aF _ _).alloc (aC _) _).trans (hb.mono (by simp));clear hb;have ah:w.heap.size<g.heap.size:=(aM.1 l.out).1;have c3:g.cell? ⟨w.heap.size,3,none⟩=some (.string ⟨h.toArray⟩):=aS _ _ _ _ _ _ l.out;have c4:g.cell? ⟨w.heap.size,4,none⟩=some (.string ⟨a.toArray⟩):=aS _ _ _ _ _ _ l.out;have c5:g.cell? ⟨w.heap.size,5,none⟩=some (.string ⟨p.toArray⟩):=aS _ _ _ _ _ _ l.out;have c6:g.cell? ⟨w.heap.size,6,none⟩=some (.string ⟨i.toArray⟩):=aS _ _ _ _ _ _ l.out;obtain⟨kt,ad,U⟩:=HK.out _ ((s.next O.out).alloc (Obj.cells #[.string ⟨h.toArray⟩,.string ⟨a.toArray⟩,.string ⟨p.toArray⟩,.string ⟨i.toArray⟩] 78));have ae:=aA U;clear U;go_wp2_with(refine cG rfl _ _ rfl 0 rfl _ _ _ _ ae.out underlying147 rfl (by rw[ag.out];exact vV) ?_);clear c3 c4 c5 c6;go_loopw [31] (fun ix wr=>∃k:Nat,k<=4/\ix= .int .i64 k/\cY (aX.drop k) ([h,a,p,i].drop k)=cY aX [h,a,p,i]/\wr.heap[w.heap.size]?=some (.cells #[.int .i64 f,.int .i64 n,.string ⟨t.toArray⟩,.string ⟨h.toArray⟩,.string ⟨a.toArray⟩,.string ⟨p.toArray⟩,.string ⟨i.toArray⟩,.string ⟨d.toArray⟩,.string ⟨x.toArray⟩] 29 (0,0))/\wr.heap[g.heap.size]?=some (.cells #[.string ⟨h.toArray⟩,.string ⟨a.toArray⟩,.string ⟨p.toArray⟩,.string ⟨i.toArray⟩] 78 (0,0))/\Below w.heap.size w wr) (fun ix _=>4-(intOf ix).toNat)
  case atStart=>
   exact⟨0,by omega,rfl,rfl,(heap_alloc_old _ _ (by omega)).trans l.out,heap_alloc_new _ _,O.out.alloc O.out.size _⟩
  case round=>
   obtain⟨k,ai,rfl,hv,q0,qW,V⟩:=hrel;have HV:=aA hv;have S:=aA q0;have QW:=aA qW;have c:=aA V;have D:g.heap.size<wr.heap.size:=(aM.1 qW).1;clear hv q0 qW V;by_cases X:k<4
   ·have Y:=HI.out k X;obtain⟨most,B,u⟩:∃most B,aX.getD k (0,0)=(most,B):=⟨_,_,rfl⟩;have af:most<=32:=by rcases(by omega:k=0∨k=1∨k=2∨k=3)with h|h|h|h <;> rw[h]at u <;> cases u <;> omega
    rw[u]at Y;dsimp only at Y;obtain⟨y,hy⟩:∃y,[h,a,p,i].getD k []=y:=⟨_,rfl⟩;have aj:y.length<=4000000000:=by rw[<-hy];rcases(by omega:k=0∨k=1∨k=2∨k=3)with h|h|h|h <;> subst h <;> assumption
    have cw:∀T:World,Below wr.heap.size wr T->T.cell? ⟨g.heap.size,k,none⟩=some (.string ⟨y.toArray⟩):=fun T hq=>by
     have q:=(hq.block _ D).trans QW.out;rw[<-hy];rcases(by omega:k=0∨k=1∨k=2∨k=3)with h|h|h|h <;> subst h <;> exact aS _ _ _ _ _ _ q
    have E:=zL X (show[h,a,p,i].length=4 from rfl);rw[hy,u,HV.out]at E;dsimp only at E;have P:=aA E;clear E hy u;have CW:=aA cw;clear cw;by_cases o:y=[]
    ·have Q:Hid (cY (aX.drop (k+1)) ([h,a,p,i].drop (k+1))=cY aX [h,a,p,i]):=by
      show _=_;rw[P.out,aB (by rintro⟨h,_⟩;exact h o)]
     subst o;go_wp2_with fail;obtain⟨W,m⟩:∃W,wr.alloc (Obj.cells #[.int .i64 most,.int .i64 B] 146)=W:=⟨_,rfl⟩;have b:Hid (Below wr.heap.size wr W):=m▸(aF _ _).alloc (aC _) _;obtain⟨c0,c1⟩:=oA (show W.heap[wr.heap.size]?=some (.cells #[.int .i64 most,.int .i64 B] 146 (0,0))from m▸heap_alloc_new _ _);have cW:=CW.out _ b.out;have v:Hid (Below w.heap.size w W):=Below.next c.out (aC _) b.out;have F:Hid (W.heap[w.heap.size]?=some (.cells #[.int .i64 f,.int .i64 n,.string ⟨t.toArray⟩,.string ⟨h.toArray⟩,.string ⟨a.toArray⟩,.string ⟨p.toArray⟩,.string ⟨i.toArray⟩,.string ⟨d.toArray⟩,.string ⟨x.toArray⟩] 29 (0,0))):=(b.out.block _ (by omega)).trans S.out;have G:Hid (W.heap[g.heap.size]?=some (.cells #[.string ⟨h.toArray⟩,.string ⟨a.toArray⟩,.string ⟨p.toArray⟩,.string ⟨i.toArray⟩] 78 (0,0))):=(b.out.block _ D).trans QW.out;rw[m];clear m;go_quiet(fail)
     go_wp2;go_roundw;case rel=>exact⟨k+1,by omega,aY (by simp),Q.out,F.out,G.out,Below.next v.out (aC _) (aT ⟨_,rfl⟩)⟩
     case measure=>simp[intOf];omega
    ·have ak:(y==[])=false:=by simpa using o
     have H:Hid (∀w,Calls prog 79 #[.string ⟨y.toArray⟩,.int .i64 most] w fun e M=>e= .returned (.bool (bX y most))/\M=w):=fun w=>
      tL ⟨y.toArray⟩ most w (by rw[lJ];omega) (by omega)
     cases I:bX y most
     ·have Z:Hid (lK h a p i d x=B):=by
       show _=_;rw[FV (by rw[P.out,aD ⟨o,I⟩])]
      rw[I]at H;clear o;go_wp2_with fail;obtain⟨W,m⟩:∃W,wr.alloc (Obj.cells #[.int .i64 most,.int .i64 B] 146)=W:=⟨_,rfl⟩;have b:Hid (Below wr.heap.size wr W):=m▸(aF _ _).alloc (aC _) _;obtain⟨c0,c1⟩:=oA (show W.heap[wr.heap.size]?=some (.cells #[.int .i64 most,.int .i64 B] 146 (0,0))from m▸heap_alloc_new _ _);have cW:=CW.out _ b.out;have v:Hid (Below w.heap.size w W):=Below.next c.out (aC _) b.out;have F:Hid (W.heap[w.heap.size]?=some (.cells #[.int .i64 f,.int .i64 n,.string ⟨t.toArray⟩,.string ⟨h.toArray⟩,.string ⟨a.toArray⟩,.string ⟨p.toArray⟩,.string ⟨i.toArray⟩,.string ⟨d.toArray⟩,.string ⟨x.toArray⟩] 29 (0,0))):=(b.out.block _ (by omega)).trans S.out;have G:Hid (W.heap[g.heap.size]?=some (.cells #[.string ⟨h.toArray⟩,.string ⟨a.toArray⟩,.string ⟨p.toArray⟩,.string ⟨i.toArray⟩] 78 (0,0))):=(b.out.block _ D).trans QW.out;rw[m];clear m;go_quiet((go_at_call 79;exact Calls.quiet_of_same (H.out _)))
      go_wp2;go_ret;exact⟨by rw[N.out,Z.out];rfl,Below.next v.out (aC _) (aT ⟨_,rfl⟩)⟩
     ·have Q:Hid (cY (aX.drop (k+1)) ([h,a,p,i].drop (k+1))=cY aX [h,a,p,i]):=by
       show _=_;rw[P.out,aB (by rintro⟨_,h⟩;rw[I]at h;cases h)]
      rw[I]at H;clear o;go_wp2_with fail;obtain⟨W,m⟩:∃W,wr.alloc (Obj.cells #[.int .i64 most,.int .i64 B] 146)=W:=⟨_,rfl⟩;have b:Hid (Below wr.heap.size wr W):=m▸(aF _ _).alloc (aC _) _;obtain⟨c0,c1⟩:=oA (show W.heap[wr.heap.size]?=some (.cells #[.int .i64 most,.int .i64 B] 146 (0,0))from m▸heap_alloc_new _ _);have cW:=CW.out _ b.out;have v:Hid (Below w.heap.size w W):=Below.next c.out (aC _) b.out;have F:Hid (W.heap[w.heap.size]?=some (.cells #[.int .i64 f,.int .i64 n,.string ⟨t.toArray⟩,.string ⟨h.toArray⟩,.string ⟨a.toArray⟩,.string ⟨p.toArray⟩,.string ⟨i.toArray⟩,.string ⟨d.toArray⟩,.string ⟨x.toArray⟩] 29 (0,0))):=(b.out.block _ (by omega)).trans S.out;have G:Hid (W.heap[g.heap.size]?=some (.cells #[.string ⟨h.toArray⟩,.string ⟨a.toArray⟩,.string ⟨p.toArray⟩,.string ⟨i.toArray⟩] 78 (0,0))):=(b.out.block _ D).trans QW.out;rw[m];clear m;go_quiet((go_at_call 79;exact Calls.quiet_of_same (H.out _)))
      go_wp2;go_roundw;case rel=>exact⟨k+1,by omega,aY (by simp),Q.out,F.out,G.out,Below.next v.out (aC _) (aT ⟨_,rfl⟩)⟩
      case measure=>simp[intOf];omega
   ·have hk:k=4:=by omega
    subst hk;have Z:Hid (lK h a p i d x=if¬d=[]/\jA d=false then 8 else if bO x=false then 9 else 0):=FW (by rw[<-HV.out];rfl);have c7:wr.cell? ⟨w.heap.size,7,none⟩=some (.string ⟨d.toArray⟩):=aS _ _ _ _ _ _ S.out;have c8:wr.cell? ⟨w.heap.size,8,none⟩=some (.string ⟨x.toArray⟩):=aS _ _ _ _ _ _ S.out;have aa:Hid (∀w,aJ w->Calls prog 55 #[.string ⟨x.toArray⟩] w fun e M=>e= .returned (.bool (bO x))/\Below w.heap.size w M):=fun w s=>
     pY ⟨x.toArray⟩ w s (by rw[lJ];omega)
    by_cases r:d=[]
    ·have j:Hid (lK h a p i d x=if bO x=false then 9 else 0):=by show _=_;rw[Z.out,aB (by rintro⟨h,_⟩;exact h r)]
     subst r;go_wp2_with fail;refine(aa.out _ (s.next c.out)).mono ?_;rintro e w9⟨rfl,z⟩;cases A:bO x
     ·go_wp2;go_ret;exact⟨by rw[N.out,j.out,aD A];rfl,Below.next c.out (aC _) z⟩
     ·go_wp2;go_ret;exact⟨by rw[N.out,j.out,aB (by rw[A];decide)];rfl,Below.next c.out (aC _) z⟩
    ·have al:(d==[])=false:=by simpa using r
     have J:Hid (∀w,aJ w->Calls prog 80 #[.string ⟨d.toArray⟩] w fun e M=>e= .returned (.bool (jA d))/\Below w.heap.size w M):=fun w s=>
      FG ⟨d.toArray⟩ (by rw[lJ];omega) w s
     cases K:jA d
     ·rw[K]at J;have j:Hid (lK h a p i d x=8):=by show _=_;rw[Z.out,aD ⟨r,K⟩]
      clear r;go_wp2_with fail;refine(J.out _ (s.next c.out)).mono ?_;rintro e w8⟨rfl,L⟩;go_wp2;go_ret;exact⟨by rw[N.out,j.out];rfl,Below.next c.out (aC _) L⟩
     ·rw[K]at J;have j:Hid (lK h a p i d x=if bO x=false then 9 else 0):=by show _=_;rw[Z.out,aB (by rintro⟨_,h⟩;rw[K]at h;cases h)]
      clear r c8;go_wp2_with fail;refine(J.out _ (s.next c.out)).mono ?_;rintro e w8⟨rfl,L⟩;have R:Hid (Below w.heap.size w w8):=Below.next c.out (aC _) L;have c8:w8.cell? ⟨w.heap.size,8,none⟩=some (.string ⟨x.toArray⟩):=aS _ _ _ _ _ _ ((L.block _ (by omega)).trans S.out);go_wp2_with fail;refine(aa.out _ (s.next R.out)).mono ?_;rintro e w9⟨rfl,z⟩;cases A:bO x
      ·go_wp2;go_ret;exact⟨by rw[N.out,j.out,aD A];rfl,Below.next R.out (aC _) z⟩
      ·go_wp2;go_ret;exact⟨by rw[N.out,j.out,aB (by rw[A];decide)];rfl,Below.next R.out (aC _) z⟩
 ·have N:Hid (eP ⟨f,n,t,h,a,p,i,d,x⟩=lK h a p i d x):=by show _=_;unfold eP;rw[aB (by rw[h1];decide),aB (by rintro⟨h,_⟩;exact h ht)];rfl
  have bt:(t==[])=true:=by simpa using ht
  clear ht;go_enter func47,ntmps47;go_wp2_with fail;refine(sE f n _).mono ?_;rintro e g⟨rfl,rfl⟩;rw[h1];obtain⟨g,ab⟩:∃g,w.alloc (.cells #[.int .i64 f,.int .i64 n,.string ⟨t.toArray⟩,.string ⟨h.toArray⟩,.string ⟨a.toArray⟩,.string ⟨p.toArray⟩,.string ⟨i.toArray⟩,.string ⟨d.toArray⟩,.string ⟨x.toArray⟩] 29)=g:=⟨_,rfl⟩;have l:Hid (g.heap[w.heap.size]?=some (.cells #[.int .i64 f,.int .i64 n,.string ⟨t.toArray⟩,.string ⟨h.toArray⟩,.string ⟨a.toArray⟩,.string ⟨p.toArray⟩,.string ⟨i.toArray⟩,.string ⟨d.toArray⟩,.string ⟨x.toArray⟩] 29 (0,0))):=ab▸heap_alloc_new _ _;have O:Hid (Below w.heap.size w g):=ab▸(aF _ _).alloc (aC _) _;have c2:g.cell? ⟨w.heap.size,2,none⟩=some (.string ⟨t.toArray⟩):=aS _ _ _ _ _ _ l.out;rw[ab];clear ab;have ah:w.heap.size<g.heap.size:=(aM.1 l.out).1;have c3:g.cell? ⟨w.heap.size,3,none⟩=some (.string ⟨h.toArray⟩):=aS _ _ _ _ _ _ l.out;have c4:g.cell? ⟨w.heap.size,4,none⟩=some (.string ⟨a.toArray⟩):=aS _ _ _ _ _ _ l.out;have c5:g.cell? ⟨w.heap.size,5,none⟩=some (.string ⟨p.toArray⟩):=aS _ _ _ _ _ _ l.out;have c6:g.cell? ⟨w.heap.size,6,none⟩=some (.string ⟨i.toArray⟩):=aS _ _ _ _ _ _ l.out;obtain⟨kt,ad,U⟩:=HK.out _ ((s.next O.out).alloc (Obj.cells #[.string ⟨h.toArray⟩,.string ⟨a.toArray⟩,.string ⟨p.toArray⟩,.string ⟨i.toArray⟩] 78));have ae:=aA U;clear U;go_wp2_with(refine cG rfl _ _ rfl 0 rfl _ _ _ _ ae.out underlying147 rfl (by rw[ag.out];exact vV) ?_);clear c3 c4 c5 c6;go_loopw [31] (fun ix wr=>∃k:Nat,k<=4/\ix= .int .i64 k/\cY (aX.drop k) ([h,a,p,i].drop k)=cY aX [h,a,p,i]/\wr.heap[w.heap.size]?=some (.cells #[.int .i64 f,.int .i64 n,.string ⟨t.toArray⟩,.string ⟨h.toArray⟩,.string ⟨a.toArray⟩,.string ⟨p.toArray⟩,.string ⟨i.toArray⟩,.string ⟨d.toArray⟩,.string ⟨x.toArray⟩] 29 (0,0))/\wr.heap[g.heap.size]?=some (.cells #[.string ⟨h.toArray⟩,.string ⟨a.toArray⟩,.string ⟨p.toArray⟩,.string ⟨i.toArray⟩] 78 (0,0))/\Below w.heap.size w wr) (fun ix _=>4-(intOf ix).toNat)
  case atStart=>
   exact⟨0,by omega,rfl,rfl,(heap_alloc_old _ _ (by omega)).trans l.out,heap_alloc_new _ _,O.out.alloc O.out.size _⟩
  case round=>
   obtain⟨k,ai,rfl,hv,q0,qW,V⟩:=hrel;have HV:=aA hv;have S:=aA q0;have QW:=aA qW;have c:=aA V;have D:g.heap.size<wr.heap.size:=(aM.1 qW).1;clear hv q0 qW V;by_cases X:k<4
   ·have Y:=HI.out k X;obtain⟨most,B,u⟩:∃most B,aX.getD k (0,0)=(most,B):=⟨_,_,rfl⟩;have af:most<=32:=by rcases(by omega:k=0∨k=1∨k=2∨k=3)with h|h|h|h <;> rw[h]at u <;> cases u <;> omega
    rw[u]at Y;dsimp only at Y;obtain⟨y,hy⟩:∃y,[h,a,p,i].getD k []=y:=⟨_,rfl⟩;have aj:y.length<=4000000000:=by rw[<-hy];rcases(by omega:k=0∨k=1∨k=2∨k=3)with h|h|h|h <;> subst h <;> assumption
    have cw:∀T:World,Below wr.heap.size wr T->T.cell? ⟨g.heap.size,k,none⟩=some (.string ⟨y.toArray⟩):=fun T hq=>by
     have q:=(hq.block _ D).trans QW.out;rw[<-hy];rcases(by omega:k=0∨k=1∨k=2∨k=3)with h|h|h|h <;> subst h <;> exact aS _ _ _ _ _ _ q
    have E:=zL X (show[h,a,p,i].length=4 from rfl);rw[hy,u,HV.out]at E;dsimp only at E;have P:=aA E;clear E hy u;have CW:=aA cw;clear cw;by_cases o:y=[]
    ·have Q:Hid (cY (aX.drop (k+1)) ([h,a,p,i].drop (k+1))=cY aX [h,a,p,i]):=by
      show _=_;rw[P.out,aB (by rintro⟨h,_⟩;exact h o)]
     subst o;go_wp2_with fail;obtain⟨W,m⟩:∃W,wr.alloc (Obj.cells #[.int .i64 most,.int .i64 B] 146)=W:=⟨_,rfl⟩;have b:Hid (Below wr.heap.size wr W):=m▸(aF _ _).alloc (aC _) _;obtain⟨c0,c1⟩:=oA (show W.heap[wr.heap.size]?=some (.cells #[.int .i64 most,.int .i64 B] 146 (0,0))from m▸heap_alloc_new _ _);have cW:=CW.out _ b.out;have v:Hid (Below w.heap.size w W):=Below.next c.out (aC _) b.out;have F:Hid (W.heap[w.heap.size]?=some (.cells #[.int .i64 f,.int .i64 n,.string ⟨t.toArray⟩,.string ⟨h.toArray⟩,.string ⟨a.toArray⟩,.string ⟨p.toArray⟩,.string ⟨i.toArray⟩,.string ⟨d.toArray⟩,.string ⟨x.toArray⟩] 29 (0,0))):=(b.out.block _ (by omega)).trans S.out;have G:Hid (W.heap[g.heap.size]?=some (.cells #[.string ⟨h.toArray⟩,.string ⟨a.toArray⟩,.string ⟨p.toArray⟩,.string ⟨i.toArray⟩] 78 (0,0))):=(b.out.block _ D).trans QW.out;rw[m];clear m;go_quiet(fail)
     go_wp2;go_roundw;case rel=>exact⟨k+1,by omega,aY (by simp),Q.out,F.out,G.out,Below.next v.out (aC _) (aT ⟨_,rfl⟩)⟩
     case measure=>simp[intOf];omega
    ·have ak:(y==[])=false:=by simpa using o
     have H:Hid (∀w,Calls prog 79 #[.string ⟨y.toArray⟩,.int .i64 most] w fun e M=>e= .returned (.bool (bX y most))/\M=w):=fun w=>
      tL ⟨y.toArray⟩ most w (by rw[lJ];omega) (by omega)
     cases I:bX y most
     ·have Z:Hid (lK h a p i d x=B):=by
       show _=_;rw[FV (by rw[P.out,aD ⟨o,I⟩])]
      rw[I]at H;clear o;go_wp2_with fail;obtain⟨W,m⟩:∃W,wr.alloc (Obj.cells #[.int .i64 most,.int .i64 B] 146)=W:=⟨_,rfl⟩;have b:Hid (Below wr.heap.size wr W):=m▸(aF _ _).alloc (aC _) _;obtain⟨c0,c1⟩:=oA (show W.heap[wr.heap.size]?=some (.cells #[.int .i64 most,.int .i64 B] 146 (0,0))from m▸heap_alloc_new _ _);have cW:=CW.out _ b.out;have v:Hid (Below w.heap.size w W):=Below.next c.out (aC _) b.out;have F:Hid (W.heap[w.heap.size]?=some (.cells #[.int .i64 f,.int .i64 n,.string ⟨t.toArray⟩,.string ⟨h.toArray⟩,.string ⟨a.toArray⟩,.string ⟨p.toArray⟩,.string ⟨i.toArray⟩,.string ⟨d.toArray⟩,.string ⟨x.toArray⟩] 29 (0,0))):=(b.out.block _ (by omega)).trans S.out;have G:Hid (W.heap[g.heap.size]?=some (.cells #[.string ⟨h.toArray⟩,.string ⟨a.toArray⟩,.string ⟨p.toArray⟩,.string ⟨i.toArray⟩] 78 (0,0))):=(b.out.block _ D).trans QW.out;rw[m];clear m;go_quiet((go_at_call 79;exact Calls.quiet_of_same (H.out _)))
      go_wp2;go_ret;exact⟨by rw[N.out,Z.out];rfl,Below.next v.out (aC _) (aT ⟨_,rfl⟩)⟩
     ·have Q:Hid (cY (aX.drop (k+1)) ([h,a,p,i].drop (k+1))=cY aX [h,a,p,i]):=by
       show _=_;rw[P.out,aB (by rintro⟨_,h⟩;rw[I]at h;cases h)]
      rw[I]at H;clear o;go_wp2_with fail;obtain⟨W,m⟩:∃W,wr.alloc (Obj.cells #[.int .i64 most,.int .i64 B] 146)=W:=⟨_,rfl⟩;have b:Hid (Below wr.heap.size wr W):=m▸(aF _ _).alloc (aC _) _;obtain⟨c0,c1⟩:=oA (show W.heap[wr.heap.size]?=some (.cells #[.int .i64 most,.int .i64 B] 146 (0,0))from m▸heap_alloc_new _ _);have cW:=CW.out _ b.out;have v:Hid (Below w.heap.size w W):=Below.next c.out (aC _) b.out;have F:Hid (W.heap[w.heap.size]?=some (.cells #[.int .i64 f,.int .i64 n,.string ⟨t.toArray⟩,.string ⟨h.toArray⟩,.string ⟨a.toArray⟩,.string ⟨p.toArray⟩,.string ⟨i.toArray⟩,.string ⟨d.toArray⟩,.string ⟨x.toArray⟩] 29 (0,0))):=(b.out.block _ (by omega)).trans S.out;have G:Hid (W.heap[g.heap.size]?=some (.cells #[.string ⟨h.toArray⟩,.string ⟨a.toArray⟩,.string ⟨p.toArray⟩,.string ⟨i.toArray⟩] 78 (0,0))):=(b.out.block _ D).trans QW.out;rw[m];clear m;go_quiet((go_at_call 79;exact Calls.quiet_of_same (H.out _)))
      go_wp2;go_roundw;case rel=>exact⟨k+1,by omega,aY (by simp),Q.out,F.out,G.out,Below.next v.out (aC _) (aT ⟨_,rfl⟩)⟩
      case measure=>simp[intOf];omega
   ·have hk:k=4:=by omega
    subst hk;have Z:Hid (lK h a p i d x=if¬d=[]/\jA d=false then 8 else if bO x=false then 9 else 0):=FW (by rw[<-HV.out];rfl);have c7:wr.cell? ⟨w.heap.size,7,none⟩=some (.string ⟨d.toArray⟩):=aS _ _ _ _ _ _ S.out;have c8:wr.cell? ⟨w.heap.size,8,none⟩=some (.string ⟨x.toArray⟩):=aS _ _ _ _ _ _ S.out;have aa:Hid (∀w,aJ w->Calls prog 55 #[.string ⟨x.toArray⟩] w fun e M=>e= .returned (.bool (bO x))/\Below w.heap.size w M):=fun w s=>
     pY ⟨x.toArray⟩ w s (by rw[lJ];omega)
    by_cases r:d=[]
    ·have j:Hid (lK h a p i d x=if bO x=false then 9 else 0):=by show _=_;rw[Z.out,aB (by rintro⟨h,_⟩;exact h r)]
     subst r;go_wp2_with fail;refine(aa.out _ (s.next c.out)).mono ?_;rintro e w9⟨rfl,z⟩;cases A:bO x
     ·go_wp2;go_ret;exact⟨by rw[N.out,j.out,aD A];rfl,Below.next c.out (aC _) z⟩
     ·go_wp2;go_ret;exact⟨by rw[N.out,j.out,aB (by rw[A];decide)];rfl,Below.next c.out (aC _) z⟩
    ·have al:(d==[])=false:=by simpa using r
     have J:Hid (∀w,aJ w->Calls prog 80 #[.string ⟨d.toArray⟩] w fun e M=>e= .returned (.bool (jA d))/\Below w.heap.size w M):=fun w s=>
      FG ⟨d.toArray⟩ (by rw[lJ];omega) w s
     cases K:jA d
     ·rw[K]at J;have j:Hid (lK h a p i d x=8):=by show _=_;rw[Z.out,aD ⟨r,K⟩]
      clear r;go_wp2_with fail;refine(J.out _ (s.next c.out)).mono ?_;rintro e w8⟨rfl,L⟩;go_wp2;go_ret;exact⟨by rw[N.out,j.out];rfl,Below.next c.out (aC _) L⟩
     ·rw[K]at J;have j:Hid (lK h a p i d x=if bO x=false then 9 else 0):=by show _=_;rw[Z.out,aB (by rintro⟨_,h⟩;rw[K]at h;cases h)]
      clear r c8;go_wp2_with fail;refine(J.out _ (s.next c.out)).mono ?_;rintro e w8⟨rfl,L⟩;have R:Hid (Below w.heap.size w w8):=Below.next c.out (aC _) L;have c8:w8.cell? ⟨w.heap.size,8,none⟩=some (.string ⟨x.toArray⟩):=aS _ _ _ _ _ _ ((L.block _ (by omega)).trans S.out);go_wp2_with fail;refine(aa.out _ (s.next R.out)).mono ?_;rintro e w9⟨rfl,z⟩;cases A:bO x
      ·go_wp2;go_ret;exact⟨by rw[N.out,j.out,aD A];rfl,Below.next R.out (aC _) z⟩
      ·go_wp2;go_ret;exact⟨by rw[N.out,j.out,aB (by rw[A];decide)];rfl,Below.next R.out (aC _) z⟩
end Go.Proofs.Z
namespace Go.Proofs.Z
open Tryz Go.RowKit Go.Sort
attribute [local go_sem] cN cO
def kE(xs:List ByteArray):Int:=(xs.map (fun x:ByteArray=>(x.size:Int))).sum
theorem WF(xs:List ByteArray)(k:Nat)(x:ByteArray)(h:xs[k]?=some x):kE (xs.take (k+1))=kE (xs.take k)+x.size:=by
 rw[pS,h];simp[kE]
theorem WG(xs:List ByteArray)(b:∀x∈xs,x.size<=4000000000):0<=kE xs/\kE xs<=4000000000*xs.length:=by
 induction xs with
 |nil=>exact⟨by simp[kE],by simp[kE]⟩
 |cons a l ih=>
  have:=ih (fun x h=>b x (List.mem_cons_of_mem _ h));have c:=b a List.mem_cons_self;simp only[kE,jX,List.sum_cons,bU]at this⊢;omega
theorem WH(l c:Nat)(xs:List ByteArray)(w:World)(m:∀(j:Nat) x,xs[j]?=some x->w.cell? ⟨l,j,none⟩=some (.string x))(z:xs.length<=100)(g:∀x∈xs,x.size<=4000000000):
  Calls prog 49 #[.slice (some ⟨l,0,none⟩) xs.length c] w fun e n=>e= .returned (.int .i64 (kE xs+xs.length-1))/\n=w:=by
 go_enter func49,ntmps49;go_wp2_with fail;go_loopw [3,11] (fun o h wr=>∃k:Nat,k<=xs.length/\h= .int .i64 k/\o= .int .i64 ((xs.length:Int)-1+kE (xs.take k))/\wr=w) (fun _ h _=>xs.length-(intOf h).toNat)
 case atStart=>exact⟨0,by omega,rfl,aY (by simp[kE]),rfl⟩
 case round=>
  obtain⟨k,A,rfl,rfl,rfl⟩:=hrel;by_cases i:k<xs.length
  ·obtain⟨x,a⟩:∃x,xs[k]?=some x:=⟨_,dP i⟩;have p:=m k x a;have q:x.size<=4000000000:=g x (fG a);have f:Hid (kE (xs.take (k+1))=kE (xs.take k)+x.size):=WF xs k x a;have b:=WG (xs.take k) (fun y r=>g y (List.mem_of_mem_take r));have s:((xs.take k).length:Int)<=100:=by rw[eJ];omega
   generalize kE (xs.take k)=S at f b⊢;have B:S<=400000000000:=by omega
   have t:=b.1;have u:(k:Int)<(xs.length:Int):=by omega
   clear b s m g a;go_wp2;go_roundw;case rel=>exact⟨k+1,by omega,aY (by simp),aY (by rw[f.out];omega),trivial⟩
   case measure=>simp[intOf];omega
  ·have d:k=xs.length:=by omega
   have v:¬(k:Int)<(xs.length:Int):=by omega
   have f:Hid (kE (xs.take k)=kE xs):=by show _=_;rw[d,List.take_length]
   clear d;go_wp2;go_ret;exact⟨by rw[f.out];exact oX (by omega),rfl⟩
end Go.Proofs.Z
namespace Go.Proofs.Z
open Hm Tryz Go.RowKit Go.Sort
attribute [local go_sem] cN cO
theorem qZ:(prog.info? 9).map (fun i=>(i.zero,i.size,i.bytes))=some (some (.string ByteArray.empty),1,16):=by kernel_rfl
def aU(l:List UInt8):Value:= .string ⟨l.toArray⟩
def mT(D:List UInt8)(six:List (List UInt8))(k:Nat):List (List UInt8):=([60]++D++[62,49])::(six.take k).map Hm.told
theorem WK(D:List UInt8)(a:List (List UInt8))(k:Nat)(h:k<a.length):mT D a (k+1)=mT D a k++[Hm.told (a.getD k [])]:=by
 unfold mT;rw[pS,gQ,dP h,iN];rfl
theorem WL(D:List UInt8)(a:List (List UInt8))(d:D.length<=3)(h:∀l∈a,l.length<=4000000000):∀l∈mT D a 6,l.length<=4000000000:=by
 intro l b;unfold mT at b;rcases jY.1 b with h1|h1
 ·subst h1;simp;omega
 ·obtain⟨y,c,rfl⟩:=List.mem_map.1 h1;have:=h y (List.mem_of_mem_take c);unfold Hm.told;split
  ·decide
  ·exact this
theorem WM(D:List UInt8):(⟨#[60]⟩++⟨D.toArray⟩++⟨#[62,49]⟩:ByteArray)=⟨([60]++D++[62,49]).toArray⟩:=by
 rw[show(⟨#[60]⟩:ByteArray)=⟨[60].toArray⟩from rfl,show(⟨#[62,49]⟩:ByteArray)=⟨[62,49].toArray⟩from rfl,ByteArray.mk_append_mk,ByteArray.mk_append_mk]
theorem WN(t h a p i d:List UInt8)(k:Nat)(b:k<6)(w:World):(Instr.index 88 (.agg #[.string ⟨t.toArray⟩,.string ⟨h.toArray⟩,.string ⟨a.toArray⟩,.string ⟨p.toArray⟩,.string ⟨i.toArray⟩,.string ⟨d.toArray⟩]) (.int .i64 k)).run prog w= .ok (aU ([t,h,a,p,i,d].getD k [])) w:=by
 rcases(by omega:k=0∨k=1∨k=2∨k=3∨k=4∨k=5)with h|h|h|h|h|h <;> subst h <;> kernel_rfl
theorem WP(L:List (List UInt8)):kE (L.map (fun l=>(⟨l.toArray⟩:ByteArray)))+((L.map (fun l=>(⟨l.toArray⟩:ByteArray))).length:Int)-1=mH L:=by
 unfold kE mH;rw[List.map_map,eS];rfl
theorem GD(L:List (List UInt8)):(L.map (fun l=>(⟨l.toArray⟩:ByteArray))).map (·.data.toList)=L:=by
 rw[List.map_map];exact List.map_id L
theorem zN{w:World}{b g n d:Nat}{L:List (List UInt8)}(h:w.ownsRow b 9 1 (.slice (some ⟨g,0,none⟩) n d) n (L.map aU))(j:Nat)(s:ByteArray)(a:(L.map (fun l=>(⟨l.toArray⟩:ByteArray)))[j]?=some s):w.cell? ⟨g,j,none⟩=some (.string s):=by
 have:=h.cells (g:=g) rfl j (.string s) (by
  rw[List.getElem?_map]at a⊢;cases c:L[j]? with
  |none=>rw[c]at a;cases a
  |some l=>rw[c]at a;cases a;rfl)
 have e:(⟨g,0,none⟩:Addr).add j=⟨g,j,none⟩:=by unfold Addr.add;simp;omega
 rwa [e]at this
theorem zO{w:World}{b g n a:Nat}{L:List (List UInt8)}(h:w.ownsRow b 9 1 (.slice (some ⟨g,0,none⟩) n a) n (L.map aU))(j:n<=100)(d:∀l∈L,l.length<=4000000000):
  Calls prog 49 #[.slice (some ⟨g,0,none⟩) n a] w fun e f=>e= .returned (.int .i64 (mH L))/\f=w:=by
 have c:(L.map (fun l=>(⟨l.toArray⟩:ByteArray))).length=n:=by have:=h.1;rw[eS]at this⊢;omega
 have:=WH g a (L.map (fun l=>(⟨l.toArray⟩:ByteArray))) w (zN h) (by omega) (fun s i=>by
  obtain⟨l,c,rfl⟩:=List.mem_map.1 i;rw[lJ];exact d l c)
 rw[WP,c]at this;exact this
theorem GF{w:World}{b g n d:Nat}{a:List UInt8}{L:List (List UInt8)}(h:w.ownsRow b 9 1 (.slice (some ⟨g,0,none⟩) n d) n ((a::L).map aU))(p:n<=100)(q:mH (a::L)<=200):
  Calls prog 50 #[.slice (some ⟨g,0,none⟩) n d,.string ⟨#[32]⟩] w fun e f=>e= .returned (.string ⟨(Lib.join (a::L) [32]).toArray⟩)/\Below w.heap.size w f:=by
 have c:((a::L).map (fun l=>(⟨l.toArray⟩:ByteArray))).length=n:=by have:=h.1;rw[eS]at this⊢;omega
 have i:=vX a L;have k:=h.lt g rfl;have m:n<=d:=by
  rcases h.2 with⟨h,_⟩|⟨_,_,_,h,_,_,h2,_⟩
  ·cases h
  ·cases h;exact h2
 have:=aC3 g 0 d ((a::L).map (fun l=>(⟨l.toArray⟩:ByteArray))) ⟨#[32]⟩ w (fun j s o=>by rw[Nat.zero_add];exact zN h j s o) k.2 (by omega) (by omega) (by
  rw[GD];show(Lib.join (a::L) [32]).length<=_;omega)
 rw[GD,c]at this;exact this
set_option maxRecDepth 20000 in
set_option maxHeartbeats 1000000 in
theorem WQ(f J:Int)(t h o p i d x:List UInt8)(w:World)(hT:aJ w)(ao:0<=f)(hf:f<24)(aq:0<=J)(hs:J<8)(D:List UInt8)(hD:D.length<=3)(Q:Hid (∀w,aJ w->Calls prog 47 #[.agg (aL ⟨f,J,t,h,o,p,i,d,x⟩)] w fun e S=>e= .returned (.int .i64 0)/\Below w.heap.size w S))(HI:Hid (∀w,aJ w->Calls prog 48 #[.int .i64 (8*f+J)] w fun e S=>e= .returned (.string ⟨D.toArray⟩)/\Below w.heap.size w S))(lt:t.length<=4000000000)(lh:h.length<=4000000000)(la:o.length<=4000000000)(lp:p.length<=4000000000)(li:i.length<=4000000000)(ld:d.length<=4000000000)(lx:x.length<=4000000000)(R:List UInt8×Nat)(F:R=if 200<mH (mT D [t,h,o,p,i,d] 6++if x=[]then[]else[x])then([],1)else(Lib.join (mT D [t,h,o,p,i,d] 6++if x=[]then[]else[x]) [32],0)):
  Calls prog 20 #[.agg (aL ⟨f,J,t,h,o,p,i,d,x⟩)] w fun e S=>
   e= .returned (.tuple #[.string ⟨R.1.toArray⟩,.int .i64 R.2])/\Below w.heap.size w S:=by
 unfold aL at Q⊢;dsimp only at Q⊢;go_enter func20,ntmps20;go_wp2_with fail;refine(Q.out _ (hT.alloc _)).mono ?_;rintro e w1⟨rfl,T⟩;have r0:=(T.block _ (by simp)).trans (heap_alloc_new _ _);have c0:w1.cell? ⟨w.heap.size,0,none⟩=some (.int .i64 f):=aS _ _ _ _ _ _ r0;have c1:w1.cell? ⟨w.heap.size,1,none⟩=some (.int .i64 J):=aS _ _ _ _ _ _ r0;have aa:Hid (Below w.heap.size w w1):=((aF _ _).alloc (aC _) _).trans (T.mono (by simp));have ab:=aA r0;clear T r0;go_wp2_with fail;refine(HI.out _ (hT.next aa.out)).mono ?_;rintro e m⟨rfl,K⟩;have ac:Hid (Below w.heap.size w m):=Below.next aa.out (aC _) K;have z:w.heap.size<w1.heap.size:=(aM.1 ab.out).1;have ai:w.heap.size<m.heap.size:=by have:=K.size;omega
 have O:=(heap_alloc_old m (Obj.cells #[.string (⟨#[60]⟩++⟨D.toArray⟩++⟨#[62,49]⟩)] 9) ai).trans ((K.block _ z).trans ab.out);have c2:(m.alloc (Obj.cells #[.string (⟨#[60]⟩++⟨D.toArray⟩++⟨#[62,49]⟩)] 9)).cell? ⟨w.heap.size,2,none⟩=some (.string ⟨t.toArray⟩):=aS _ _ _ _ _ _ O;have c3:(m.alloc (Obj.cells #[.string (⟨#[60]⟩++⟨D.toArray⟩++⟨#[62,49]⟩)] 9)).cell? ⟨w.heap.size,3,none⟩=some (.string ⟨h.toArray⟩):=aS _ _ _ _ _ _ O;have c4:(m.alloc (Obj.cells #[.string (⟨#[60]⟩++⟨D.toArray⟩++⟨#[62,49]⟩)] 9)).cell? ⟨w.heap.size,4,none⟩=some (.string ⟨o.toArray⟩):=aS _ _ _ _ _ _ O;have c5:(m.alloc (Obj.cells #[.string (⟨#[60]⟩++⟨D.toArray⟩++⟨#[62,49]⟩)] 9)).cell? ⟨w.heap.size,5,none⟩=some (.string ⟨p.toArray⟩):=aS _ _ _ _ _ _ O;have c6:(m.alloc (Obj.cells #[.string (⟨#[60]⟩++⟨D.toArray⟩++⟨#[62,49]⟩)] 9)).cell? ⟨w.heap.size,6,none⟩=some (.string ⟨i.toArray⟩):=aS _ _ _ _ _ _ O;have c7:(m.alloc (Obj.cells #[.string (⟨#[60]⟩++⟨D.toArray⟩++⟨#[62,49]⟩)] 9)).cell? ⟨w.heap.size,7,none⟩=some (.string ⟨d.toArray⟩):=aS _ _ _ _ _ _ O;have aj:=aA O;clear K O c0 c1;obtain⟨i0,hi,L,z,u⟩:=info_parts qZ;go_wp2_with fail;obtain⟨C,hC⟩:∃C:Array Value,C=#[.string ⟨t.toArray⟩,.string ⟨h.toArray⟩,.string ⟨o.toArray⟩,.string ⟨p.toArray⟩,.string ⟨i.toArray⟩,.string ⟨d.toArray⟩]:=⟨_,rfl⟩;have ak:Hid (∀(k:Nat),k<6->∀w:World,(Instr.index 88 (.agg C) (.int .i64 k)).run prog w= .ok (aU ([t,h,o,p,i,d].getD k [])) w):=by
  show∀(k:Nat),_;rw[hC];exact WN t h o p i d
 rw[<-hC];clear hC c2 c3 c4 c5 c6 c7;go_loopw [6,38] (fun v ix wr=>∃k g cv:Nat,k<=6/\ix= .int .i64 k/\v= .slice (some ⟨g,0,none⟩) (k+1) cv/\wr.ownsRow m.heap.size 9 1 v (k+1) ((mT D [t,h,o,p,i,d] k).map aU)/\wr.heap[w.heap.size]?=some (.cells #[.int .i64 f,.int .i64 J,.string ⟨t.toArray⟩,.string ⟨h.toArray⟩,.string ⟨o.toArray⟩,.string ⟨p.toArray⟩,.string ⟨i.toArray⟩,.string ⟨d.toArray⟩,.string ⟨x.toArray⟩] 29 (0,0))/\Below w.heap.size w wr/\m.heap.size<=wr.heap.size) (fun _ ix _=>6-(intOf ix).toNat)
 case atStart=>
  refine⟨0,m.heap.size,1,by omega,rfl,rfl,⟨rfl,.inr ⟨m.heap.size,1,_,rfl,aC _,heap_alloc_new _ _,aC _,by decide,rfl,?_⟩⟩,aj.out,ac.out.alloc ac.out.size _,by simp⟩;rw[WM];rfl
 case round=>
  obtain⟨k,g,cv,hk,rfl,rfl,P,q0,ad,ae⟩:=hrel;have B:=aA P;have Q0:=aA q0;have n:=aA ad;clear P q0 ad;by_cases af:k<6
  ·obtain⟨y,hy⟩:∃y,[t,h,o,p,i,d].getD k []=y:=⟨_,rfl⟩;have ag:=ak.out k af;rw[hy]at ag;unfold aU at ag;have M:Hid (mT D [t,h,o,p,i,d] (k+1)=mT D [t,h,o,p,i,d] k++[Hm.told y]):=by show _=_;rw[WK _ _ _ af,hy]
   clear hy;have an:w.heap.size<wr.heap.size:=by omega
   by_cases G:y=[]
   ·have ht:Hm.told y=[45]:=by unfold Hm.told;rw[aD G]
    rw[ht]at M;clear ht;subst G;go_wp2_with(at_builtin;refine wpList_append_own _ rfl _ _ 42 rfl m.heap.size 9 i0 (.string ByteArray.empty) 1 16 underlying42 hi L z u rfl (by decide) _ _ _ rfl (B.out.alloc _) ⟨wr.heap.size,0,none⟩ 1 1 [.string ⟨#[45]⟩] rfl rfl (cell_one_new _ _ _) (fun x H=>by simp at H;subst H;rfl) (by unfold maxLen;omega) (by omega) (by simp;omega) ?_;intro v' U b c r);go_roundw;case rel=>
     obtain⟨j,a,s⟩:∃j a,v'= .slice (some ⟨j,0,none⟩) (k+1+1) a:=by
      rcases b.2 with⟨_,h⟩|⟨j,a,_,h,_⟩
      ·omega
      ·exact⟨j,a,h⟩
     refine⟨k+1,j,a,by omega,aY (by simp),s,?_,?_,?_,?_⟩
     ·rw[M.out,iN];exact b
     ·exact(c.block _ (by simp;omega) (fun h=>by have:=B.out.lt _ h.symm;omega)).trans ((heap_alloc_old _ _ (by omega)).trans Q0.out)
     ·exact(n.out.alloc n.out.size _).grown c (by simp;omega) (fun q V=>by have:=B.out.lt q V;omega)
     ·exact cH ae (cH (by simp) c.size)
    case measure=>simp[intOf];omega
   ·have ht:Hm.told y=y:=by unfold Hm.told;rw[aB G]
    rw[ht]at M;have ar:(y==[])=false:=by simpa using G
    clear ht G;go_wp2_with(at_builtin;refine wpList_append_own _ rfl _ _ 42 rfl m.heap.size 9 i0 (.string ByteArray.empty) 1 16 underlying42 hi L z u rfl (by decide) _ _ _ rfl (B.out.alloc _) ⟨wr.heap.size,0,none⟩ 1 1 [.string ⟨y.toArray⟩] rfl rfl (cell_one_new _ _ _) (fun x H=>by simp at H;subst H;rfl) (by unfold maxLen;omega) (by omega) (by simp;omega) ?_;intro v' U b c r);go_roundw;case rel=>
     obtain⟨j,a,s⟩:∃j a,v'= .slice (some ⟨j,0,none⟩) (k+1+1) a:=by
      rcases b.2 with⟨_,h⟩|⟨j,a,_,h,_⟩
      ·omega
      ·exact⟨j,a,h⟩
     refine⟨k+1,j,a,by omega,aY (by simp),s,?_,?_,?_,?_⟩
     ·rw[M.out,iN];exact b
     ·exact(c.block _ (by simp;omega) (fun h=>by have:=B.out.lt _ h.symm;omega)).trans ((heap_alloc_old _ _ (by omega)).trans Q0.out)
     ·exact(n.out.alloc n.out.size _).grown c (by simp;omega) (fun q V=>by have:=B.out.lt q V;omega)
     ·exact cH ae (cH (by simp) c.size)
    case measure=>simp[intOf];omega
  ·have al:k=6:=by omega
   subst al;have c8:wr.cell? ⟨w.heap.size,8,none⟩=some (.string ⟨x.toArray⟩):=aS _ _ _ _ _ _ Q0.out;have W:Hid (∀l∈mT D [t,h,o,p,i,d] 6,l.length<=4000000000):=WL D _ hD (by
    intro l hl;simp only[jY,List.not_mem_nil,or_false]at hl;rcases hl with h|h|h|h|h|h <;> subst h <;> assumption)
   obtain⟨A,hA⟩:∃A,mT D [t,h,o,p,i,d] 6=([60]++D++[62,49])::A:=⟨_,rfl⟩;obtain⟨I,am⟩:∃I,[60]++D++[62,49]=I:=⟨_,rfl⟩;rw[am]at hA;rw[hA]at W B F;by_cases E:x=[]
   ·rw[aD E,kZ]at F;have HJ:Hid (Calls prog 49 #[.slice (some ⟨g,0,none⟩) 7 cv] wr fun e S=>e= .returned (.int .i64 (mH (I::A)))/\S=wr):=zO B.out (by omega) W.out;by_cases hj:200<mH (I::A)
    ·have X:Hid (R=([],1)):=by show _=_;rw[F,aD hj]
     clear F;subst E;go_wp2_with(go_at_call 49;refine HJ.out.mono ?_;rintro e w9⟨rfl,rfl⟩);go_ret2;exact⟨by rw[X.out];rfl,n.out⟩
    ·have X:Hid (R=(Lib.join (I::A) [32],0)):=by show _=_;rw[F,aB hj]
     clear F;subst E;go_wp2_with(first|(go_at_call 49;refine HJ.out.mono ?_;rintro e w9⟨rfl,rfl⟩)|(go_at_call 50;refine(GF B.out (by omega) (by omega)).mono ?_;rintro e w9⟨rfl,Y⟩));go_ret2;exact⟨by rw[X.out];rfl,Below.next n.out (aC _) Y⟩
   ·rw[aB E,eN]at F;have ah:Hid (∀l∈I::(A++[x]),l.length<=4000000000):=by
     intro l hl;rw[<-eN]at hl;rcases jM.1 hl with h|h
     ·exact W.out l h
     ·obtain rfl:=qR.1 h;exact lx
    have au:(x==[])=false:=by simpa using E
    clear E;by_cases hj:200<mH (I::(A++[x]))
    ·have X:Hid (R=([],1)):=by show _=_;rw[F,aD hj]
     clear F;go_wp2_with(first|(at_builtin;refine wpList_append_own _ rfl _ _ 42 rfl m.heap.size 9 i0 (.string ByteArray.empty) 1 16 underlying42 hi L z u rfl (by decide) _ _ _ rfl (B.out.alloc _) ⟨wr.heap.size,0,none⟩ 1 1 [.string ⟨x.toArray⟩] rfl rfl (cell_one_new _ _ _) (fun x H=>by simp at H;subst H;rfl) (by unfold maxLen;omega) (by omega) (by simp;omega) ?_;intro v' U b c r;obtain⟨j,a,s⟩:∃j a,v'= .slice (some ⟨j,0,none⟩) (6+1+1) a:=(by rcases b.2 with⟨_,h⟩|⟨j,a,_,h,_⟩;omega;exact⟨j,a,h⟩);subst s;have N:Hid (U.ownsRow m.heap.size 9 1 (.slice (some ⟨j,0,none⟩) 8 a) 8 ((I::(A++[x])).map aU)):=(by rw[<-eN,iN];exact b);have Z:Hid (Below w.heap.size w U):=((n.out.alloc n.out.size _).grown c (by simp;omega) (fun q V=>by have:=B.out.lt q V;omega));clear b c r)|(go_at_call 49;refine(zO N.out (by omega) ah.out).mono ?_;rintro e w9⟨rfl,rfl⟩));go_ret2;exact⟨by rw[X.out];rfl,Z.out⟩
    ·have X:Hid (R=(Lib.join (I::(A++[x])) [32],0)):=by show _=_;rw[F,aB hj]
     clear F;go_wp2_with(first|(at_builtin;refine wpList_append_own _ rfl _ _ 42 rfl m.heap.size 9 i0 (.string ByteArray.empty) 1 16 underlying42 hi L z u rfl (by decide) _ _ _ rfl (B.out.alloc _) ⟨wr.heap.size,0,none⟩ 1 1 [.string ⟨x.toArray⟩] rfl rfl (cell_one_new _ _ _) (fun x H=>by simp at H;subst H;rfl) (by unfold maxLen;omega) (by omega) (by simp;omega) ?_;intro v' U b c r;obtain⟨j,a,s⟩:∃j a,v'= .slice (some ⟨j,0,none⟩) (6+1+1) a:=(by rcases b.2 with⟨_,h⟩|⟨j,a,_,h,_⟩;omega;exact⟨j,a,h⟩);subst s;have N:Hid (U.ownsRow m.heap.size 9 1 (.slice (some ⟨j,0,none⟩) 8 a) 8 ((I::(A++[x])).map aU)):=(by rw[<-eN,iN];exact b);have Z:Hid (Below w.heap.size w U):=((n.out.alloc n.out.size _).grown c (by simp;omega) (fun q V=>by have:=B.out.lt q V;omega));clear b c r)|(go_at_call 49;refine(zO N.out (by omega) ah.out).mono ?_;rintro e w9⟨rfl,rfl⟩)|(go_at_call 50;refine(GF N.out (by omega) (by omega)).mono ?_;rintro e w9⟨rfl,Y⟩));go_ret2;exact⟨by rw[X.out];rfl,Below.next Z.out (aC _) Y⟩
theorem GG{n:Nat}(h:n<1000):(Lib.decDigits n).length<=3:=by
 by_cases h1:n<10
 ·have:=pU (n:=n) (by omega);omega
 ·rw[jP h1,dL];have:=pU (n:=n/10) (by omega);simp;omega
theorem WR(m:aO)(w:World)(g:aJ w)(e:Nat)(l:0<e)(j:e<100)(a:Hid (∀w,aJ w->Calls prog 47 #[.agg (aL m)] w fun r b=>r= .returned (.int .i64 e)/\Below w.heap.size w b)):
  Calls prog 20 #[.agg (aL m)] w fun r b=>r= .returned (.tuple #[.string ⟨#[]⟩,.int .i64 e])/\Below w.heap.size w b:=by
 obtain⟨f,n,t,h,o,p,i,d,x⟩:=m;unfold aL at a⊢;dsimp only at a⊢;have q:((e:Int)==0)=false:=bG.2 (by omega);have k:((e:Int) !=0)=true:=by simp;omega
 go_enter func20,ntmps20;go_wp2_with fail;refine(a.out _ (g.alloc _)).mono ?_;rintro r s⟨rfl,c⟩;go_wp2;go_ret2;exact⟨rfl,((aF _ _).alloc (aC _) _).trans (c.mono (by simp))⟩
theorem wB(m:aO)(w:World)(b:aJ w)(lt:m.time.length<=4000000000)(e:m.host.length<=4000000000)(f:m.app.length<=4000000000)(g:m.proc.length<=4000000000)(h:m.id.length<=4000000000)(i:m.data.length<=4000000000)(j:m.text.length<=4000000000):
  Calls prog 20 #[.agg (aL m)] w fun r d=>r= .returned (.tuple #[.string ⟨(cA m).1.toArray⟩,.int .i64 (cA m).2])/\Below w.heap.size w d:=by
 have a:Hid (∀w,aJ w->Calls prog 47 #[.agg (aL m)] w fun r d=>r= .returned (.int .i64 (eP m))/\Below w.heap.size w d):=fun w b=>
  WE m.fac m.sev m.time m.host m.app m.proc m.id m.data m.text w b lt e f g h i j
 by_cases h0:eP m=0
 ·have c:=FX h0;rw[h0]at a;have l:(8*m.fac+m.sev).toNat<192:=by omega
  refine WQ m.fac m.sev m.time m.host m.app m.proc m.id m.data m.text w b c.1 c.2.1 c.2.2.1 c.2.2.2 (Lib.decDigits (8*m.fac+m.sev).toNat) (GG (by omega)) a (fun w b=>vQ _ w (by omega) (by omega) b) lt e f g h i j (cA m) ?_;unfold cA;rw[aB (by rw[h0];decide)];rfl
 ·have k:cA m=([],eP m):=by unfold cA;rw[aD h0]
  rw[k];exact WR m w b (eP m) (by omega) (FY m) a
end Go.Proofs.Z
namespace Go.Proofs.Z
open Go.RowKit Go.Sort
theorem fR(l:List UInt8)(a b:Nat):(⟨l.toArray⟩:ByteArray).extract a b=⟨((l.drop a).take (b-a)).toArray⟩:=by
 apply ByteArray.ext;simp
theorem fS(l:List UInt8)(j:Nat)(h:j<(⟨l.toArray⟩:ByteArray).size):(⟨l.toArray⟩:ByteArray)[j]=l[j]'(by simpa[ByteArray.size]using h):=rfl
end Go.Proofs.Z
namespace Go.Proofs.Z
open Hw Tryz Go.RowKit Go.Sort
attribute [local go_sem] cN cO
theorem AF{w:World}{b:Nat}{v:Value}{L:List (List UInt8)}(h:eQ w b 9 v (L.map aU)):∃c a,v= .slice c L.length a:=by
 obtain⟨c,a,e⟩:=IN h;exact⟨c,a,by rw[e,eS]⟩
theorem AG{w:World}{a n b:Nat}{d:Option Addr}{L:List (List UInt8)}(h:eQ w a 9 (.slice d n b) (L.map aU))(e:0<L.length):∃g o,d=some ⟨g,o,none⟩:=by
 rcases h with⟨_,f⟩|⟨g,o,c,i,j,_⟩
 ·have:=aQ List.length f;simp at this;subst this;simp at e
 ·cases j;exact⟨g,o,rfl⟩
def sT(a:Option Addr)(l h m:Nat):Value:=sliced a l h m 1
theorem IR{w:World}{c n a:Nat}{j:Option Addr}{e:TypeId}{xs:List Value}(h:eQ w c e (.slice j n a) xs){lo hi:Nat}(h1:lo<=hi)(h2:hi<=xs.length):eQ w c e (sT j lo hi a) ((xs.drop lo).take (hi-lo)):=by
 rcases h with⟨f,q⟩|⟨g,o,k,d,f,l,m,t,u,v,r⟩
 ·cases f;subst q;have i:lo=0:=by simp at h2;omega
  have s:hi=0:=by simpa using h2
  subst i s;exact .inl ⟨rfl,rfl⟩
 ·cases f;have b:((xs.drop lo).take (hi-lo)).length=hi-lo:=by rw[eJ,bC];omega
  by_cases p:a=lo
  ·subst p;have i:hi=a:=by omega
   subst i;refine .inr ⟨g,o,0,d,by simp[sT,sliced],l,m,by simp,by omega,by omega,by simp⟩
  ·refine .inr ⟨g,o+lo,a-lo,d,?_,l,m,by rw[b];omega,by omega,by omega,?_⟩
   ·rw[b];simp[sT,sliced,p,Addr.add]
   ·rw[b,<-dW,<-r,List.drop_take,List.take_take,Nat.min_eq_left (by omega)]
theorem IT(w:World)(a:Option Addr)(n c:Nat)(l:Int)(h0:0<=l)(h1:l<=n):(Instr.slice 42 (.slice a n c) (some (.int .i64 l)) none none).run prog w= .ok (sT a l.toNat n c) w:=by
 rw[run_slice_l w 42 a n c (by kernel_rfl) .i64 l h0 h1];go_simp;simp[sT,sliced]
end Go.Proofs.Z
namespace Go.Hm
def oJ:List UInt8:=[60,51,52,62,49,32,50,48,48,51,45,49,48,45,49,49,84,50,50,58,49,52,58,49,53,46,48,48,51,90,32,109,121,109,97,99,104,105,110,101,32,115,117,32,45,32,73,68,52,55,32,45,32,105,116,32,102,97,105,108,101,100]
def qK:aO:=⟨4,2,[50,48,48,51,45,49,48,45,49,49,84,50,50,58,49,52,58,49,53,46,48,48,51,90],[109,121,109,97,99,104,105,110,101],[115,117],[],[73,68,52,55],[],[105,116,32,102,97,105,108,101,100]⟩
theorem J4:bH oJ 1=(qK,0,0):=by kernel_rfl
theorem J5:cA qK=(oJ,0):=by kernel_rfl
end Go.Hm
namespace Go.Proofs.Z
open Hm Tryz Go.RowKit Go.Sort
def wR:Array Value:=#[.slice none 0 0,.slice none 0 0,.slice none 0 0,.slice none 0 0,.slice none 0 0,.slice none 0 0,.slice none 0 0,.slice none 0 0,.int .i64 0]
theorem J6(w:World)(a:aJ w):Calls prog 21 #[.string ⟨oJ.toArray⟩,.int .i64 1] w fun e b=>e= .returned (.tuple #[.agg (aL qK),.int .i64 0,.int .i64 0])/\Below w.heap.size w b:=by
 have h:=vW ⟨oJ.toArray⟩ 1 w a (by decide);rw[show(⟨oJ.toArray⟩:ByteArray).data.toList=oJ from rfl,J4]at h;exact h
theorem J7(w:World)(a:aJ w):Calls prog 20 #[.agg (aL qK)] w fun e b=>e= .returned (.tuple #[.string ⟨oJ.toArray⟩,.int .i64 0])/\Below w.heap.size w b:=by
 have h:=wB qK w a (by decide) (by decide) (by decide) (by decide) (by decide) (by decide) (by decide);rw[J5]at h;exact h
end Go.Proofs.Z

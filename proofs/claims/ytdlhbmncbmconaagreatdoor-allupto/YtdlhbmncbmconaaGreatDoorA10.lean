/- Pressed by program out of Bf. -/
import Derived.Test.YtdlhbmncbmconaaGreatDoorA09
namespace Go.Proofs.Z
open Hm Hw Tryz Go.RowKit Go.Sort
attribute [local go_sem] cN cO
theorem eB{c b:Array Value}{e d a f:Int}(h:c=b)(h1:e=d)(h2:a=f):Ending.returned (.tuple #[.agg c,.int .i64 e,.int .i64 a])= .returned (.tuple #[.agg b,.int .i64 d,.int .i64 f]):=by rw[h,h1,h2]
set_option maxRecDepth 20000 in
set_option maxHeartbeats 2000000 in
theorem VJ(f j:Int)(t h l p i:List UInt8)(s:ByteArray)(a:Nat)(w:World)(P:aJ w)(ha:a<=s.size)(hs:s.size<=4000000000)(k:Nat)(hk:a+k<=s.size)(Y:Hid (∀w,aJ w->Calls prog 135 #[.string (s.extract a s.size)] w fun e w'=>e= .returned (.int .i64 k)/\Below w.heap.size w w'))(R:aO×Nat×Nat)(A:k=0->R=(aO.none,8,a))(B:∀C:a+k<s.size,¬(s[a+k]'C).toNat=32->R=(aO.none,8,a))(x:¬k=0->a+k=s.size->R=((if(s.data.toList.drop a).take k=[45]then⟨f,j,t,h,l,p,i,[],[]⟩else⟨f,j,t,h,l,p,i,(s.data.toList.drop a).take k,[]⟩),0,0))(D:¬k=0->∀C:a+k<s.size,(s[a+k]'C).toNat=32->R=if bO (s.data.toList.drop (a+k+1))=false then(aO.none,9,a+k+1)else
   ((if(s.data.toList.drop a).take k=[45]then⟨f,j,t,h,l,p,i,[],s.data.toList.drop (a+k+1)⟩else⟨f,j,t,h,l,p,i,(s.data.toList.drop a).take k,s.data.toList.drop (a+k+1)⟩),0,0)):
  Calls prog 89 #[.agg #[.int .i64 f,.int .i64 j,.string ⟨t.toArray⟩,.string ⟨h.toArray⟩,.string ⟨l.toArray⟩,.string ⟨p.toArray⟩,.string ⟨i.toArray⟩,.string ⟨#[]⟩,.string ⟨#[]⟩],.string s,.int .i64 a] w fun e w'=>
   e= .returned (.tuple #[.agg (aL R.1),.int .i64 R.2.1,.int .i64 R.2.2])/\Below w.heap.size w w':=by
 have ia:(a:Int)<=(s.size:Int):=by omega
 have af:(a:Int)+(k:Int)<=(s.size:Int):=by omega
 have E:(s.extract a (a+k)).data.toList=(s.data.toList.drop a).take k:=by rw[fK,Nat.add_sub_cancel_left]
 have E1:=aA E;by_cases q:k=0
 ·have Q:Hid (R=(aO.none,8,a)):=A q;subst q;clear A B x D E;go_enter func89,ntmps89;go_wp2_with fail;refine(Y.out _ ((P.alloc _).alloc _)).mono ?_;rintro e b⟨rfl,c⟩;obtain⟨r0,r1⟩:=kU c;have g:Hid (Below w.heap.size w b):=((((aF _ _).alloc (aC _) _).alloc (by simp) _).trans (c.mono (by simp;omega)));have y:w.heap.size+2<=b.heap.size:=by have:=c.size;simpa using this
  have o:=aA r0;have m:=aA r1;clear c r0 r1;go_wp2_with(first
   |(refine bI rfl _ _ _ rfl rfl (w.heap.size+1) #[.int .i64 0,.int .i64 0,.string ⟨#[]⟩,.string ⟨#[]⟩,.string ⟨#[]⟩,.string ⟨#[]⟩,.string ⟨#[]⟩,.string ⟨#[]⟩,.string ⟨#[]⟩] rfl rfl _ _ m.out cJ rfl rfl ?_;intro K r;have u:=aA r;clear r))
  refine bB (eA results89 _ _ _ _ _ _ _ rfl u.out.row underlying29 rfl cJ) rfl ⟨?_,g.out.trans (u.out.below (by omega))⟩;rw[Q.out];exact eB rfl rfl rfl
 ·have bk:((k:Int)==0)=false:=bG.2 (by omega);by_cases n:a+k=s.size
  ·have aa:((a:Int)+(k:Int)==(s.size:Int))=true:=dZ.2 (by omega);have ag:¬(a:Int)+(k:Int)<(s.size:Int):=by omega
   by_cases z:(s.data.toList.drop a).take k=[45]
   ·have Q:Hid (R=(⟨f,j,t,h,l,p,i,[],[]⟩,0,0)):=by show _=_;rw[x q n,aD z]
    have bd:(s.extract a (a+k)).toList=[45]:=by rw[Lib.toList_data,E];exact z
    clear A B x D E z n q;go_enter func89,ntmps89;go_wp2_with fail;refine(Y.out _ ((P.alloc _).alloc _)).mono ?_;rintro e b⟨rfl,c⟩;obtain⟨r0,r1⟩:=kU c;have g:Hid (Below w.heap.size w b):=((((aF _ _).alloc (aC _) _).alloc (by simp) _).trans (c.mono (by simp;omega)));have y:w.heap.size+2<=b.heap.size:=by have:=c.size;simpa using this
    have o:=aA r0;have m:=aA r1;clear c r0 r1;go_wp2_with(first
     |(refine cG rfl _ _ rfl w.heap.size rfl _ _ _ _ o.out underlying29 rfl cJ ?_)
     |(refine bI rfl _ _ _ rfl rfl (w.heap.size+1) _ rfl rfl _ _ m.out cJ rfl rfl ?_;intro K r;have u:=aA r;clear r))
    refine bB (eA results89 _ _ _ _ _ _ _ rfl u.out.row underlying29 rfl cJ) rfl ⟨?_,g.out.trans (u.out.below (by omega))⟩;rw[Q.out];exact eB rfl rfl rfl
   ·have Q:Hid (R=(⟨f,j,t,h,l,p,i,(s.data.toList.drop a).take k,[]⟩,0,0)):=by show _=_;rw[x q n,aB z]
    have bd:((s.extract a (a+k)).toList==[45])=false:=by rw[Lib.toList_data,E];simpa using z
    have ab:¬(s.extract a (a+k)).toList=[45]:=by rw[Lib.toList_data,E];exact z
    clear A B x D E z n q;go_enter func89,ntmps89;go_wp2_with fail;refine(Y.out _ ((P.alloc _).alloc _)).mono ?_;rintro e b⟨rfl,c⟩;obtain⟨r0,r1⟩:=kU c;have g:Hid (Below w.heap.size w b):=((((aF _ _).alloc (aC _) _).alloc (by simp) _).trans (c.mono (by simp;omega)));have y:w.heap.size+2<=b.heap.size:=by have:=c.size;simpa using this
    have o:=aA r0;have m:=aA r1;clear c r0 r1;go_wp2_with(first
     |(refine bK rfl _ _ _ rfl rfl w.heap.size 7 _ rfl rfl _ _ #[.int .i64 f,.int .i64 j,.string ⟨t.toArray⟩,.string ⟨h.toArray⟩,.string ⟨l.toArray⟩,.string ⟨p.toArray⟩,.string ⟨i.toArray⟩,.string (s.extract a (a+k)),.string ⟨#[]⟩] o.out fZ (by simp) rfl rfl ?_;intro L F;have G:=aA F.row;have H:Hid (L.heap[w.heap.size+1]?=some (.cells #[.int .i64 0,.int .i64 0,.string ⟨#[]⟩,.string ⟨#[]⟩,.string ⟨#[]⟩,.string ⟨#[]⟩,.string ⟨#[]⟩,.string ⟨#[]⟩,.string ⟨#[]⟩] 29 (0,0))):=(F.other _ (by omega)).trans m.out;have M:Hid (Below w.heap.size w L):=g.out.trans (F.below (aC _));have ac:w.heap.size+2<=L.heap.size:=(by rw[F.size];exact y);clear F)
     |(refine cG rfl _ _ rfl w.heap.size rfl _ _ _ _ G.out underlying29 rfl cJ ?_)
     |(refine bI rfl _ _ _ rfl rfl (w.heap.size+1) _ rfl rfl _ _ H.out cJ rfl rfl ?_;intro K r;have u:=aA r;clear r))
    refine bB (eA results89 _ _ _ _ _ _ _ rfl u.out.row underlying29 rfl cJ) rfl ⟨?_,M.out.trans (u.out.below (by omega))⟩;rw[Q.out];exact eB (by simp only[aL];rw[<-jS E1.out]) rfl rfl
  ·have C:a+k<s.size:=by omega
   have ah:(a:Int)+(k:Int)<(s.size:Int):=by omega
   have aa:((a:Int)+(k:Int)==(s.size:Int))=false:=bG.2 (by omega);by_cases N:(s[a+k]'C).toNat=32
   ·have ae:(((s[a+k]'C).toNat:Int) !=32)=false:=by simp;omega
    have i1:(a:Int)+(k:Int)+1<=(s.size:Int):=by omega
    have S:Hid (∀w,aJ w->Calls prog 55 #[.string (s.extract (a+k+1) s.size)] w fun e w'=>e= .returned (.bool (bO (s.data.toList.drop (a+k+1))))/\Below w.heap.size w w'):=fun w P=>by
     have:=pY (s.extract (a+k+1) s.size) w P (by simp;omega)
     rwa [cP]at this
    have V:=D q C N;have E2:Hid ((s.extract (a+k+1) s.size).data.toList=s.data.toList.drop (a+k+1)):=cP _ _;obtain⟨pl,ad⟩:∃pl,bO (s.data.toList.drop (a+k+1))=pl:=⟨_,rfl⟩;rw[ad]at S V;clear ad;cases pl
    ·have Q:=aA V;by_cases z:(s.data.toList.drop a).take k=[45]
     ·have bd:(s.extract a (a+k)).toList=[45]:=by rw[Lib.toList_data,E];exact z
      clear A B x D E z n q V N;go_enter func89,ntmps89;go_wp2_with fail;refine(Y.out _ ((P.alloc _).alloc _)).mono ?_;rintro e b⟨rfl,c⟩;obtain⟨r0,r1⟩:=kU c;have g:Hid (Below w.heap.size w b):=((((aF _ _).alloc (aC _) _).alloc (by simp) _).trans (c.mono (by simp;omega)));have y:w.heap.size+2<=b.heap.size:=by have:=c.size;simpa using this
      have o:=aA r0;have m:=aA r1;clear c r0 r1;go_wp2_with(first
       |(go_at_call 55;refine(S.out _ (P.next g.out)).mono ?_;rintro e I⟨rfl,d⟩;have J:Hid (I.heap[w.heap.size]?=some (.cells #[.int .i64 f,.int .i64 j,.string ⟨t.toArray⟩,.string ⟨h.toArray⟩,.string ⟨l.toArray⟩,.string ⟨p.toArray⟩,.string ⟨i.toArray⟩,.string ⟨#[]⟩,.string ⟨#[]⟩] 29 (0,0))):=(d.block _ (by omega)).trans o.out;have v:Hid (I.heap[w.heap.size+1]?=some (.cells #[.int .i64 0,.int .i64 0,.string ⟨#[]⟩,.string ⟨#[]⟩,.string ⟨#[]⟩,.string ⟨#[]⟩,.string ⟨#[]⟩,.string ⟨#[]⟩,.string ⟨#[]⟩] 29 (0,0))):=(d.block _ (by omega)).trans m.out;have O:Hid (Below w.heap.size w I):=Below.next g.out (aC _) d;clear d)
       |(refine bI rfl _ _ _ rfl rfl (w.heap.size+1) #[.int .i64 0,.int .i64 0,.string ⟨#[]⟩,.string ⟨#[]⟩,.string ⟨#[]⟩,.string ⟨#[]⟩,.string ⟨#[]⟩,.string ⟨#[]⟩,.string ⟨#[]⟩] rfl rfl _ _ v.out cJ rfl rfl ?_;intro K r;have u:=aA r;clear r))
      refine bB (eA results89 _ _ _ _ _ _ _ rfl u.out.row underlying29 rfl cJ) rfl ⟨?_,O.out.trans (u.out.below (by omega))⟩;rw[Q.out];exact eB rfl rfl (by simp)
     ·have bd:((s.extract a (a+k)).toList==[45])=false:=by rw[Lib.toList_data,E];simpa using z
      have ab:¬(s.extract a (a+k)).toList=[45]:=by rw[Lib.toList_data,E];exact z
      clear A B x D E z n q V N;go_enter func89,ntmps89;go_wp2_with fail;refine(Y.out _ ((P.alloc _).alloc _)).mono ?_;rintro e b⟨rfl,c⟩;obtain⟨r0,r1⟩:=kU c;have g:Hid (Below w.heap.size w b):=((((aF _ _).alloc (aC _) _).alloc (by simp) _).trans (c.mono (by simp;omega)));have y:w.heap.size+2<=b.heap.size:=by have:=c.size;simpa using this
      have o:=aA r0;have m:=aA r1;clear c r0 r1;go_wp2_with(first
       |(refine bK rfl _ _ _ rfl rfl w.heap.size 7 _ rfl rfl _ _ #[.int .i64 f,.int .i64 j,.string ⟨t.toArray⟩,.string ⟨h.toArray⟩,.string ⟨l.toArray⟩,.string ⟨p.toArray⟩,.string ⟨i.toArray⟩,.string (s.extract a (a+k)),.string ⟨#[]⟩] o.out fZ (by simp) rfl rfl ?_;intro L F;have G:=aA F.row;have H:Hid (L.heap[w.heap.size+1]?=some (.cells #[.int .i64 0,.int .i64 0,.string ⟨#[]⟩,.string ⟨#[]⟩,.string ⟨#[]⟩,.string ⟨#[]⟩,.string ⟨#[]⟩,.string ⟨#[]⟩,.string ⟨#[]⟩] 29 (0,0))):=(F.other _ (by omega)).trans m.out;have M:Hid (Below w.heap.size w L):=g.out.trans (F.below (aC _));have ac:w.heap.size+2<=L.heap.size:=(by rw[F.size];exact y);clear F)
       |(go_at_call 55;refine(S.out _ (P.next M.out)).mono ?_;rintro e I⟨rfl,d⟩;have J:Hid (I.heap[w.heap.size]?=some (.cells #[.int .i64 f,.int .i64 j,.string ⟨t.toArray⟩,.string ⟨h.toArray⟩,.string ⟨l.toArray⟩,.string ⟨p.toArray⟩,.string ⟨i.toArray⟩,.string (s.extract a (a+k)),.string ⟨#[]⟩] 29 (0,0))):=(d.block _ (by omega)).trans G.out;have v:Hid (I.heap[w.heap.size+1]?=some (.cells #[.int .i64 0,.int .i64 0,.string ⟨#[]⟩,.string ⟨#[]⟩,.string ⟨#[]⟩,.string ⟨#[]⟩,.string ⟨#[]⟩,.string ⟨#[]⟩,.string ⟨#[]⟩] 29 (0,0))):=(d.block _ (by omega)).trans H.out;have O:Hid (Below w.heap.size w I):=Below.next M.out (aC _) d;clear d)
       |(refine bI rfl _ _ _ rfl rfl (w.heap.size+1) #[.int .i64 0,.int .i64 0,.string ⟨#[]⟩,.string ⟨#[]⟩,.string ⟨#[]⟩,.string ⟨#[]⟩,.string ⟨#[]⟩,.string ⟨#[]⟩,.string ⟨#[]⟩] rfl rfl _ _ v.out cJ rfl rfl ?_;intro K r;have u:=aA r;clear r))
      refine bB (eA results89 _ _ _ _ _ _ _ rfl u.out.row underlying29 rfl cJ) rfl ⟨?_,O.out.trans (u.out.below (by omega))⟩;rw[Q.out];exact eB rfl rfl (by simp)
    ·rw[aB (by decide)]at V;by_cases z:(s.data.toList.drop a).take k=[45]
     ·have Q:Hid (R=(⟨f,j,t,h,l,p,i,[],s.data.toList.drop (a+k+1)⟩,0,0)):=by show _=_;rw[V,aD z]
      have bd:(s.extract a (a+k)).toList=[45]:=by rw[Lib.toList_data,E];exact z
      clear A B x D E z n q V N;go_enter func89,ntmps89;go_wp2_with fail;refine(Y.out _ ((P.alloc _).alloc _)).mono ?_;rintro e b⟨rfl,c⟩;obtain⟨r0,r1⟩:=kU c;have g:Hid (Below w.heap.size w b):=((((aF _ _).alloc (aC _) _).alloc (by simp) _).trans (c.mono (by simp;omega)));have y:w.heap.size+2<=b.heap.size:=by have:=c.size;simpa using this
      have o:=aA r0;have m:=aA r1;clear c r0 r1;go_wp2_with(first
       |(go_at_call 55;refine(S.out _ (P.next g.out)).mono ?_;rintro e I⟨rfl,d⟩;have J:Hid (I.heap[w.heap.size]?=some (.cells #[.int .i64 f,.int .i64 j,.string ⟨t.toArray⟩,.string ⟨h.toArray⟩,.string ⟨l.toArray⟩,.string ⟨p.toArray⟩,.string ⟨i.toArray⟩,.string ⟨#[]⟩,.string ⟨#[]⟩] 29 (0,0))):=(d.block _ (by omega)).trans o.out;have v:Hid (I.heap[w.heap.size+1]?=some (.cells #[.int .i64 0,.int .i64 0,.string ⟨#[]⟩,.string ⟨#[]⟩,.string ⟨#[]⟩,.string ⟨#[]⟩,.string ⟨#[]⟩,.string ⟨#[]⟩,.string ⟨#[]⟩] 29 (0,0))):=(d.block _ (by omega)).trans m.out;have O:Hid (Below w.heap.size w I):=Below.next g.out (aC _) d;clear d)
       |(refine bK rfl _ _ _ rfl rfl w.heap.size 8 _ rfl rfl _ _ #[.int .i64 f,.int .i64 j,.string ⟨t.toArray⟩,.string ⟨h.toArray⟩,.string ⟨l.toArray⟩,.string ⟨p.toArray⟩,.string ⟨i.toArray⟩,.string ⟨#[]⟩,.string (s.extract (a+k+1) s.size)] J.out fZ (by simp) rfl rfl ?_;intro W X;have T:=aA X.row;have U:Hid (W.heap[w.heap.size+1]?=some (.cells #[.int .i64 0,.int .i64 0,.string ⟨#[]⟩,.string ⟨#[]⟩,.string ⟨#[]⟩,.string ⟨#[]⟩,.string ⟨#[]⟩,.string ⟨#[]⟩,.string ⟨#[]⟩] 29 (0,0))):=(X.other _ (by omega)).trans v.out;have Z:Hid (Below w.heap.size w W):=O.out.trans (X.below (aC _));clear X)
       |(refine cG rfl _ _ rfl w.heap.size rfl _ _ _ _ T.out underlying29 rfl cJ ?_)
       |(refine bI rfl _ _ _ rfl rfl (w.heap.size+1) _ rfl rfl _ _ U.out cJ rfl rfl ?_;intro K r;have u:=aA r;clear r))
      refine bB (eA results89 _ _ _ _ _ _ _ rfl u.out.row underlying29 rfl cJ) rfl ⟨?_,Z.out.trans (u.out.below (by omega))⟩;rw[Q.out];exact eB (by simp only[aL];rw[<-jS E2.out]) rfl rfl
     ·have Q:Hid (R=(⟨f,j,t,h,l,p,i,(s.data.toList.drop a).take k,s.data.toList.drop (a+k+1)⟩,0,0)):=by show _=_;rw[V,aB z]
      have bd:((s.extract a (a+k)).toList==[45])=false:=by rw[Lib.toList_data,E];simpa using z
      have ab:¬(s.extract a (a+k)).toList=[45]:=by rw[Lib.toList_data,E];exact z
      clear A B x D E z n q V N;go_enter func89,ntmps89;go_wp2_with fail;refine(Y.out _ ((P.alloc _).alloc _)).mono ?_;rintro e b⟨rfl,c⟩;obtain⟨r0,r1⟩:=kU c;have g:Hid (Below w.heap.size w b):=((((aF _ _).alloc (aC _) _).alloc (by simp) _).trans (c.mono (by simp;omega)));have y:w.heap.size+2<=b.heap.size:=by have:=c.size;simpa using this
      have o:=aA r0;have m:=aA r1;clear c r0 r1;go_wp2_with(first
       |(refine bK rfl _ _ _ rfl rfl w.heap.size 7 _ rfl rfl _ _ #[.int .i64 f,.int .i64 j,.string ⟨t.toArray⟩,.string ⟨h.toArray⟩,.string ⟨l.toArray⟩,.string ⟨p.toArray⟩,.string ⟨i.toArray⟩,.string (s.extract a (a+k)),.string ⟨#[]⟩] o.out fZ (by simp) rfl rfl ?_;intro L F;have G:=aA F.row;have H:Hid (L.heap[w.heap.size+1]?=some (.cells #[.int .i64 0,.int .i64 0,.string ⟨#[]⟩,.string ⟨#[]⟩,.string ⟨#[]⟩,.string ⟨#[]⟩,.string ⟨#[]⟩,.string ⟨#[]⟩,.string ⟨#[]⟩] 29 (0,0))):=(F.other _ (by omega)).trans m.out;have M:Hid (Below w.heap.size w L):=g.out.trans (F.below (aC _));have ac:w.heap.size+2<=L.heap.size:=(by rw[F.size];exact y);clear F)
       |(go_at_call 55;refine(S.out _ (P.next M.out)).mono ?_;rintro e I⟨rfl,d⟩;have J:Hid (I.heap[w.heap.size]?=some (.cells #[.int .i64 f,.int .i64 j,.string ⟨t.toArray⟩,.string ⟨h.toArray⟩,.string ⟨l.toArray⟩,.string ⟨p.toArray⟩,.string ⟨i.toArray⟩,.string (s.extract a (a+k)),.string ⟨#[]⟩] 29 (0,0))):=(d.block _ (by omega)).trans G.out;have v:Hid (I.heap[w.heap.size+1]?=some (.cells #[.int .i64 0,.int .i64 0,.string ⟨#[]⟩,.string ⟨#[]⟩,.string ⟨#[]⟩,.string ⟨#[]⟩,.string ⟨#[]⟩,.string ⟨#[]⟩,.string ⟨#[]⟩] 29 (0,0))):=(d.block _ (by omega)).trans H.out;have O:Hid (Below w.heap.size w I):=Below.next M.out (aC _) d;clear d)
       |(refine bK rfl _ _ _ rfl rfl w.heap.size 8 _ rfl rfl _ _ #[.int .i64 f,.int .i64 j,.string ⟨t.toArray⟩,.string ⟨h.toArray⟩,.string ⟨l.toArray⟩,.string ⟨p.toArray⟩,.string ⟨i.toArray⟩,.string (s.extract a (a+k)),.string (s.extract (a+k+1) s.size)] J.out fZ (by simp) rfl rfl ?_;intro W X;have T:=aA X.row;have U:Hid (W.heap[w.heap.size+1]?=some (.cells #[.int .i64 0,.int .i64 0,.string ⟨#[]⟩,.string ⟨#[]⟩,.string ⟨#[]⟩,.string ⟨#[]⟩,.string ⟨#[]⟩,.string ⟨#[]⟩,.string ⟨#[]⟩] 29 (0,0))):=(X.other _ (by omega)).trans v.out;have Z:Hid (Below w.heap.size w W):=O.out.trans (X.below (aC _));clear X)
       |(refine cG rfl _ _ rfl w.heap.size rfl _ _ _ _ T.out underlying29 rfl cJ ?_)
       |(refine bI rfl _ _ _ rfl rfl (w.heap.size+1) _ rfl rfl _ _ U.out cJ rfl rfl ?_;intro K r;have u:=aA r;clear r))
      refine bB (eA results89 _ _ _ _ _ _ _ rfl u.out.row underlying29 rfl cJ) rfl ⟨?_,Z.out.trans (u.out.below (by omega))⟩;rw[Q.out];exact eB (by simp only[aL];rw[<-jS E1.out,<-jS E2.out]) rfl rfl
   ·have ae:(((s[a+k]'C).toNat:Int) !=32)=true:=by simp;omega
    have Q:Hid (R=(aO.none,8,a)):=B C N;clear A B x D E n q N;go_enter func89,ntmps89;go_wp2_with fail;refine(Y.out _ ((P.alloc _).alloc _)).mono ?_;rintro e b⟨rfl,c⟩;obtain⟨r0,r1⟩:=kU c;have g:Hid (Below w.heap.size w b):=((((aF _ _).alloc (aC _) _).alloc (by simp) _).trans (c.mono (by simp;omega)));have y:w.heap.size+2<=b.heap.size:=by have:=c.size;simpa using this
    have o:=aA r0;have m:=aA r1;clear c r0 r1;go_wp2_with(first
     |(refine bI rfl _ _ _ rfl rfl (w.heap.size+1) #[.int .i64 0,.int .i64 0,.string ⟨#[]⟩,.string ⟨#[]⟩,.string ⟨#[]⟩,.string ⟨#[]⟩,.string ⟨#[]⟩,.string ⟨#[]⟩,.string ⟨#[]⟩] rfl rfl _ _ m.out cJ rfl rfl ?_;intro K r;have u:=aA r;clear r))
    refine bB (eA results89 _ _ _ _ _ _ _ rfl u.out.row underlying29 rfl cJ) rfl ⟨?_,g.out.trans (u.out.below (by omega))⟩;rw[Q.out];exact eB rfl rfl rfl
end Go.Proofs.Z
namespace Go.Proofs.Z
open Hm Tryz Go.RowKit Go.Sort
theorem FO(m:aO)(n:m.data=[])(o:m.text=[])(s:ByteArray)(a:Nat)(w:World)(c:aJ w)(q:a<=s.size)(r:s.size<=4000000000):
  Calls prog 89 #[.agg (aL m),.string s,.int .i64 a] w fun e g=>
   e= .returned (.tuple #[.agg (aL (eH m s.data.toList a).1),.int .i64 (eH m s.data.toList a).2.1,.int .i64 (eH m s.data.toList a).2.2])/\Below w.heap.size w g:=by
 obtain⟨f,k,t,h,l,p,i,d,x⟩:=m;obtain rfl:d=[]:=n;obtain rfl:x=[]:=o;have u:=SU (s.data.toList.drop a);rw[bC,Hm.len]at u;have v:Hid (∀w,aJ w->Calls prog 135 #[.string (s.extract a s.size)] w fun e g=>e= .returned (.int .i64 (fJ (s.data.toList.drop a)))/\Below w.heap.size w g):=fun w c=>by
  have:=UX (s.extract a s.size) (by simp;omega) w c
  rwa [cP]at this
 refine VJ f k t h l p i s a w c q r _ (by omega) v (eH ⟨f,k,t,h,l,p,i,[],[]⟩ s.data.toList a) ?_ ?_ ?_ ?_
 ·intro h0;unfold eH;rw[aD (.inl h0)]
 ·intro b j;unfold eH;rw[aD (.inr ⟨by rw[Hm.len];exact b,by rw[pZ s _ b];exact j⟩)]
 ·intro h0 y;unfold eH;rw[aB (by rw[Hm.len];rintro(h|h);exact h0 h;omega),aD (by rw[Hm.len];exact y)]
 ·intro h0 b j;unfold eH;rw[aB (by rw[Hm.len,pZ s _ b];rintro(h|h);exact h0 h;exact h.2 j),aB (by rw[Hm.len];omega)];split
  ·rfl
  ·split <;> rfl
def jT(ws:List (List UInt8)):Array Value:=(ws.map (fun l:List UInt8=>Value.string ⟨l.toArray⟩)++List.replicate (4-ws.length) (Value.string ⟨#[]⟩)).toArray
theorem FP:jT []=#[.string ⟨#[]⟩,.string ⟨#[]⟩,.string ⟨#[]⟩,.string ⟨#[]⟩]:=rfl
theorem FQ(a:List (List UInt8))(h:a.length<=4):(jT a).size=4:=by simp[jT];omega
theorem FR(a:List (List UInt8))(h:a.length<4):jT (a++[[]])=jT a:=by
 unfold jT;rw[iN,jH,show 4-a.length=(4-(a++[[]]).length)+1 by simp;omega,List.replicate_succ];rfl
theorem FS(a:List (List UInt8))(p:List UInt8)(h:a.length<4):(jT a).setIfInBounds a.length (.string ⟨p.toArray⟩)=jT (a++[p]):=by
 unfold jT;rw[eO,List.set_append,aB (by simp),iN,jH,show 4-a.length=(4-(a++[p]).length)+1 by simp;omega,List.replicate_succ];simp
def zK:Array Value:=#[.int .i64 32,.int .i64 4,.int .i64 16,.int .i64 5,.int .i64 16,.int .i64 6,.int .i64 12,.int .i64 7]
theorem vV:(prog.info? 147).map (·.size)=some 8:=by kernel_rfl
theorem FT(k:Nat)(a:k<4)(w:World):(Instr.index 147 (.agg zK) (.int .i64 k)).run prog w= .ok (.agg #[.int .i64 ((aX.getD k (0,0)).1:Nat),.int .i64 ((aX.getD k (0,0)).2:Nat)]) w:=by
 rcases(by omega:k=0∨k=1∨k=2∨k=3)with h|h|h|h <;> subst h <;> kernel_rfl
end Go.Proofs.Z
namespace Go.Proofs.Z
open Hm Hw Tryz Go.RowKit Go.Sort
attribute [local go_sem] cN cO
theorem oA{w:World}{g:Nat}{t:TypeId}{fr:Nat×Nat}{a b:Value}(h:w.heap[g]?=some (.cells #[a,b] t fr)):w.cell? ⟨g,0,none⟩=some a/\w.cell? ⟨g,1,none⟩=some b:=by
 constructor <;> simp[World.cell?,h]
theorem FU{a:World}{g:Nat}{old:Array Value}{t:TypeId}(h:a.heap[g]?=some (.cells old t (0,0)))(u v x y:Value):
  aI a g t ((((old.setIfInBounds 3 u).setIfInBounds 4 v).setIfInBounds 5 x).setIfInBounds 6 y) ((((a.setCell ⟨g,3,none⟩ u).setCell ⟨g,4,none⟩ v).setCell ⟨g,5,none⟩ x).setCell ⟨g,6,none⟩ y).drew:=by
 have h1:=mO h (old.setIfInBounds 3 u);rw[<-setCell_eq_setRow a g 3 old t (0,0) u h]at h1;have h2:=mO h1.row ((old.setIfInBounds 3 u).setIfInBounds 4 v);rw[<-setCell_eq_setRow _ g 4 _ t (0,0) v h1.row]at h2;have h3:=vU h2.row 5 6 x y;exact⟨h3.row,fun k b=>(h3.other k b).trans ((h2.other k b).trans (h1.other k b)),h3.size.trans (h2.size.trans h1.size),h3.os.trans (h2.os.trans h1.os),h3.tape.trans (h2.tape.trans h1.tape),h3.output.trans (h2.output.trans h1.output)⟩
set_option maxRecDepth 20000 in
set_option maxHeartbeats 2000000 in
theorem VK(f I:Int)(s:ByteArray)(a:Nat)(w:World)(v:aJ w)(ha:a<=s.size)(hs:s.size<=4000000000)(R:aO×Nat×Nat)(hR:R=eV f I s.data.toList a):
  Calls prog 54 #[.agg #[.int .i64 f,.int .i64 I,.string ⟨#[]⟩,.string ⟨#[]⟩,.string ⟨#[]⟩,.string ⟨#[]⟩,.string ⟨#[]⟩,.string ⟨#[]⟩,.string ⟨#[]⟩],.string s,.int .i64 a] w fun e m=>
   e= .returned (.tuple #[.agg (aL R.1),.int .i64 R.2.1,.int .i64 R.2.2])/\Below w.heap.size w m:=by
 obtain⟨L,n0,h0⟩:∃L n0,eU s.data.toList a=(L,n0):=⟨_,_,rfl⟩;have ar:=yV s.data.toList a (by rw[Hm.len];exact ha);rw[h0,Hm.len]at ar;dsimp only at ar;have av:Hid (∀w,aJ w->Calls prog 87 #[.string s,.int .i64 a] w fun e m=>e= .returned (.tuple #[.string ⟨L.toArray⟩,.int .i64 n0])/\∃n,m=w.drewN n):=fun w v=>by
  have:=zI s a hs ha w v
  rwa [h0]at this
 obtain⟨C,hC⟩:∃C,C=zK:=⟨_,rfl⟩;have HI:Hid (∀(k:Nat),k<4->∀w:World,(Instr.index 147 (.agg C) (.int .i64 k)).run prog w= .ok (.agg #[.int .i64 ((aX.getD k (0,0)).1:Nat),.int .i64 ((aX.getD k (0,0)).2:Nat)]) w):=by
  show∀(k:Nat),_;rw[hC];exact FT
 have a0:Hid (C.size=8):=by show _=_;rw[hC];rfl
 have HK:Hid (∀w,aJ w->∃t fr,w.heap[0]?=some (.cells C t fr)):=fun w v=>by rw[hC];exact v.wk
 clear hC;have h3:L=[45]∨(¬L=[45]/\dK L=none)∨(¬L=[45]/\∃H,dK L=some H):=by
  by_cases h:L=[45]
  ·exact .inl h
  ·cases h2:dK L
   ·exact .inr (.inl ⟨h,rfl⟩)
   ·exact .inr (.inr ⟨h,_,rfl⟩)
 rcases h3 with J|⟨J,X⟩|⟨J,H,X⟩
 ·obtain⟨H,aw⟩:∃H:List UInt8,H=[]:=⟨_,rfl⟩;have af:Hid (R=lC f I H s.data.toList n0):=by
   show _=_;rw[aw,hR,sD h0 (show iP L=some [] by rw[iP,aD J])]
  clear hR h0;subst J;go_enter func54,ntmps54;go_wp2_with fail;refine(av.out _ ((v.alloc _).alloc _)).mono ?_;rintro e o⟨rfl,D⟩;obtain⟨r0,r1⟩:=kU (aT D);have Y:Hid (Below w.heap.size w o):=((((aF _ _).alloc (aC _) _).alloc (by simp) _).trans ((aT D).mono (by simp;omega)));have a1:w.heap.size+2<=o.heap.size:=by have:=(aT D).size;simpa using this
  have ax:Hid (o.heap[w.heap.size]?=some (.cells #[.int .i64 f,.int .i64 I,.string ⟨H.toArray⟩,.string ⟨#[]⟩,.string ⟨#[]⟩,.string ⟨#[]⟩,.string ⟨#[]⟩,.string ⟨#[]⟩,.string ⟨#[]⟩] 29 (0,0))):=by show _=_;rw[aw];exact r0
  have ay:Hid (o.heap[w.heap.size+1]?=some (.cells #[.int .i64 0,.int .i64 0,.string ⟨#[]⟩,.string ⟨#[]⟩,.string ⟨#[]⟩,.string ⟨#[]⟩,.string ⟨#[]⟩,.string ⟨#[]⟩,.string ⟨#[]⟩] 29 (0,0))):=r1;clear D r0 r1 aw;obtain⟨kt,az,ag⟩:=HK.out _ ((v.next Y.out).alloc (Obj.cells #[.string ⟨#[]⟩,.string ⟨#[]⟩,.string ⟨#[]⟩,.string ⟨#[]⟩] 78));have aA:Hid ((o.alloc (Obj.cells #[.string ⟨#[]⟩,.string ⟨#[]⟩,.string ⟨#[]⟩,.string ⟨#[]⟩] 78)).heap[0]?=some (Obj.cells C kt az)):=ag;clear ag;go_wp2_with(refine cG rfl _ _ rfl 0 rfl _ _ _ _ aA.out underlying147 rfl (by rw[a0.out];exact vV) ?_);go_loopw [10,36] (fun nx ix wr=>∃(i:List (List UInt8))(n:Nat),i.length<=4/\ix= .int .i64 i.length/\nx= .int .i64 n/\n<=s.size/\kB s.data.toList n0 i n/\wr.heap[w.heap.size]?=some (.cells #[.int .i64 f,.int .i64 I,.string ⟨H.toArray⟩,.string ⟨#[]⟩,.string ⟨#[]⟩,.string ⟨#[]⟩,.string ⟨#[]⟩,.string ⟨#[]⟩,.string ⟨#[]⟩] 29 (0,0))/\wr.heap[w.heap.size+1]?=some (.cells #[.int .i64 0,.int .i64 0,.string ⟨#[]⟩,.string ⟨#[]⟩,.string ⟨#[]⟩,.string ⟨#[]⟩,.string ⟨#[]⟩,.string ⟨#[]⟩,.string ⟨#[]⟩] 29 (0,0))/\wr.heap[o.heap.size]?=some (.cells (jT i) 78 (0,0))/\Below w.heap.size w wr) (fun _ ix _=>4-(intOf ix).toNat)
  case atStart=>
   refine⟨[],n0,by simp,rfl,rfl,ar.1,yW _ _,(heap_alloc_old _ _ (by omega)).trans ax.out,(heap_alloc_old _ _ (by omega)).trans ay.out,?_,Y.out.alloc Y.out.size _⟩;rw[FP];exact heap_alloc_new _ _
  case round=>
   obtain⟨i,n,aE,rfl,rfl,hn,U,q0,q1,qW,ah⟩:=hrel;have HV:Hid (kB s.data.toList n0 i n):=U;have V:Hid (wr.heap[w.heap.size]?=some (.cells #[.int .i64 f,.int .i64 I,.string ⟨H.toArray⟩,.string ⟨#[]⟩,.string ⟨#[]⟩,.string ⟨#[]⟩,.string ⟨#[]⟩,.string ⟨#[]⟩,.string ⟨#[]⟩] 29 (0,0))):=q0;have Q1:Hid (wr.heap[w.heap.size+1]?=some (.cells #[.int .i64 0,.int .i64 0,.string ⟨#[]⟩,.string ⟨#[]⟩,.string ⟨#[]⟩,.string ⟨#[]⟩,.string ⟨#[]⟩,.string ⟨#[]⟩,.string ⟨#[]⟩] 29 (0,0))):=q1;have QW:Hid (wr.heap[o.heap.size]?=some (.cells (jT i) 78 (0,0))):=qW;have j:Hid (Below w.heap.size w wr):=ah;have a2:o.heap.size<wr.heap.size:=(aM.1 qW).1;clear U q0 q1 qW ah;by_cases x:i.length<4
   ·have ai:=HI.out i.length x;obtain⟨most,W,M⟩:∃most W,aX.getD i.length (0,0)=(most,W):=⟨_,_,rfl⟩;have aG:most<=32:=by rcases(by omega:i.length=0∨i.length=1∨i.length=2∨i.length=3)with h|h|h|h <;> rw[h]at M <;> cases M <;> omega
    rw[M]at ai;dsimp only at ai;obtain⟨p,Z,O⟩:∃p Z,eU s.data.toList n=(p,Z):=⟨_,_,rfl⟩;have P:=yV s.data.toList n (by rw[Hm.len];exact hn);rw[O,Hm.len]at P;dsimp only at P;have HP:Hid (∀w,aJ w->Calls prog 87 #[.string s,.int .i64 n] w fun e m=>e= .returned (.tuple #[.string ⟨p.toArray⟩,.int .i64 Z])/\∃n,m=w.drewN n):=fun w v=>by
     have:=zI s n hs hn w v
     rwa [O]at this
    have aa:Hid (eU s.data.toList n=(p,Z)):=O;have aj:Hid (aX.getD i.length (0,0)=(most,W)):=M;clear O M;by_cases J:p=[45]
    ·subst J;go_wp2_with fail;refine(HP.out _ ((v.next j.out).alloc _)).mono ?_;rintro e E⟨rfl,r⟩;have g:=aT r;have N:Hid (Below w.heap.size w E):=Below.next (j.out.alloc j.out.size _) (aC _) g;have ab:Hid (E.heap[w.heap.size]?=some (.cells #[.int .i64 f,.int .i64 I,.string ⟨H.toArray⟩,.string ⟨#[]⟩,.string ⟨#[]⟩,.string ⟨#[]⟩,.string ⟨#[]⟩,.string ⟨#[]⟩,.string ⟨#[]⟩] 29 (0,0))):=(g.block _ (by simp;omega)).trans ((heap_alloc_old _ _ (by omega)).trans V.out);have F:Hid (E.heap[w.heap.size+1]?=some (.cells #[.int .i64 0,.int .i64 0,.string ⟨#[]⟩,.string ⟨#[]⟩,.string ⟨#[]⟩,.string ⟨#[]⟩,.string ⟨#[]⟩,.string ⟨#[]⟩,.string ⟨#[]⟩] 29 (0,0))):=(g.block _ (by simp;omega)).trans ((heap_alloc_old _ _ (by omega)).trans Q1.out);have ac:Hid (E.heap[o.heap.size]?=some (.cells (jT i) 78 (0,0))):=(g.block _ (by simp;omega)).trans ((heap_alloc_old _ _ (by omega)).trans QW.out);clear r g;go_wp2;go_roundw;case rel=>exact⟨i++[[]],Z,by simp;omega,aY (by simp),rfl,P.1,yY x aa.out HV.out,ab.out,F.out,by rw[FR i x];exact ac.out,N.out⟩
     case measure=>simp[intOf];omega
    ·have bd:(p==[45])=false:=by simpa using J
     have Q:Hid (∀w,Calls prog 79 #[.string ⟨p.toArray⟩,.int .i64 most] w fun e m=>e= .returned (.bool (bX p most))/\m=w):=fun w=>
      tL ⟨p.toArray⟩ most w (by rw[lJ];omega) (by omega)
     have ak:Hid (bX p (aX.getD i.length (0,0)).1=bX p most):=by show _=_;rw[aj.out]
     cases G:bX p most
     ·have HF:Hid (R=(aO.none,W,n)):=by
       show _=_;have:=zA x aa.out J (by rw[ak.out];exact G) HV.out;rw[aj.out]at this;rw[af.out,vL this]
      rw[G]at Q;clear J G;go_wp2_with fail;refine(HP.out _ ((v.next j.out).alloc _)).mono ?_;rintro e E⟨rfl,r⟩;have g:=aT r;have N:Hid (Below w.heap.size w E):=Below.next (j.out.alloc j.out.size _) (aC _) g;have F:Hid (E.heap[w.heap.size+1]?=some (.cells #[.int .i64 0,.int .i64 0,.string ⟨#[]⟩,.string ⟨#[]⟩,.string ⟨#[]⟩,.string ⟨#[]⟩,.string ⟨#[]⟩,.string ⟨#[]⟩,.string ⟨#[]⟩] 29 (0,0))):=(g.block _ (by simp;omega)).trans ((heap_alloc_old _ _ (by omega)).trans Q1.out);obtain⟨c0,c1⟩:=oA (show E.heap[wr.heap.size]?=some (.cells #[.int .i64 most,.int .i64 W] 146 (0,0))from(g.block _ (by simp)).trans (heap_alloc_new _ _));clear r g;go_wp2_with fail;refine(Q.out _).mono ?_;rintro e S⟨rfl,rfl⟩;go_wp2_with fail;refine sH (fun m=>m=S.drew) gT (by kernel_rfl) rfl ?_;refine bV _ rfl (fun m u=>by unfold Oper.quietAt;go_simp;rfl) ?_;intro K l;go_simp;refine l _ ?_;clear l K;refine bV _ rfl (fun m u=>by unfold Oper.quietAt;go_simp;rfl) ?_;intro K l;go_simp;refine l _ ?_;clear l K;refine bV (.int .i64 W) rfl (fun m u=>by unfold Oper.quietAt;have hc:m.cell? ⟨wr.heap.size,1,none⟩=some (.int .i64 W):=(by rw[u];exact c1);go_simp) ?_;intro K l;go_simp;refine l _ ?_;clear l K;refine bV _ rfl (fun m u=>by unfold Oper.quietAt;go_simp;rfl) ?_;intro K l;go_simp;refine l _ ?_;clear l K;refine bV undef rfl (fun m u=>DC _ _ _ rfl (w.heap.size+1) _ rfl rfl 29 (by rw[u];exact F.out) cJ rfl) ?_;intro K l;go_simp;refine l _ ?_;clear l K;refine bV _ rfl (fun m u=>by unfold Oper.quietAt;go_simp;rfl) ?_;intro K l;go_simp;refine l _ ?_;clear l K;refine bV _ rfl (fun m u=>by unfold Oper.quietAt;go_simp;rfl) ?_;intro K l;go_simp;refine l _ ?_;clear l K;refine wpQuiet_nil ?_;rintro w7 rfl;go_wp2;refine bB (eA results54 _ _ _ _ _ _ _ rfl (show S.drew.heap[w.heap.size+1]?=_ from F.out) underlying29 rfl cJ) rfl ⟨?_,N.out.drew⟩;rw[HF.out];exact eB rfl rfl rfl
     ·have aH:Hid (kB s.data.toList n0 (i++[p]) Z):=yZ x aa.out J (by rw[ak.out];exact G) HV.out;rw[G]at Q;clear J G;go_wp2_with fail;refine(HP.out _ ((v.next j.out).alloc _)).mono ?_;rintro e E⟨rfl,r⟩;have g:=aT r;have N:Hid (Below w.heap.size w E):=Below.next (j.out.alloc j.out.size _) (aC _) g;have ab:Hid (E.heap[w.heap.size]?=some (.cells #[.int .i64 f,.int .i64 I,.string ⟨H.toArray⟩,.string ⟨#[]⟩,.string ⟨#[]⟩,.string ⟨#[]⟩,.string ⟨#[]⟩,.string ⟨#[]⟩,.string ⟨#[]⟩] 29 (0,0))):=(g.block _ (by simp;omega)).trans ((heap_alloc_old _ _ (by omega)).trans V.out);have F:Hid (E.heap[w.heap.size+1]?=some (.cells #[.int .i64 0,.int .i64 0,.string ⟨#[]⟩,.string ⟨#[]⟩,.string ⟨#[]⟩,.string ⟨#[]⟩,.string ⟨#[]⟩,.string ⟨#[]⟩,.string ⟨#[]⟩] 29 (0,0))):=(g.block _ (by simp;omega)).trans ((heap_alloc_old _ _ (by omega)).trans Q1.out);have ac:Hid (E.heap[o.heap.size]?=some (.cells (jT i) 78 (0,0))):=(g.block _ (by simp;omega)).trans ((heap_alloc_old _ _ (by omega)).trans QW.out);obtain⟨c0,c1⟩:=oA (show E.heap[wr.heap.size]?=some (.cells #[.int .i64 most,.int .i64 W] 146 (0,0))from(g.block _ (by simp)).trans (heap_alloc_new _ _));clear r g;go_wp2_with fail;refine(Q.out _).mono ?_;rintro e S⟨rfl,rfl⟩;go_wp2_with(refine bK rfl _ _ _ rfl rfl o.heap.size i.length _ rfl rfl _ _ (jT (i++[p])) ac.out fZ (by rw[FQ i aE];exact x) rfl (FS i p x) ?_;intro w7 p7;have P7:Hid (aI S o.heap.size _ _ w7):=p7;clear p7);go_roundw;case rel=>exact⟨i++[p],Z,by simp;omega,aY (by simp),rfl,P.1,aH.out,(P7.out.other _ (by omega)).trans ab.out,(P7.out.other _ (by omega)).trans F.out,P7.out.row,N.out.trans (P7.out.below (by omega))⟩
      case measure=>simp[intOf];omega
   ·obtain⟨al,am⟩:=zB (by omega) HV.out;obtain⟨y,z,A,B,rfl⟩:∃a b c d,i=[a,b,c,d]:=by
     match i,(by omega:i.length=4)with
     |[a,b,c,d],_=>exact⟨a,b,c,d,rfl⟩
    have HE:Hid (R=eH ⟨f,I,H,y,z,A,B,[],[]⟩ s.data.toList n):=by
     show _=_;rw[af.out,sC al,am];rfl
    clear al am;have aK:Hid (∀w,aJ w->Calls prog 89 #[.agg (aL ⟨f,I,H,y,z,A,B,[],[]⟩),.string s,.int .i64 n] w fun e m=>
      e= .returned (.tuple #[.agg (aL R.1),.int .i64 R.2.1,.int .i64 R.2.2])/\Below w.heap.size w m):=fun w v=>by
     rw[HE.out];exact FO _ rfl rfl s n w v hn hs
    go_wp2_with fail;have bW:∀k(h:k<4),wr.cell? ⟨o.heap.size,k,none⟩=some (.string ⟨([y,z,A,B][k]'h).toArray⟩):=fun k h=>by
     have q:wr.heap[o.heap.size]?=some (.cells #[.string ⟨y.toArray⟩,.string ⟨z.toArray⟩,.string ⟨A.toArray⟩,.string ⟨B.toArray⟩] 78 (0,0)):=QW.out;rcases(by omega:k=0∨k=1∨k=2∨k=3)with h|h|h|h <;> subst h <;> exact aS _ _ _ _ _ _ q
    have b0:=bW 0 (by omega);have b1:=bW 1 (by omega);have b2:=bW 2 (by omega);have b3:=bW 3 (by omega);dsimp only[List.getElem_cons_zero,List.getElem_cons_succ]at b0 b1 b2 b3;clear bW;have m3:wr.cell? ⟨w.heap.size,3,none⟩=some (.string ⟨#[]⟩):=aS _ _ _ _ _ _ V.out;have m4:wr.cell? ⟨w.heap.size,4,none⟩=some (.string ⟨#[]⟩):=aS _ _ _ _ _ _ V.out;have m5:wr.cell? ⟨w.heap.size,5,none⟩=some (.string ⟨#[]⟩):=aS _ _ _ _ _ _ V.out;have m6:wr.cell? ⟨w.heap.size,6,none⟩=some (.string ⟨#[]⟩):=aS _ _ _ _ _ _ V.out;have fz:∀k,wr.frozen? ⟨w.heap.size,k,none⟩=false:=fun k=>frozen_of_row _ _ _ _ _ V.out;have aN:¬o.heap.size=w.heap.size:=by omega
    have an:¬w.heap.size=o.heap.size:=by omega
    go_region
    have p6:=FU V.out (.string ⟨y.toArray⟩) (.string ⟨z.toArray⟩) (.string ⟨A.toArray⟩) (.string ⟨B.toArray⟩);simp only[eO,eR,eM]at p6;generalize((((wr.setCell ⟨w.heap.size,3,none⟩ (.string ⟨y.toArray⟩)).setCell ⟨w.heap.size,4,none⟩ (.string ⟨z.toArray⟩)).setCell ⟨w.heap.size,5,none⟩ (.string ⟨A.toArray⟩)).setCell ⟨w.heap.size,6,none⟩ (.string ⟨B.toArray⟩)).drew=S at p6⊢;have aP:Hid (S.heap[w.heap.size]?=some (.cells #[.int .i64 f,.int .i64 I,.string ⟨H.toArray⟩,.string ⟨y.toArray⟩,.string ⟨z.toArray⟩,.string ⟨A.toArray⟩,.string ⟨B.toArray⟩,.string ⟨#[]⟩,.string ⟨#[]⟩] 29 (0,0))):=p6.row;have ao:Hid (S.heap[w.heap.size+1]?=some (.cells #[.int .i64 0,.int .i64 0,.string ⟨#[]⟩,.string ⟨#[]⟩,.string ⟨#[]⟩,.string ⟨#[]⟩,.string ⟨#[]⟩,.string ⟨#[]⟩,.string ⟨#[]⟩] 29 (0,0))):=(p6.other _ (by omega)).trans Q1.out;have ap:Hid (Below w.heap.size w S):=j.out.trans (p6.below (aC _));have aQ:w.heap.size+1<S.heap.size:=(aM.1 ao.out).1;clear p6 b0 b1 b2 b3 m3 m4 m5 m6 fz aN an;go_wp2_with(first
     |(refine cG rfl _ _ rfl w.heap.size rfl _ _ _ _ aP.out underlying29 rfl cJ ?_)
     |(go_at_call 89;refine(aK.out _ (v.next ap.out)).mono ?_;rintro e w7⟨rfl,ad⟩;have aR:Hid (w7.heap[w.heap.size+1]?=some (.cells #[.int .i64 0,.int .i64 0,.string ⟨#[]⟩,.string ⟨#[]⟩,.string ⟨#[]⟩,.string ⟨#[]⟩,.string ⟨#[]⟩,.string ⟨#[]⟩,.string ⟨#[]⟩] 29 (0,0))):=(ad.block _ aQ).trans ao.out;have aU:Hid (Below w.heap.size w w7):=Below.next ap.out (aC _) ad;clear ad)
     |(refine bI rfl _ _ _ rfl rfl (w.heap.size+1) (aL R.1) rfl rfl _ _ aR.out cJ rfl rfl ?_;intro w8 p8;have P8:Hid (aI w7 _ _ _ w8):=p8;clear p8))
    refine bB (eA results54 _ _ _ _ _ _ _ rfl P8.out.row underlying29 rfl cJ) rfl ⟨?_,aU.out.trans (P8.out.below (by omega))⟩;exact eB rfl rfl rfl
 ·have HF:Hid (R=(aO.none,3,a)):=by
   show _=_;rw[hR,vM h0 (show iP L=none by rw[iP,aB J];exact X)]
  have a3:(L==[45])=false:=by simpa using J
  have aV:Hid (∀w,aJ w->Calls prog 88 #[.string ⟨L.toArray⟩] w fun e m=>e= .returned (.tuple #[.string ⟨#[]⟩,.bool false])/\Below w.heap.size w m):=fun w v=>by
   have:=zH ⟨L.toArray⟩ w v (by rw[lJ];omega)
   rwa [show(⟨L.toArray⟩:ByteArray).data.toList=L from rfl,X]at this
  clear hR h0 J X;go_enter func54,ntmps54;go_wp2_with fail;refine(av.out _ ((v.alloc _).alloc _)).mono ?_;rintro e o⟨rfl,D⟩;obtain⟨r0,r1⟩:=kU (aT D);have ae:Hid (Below w.heap.size w o):=((((aF _ _).alloc (aC _) _).alloc (by simp) _).trans ((aT D).mono (by simp;omega)));have a4:w.heap.size+2<=o.heap.size:=by have:=(aT D).size;simpa using this
  have au:Hid (o.heap[w.heap.size]?=some (.cells #[.int .i64 f,.int .i64 I,.string ⟨#[]⟩,.string ⟨#[]⟩,.string ⟨#[]⟩,.string ⟨#[]⟩,.string ⟨#[]⟩,.string ⟨#[]⟩,.string ⟨#[]⟩] 29 (0,0))):=r0;have aq:Hid (o.heap[w.heap.size+1]?=some (.cells #[.int .i64 0,.int .i64 0,.string ⟨#[]⟩,.string ⟨#[]⟩,.string ⟨#[]⟩,.string ⟨#[]⟩,.string ⟨#[]⟩,.string ⟨#[]⟩,.string ⟨#[]⟩] 29 (0,0))):=r1;clear D r0 r1;go_wp2_with fail;refine(aV.out _ (v.next ae.out)).mono ?_;rintro e w2⟨rfl,T⟩;have aW:Hid (Below w.heap.size w w2):=Below.next ae.out (aC _) T;have aZ:Hid (w2.heap[w.heap.size+1]?=some (.cells #[.int .i64 0,.int .i64 0,.string ⟨#[]⟩,.string ⟨#[]⟩,.string ⟨#[]⟩,.string ⟨#[]⟩,.string ⟨#[]⟩,.string ⟨#[]⟩,.string ⟨#[]⟩] 29 (0,0))):=(T.block _ (by omega)).trans aq.out;clear T au aq;go_wp2_with(refine bI rfl _ _ _ rfl rfl (w.heap.size+1) #[.int .i64 0,.int .i64 0,.string ⟨#[]⟩,.string ⟨#[]⟩,.string ⟨#[]⟩,.string ⟨#[]⟩,.string ⟨#[]⟩,.string ⟨#[]⟩,.string ⟨#[]⟩] rfl rfl _ _ aZ.out cJ rfl rfl ?_;intro w8 p8;have P8:Hid (aI w2 _ _ _ w8):=p8;clear p8);refine bB (eA results54 _ _ _ _ _ _ _ rfl P8.out.row underlying29 rfl cJ) rfl ⟨?_,aW.out.trans (P8.out.below (by omega))⟩;rw[HF.out];exact eB rfl rfl rfl
 ·have af:Hid (R=lC f I H s.data.toList n0):=by
   show _=_;rw[hR,sD h0 (show iP L=some H by rw[iP,aB J];exact X)]
  have a3:(L==[45])=false:=by simpa using J
  have aV:Hid (∀w,aJ w->Calls prog 88 #[.string ⟨L.toArray⟩] w fun e m=>e= .returned (.tuple #[.string ⟨H.toArray⟩,.bool true])/\Below w.heap.size w m):=fun w v=>by
   have:=zH ⟨L.toArray⟩ w v (by rw[lJ];omega)
   rwa [show(⟨L.toArray⟩:ByteArray).data.toList=L from rfl,X]at this
  clear hR h0 J X;go_enter func54,ntmps54;go_wp2_with fail;refine(av.out _ ((v.alloc _).alloc _)).mono ?_;rintro e wa⟨rfl,D⟩;obtain⟨r0,r1⟩:=kU (aT D);have ae:Hid (Below w.heap.size w wa):=((((aF _ _).alloc (aC _) _).alloc (by simp) _).trans ((aT D).mono (by simp;omega)));have a4:w.heap.size+2<=wa.heap.size:=by have:=(aT D).size;simpa using this
  have au:Hid (wa.heap[w.heap.size]?=some (.cells #[.int .i64 f,.int .i64 I,.string ⟨#[]⟩,.string ⟨#[]⟩,.string ⟨#[]⟩,.string ⟨#[]⟩,.string ⟨#[]⟩,.string ⟨#[]⟩,.string ⟨#[]⟩] 29 (0,0))):=r0;have aq:Hid (wa.heap[w.heap.size+1]?=some (.cells #[.int .i64 0,.int .i64 0,.string ⟨#[]⟩,.string ⟨#[]⟩,.string ⟨#[]⟩,.string ⟨#[]⟩,.string ⟨#[]⟩,.string ⟨#[]⟩,.string ⟨#[]⟩] 29 (0,0))):=r1;clear D r0 r1;go_wp2_with fail;refine(aV.out _ (v.next ae.out)).mono ?_;rintro e w2⟨rfl,T⟩;have aW:Hid (Below w.heap.size w w2):=Below.next ae.out (aC _) T;have aZ:Hid (w2.heap[w.heap.size]?=some (.cells #[.int .i64 f,.int .i64 I,.string ⟨#[]⟩,.string ⟨#[]⟩,.string ⟨#[]⟩,.string ⟨#[]⟩,.string ⟨#[]⟩,.string ⟨#[]⟩,.string ⟨#[]⟩] 29 (0,0))):=(T.block _ (by omega)).trans au.out;have a5:Hid (w2.heap[w.heap.size+1]?=some (.cells #[.int .i64 0,.int .i64 0,.string ⟨#[]⟩,.string ⟨#[]⟩,.string ⟨#[]⟩,.string ⟨#[]⟩,.string ⟨#[]⟩,.string ⟨#[]⟩,.string ⟨#[]⟩] 29 (0,0))):=(T.block _ (by omega)).trans aq.out;have a6:wa.heap.size<=w2.heap.size:=T.size;clear T au aq ae;go_wp2_with(first
   |(refine bK rfl _ _ _ rfl rfl w.heap.size 2 _ rfl rfl _ _ #[.int .i64 f,.int .i64 I,.string ⟨H.toArray⟩,.string ⟨#[]⟩,.string ⟨#[]⟩,.string ⟨#[]⟩,.string ⟨#[]⟩,.string ⟨#[]⟩,.string ⟨#[]⟩] aZ.out fZ (by simp) rfl rfl ?_;intro o p3;have ax:Hid (o.heap[w.heap.size]?=some (.cells #[.int .i64 f,.int .i64 I,.string ⟨H.toArray⟩,.string ⟨#[]⟩,.string ⟨#[]⟩,.string ⟨#[]⟩,.string ⟨#[]⟩,.string ⟨#[]⟩,.string ⟨#[]⟩] 29 (0,0))):=p3.row;have ay:Hid (o.heap[w.heap.size+1]?=some (.cells #[.int .i64 0,.int .i64 0,.string ⟨#[]⟩,.string ⟨#[]⟩,.string ⟨#[]⟩,.string ⟨#[]⟩,.string ⟨#[]⟩,.string ⟨#[]⟩,.string ⟨#[]⟩] 29 (0,0))):=(p3.other _ (by omega)).trans a5.out;have Y:Hid (Below w.heap.size w o):=aW.out.trans (p3.below (aC _));have a1:w.heap.size+2<=o.heap.size:=(by have:=p3.size;omega);clear p3;obtain⟨kt,az,ag⟩:=HK.out _ ((v.next Y.out).alloc (Obj.cells #[.string ⟨#[]⟩,.string ⟨#[]⟩,.string ⟨#[]⟩,.string ⟨#[]⟩] 78));have aA:Hid ((o.alloc (Obj.cells #[.string ⟨#[]⟩,.string ⟨#[]⟩,.string ⟨#[]⟩,.string ⟨#[]⟩] 78)).heap[0]?=some (Obj.cells C kt az)):=ag;clear ag)
   |(refine cG rfl _ _ rfl 0 rfl _ _ _ _ aA.out underlying147 rfl (by rw[a0.out];exact vV) ?_))
  go_loopw [10,36] (fun nx ix wr=>∃(i:List (List UInt8))(n:Nat),i.length<=4/\ix= .int .i64 i.length/\nx= .int .i64 n/\n<=s.size/\kB s.data.toList n0 i n/\wr.heap[w.heap.size]?=some (.cells #[.int .i64 f,.int .i64 I,.string ⟨H.toArray⟩,.string ⟨#[]⟩,.string ⟨#[]⟩,.string ⟨#[]⟩,.string ⟨#[]⟩,.string ⟨#[]⟩,.string ⟨#[]⟩] 29 (0,0))/\wr.heap[w.heap.size+1]?=some (.cells #[.int .i64 0,.int .i64 0,.string ⟨#[]⟩,.string ⟨#[]⟩,.string ⟨#[]⟩,.string ⟨#[]⟩,.string ⟨#[]⟩,.string ⟨#[]⟩,.string ⟨#[]⟩] 29 (0,0))/\wr.heap[o.heap.size]?=some (.cells (jT i) 78 (0,0))/\Below w.heap.size w wr) (fun _ ix _=>4-(intOf ix).toNat)
  case atStart=>
   refine⟨[],n0,by simp,rfl,rfl,ar.1,yW _ _,(heap_alloc_old _ _ (by omega)).trans ax.out,(heap_alloc_old _ _ (by omega)).trans ay.out,?_,Y.out.alloc Y.out.size _⟩;rw[FP];exact heap_alloc_new _ _
  case round=>
   obtain⟨i,n,aE,rfl,rfl,hn,U,q0,q1,qW,ah⟩:=hrel;have HV:Hid (kB s.data.toList n0 i n):=U;have V:Hid (wr.heap[w.heap.size]?=some (.cells #[.int .i64 f,.int .i64 I,.string ⟨H.toArray⟩,.string ⟨#[]⟩,.string ⟨#[]⟩,.string ⟨#[]⟩,.string ⟨#[]⟩,.string ⟨#[]⟩,.string ⟨#[]⟩] 29 (0,0))):=q0;have Q1:Hid (wr.heap[w.heap.size+1]?=some (.cells #[.int .i64 0,.int .i64 0,.string ⟨#[]⟩,.string ⟨#[]⟩,.string ⟨#[]⟩,.string ⟨#[]⟩,.string ⟨#[]⟩,.string ⟨#[]⟩,.string ⟨#[]⟩] 29 (0,0))):=q1;have QW:Hid (wr.heap[o.heap.size]?=some (.cells (jT i) 78 (0,0))):=qW;have j:Hid (Below w.heap.size w wr):=ah;have a2:o.heap.size<wr.heap.size:=(aM.1 qW).1;clear U q0 q1 qW ah;by_cases x:i.length<4
   ·have ai:=HI.out i.length x;obtain⟨most,W,M⟩:∃most W,aX.getD i.length (0,0)=(most,W):=⟨_,_,rfl⟩;have aG:most<=32:=by rcases(by omega:i.length=0∨i.length=1∨i.length=2∨i.length=3)with h|h|h|h <;> rw[h]at M <;> cases M <;> omega
    rw[M]at ai;dsimp only at ai;obtain⟨p,Z,O⟩:∃p Z,eU s.data.toList n=(p,Z):=⟨_,_,rfl⟩;have P:=yV s.data.toList n (by rw[Hm.len];exact hn);rw[O,Hm.len]at P;dsimp only at P;have HP:Hid (∀w,aJ w->Calls prog 87 #[.string s,.int .i64 n] w fun e m=>e= .returned (.tuple #[.string ⟨p.toArray⟩,.int .i64 Z])/\∃n,m=w.drewN n):=fun w v=>by
     have:=zI s n hs hn w v
     rwa [O]at this
    have aa:Hid (eU s.data.toList n=(p,Z)):=O;have aj:Hid (aX.getD i.length (0,0)=(most,W)):=M;clear O M;by_cases J:p=[45]
    ·subst J;go_wp2_with fail;refine(HP.out _ ((v.next j.out).alloc _)).mono ?_;rintro e E⟨rfl,r⟩;have g:=aT r;have N:Hid (Below w.heap.size w E):=Below.next (j.out.alloc j.out.size _) (aC _) g;have ab:Hid (E.heap[w.heap.size]?=some (.cells #[.int .i64 f,.int .i64 I,.string ⟨H.toArray⟩,.string ⟨#[]⟩,.string ⟨#[]⟩,.string ⟨#[]⟩,.string ⟨#[]⟩,.string ⟨#[]⟩,.string ⟨#[]⟩] 29 (0,0))):=(g.block _ (by simp;omega)).trans ((heap_alloc_old _ _ (by omega)).trans V.out);have F:Hid (E.heap[w.heap.size+1]?=some (.cells #[.int .i64 0,.int .i64 0,.string ⟨#[]⟩,.string ⟨#[]⟩,.string ⟨#[]⟩,.string ⟨#[]⟩,.string ⟨#[]⟩,.string ⟨#[]⟩,.string ⟨#[]⟩] 29 (0,0))):=(g.block _ (by simp;omega)).trans ((heap_alloc_old _ _ (by omega)).trans Q1.out);have ac:Hid (E.heap[o.heap.size]?=some (.cells (jT i) 78 (0,0))):=(g.block _ (by simp;omega)).trans ((heap_alloc_old _ _ (by omega)).trans QW.out);clear r g;go_wp2;go_roundw;case rel=>exact⟨i++[[]],Z,by simp;omega,aY (by simp),rfl,P.1,yY x aa.out HV.out,ab.out,F.out,by rw[FR i x];exact ac.out,N.out⟩
     case measure=>simp[intOf];omega
    ·have bd:(p==[45])=false:=by simpa using J
     have Q:Hid (∀w,Calls prog 79 #[.string ⟨p.toArray⟩,.int .i64 most] w fun e m=>e= .returned (.bool (bX p most))/\m=w):=fun w=>
      tL ⟨p.toArray⟩ most w (by rw[lJ];omega) (by omega)
     have ak:Hid (bX p (aX.getD i.length (0,0)).1=bX p most):=by show _=_;rw[aj.out]
     cases G:bX p most
     ·have HF:Hid (R=(aO.none,W,n)):=by
       show _=_;have:=zA x aa.out J (by rw[ak.out];exact G) HV.out;rw[aj.out]at this;rw[af.out,vL this]
      rw[G]at Q;clear J G;go_wp2_with fail;refine(HP.out _ ((v.next j.out).alloc _)).mono ?_;rintro e E⟨rfl,r⟩;have g:=aT r;have N:Hid (Below w.heap.size w E):=Below.next (j.out.alloc j.out.size _) (aC _) g;have F:Hid (E.heap[w.heap.size+1]?=some (.cells #[.int .i64 0,.int .i64 0,.string ⟨#[]⟩,.string ⟨#[]⟩,.string ⟨#[]⟩,.string ⟨#[]⟩,.string ⟨#[]⟩,.string ⟨#[]⟩,.string ⟨#[]⟩] 29 (0,0))):=(g.block _ (by simp;omega)).trans ((heap_alloc_old _ _ (by omega)).trans Q1.out);obtain⟨c0,c1⟩:=oA (show E.heap[wr.heap.size]?=some (.cells #[.int .i64 most,.int .i64 W] 146 (0,0))from(g.block _ (by simp)).trans (heap_alloc_new _ _));clear r g;go_wp2_with fail;refine(Q.out _).mono ?_;rintro e S⟨rfl,rfl⟩;go_wp2_with fail;refine sH (fun m=>m=S.drew) gT (by kernel_rfl) rfl ?_;refine bV _ rfl (fun m u=>by unfold Oper.quietAt;go_simp;rfl) ?_;intro K l;go_simp;refine l _ ?_;clear l K;refine bV _ rfl (fun m u=>by unfold Oper.quietAt;go_simp;rfl) ?_;intro K l;go_simp;refine l _ ?_;clear l K;refine bV (.int .i64 W) rfl (fun m u=>by unfold Oper.quietAt;have hc:m.cell? ⟨wr.heap.size,1,none⟩=some (.int .i64 W):=(by rw[u];exact c1);go_simp) ?_;intro K l;go_simp;refine l _ ?_;clear l K;refine bV _ rfl (fun m u=>by unfold Oper.quietAt;go_simp;rfl) ?_;intro K l;go_simp;refine l _ ?_;clear l K;refine bV undef rfl (fun m u=>DC _ _ _ rfl (w.heap.size+1) _ rfl rfl 29 (by rw[u];exact F.out) cJ rfl) ?_;intro K l;go_simp;refine l _ ?_;clear l K;refine bV _ rfl (fun m u=>by unfold Oper.quietAt;go_simp;rfl) ?_;intro K l;go_simp;refine l _ ?_;clear l K;refine bV _ rfl (fun m u=>by unfold Oper.quietAt;go_simp;rfl) ?_;intro K l;go_simp;refine l _ ?_;clear l K;refine wpQuiet_nil ?_;rintro w7 rfl;go_wp2;refine bB (eA results54 _ _ _ _ _ _ _ rfl (show S.drew.heap[w.heap.size+1]?=_ from F.out) underlying29 rfl cJ) rfl ⟨?_,N.out.drew⟩;rw[HF.out];exact eB rfl rfl rfl
     ·have aH:Hid (kB s.data.toList n0 (i++[p]) Z):=yZ x aa.out J (by rw[ak.out];exact G) HV.out;rw[G]at Q;clear J G;go_wp2_with fail;refine(HP.out _ ((v.next j.out).alloc _)).mono ?_;rintro e E⟨rfl,r⟩;have g:=aT r;have N:Hid (Below w.heap.size w E):=Below.next (j.out.alloc j.out.size _) (aC _) g;have ab:Hid (E.heap[w.heap.size]?=some (.cells #[.int .i64 f,.int .i64 I,.string ⟨H.toArray⟩,.string ⟨#[]⟩,.string ⟨#[]⟩,.string ⟨#[]⟩,.string ⟨#[]⟩,.string ⟨#[]⟩,.string ⟨#[]⟩] 29 (0,0))):=(g.block _ (by simp;omega)).trans ((heap_alloc_old _ _ (by omega)).trans V.out);have F:Hid (E.heap[w.heap.size+1]?=some (.cells #[.int .i64 0,.int .i64 0,.string ⟨#[]⟩,.string ⟨#[]⟩,.string ⟨#[]⟩,.string ⟨#[]⟩,.string ⟨#[]⟩,.string ⟨#[]⟩,.string ⟨#[]⟩] 29 (0,0))):=(g.block _ (by simp;omega)).trans ((heap_alloc_old _ _ (by omega)).trans Q1.out);have ac:Hid (E.heap[o.heap.size]?=some (.cells (jT i) 78 (0,0))):=(g.block _ (by simp;omega)).trans ((heap_alloc_old _ _ (by omega)).trans QW.out);obtain⟨c0,c1⟩:=oA (show E.heap[wr.heap.size]?=some (.cells #[.int .i64 most,.int .i64 W] 146 (0,0))from(g.block _ (by simp)).trans (heap_alloc_new _ _));clear r g;go_wp2_with fail;refine(Q.out _).mono ?_;rintro e S⟨rfl,rfl⟩;go_wp2_with(refine bK rfl _ _ _ rfl rfl o.heap.size i.length _ rfl rfl _ _ (jT (i++[p])) ac.out fZ (by rw[FQ i aE];exact x) rfl (FS i p x) ?_;intro w7 p7;have P7:Hid (aI S o.heap.size _ _ w7):=p7;clear p7);go_roundw;case rel=>exact⟨i++[p],Z,by simp;omega,aY (by simp),rfl,P.1,aH.out,(P7.out.other _ (by omega)).trans ab.out,(P7.out.other _ (by omega)).trans F.out,P7.out.row,N.out.trans (P7.out.below (by omega))⟩
      case measure=>simp[intOf];omega
   ·obtain⟨al,am⟩:=zB (by omega) HV.out;obtain⟨y,z,A,B,rfl⟩:∃a b c d,i=[a,b,c,d]:=by
     match i,(by omega:i.length=4)with
     |[a,b,c,d],_=>exact⟨a,b,c,d,rfl⟩
    have HE:Hid (R=eH ⟨f,I,H,y,z,A,B,[],[]⟩ s.data.toList n):=by
     show _=_;rw[af.out,sC al,am];rfl
    clear al am;have aK:Hid (∀w,aJ w->Calls prog 89 #[.agg (aL ⟨f,I,H,y,z,A,B,[],[]⟩),.string s,.int .i64 n] w fun e m=>
      e= .returned (.tuple #[.agg (aL R.1),.int .i64 R.2.1,.int .i64 R.2.2])/\Below w.heap.size w m):=fun w v=>by
     rw[HE.out];exact FO _ rfl rfl s n w v hn hs
    go_wp2_with fail;have bW:∀k(h:k<4),wr.cell? ⟨o.heap.size,k,none⟩=some (.string ⟨([y,z,A,B][k]'h).toArray⟩):=fun k h=>by
     have q:wr.heap[o.heap.size]?=some (.cells #[.string ⟨y.toArray⟩,.string ⟨z.toArray⟩,.string ⟨A.toArray⟩,.string ⟨B.toArray⟩] 78 (0,0)):=QW.out;rcases(by omega:k=0∨k=1∨k=2∨k=3)with h|h|h|h <;> subst h <;> exact aS _ _ _ _ _ _ q
    have b0:=bW 0 (by omega);have b1:=bW 1 (by omega);have b2:=bW 2 (by omega);have b3:=bW 3 (by omega);dsimp only[List.getElem_cons_zero,List.getElem_cons_succ]at b0 b1 b2 b3;clear bW;have m3:wr.cell? ⟨w.heap.size,3,none⟩=some (.string ⟨#[]⟩):=aS _ _ _ _ _ _ V.out;have m4:wr.cell? ⟨w.heap.size,4,none⟩=some (.string ⟨#[]⟩):=aS _ _ _ _ _ _ V.out;have m5:wr.cell? ⟨w.heap.size,5,none⟩=some (.string ⟨#[]⟩):=aS _ _ _ _ _ _ V.out;have m6:wr.cell? ⟨w.heap.size,6,none⟩=some (.string ⟨#[]⟩):=aS _ _ _ _ _ _ V.out;have fz:∀k,wr.frozen? ⟨w.heap.size,k,none⟩=false:=fun k=>frozen_of_row _ _ _ _ _ V.out;have aN:¬o.heap.size=w.heap.size:=by omega
    have an:¬w.heap.size=o.heap.size:=by omega
    go_region
    have p6:=FU V.out (.string ⟨y.toArray⟩) (.string ⟨z.toArray⟩) (.string ⟨A.toArray⟩) (.string ⟨B.toArray⟩);simp only[eO,eR,eM]at p6;generalize((((wr.setCell ⟨w.heap.size,3,none⟩ (.string ⟨y.toArray⟩)).setCell ⟨w.heap.size,4,none⟩ (.string ⟨z.toArray⟩)).setCell ⟨w.heap.size,5,none⟩ (.string ⟨A.toArray⟩)).setCell ⟨w.heap.size,6,none⟩ (.string ⟨B.toArray⟩)).drew=S at p6⊢;have aP:Hid (S.heap[w.heap.size]?=some (.cells #[.int .i64 f,.int .i64 I,.string ⟨H.toArray⟩,.string ⟨y.toArray⟩,.string ⟨z.toArray⟩,.string ⟨A.toArray⟩,.string ⟨B.toArray⟩,.string ⟨#[]⟩,.string ⟨#[]⟩] 29 (0,0))):=p6.row;have ao:Hid (S.heap[w.heap.size+1]?=some (.cells #[.int .i64 0,.int .i64 0,.string ⟨#[]⟩,.string ⟨#[]⟩,.string ⟨#[]⟩,.string ⟨#[]⟩,.string ⟨#[]⟩,.string ⟨#[]⟩,.string ⟨#[]⟩] 29 (0,0))):=(p6.other _ (by omega)).trans Q1.out;have ap:Hid (Below w.heap.size w S):=j.out.trans (p6.below (aC _));have aQ:w.heap.size+1<S.heap.size:=(aM.1 ao.out).1;clear p6 b0 b1 b2 b3 m3 m4 m5 m6 fz aN an;go_wp2_with(first
     |(refine cG rfl _ _ rfl w.heap.size rfl _ _ _ _ aP.out underlying29 rfl cJ ?_)
     |(go_at_call 89;refine(aK.out _ (v.next ap.out)).mono ?_;rintro e w7⟨rfl,ad⟩;have aR:Hid (w7.heap[w.heap.size+1]?=some (.cells #[.int .i64 0,.int .i64 0,.string ⟨#[]⟩,.string ⟨#[]⟩,.string ⟨#[]⟩,.string ⟨#[]⟩,.string ⟨#[]⟩,.string ⟨#[]⟩,.string ⟨#[]⟩] 29 (0,0))):=(ad.block _ aQ).trans ao.out;have aU:Hid (Below w.heap.size w w7):=Below.next ap.out (aC _) ad;clear ad)
     |(refine bI rfl _ _ _ rfl rfl (w.heap.size+1) (aL R.1) rfl rfl _ _ aR.out cJ rfl rfl ?_;intro w8 p8;have P8:Hid (aI w7 _ _ _ w8):=p8;clear p8))
    refine bB (eA results54 _ _ _ _ _ _ _ rfl P8.out.row underlying29 rfl cJ) rfl ⟨?_,aU.out.trans (P8.out.below (by omega))⟩;exact eB rfl rfl rfl
theorem oZ(w:World)(x y:Obj):((w.alloc x).alloc y).heap[w.heap.size+1]?=some y:=by
 have:=heap_alloc_new (w.alloc x) y
 rwa [show(w.alloc x).heap.size=w.heap.size+1 by simp]at this
theorem VL(s:ByteArray)(y:Int)(w:World)(h:200<s.size)(a:s.size<=9223372036854775800):
  Calls prog 21 #[.string s,.int .i64 y] w fun e b=>
   e= .returned (.tuple #[.agg (aL aO.none),.int .i64 1,.int .i64 0])/\Below w.heap.size w b:=by
 have hi:(200:Int)<(s.size:Int):=by omega
 clear h a;go_enter func21,ntmps21;go_wp2_with fail;refine bB (eA results21 _ _ _ _ _ _ _ rfl (heap_alloc_new _ _) underlying29 rfl cJ) rfl ⟨?_,(aF _ _).alloc (aC _) _⟩;exact eB rfl rfl rfl
theorem VM(s:ByteArray)(y:Int)(w:World)(h:s.size<=200)(a:dB y=false):
  Calls prog 21 #[.string s,.int .i64 y] w fun e b=>
   e= .returned (.tuple #[.agg (aL aO.none),.int .i64 10,.int .i64 0])/\Below w.heap.size w b:=by
 have hi:¬(200:Int)<(s.size:Int):=by omega
 clear h;go_enter func21,ntmps21;go_wp2_with fail;refine(lF y _).mono ?_;rintro e c⟨rfl,rfl⟩;rw[a];go_wp2_with fail;refine bB (eA results21 _ _ _ _ _ _ _ rfl (heap_alloc_new _ _) underlying29 rfl cJ) rfl ⟨?_,(aF _ _).alloc (aC _) _⟩;exact eB rfl rfl rfl
set_option maxRecDepth 20000 in
set_option maxHeartbeats 400000 in
theorem VN(s:ByteArray)(y:Int)(w:World)(j:aJ w)(h:s.size<=200)(A:dB y=true)(b a:Nat)(c:cS s.data.toList=(b,a))(B:0<a)(k:Lib.hasPrefix (s.data.toList.drop a) [49,32]=true)(R:aO×Nat×Nat)(r:R=eV ((b:Int)/8) ((b:Int)%8) s.data.toList (a+2)):
  Calls prog 21 #[.string s,.int .i64 y] w fun e d=>
   e= .returned (.tuple #[.agg (aL R.1),.int .i64 R.2.1,.int .i64 R.2.2])/\Below w.heap.size w d:=by
 have hi:¬(200:Int)<(s.size:Int):=by omega
 have t:=SX _ _ k;rw[Hm.len]at t;have l:=(pW s.data.toList).1;rw[c]at l;have C:wrap64 ((b:Int)/8)=(b:Int)/8:=by unfold wrap64;omega
 have u:s.size<=4000000000:=by omega
 have D:(0:Int)<(a:Int):=by omega
 have v:(a:Int)<=(s.size:Int):=by omega
 clear h;have E:Hid (∀w,aJ w->Calls prog 54 #[.agg #[.int .i64 ((b:Int)/8),.int .i64 ((b:Int)%8),.string ⟨#[]⟩,.string ⟨#[]⟩,.string ⟨#[]⟩,.string ⟨#[]⟩,.string ⟨#[]⟩,.string ⟨#[]⟩,.string ⟨#[]⟩],.string s,.int .i64 ((a+2:Nat):Int)] w fun e d=>
   e= .returned (.tuple #[.agg (aL R.1),.int .i64 R.2.1,.int .i64 R.2.2])/\Below w.heap.size w d):=fun w j=>VK _ _ s (a+2) w j t u R r
 have F:Hid (∀w,Calls prog 52 #[.string s] w fun e d=>e= .returned (.tuple #[.int .i64 b,.int .i64 a])/\d=w):=fun w=>by
  have:=tT s w u
  rwa [c]at this
 have G:Hid (∀w,Calls prog 53 #[.string (s.extract a s.size),.string ⟨#[49,32]⟩] w fun e d=>e= .returned (.bool true)/\d=w):=fun w=>by
  have:=dV (s.extract a s.size) ⟨#[49,32]⟩ w
  rwa [cP,show(⟨#[49,32]⟩:ByteArray).data.toList=[49,32]from rfl,k]at this
 clear c k r B;go_enter func21,ntmps21;go_wp2_with fail;refine(lF y _).mono ?_;rintro e I⟨rfl,rfl⟩;rw[A];go_wp2_with fail;refine(F.out _).mono ?_;rintro e J⟨rfl,rfl⟩;go_wp2_with fail;refine(G.out _).mono ?_;rintro e K⟨rfl,rfl⟩;obtain⟨W,hW⟩:∃W,(w.alloc (.cells #[.int .i64 0,.int .i64 0,.string ⟨#[]⟩,.string ⟨#[]⟩,.string ⟨#[]⟩,.string ⟨#[]⟩,.string ⟨#[]⟩,.string ⟨#[]⟩,.string ⟨#[]⟩] 29)).alloc (.cells #[.int .i64 ((b:Int)/8),.int .i64 ((b:Int)%8),.string ⟨#[]⟩,.string ⟨#[]⟩,.string ⟨#[]⟩,.string ⟨#[]⟩,.string ⟨#[]⟩,.string ⟨#[]⟩,.string ⟨#[]⟩] 29)=W:=⟨_,rfl⟩;have g:Hid (Below w.heap.size w W):=hW▸((aF _ _).alloc (aC _) _).alloc (by simp) _;have m:Hid (W.heap[w.heap.size+1]?=some (.cells #[.int .i64 ((b:Int)/8),.int .i64 ((b:Int)%8),.string ⟨#[]⟩,.string ⟨#[]⟩,.string ⟨#[]⟩,.string ⟨#[]⟩,.string ⟨#[]⟩,.string ⟨#[]⟩,.string ⟨#[]⟩] 29 (0,0))):=hW▸oZ _ _ _;have i:Hid (W.heap[w.heap.size]?=some (.cells #[.int .i64 0,.int .i64 0,.string ⟨#[]⟩,.string ⟨#[]⟩,.string ⟨#[]⟩,.string ⟨#[]⟩,.string ⟨#[]⟩,.string ⟨#[]⟩,.string ⟨#[]⟩] 29 (0,0))):=hW▸(heap_alloc_old _ _ (by simp)).trans (heap_alloc_new _ _);have n:w.heap.size<W.heap.size:=(aM.1 i.out).1;rw[hW];clear hW;go_wp2_with(first
  |(refine cG rfl _ _ rfl (w.heap.size+1) rfl _ _ _ _ m.out underlying29 rfl cJ ?_)
  |(go_at_call 54;refine(E.out _ (j.next g.out)).mono ?_;rintro e o⟨rfl,f⟩;have p:Hid (o.heap[w.heap.size]?=some (.cells #[.int .i64 0,.int .i64 0,.string ⟨#[]⟩,.string ⟨#[]⟩,.string ⟨#[]⟩,.string ⟨#[]⟩,.string ⟨#[]⟩,.string ⟨#[]⟩,.string ⟨#[]⟩] 29 (0,0))):=(f.block _ n).trans i.out;have q:Hid (Below w.heap.size w o):=Below.next g.out (aC _) f;clear f)
  |(refine bI rfl _ _ _ rfl rfl w.heap.size (aL R.1) rfl rfl _ _ p.out cJ rfl rfl ?_;intro H x;have z:=aA x;clear x))
 refine bB (eA results21 _ _ _ _ _ _ _ rfl z.out.row underlying29 rfl cJ) rfl ⟨?_,q.out.trans (z.out.below (aC _))⟩;exact eB rfl rfl rfl
set_option maxRecDepth 20000 in
set_option maxHeartbeats 400000 in
theorem VO(s:ByteArray)(y:Int)(w:World)(n:aJ w)(h:s.size<=200)(x:dB y=true)(b a:Nat)(d:cS s.data.toList=(b,a))(z:a=0)(f:bO (s.data.toList.drop a)=false):
  Calls prog 21 #[.string s,.int .i64 y] w fun e g=>
   e= .returned (.tuple #[.agg (aL aO.none),.int .i64 9,.int .i64 a])/\Below w.heap.size w g:=by
 have hi:¬(200:Int)<(s.size:Int):=by omega
 have i:=pW s.data.toList;rw[d,Hm.len]at i;dsimp only at i;have A:wrap64 ((b:Int)/8)=(b:Int)/8:=by unfold wrap64;omega
 have B:s.size<=4000000000:=by omega
 have C:¬(0:Int)<(a:Int):=by omega
 clear z;have r:(a:Int)<=(s.size:Int):=by omega
 clear h;have D:Hid (∀w,Calls prog 52 #[.string s] w fun e g=>e= .returned (.tuple #[.int .i64 b,.int .i64 a])/\g=w):=fun w=>by
  have:=tT s w B
  rwa [d]at this
 have o:Hid (∀w,aJ w->Calls prog 55 #[.string (s.extract a s.size)] w fun e g=>e= .returned (.bool false)/\Below w.heap.size w g):=fun w n=>by
  have:=pY (s.extract a s.size) w n (by simp;omega)
  rwa [cP,f]at this
 clear d f;go_enter func21,ntmps21;go_wp2_with fail;refine(lF y _).mono ?_;rintro e H⟨rfl,rfl⟩;rw[x];go_wp2_with fail;refine(D.out _).mono ?_;rintro e I⟨rfl,rfl⟩;go_wp2_with fail;obtain⟨W,hW⟩:∃W,(w.alloc (.cells #[.int .i64 0,.int .i64 0,.string ⟨#[]⟩,.string ⟨#[]⟩,.string ⟨#[]⟩,.string ⟨#[]⟩,.string ⟨#[]⟩,.string ⟨#[]⟩,.string ⟨#[]⟩] 29)).alloc (.cells #[.int .i64 ((b:Int)/8),.int .i64 ((b:Int)%8),.string ⟨#[]⟩,.string ⟨#[]⟩,.string ⟨#[]⟩,.string ⟨#[]⟩,.string ⟨#[]⟩,.string ⟨#[]⟩,.string ⟨#[]⟩] 29)=W:=⟨_,rfl⟩;have j:Hid (Below w.heap.size w W):=hW▸((aF _ _).alloc (aC _) _).alloc (by simp) _;have k:Hid (W.heap[w.heap.size+1]?=some (.cells #[.int .i64 ((b:Int)/8),.int .i64 ((b:Int)%8),.string ⟨#[]⟩,.string ⟨#[]⟩,.string ⟨#[]⟩,.string ⟨#[]⟩,.string ⟨#[]⟩,.string ⟨#[]⟩,.string ⟨#[]⟩] 29 (0,0))):=hW▸oZ _ _ _;have p:Hid (W.heap[w.heap.size]?=some (.cells #[.int .i64 0,.int .i64 0,.string ⟨#[]⟩,.string ⟨#[]⟩,.string ⟨#[]⟩,.string ⟨#[]⟩,.string ⟨#[]⟩,.string ⟨#[]⟩,.string ⟨#[]⟩] 29 (0,0))):=hW▸(heap_alloc_old _ _ (by simp)).trans (heap_alloc_new _ _);have E:w.heap.size+1<W.heap.size:=(aM.1 k.out).1;rw[hW];clear hW;refine(o.out _ (n.next j.out)).mono ?_;rintro e l⟨rfl,c⟩;have m:Hid (l.heap[w.heap.size]?=some (.cells #[.int .i64 0,.int .i64 0,.string ⟨#[]⟩,.string ⟨#[]⟩,.string ⟨#[]⟩,.string ⟨#[]⟩,.string ⟨#[]⟩,.string ⟨#[]⟩,.string ⟨#[]⟩] 29 (0,0))):=(c.block _ (by omega)).trans p.out;have t:Hid (l.heap[w.heap.size+1]?=some (.cells #[.int .i64 ((b:Int)/8),.int .i64 ((b:Int)%8),.string ⟨#[]⟩,.string ⟨#[]⟩,.string ⟨#[]⟩,.string ⟨#[]⟩,.string ⟨#[]⟩,.string ⟨#[]⟩,.string ⟨#[]⟩] 29 (0,0))):=(c.block _ (by omega)).trans k.out;have q:Hid (Below w.heap.size w l):=Below.next j.out (aC _) c;have F:w.heap.size+1<l.heap.size:=(by have:=c.size;omega);clear c;go_wp2_with(first
  |(refine bI rfl _ _ _ rfl rfl w.heap.size #[.int .i64 0,.int .i64 0,.string ⟨#[]⟩,.string ⟨#[]⟩,.string ⟨#[]⟩,.string ⟨#[]⟩,.string ⟨#[]⟩,.string ⟨#[]⟩,.string ⟨#[]⟩] rfl rfl _ _ m.out cJ rfl rfl ?_;intro G u;have v:=aA u;clear u))
 refine bB (eA results21 _ _ _ _ _ _ _ rfl v.out.row underlying29 rfl cJ) rfl ⟨?_,q.out.trans (v.out.below (aC _))⟩;exact eB rfl rfl rfl
set_option maxRecDepth 20000 in
set_option maxHeartbeats 400000 in
theorem VP(s:ByteArray)(y:Int)(w:World)(n:aJ w)(h:s.size<=200)(z:dB y=true)(b a:Nat)(d:cS s.data.toList=(b,a))(I:0<a)(r:Lib.hasPrefix (s.data.toList.drop a) [49,32]=false)(g:bO (s.data.toList.drop a)=false):
  Calls prog 21 #[.string s,.int .i64 y] w fun e f=>
   e= .returned (.tuple #[.agg (aL aO.none),.int .i64 9,.int .i64 a])/\Below w.heap.size w f:=by
 have hi:¬(200:Int)<(s.size:Int):=by omega
 have i:=pW s.data.toList;rw[d,Hm.len]at i;dsimp only at i;have A:wrap64 ((b:Int)/8)=(b:Int)/8:=by unfold wrap64;omega
 have B:s.size<=4000000000:=by omega
 have C:(0:Int)<(a:Int):=by omega
 have t:(a:Int)<=(s.size:Int):=by omega
 clear h;have D:Hid (∀w,Calls prog 52 #[.string s] w fun e f=>e= .returned (.tuple #[.int .i64 b,.int .i64 a])/\f=w):=fun w=>by
  have:=tT s w B
  rwa [d]at this
 have o:Hid (∀w,aJ w->Calls prog 55 #[.string (s.extract a s.size)] w fun e f=>e= .returned (.bool false)/\Below w.heap.size w f):=fun w n=>by
  have:=pY (s.extract a s.size) w n (by simp;omega)
  rwa [cP,g]at this
 have E:Hid (∀w,Calls prog 53 #[.string (s.extract a s.size),.string ⟨#[49,32]⟩] w fun e f=>e= .returned (.bool false)/\f=w):=fun w=>by
  have:=dV (s.extract a s.size) ⟨#[49,32]⟩ w
  rwa [cP,show(⟨#[49,32]⟩:ByteArray).data.toList=[49,32]from rfl,r]at this
 clear r;clear d g;go_enter func21,ntmps21;go_wp2_with fail;refine(lF y _).mono ?_;rintro e J⟨rfl,rfl⟩;rw[z];go_wp2_with fail;refine(D.out _).mono ?_;rintro e K⟨rfl,rfl⟩;go_wp2_with fail;refine(E.out _).mono ?_;rintro e L⟨rfl,rfl⟩;obtain⟨W,hW⟩:∃W,(w.alloc (.cells #[.int .i64 0,.int .i64 0,.string ⟨#[]⟩,.string ⟨#[]⟩,.string ⟨#[]⟩,.string ⟨#[]⟩,.string ⟨#[]⟩,.string ⟨#[]⟩,.string ⟨#[]⟩] 29)).alloc (.cells #[.int .i64 ((b:Int)/8),.int .i64 ((b:Int)%8),.string ⟨#[]⟩,.string ⟨#[]⟩,.string ⟨#[]⟩,.string ⟨#[]⟩,.string ⟨#[]⟩,.string ⟨#[]⟩,.string ⟨#[]⟩] 29)=W:=⟨_,rfl⟩;have j:Hid (Below w.heap.size w W):=hW▸((aF _ _).alloc (aC _) _).alloc (by simp) _;have k:Hid (W.heap[w.heap.size+1]?=some (.cells #[.int .i64 ((b:Int)/8),.int .i64 ((b:Int)%8),.string ⟨#[]⟩,.string ⟨#[]⟩,.string ⟨#[]⟩,.string ⟨#[]⟩,.string ⟨#[]⟩,.string ⟨#[]⟩,.string ⟨#[]⟩] 29 (0,0))):=hW▸oZ _ _ _;have p:Hid (W.heap[w.heap.size]?=some (.cells #[.int .i64 0,.int .i64 0,.string ⟨#[]⟩,.string ⟨#[]⟩,.string ⟨#[]⟩,.string ⟨#[]⟩,.string ⟨#[]⟩,.string ⟨#[]⟩,.string ⟨#[]⟩] 29 (0,0))):=hW▸(heap_alloc_old _ _ (by simp)).trans (heap_alloc_new _ _);have F:w.heap.size+1<W.heap.size:=(aM.1 k.out).1;rw[hW];clear hW;go_wp2_with(first
  |(go_at_call 55;refine(o.out _ (n.next j.out)).mono ?_;rintro e l⟨rfl,c⟩;have m:Hid (l.heap[w.heap.size]?=some (.cells #[.int .i64 0,.int .i64 0,.string ⟨#[]⟩,.string ⟨#[]⟩,.string ⟨#[]⟩,.string ⟨#[]⟩,.string ⟨#[]⟩,.string ⟨#[]⟩,.string ⟨#[]⟩] 29 (0,0))):=(c.block _ (by omega)).trans p.out;have u:Hid (l.heap[w.heap.size+1]?=some (.cells #[.int .i64 ((b:Int)/8),.int .i64 ((b:Int)%8),.string ⟨#[]⟩,.string ⟨#[]⟩,.string ⟨#[]⟩,.string ⟨#[]⟩,.string ⟨#[]⟩,.string ⟨#[]⟩,.string ⟨#[]⟩] 29 (0,0))):=(c.block _ (by omega)).trans k.out;have q:Hid (Below w.heap.size w l):=Below.next j.out (aC _) c;have G:w.heap.size+1<l.heap.size:=(by have:=c.size;omega);clear c)
  |(refine bI rfl _ _ _ rfl rfl w.heap.size #[.int .i64 0,.int .i64 0,.string ⟨#[]⟩,.string ⟨#[]⟩,.string ⟨#[]⟩,.string ⟨#[]⟩,.string ⟨#[]⟩,.string ⟨#[]⟩,.string ⟨#[]⟩] rfl rfl _ _ m.out cJ rfl rfl ?_;intro H v;have x:=aA v;clear v))
 refine bB (eA results21 _ _ _ _ _ _ _ rfl x.out.row underlying29 rfl cJ) rfl ⟨?_,q.out.trans (x.out.below (aC _))⟩;exact eB rfl rfl rfl
set_option maxRecDepth 20000 in
set_option maxHeartbeats 400000 in
theorem VQ(s:ByteArray)(y:Int)(w:World)(i:aJ w)(h:s.size<=200)(t:dB y=true)(b a:Nat)(d:cS s.data.toList=(b,a))(G:a=0)(k:bO (s.data.toList.drop a)=true):
  Calls prog 21 #[.string s,.int .i64 y] w fun e f=>
   e= .returned (.tuple #[.agg (aL (jB (aO.of ((b:Int)/8) ((b:Int)%8)) (s.data.toList.drop a) y.toNat)),.int .i64 0,.int .i64 0])/\Below w.heap.size w f:=by
 have hi:¬(200:Int)<(s.size:Int):=by omega
 have l:=pW s.data.toList;rw[d,Hm.len]at l;dsimp only at l;have H:wrap64 ((b:Int)/8)=(b:Int)/8:=by unfold wrap64;omega
 have I:s.size<=4000000000:=by omega
 have J:¬(0:Int)<(a:Int):=by omega
 clear G;have B:(a:Int)<=(s.size:Int):=by omega
 clear h;have L:Hid (∀w,Calls prog 52 #[.string s] w fun e f=>e= .returned (.tuple #[.int .i64 b,.int .i64 a])/\f=w):=fun w=>by
  have:=tT s w I
  rwa [d]at this
 have u:Hid (∀w,aJ w->Calls prog 55 #[.string (s.extract a s.size)] w fun e f=>e= .returned (.bool true)/\Below w.heap.size w f):=fun w i=>by
  have:=pY (s.extract a s.size) w i (by simp;omega)
  rwa [cP,k]at this
 have m:1<=y/\y<=9999:=by unfold dB at t;simpa using t
 have C:Hid (∀w,aJ w->Calls prog 56 #[.agg #[.int .i64 ((b:Int)/8),.int .i64 ((b:Int)%8),.string ⟨#[]⟩,.string ⟨#[]⟩,.string ⟨#[]⟩,.string ⟨#[]⟩,.string ⟨#[]⟩,.string ⟨#[]⟩,.string ⟨#[]⟩],.string (s.extract a s.size),.int .i64 y] w fun e f=>e= .returned (.agg (aL (jB (aO.of ((b:Int)/8) ((b:Int)%8)) (s.data.toList.drop a) y.toNat)))/\Below w.heap.size w f):=fun w i=>by
  have:=FN ((b:Int)/8) ((b:Int)%8) (s.extract a s.size) y w i (by simp;omega) m.1 m.2
  rwa [cP]at this
 generalize jB (aO.of ((b:Int)/8) ((b:Int)%8)) (s.data.toList.drop a) y.toNat=O at C⊢;clear d k;go_enter func21,ntmps21;go_wp2_with fail;refine(lF y _).mono ?_;rintro e Q⟨rfl,rfl⟩;rw[t];go_wp2_with fail;refine(L.out _).mono ?_;rintro e R⟨rfl,rfl⟩;go_wp2_with fail;obtain⟨W,hW⟩:∃W,(w.alloc (.cells #[.int .i64 0,.int .i64 0,.string ⟨#[]⟩,.string ⟨#[]⟩,.string ⟨#[]⟩,.string ⟨#[]⟩,.string ⟨#[]⟩,.string ⟨#[]⟩,.string ⟨#[]⟩] 29)).alloc (.cells #[.int .i64 ((b:Int)/8),.int .i64 ((b:Int)%8),.string ⟨#[]⟩,.string ⟨#[]⟩,.string ⟨#[]⟩,.string ⟨#[]⟩,.string ⟨#[]⟩,.string ⟨#[]⟩,.string ⟨#[]⟩] 29)=W:=⟨_,rfl⟩;have n:Hid (Below w.heap.size w W):=hW▸((aF _ _).alloc (aC _) _).alloc (by simp) _;have o:Hid (W.heap[w.heap.size+1]?=some (.cells #[.int .i64 ((b:Int)/8),.int .i64 ((b:Int)%8),.string ⟨#[]⟩,.string ⟨#[]⟩,.string ⟨#[]⟩,.string ⟨#[]⟩,.string ⟨#[]⟩,.string ⟨#[]⟩,.string ⟨#[]⟩] 29 (0,0))):=hW▸oZ _ _ _;have v:Hid (W.heap[w.heap.size]?=some (.cells #[.int .i64 0,.int .i64 0,.string ⟨#[]⟩,.string ⟨#[]⟩,.string ⟨#[]⟩,.string ⟨#[]⟩,.string ⟨#[]⟩,.string ⟨#[]⟩,.string ⟨#[]⟩] 29 (0,0))):=hW▸(heap_alloc_old _ _ (by simp)).trans (heap_alloc_new _ _);have M:w.heap.size+1<W.heap.size:=(aM.1 o.out).1;rw[hW];clear hW;refine(u.out _ (i.next n.out)).mono ?_;rintro e j⟨rfl,c⟩;have p:Hid (j.heap[w.heap.size]?=some (.cells #[.int .i64 0,.int .i64 0,.string ⟨#[]⟩,.string ⟨#[]⟩,.string ⟨#[]⟩,.string ⟨#[]⟩,.string ⟨#[]⟩,.string ⟨#[]⟩,.string ⟨#[]⟩] 29 (0,0))):=(c.block _ (by omega)).trans v.out;have q:Hid (j.heap[w.heap.size+1]?=some (.cells #[.int .i64 ((b:Int)/8),.int .i64 ((b:Int)%8),.string ⟨#[]⟩,.string ⟨#[]⟩,.string ⟨#[]⟩,.string ⟨#[]⟩,.string ⟨#[]⟩,.string ⟨#[]⟩,.string ⟨#[]⟩] 29 (0,0))):=(c.block _ (by omega)).trans o.out;have r:Hid (Below w.heap.size w j):=Below.next n.out (aC _) c;have N:w.heap.size+1<j.heap.size:=(by have:=c.size;omega);clear c;go_wp2_with fail;refine zG 5 gT (by kernel_rfl) ?_;simp only[mG,List.take_zero,iZ,fB];refine DJ rfl _ _ rfl (w.heap.size+1) rfl 29 #[.int .i64 ((b:Int)/8),.int .i64 ((b:Int)%8),.string ⟨#[]⟩,.string ⟨#[]⟩,.string ⟨#[]⟩,.string ⟨#[]⟩,.string ⟨#[]⟩,.string ⟨#[]⟩,.string ⟨#[]⟩] (0,0) _ (show j.drew.heap[w.heap.size+1]?=_ from q.out) underlying29 rfl cJ ?_;intro K D;go_simp;refine D _ ?_;clear D K
 still_step
 still_step
 still_step
 still_step
 refine wpStill_nil ?_;go_wp2_with(first
  |(go_at_call 56;refine(C.out _ (i.next r.out.drew)).mono ?_;rintro e x⟨rfl,g⟩;have z:Hid (x.heap[w.heap.size]?=some (.cells #[.int .i64 0,.int .i64 0,.string ⟨#[]⟩,.string ⟨#[]⟩,.string ⟨#[]⟩,.string ⟨#[]⟩,.string ⟨#[]⟩,.string ⟨#[]⟩,.string ⟨#[]⟩] 29 (0,0))):=(g.block _ (show _<j.heap.size by omega)).trans p.out;have A:Hid (Below w.heap.size w x):=Below.next r.out.drew (aC _) g;clear g)
  |(refine bI rfl _ _ _ rfl rfl w.heap.size (aL O) rfl rfl _ _ z.out cJ rfl rfl ?_;intro P E;have F:=aA E;clear E))
 refine bB (eA results21 _ _ _ _ _ _ _ rfl F.out.row underlying29 rfl cJ) rfl ⟨?_,A.out.trans (F.out.below (aC _))⟩;exact eB rfl rfl rfl
set_option maxRecDepth 20000 in
set_option maxHeartbeats 400000 in
theorem VR(s:ByteArray)(y:Int)(w:World)(i:aJ w)(h:s.size<=200)(t:dB y=true)(b a:Nat)(f:cS s.data.toList=(b,a))(R:0<a)(B:Lib.hasPrefix (s.data.toList.drop a) [49,32]=false)(k:bO (s.data.toList.drop a)=true):
  Calls prog 21 #[.string s,.int .i64 y] w fun e d=>
   e= .returned (.tuple #[.agg (aL (jB (aO.of ((b:Int)/8) ((b:Int)%8)) (s.data.toList.drop a) y.toNat)),.int .i64 0,.int .i64 0])/\Below w.heap.size w d:=by
 have hi:¬(200:Int)<(s.size:Int):=by omega
 have l:=pW s.data.toList;rw[f,Hm.len]at l;dsimp only at l;have H:wrap64 ((b:Int)/8)=(b:Int)/8:=by unfold wrap64;omega
 have I:s.size<=4000000000:=by omega
 have J:(0:Int)<(a:Int):=by omega
 have C:(a:Int)<=(s.size:Int):=by omega
 clear h;have L:Hid (∀w,Calls prog 52 #[.string s] w fun e d=>e= .returned (.tuple #[.int .i64 b,.int .i64 a])/\d=w):=fun w=>by
  have:=tT s w I
  rwa [f]at this
 have u:Hid (∀w,aJ w->Calls prog 55 #[.string (s.extract a s.size)] w fun e d=>e= .returned (.bool true)/\Below w.heap.size w d):=fun w i=>by
  have:=pY (s.extract a s.size) w i (by simp;omega)
  rwa [cP,k]at this
 have M:Hid (∀w,Calls prog 53 #[.string (s.extract a s.size),.string ⟨#[49,32]⟩] w fun e d=>e= .returned (.bool false)/\d=w):=fun w=>by
  have:=dV (s.extract a s.size) ⟨#[49,32]⟩ w
  rwa [cP,show(⟨#[49,32]⟩:ByteArray).data.toList=[49,32]from rfl,B]at this
 clear B;have m:1<=y/\y<=9999:=by unfold dB at t;simpa using t
 have D:Hid (∀w,aJ w->Calls prog 56 #[.agg #[.int .i64 ((b:Int)/8),.int .i64 ((b:Int)%8),.string ⟨#[]⟩,.string ⟨#[]⟩,.string ⟨#[]⟩,.string ⟨#[]⟩,.string ⟨#[]⟩,.string ⟨#[]⟩,.string ⟨#[]⟩],.string (s.extract a s.size),.int .i64 y] w fun e d=>e= .returned (.agg (aL (jB (aO.of ((b:Int)/8) ((b:Int)%8)) (s.data.toList.drop a) y.toNat)))/\Below w.heap.size w d):=fun w i=>by
  have:=FN ((b:Int)/8) ((b:Int)%8) (s.extract a s.size) y w i (by simp;omega) m.1 m.2
  rwa [cP]at this
 generalize jB (aO.of ((b:Int)/8) ((b:Int)%8)) (s.data.toList.drop a) y.toNat=O at D⊢;clear f k;go_enter func21,ntmps21;go_wp2_with fail;refine(lF y _).mono ?_;rintro e S⟨rfl,rfl⟩;rw[t];go_wp2_with fail;refine(L.out _).mono ?_;rintro e T⟨rfl,rfl⟩;go_wp2_with fail;refine(M.out _).mono ?_;rintro e U⟨rfl,rfl⟩;obtain⟨W,hW⟩:∃W,(w.alloc (.cells #[.int .i64 0,.int .i64 0,.string ⟨#[]⟩,.string ⟨#[]⟩,.string ⟨#[]⟩,.string ⟨#[]⟩,.string ⟨#[]⟩,.string ⟨#[]⟩,.string ⟨#[]⟩] 29)).alloc (.cells #[.int .i64 ((b:Int)/8),.int .i64 ((b:Int)%8),.string ⟨#[]⟩,.string ⟨#[]⟩,.string ⟨#[]⟩,.string ⟨#[]⟩,.string ⟨#[]⟩,.string ⟨#[]⟩,.string ⟨#[]⟩] 29)=W:=⟨_,rfl⟩;have n:Hid (Below w.heap.size w W):=hW▸((aF _ _).alloc (aC _) _).alloc (by simp) _;have o:Hid (W.heap[w.heap.size+1]?=some (.cells #[.int .i64 ((b:Int)/8),.int .i64 ((b:Int)%8),.string ⟨#[]⟩,.string ⟨#[]⟩,.string ⟨#[]⟩,.string ⟨#[]⟩,.string ⟨#[]⟩,.string ⟨#[]⟩,.string ⟨#[]⟩] 29 (0,0))):=hW▸oZ _ _ _;have v:Hid (W.heap[w.heap.size]?=some (.cells #[.int .i64 0,.int .i64 0,.string ⟨#[]⟩,.string ⟨#[]⟩,.string ⟨#[]⟩,.string ⟨#[]⟩,.string ⟨#[]⟩,.string ⟨#[]⟩,.string ⟨#[]⟩] 29 (0,0))):=hW▸(heap_alloc_old _ _ (by simp)).trans (heap_alloc_new _ _);have N:w.heap.size+1<W.heap.size:=(aM.1 o.out).1;rw[hW];clear hW;go_wp2_with(go_at_call 55;refine(u.out _ (i.next n.out)).mono ?_;rintro e j⟨rfl,c⟩;have p:Hid (j.heap[w.heap.size]?=some (.cells #[.int .i64 0,.int .i64 0,.string ⟨#[]⟩,.string ⟨#[]⟩,.string ⟨#[]⟩,.string ⟨#[]⟩,.string ⟨#[]⟩,.string ⟨#[]⟩,.string ⟨#[]⟩] 29 (0,0))):=(c.block _ (by omega)).trans v.out;have q:Hid (j.heap[w.heap.size+1]?=some (.cells #[.int .i64 ((b:Int)/8),.int .i64 ((b:Int)%8),.string ⟨#[]⟩,.string ⟨#[]⟩,.string ⟨#[]⟩,.string ⟨#[]⟩,.string ⟨#[]⟩,.string ⟨#[]⟩,.string ⟨#[]⟩] 29 (0,0))):=(c.block _ (by omega)).trans o.out;have r:Hid (Below w.heap.size w j):=Below.next n.out (aC _) c;have P:w.heap.size+1<j.heap.size:=(by have:=c.size;omega);clear c);refine zG 5 gT (by kernel_rfl) ?_;simp only[mG,List.take_zero,iZ,fB];refine DJ rfl _ _ rfl (w.heap.size+1) rfl 29 #[.int .i64 ((b:Int)/8),.int .i64 ((b:Int)%8),.string ⟨#[]⟩,.string ⟨#[]⟩,.string ⟨#[]⟩,.string ⟨#[]⟩,.string ⟨#[]⟩,.string ⟨#[]⟩,.string ⟨#[]⟩] (0,0) _ (show j.drew.heap[w.heap.size+1]?=_ from q.out) underlying29 rfl cJ ?_;intro K E;go_simp;refine E _ ?_;clear E K
 still_step
 still_step
 still_step
 still_step
 refine wpStill_nil ?_;go_wp2_with(first
  |(go_at_call 56;refine(D.out _ (i.next r.out.drew)).mono ?_;rintro e x⟨rfl,g⟩;have z:Hid (x.heap[w.heap.size]?=some (.cells #[.int .i64 0,.int .i64 0,.string ⟨#[]⟩,.string ⟨#[]⟩,.string ⟨#[]⟩,.string ⟨#[]⟩,.string ⟨#[]⟩,.string ⟨#[]⟩,.string ⟨#[]⟩] 29 (0,0))):=(g.block _ (show _<j.heap.size by omega)).trans p.out;have A:Hid (Below w.heap.size w x):=Below.next r.out.drew (aC _) g;clear g)
  |(refine bI rfl _ _ _ rfl rfl w.heap.size (aL O) rfl rfl _ _ z.out cJ rfl rfl ?_;intro Q F;have G:=aA F;clear F))
 refine bB (eA results21 _ _ _ _ _ _ _ rfl G.out.row underlying29 rfl cJ) rfl ⟨?_,A.out.trans (G.out.below (aC _))⟩;exact eB rfl rfl rfl
theorem vW(s:ByteArray)(y:Int)(w:World)(g:aJ w)(k:s.size<=9223372036854775800):
  Calls prog 21 #[.string s,.int .i64 y] w fun e l=>
   e= .returned (.tuple #[.agg (aL (bH s.data.toList y).1),.int .i64 (bH s.data.toList y).2.1,.int .i64 (bH s.data.toList y).2.2])/\Below w.heap.size w l:=by
 unfold bH;by_cases h1:200<s.size
 ·rw[aD (by rw[Hm.len];exact h1)];exact VL s y w h1 k
 rw[aB (by rw[Hm.len];exact h1)];cases f:dB y
 ·rw[aD rfl];exact VM s y w (by omega) f
 rw[aB (by decide)];obtain⟨b,a,c⟩:∃b a,cS s.data.toList=(b,a):=⟨_,_,rfl⟩;rw[c];by_cases i:0<a
 ·cases j:Lib.hasPrefix (s.data.toList.drop a) [49,32]
  ·rw[aB (fun h=>by cases h.2)];cases d:bO (s.data.toList.drop a)
   ·rw[aD rfl];exact VP s y w g (by omega) f b a c i j d
   ·rw[aB (by decide)];exact VR s y w g (by omega) f b a c i j d
  ·rw[aD ⟨i,rfl⟩];exact VN s y w g (by omega) f b a c i j _ rfl
 ·rw[aB (by rintro⟨h,_⟩;exact i h)];cases d:bO (s.data.toList.drop a)
  ·rw[aD rfl];exact VO s y w g (by omega) f b a c (by omega) d
  ·rw[aB (by decide)];exact VQ s y w g (by omega) f b a c (by omega) d
end Go.Proofs.Z

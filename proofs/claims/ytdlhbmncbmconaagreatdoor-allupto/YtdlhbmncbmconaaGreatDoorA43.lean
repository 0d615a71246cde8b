/- Pressed by program out of R26 Bq R27. -/
import Derived.Test.YtdlhbmncbmconaaGreatDoorA14
import Derived.Test.YtdlhbmncbmconaaGreatDoorA03
namespace Go.Proofs.Z
open Hw Tryz Go.RowKit Go.Shelf Go.Sort
attribute [local go_sem] cN cO
structure lV(w:World)(b:Nat)(v:Value)(l:List UInt8):Prop where
 row:∃p,(p= .pointer none∨p= .pointer (some ⟨b,0,none⟩))/\w.heap[b]?=some (.cells #[p,v] 127 (0,0))
 own:w.ownsRow 11 5 1 v l.length (Lib.byteCells l)
structure uY(b:Nat)(v:Value)(w:World)(v':Value)(w':World):Prop where
 kept:aN (fun k=>k=b∨v.ownBlock=some k) w w'
 lies:∀k,v'.ownBlock=some k->v.ownBlock=some k∨w.heap.size<=k
theorem lV.ne{w:World}{b:Nat}{v:Value}{l:List UInt8}(h:lV w b v l):v.ownBlock≠some b:=fun e=>by
 obtain⟨p,_,a⟩:=h.row;obtain⟨c,d⟩:=dN h.own e;exact dU a d (by decide) rfl
theorem lV.keep{w a:World}{b:Nat}{v:Value}{l:List UInt8}{S:Nat->Prop}(h:lV w b v l)(c:aN S w a)(h1:¬S b)(h2:∀k,v.ownBlock=some k->¬S k):lV a b v l:=by
 obtain⟨p,e,d⟩:=h.row;exact⟨⟨p,e,(c.block _ (aM.1 d).1 h1).trans d⟩,cQ h.own c h2⟩
theorem aCl:(prog.info? 127).map (·.size)=some 2:=by kernel_rfl
theorem aCm:(prog.info? 125).map (·.size)=some 1:=by kernel_rfl
theorem aCn:liesAt prog prog.depth 127 (2/prog.cellsOf 127) 0 127 1=true:=by kernel_rfl
set_option maxHeartbeats 1000000 in
set_option maxRecDepth 100000 in
theorem QS(b:Nat)(v:Value)(l:List UInt8)(w:World)(h:lV w b v l):
  Calls prog 103 #[.pointer (some ⟨b,0,none⟩)] w fun e i=>e= .returned (.tuple #[])/\i.heap[b]?=some (.cells #[.pointer (some ⟨b,0,none⟩),v] 127 (0,0))/\aN (fun k=>k=b) w i:=by
 obtain⟨p,o,d⟩:=h.row;clear h;have q:w.cell? ⟨b,0,none⟩=some p:=by simp[World.cell?,d]
 have a:w.shape? b=some (127,2):=by simp[World.shape?,d]
 have m:=show Hid _ from d;clear d;obtain⟨j,f,g⟩:=rU.1 aCl;rcases o with rfl|rfl
 ·go_enter func103,ntmps103;go_wp2;rw[Lib.run_to_unsafe w ⟨b,0,none⟩ underlying125 underlying213 f (by rw[g];decide) a (Nat.zero_lt_succ 1)];simp only[Result.andThen];rw[Oper.upon_value];go_wp2;rw[run_callFunc_extern func149 (by kernel_rfl) (by kernel_rfl) (by kernel_rfl) (e:=Extern.AbiNoEscape.same) (by kernel_rfl)];rw[Lib.run_noEscape];simp only[Result.andThen];rw[Oper.upon_value];go_wp2;rw[Lib.run_from_unsafe w ⟨b,0,none⟩ underlying213 underlying125 f a aCn];simp only[Result.andThen];rw[Oper.upon_value];go_wp2_with(refine bK rfl _ _ _ rfl rfl b 0 (.pointer (some ⟨b,0,none⟩)) rfl rfl _ _ #[.pointer (some ⟨b,0,none⟩),v] m.out aCm (by simp) rfl rfl ?_;intro r n;have c:=show Hid _ from n;clear n)
  go_end0
  exact⟨rfl,c.out.row,c.out.kept⟩
 ·go_enter func103,ntmps103;go_wp2;rw[Lib.run_neq_ptr_same w _ underlying125 f];go_wp2
  go_end0
  exact⟨rfl,m.out,aN.refl _ _⟩
theorem QT{b:Nat}{v v':Value}{l g:List UInt8}{w f h i:World}(p:lV w b v l)(j:f.heap[b]?=some (.cells #[.pointer (some ⟨b,0,none⟩),v] 127 (0,0)))(c:aN (fun k=>k=b) w f)(a:h.ownsRow 11 5 1 v' g.length (Lib.byteCells g))(m:aN (fun k=>some k=v.ownBlock) f h)(d:∀k,v'.ownBlock=some k->v.ownBlock=some k∨f.heap.size<=k)(n:aI h b 127 #[.pointer (some ⟨b,0,none⟩),v'] i):
  lV i b v' g/\uY b v w v' i:=by
 have o:∀k,v'.ownBlock=some k->¬k=b:=fun k e q=>by
  subst q;rcases d k e with e|e
  ·exact p.ne e
  ·have:=(aM.1 j).1;omega
 refine⟨⟨⟨_,.inr rfl,n.row⟩,cQ a n.kept o⟩,⟨?_,fun k e=>?_⟩⟩
 ·refine(c.mono (fun _ _ e=> .inl e)).trans ((m.mono (T:=fun k=>k=b∨v.ownBlock=some k) (fun _ _ e=> .inr e.symm)).trans (n.kept.mono (T:=fun k=>k=b∨v.ownBlock=some k) (fun _ _ e=> .inl e)) (fun _ _ e=>e)) (fun _ _ e=>e)
 ·rcases d k e with e|e
  ·exact .inl e
  ·exact .inr (cH c.size e)
theorem aCo(l s:List UInt8):Lib.byteCells l++Lib.strCells ⟨s.toArray⟩=Lib.byteCells (l++s):=by
 simp[Lib.byteCells,Lib.strCells]
set_option maxHeartbeats 1000000 in
set_option maxRecDepth 100000 in
theorem aCp(b:Nat)(v:Value)(l s:List UInt8)(w:World)(h:lV w b v l)(h1:l.length<=1000000000)(h2:s.length<=1000000000)(r:11<=w.heap.size):
  Calls prog 66 #[.pointer (some ⟨b,0,none⟩),.string ⟨s.toArray⟩] w fun e j=>(∃u,e= .returned u)/\∃v',lV j b v' (l++s)/\uY b v w v' j:=by
 have G:Hid (Calls prog 103 #[.pointer (some ⟨b,0,none⟩)] w fun e j=>e= .returned (.tuple #[])/\j.heap[b]?=some (.cells #[.pointer (some ⟨b,0,none⟩),v] 127 (0,0))/\aN (fun k=>k=b) w j):=QS b v l w h;have q:=show Hid _ from h;clear h;have f:(⟨s.toArray⟩:ByteArray).size=s.length:=by show Array.size _=_;simp
 obtain⟨I,hi,t,x,y⟩:=info_parts sO;go_enter func66,ntmps66;go_wp2_with fail;refine G.out.mono ?_;rintro e z⟨rfl,g,d⟩;have M:z.cell? ⟨b,1,none⟩=some v:=by simp[World.cell?,g]
 have i:=show Hid _ from g;have A:=show Hid _ from d;have m:Hid (z.ownsRow 11 5 1 v l.length (Lib.byteCells l)):=cQ q.out.own d (fun k e J=>q.out.ne (J▸e));have n:11<=z.heap.size:=cH r d.size;clear g d G;obtain⟨N,O,rfl⟩:=gJ m.out;go_wp2_with(first
  |(at_builtin;refine qU _ rfl _ _ 72 9 rfl 11 5 I underlying72 underlying9 hi t x y _ _ _ rfl m.out ⟨s.toArray⟩ rfl (by unfold maxLen;rw[f];omega) (by rw[f];omega) n ?_;intro K L a c o;rw[f,aCo]at a;have p:=show Hid _ from(aN.of_grown c);have B:=show Hid _ from o;obtain⟨C,D,rfl⟩:=gJ a;have E:Hid (L.ownsRow 11 5 1 (.slice C (l.length+s.length) D) (l++s).length (Lib.byteCells (l++s))):=(by rw[dL];exact a);clear a c o)
  |(refine bK rfl _ _ _ rfl rfl b 1 (.slice C (l.length+s.length) D) rfl rfl _ _ #[.pointer (some ⟨b,0,none⟩),.slice C (l.length+s.length) D] ((p.out.block _ (aM.1 i.out).1 (fun e=>q.out.ne e.symm)).trans i.out) nQ (by simp) rfl rfl ?_;intro P H;have F:=show Hid _ from QT q.out i.out A.out E.out p.out B.out H;clear H))
 go_ret2;exact⟨⟨_,rfl⟩,_,F.out⟩
set_option maxHeartbeats 1000000 in
set_option maxRecDepth 100000 in
theorem aCq(b:Nat)(v:Value)(l:List UInt8)(c:UInt8)(w:World)(h:lV w b v l)(h1:l.length<=1000000000)(y:11<=w.heap.size):
  Calls prog 68 #[.pointer (some ⟨b,0,none⟩),.int .u8 c.toNat] w fun e o=>(∃u,e= .returned u)/\∃v',lV o b v' (l++[c])/\uY b v w v' o:=by
 have L:Hid (Calls prog 103 #[.pointer (some ⟨b,0,none⟩)] w fun e o=>e= .returned (.tuple #[])/\o.heap[b]?=some (.cells #[.pointer (some ⟨b,0,none⟩),v] 127 (0,0))/\aN (fun k=>k=b) w o):=QS b v l w h;have t:=show Hid _ from h;clear h;obtain⟨P,hi,z,A,B⟩:=info_parts sO;go_enter func68,ntmps68;go_wp2_with fail;refine L.out.mono ?_;rintro e j⟨rfl,m,g⟩;have R:j.cell? ⟨b,1,none⟩=some v:=by simp[World.cell?,m]
 have n:=show Hid _ from m;have C:=show Hid _ from g;have p:Hid (j.ownsRow 11 5 1 v l.length (Lib.byteCells l)):=cQ t.out.own g (fun k e Q=>t.out.ne (Q▸e));have M:11<=j.heap.size:=cH y g.size;clear m g L;obtain⟨D,E,rfl⟩:=gJ p.out;go_wp2_with(first
  |(at_builtin;refine wpList_append_own_at _ rfl _ _ 72 rfl 11 5 P (.int .u8 0) 1 1 underlying72 hi z A B rfl (by decide) _ _ _ rfl (p.out.alloc _) ⟨j.heap.size,0,none⟩ 1 1 [.int .u8 c.toNat] rfl rfl (cell_one_new _ _ _) (fun x N=>by simp at N;subst N;rfl) (by unfold maxLen;omega) (by omega) (by simp;omega) ?_;intro q F d f r a;have i:Hid (F.ownsRow 11 5 1 q (l.length+1) (Lib.byteCells (l++[c]))):=(by show World.ownsRow _ _ _ _ _ _ _;simpa[Lib.byteCells]using d);have s:Hid (aN (fun k=>some k=(Value.slice D l.length E).ownBlock) j F):=((aN.refl (fun k=>some k=(Value.slice D l.length E).ownBlock) j).alloc _).trans (aN.of_grown f) (fun _ _ e=>e);have G:Hid (∀k,q.ownBlock=some k->(Value.slice D l.length E).ownBlock=some k∨j.heap.size<=k):=(fun k e=>a.elim (fun a=> .inl (a▸e)) (fun a=> .inr (by rw[a]at e;have:=Option.some.inj e;simp at this;omega)));obtain⟨H,I,rfl⟩:=gJ i.out;have J:Hid (F.ownsRow 11 5 1 (.slice H (l.length+1) I) (l++[c]).length (Lib.byteCells (l++[c]))):=(by rw[dL];exact i.out);clear d f a r)
  |(refine bK rfl _ _ _ rfl rfl b 1 (.slice H (l.length+1) I) rfl rfl _ _ #[.pointer (some ⟨b,0,none⟩),.slice H (l.length+1) I] ((s.out.block _ (aM.1 n.out).1 (fun e=>t.out.ne e.symm)).trans n.out) nQ (by simp) rfl rfl ?_;intro S O;have K:=show Hid _ from QT t.out n.out C.out J.out s.out G.out O;clear O))
 go_ret;exact⟨⟨_,rfl⟩,_,K.out⟩
theorem aCr(w:World)(p:Addr)(n:Nat):aN (fun k=>k=p.block) w (w.freeze p n):=by
 unfold World.freeze;split
 ·exact aN.refl _ _
 ·exact⟨rfl,rfl,rfl,by simp,fun k _ a=>by
   simp only[Array.getElem?_modify];rw[aB (fun e=>a e.symm)]⟩
theorem aCs:prog.cellsOf 5=1:=by kernel_rfl
set_option maxHeartbeats 2000000 in
set_option maxRecDepth 100000 in
theorem aCt(b:Nat)(v:Value)(l:List UInt8)(w:World)(h:lV w b v l)(h0:l≠[]):
  Calls prog 69 #[.pointer (some ⟨b,0,none⟩)] w fun e s=>e= .returned (.string ⟨l.toArray⟩)/\aN (fun k=>v.ownBlock=some k) w s:=by
 obtain⟨p,t,i⟩:=h.row;have d:=h.own;clear h t;have m:l.length≠0:=by simpa using h0
 obtain⟨g,a,c,rfl,u,q,y,n,z,f⟩:∃g a c,v= .slice (some ⟨g,0,none⟩) l.length a/\11<=g/\w.heap[g]?=some (.cells c 5 (0,0))/\l.length<=a/\a<=maxLen/\c.size=a*1/\c.toList.take (l.length*1)=Lib.byteCells l:=by
  rcases d.2 with⟨_,A⟩|⟨g,a,c,B,r⟩
  ·exact absurd A m
  ·exact⟨g,a,c,B,r⟩
 have F:w.drew.cell? ⟨b,1,none⟩=some (.slice (some ⟨g,0,none⟩) l.length a):=by
  have:w.drew.heap[b]?=some (.cells #[p,.slice (some ⟨g,0,none⟩) l.length a] 127 (0,0)):=i;rw[Lib.cell_of_heap this];rfl
 have C:(Builtin.unsafeSliceData_ #[72] 168 #[.slice (some ⟨g,0,none⟩) l.length a]).run prog w.drew= .ok (.pointer (some ⟨g,0,none⟩)) w.drew:=
  Lib.run_unsafeSliceData_row _ _ _ _ _ _ (by omega)
 have D:(Builtin.unsafeString_ #[168,3] 9 #[.pointer (some ⟨g,0,none⟩),.int .i64 l.length]).run prog w.drew= .ok (.string ⟨l.toArray⟩) (w.drew.freeze ⟨g,0,none⟩ l.length):=by
  refine Lib.run_unsafeString_row w.drew 168 3 9 5 underlying168 aCs g c.size (by have o:w.drew.heap[g]?=some (.cells c 5 (0,0)):=q;simp[World.shape?,o]) l h0 (by omega) (by unfold maxLen at n;omega) ?_;intro j x E;have:=d.cells (g:=g) rfl j (.int .u8 x.toNat) (by simp[Lib.byteCells,E]);exact this
 clear d q f i;have gT:=gT;go_enter func69,ntmps69;go_wp2
 go_region_o
 all_goals(go_wp2;go_ret;exact⟨rfl,(aN.of_below (aT ⟨1,rfl⟩)).trans ((aCr w.drew ⟨g,0,none⟩ l.length).mono (T:=fun k=>(Value.slice (some ⟨g,0,none⟩) l.length a).ownBlock=some k) (fun _ _ e=>by rw[e];rfl)) (fun _ _ e=>e)⟩)
set_option maxHeartbeats 2000000 in
set_option maxRecDepth 100000 in
theorem aCu(b:Nat)(w:World)(h:lV w b (.slice none 0 0) []):
  Calls prog 69 #[.pointer (some ⟨b,0,none⟩)] w fun e c=>e= .returned (.string ⟨#[]⟩)/\aN (fun _=>False) w c:=by
 obtain⟨p,d,a⟩:=h.row;clear h d;have f:∀(W:World)(q:Option Addr),(Builtin.unsafeString_ #[168,3] 9 #[.pointer q,.int .i64 0]).run prog W= .ok (.string .empty) W:=fun W q=>Lib.run_unsafeString_none W _ _ _ q;have i:w.drew.cell? ⟨b,1,none⟩=some (.slice none 0 0):=by
  have:w.drew.heap[b]?=some (.cells #[p,.slice none 0 0] 127 (0,0)):=a;rw[Lib.cell_of_heap this];rfl
 have g:(Builtin.unsafeSliceData_ #[72] 168 #[.slice none 0 0]).run prog w.drew= .ok (.pointer none) w.drew:=rfl;clear a;have gT:=gT;go_enter func69,ntmps69;go_wp2
 go_region_o
 all_goals(go_wp2;go_ret;exact⟨rfl,aN.of_below (aT ⟨1,rfl⟩)⟩)
end Go.Proofs.Z
namespace Go.Proofs.Z
open Hm Hw Go.RowKit Go.Sort
attribute [local go_sem] cN cO
theorem jJ.below{w a:World}{p:Nat}{rs:List cF}{v:Value}(h:jJ w p rs v)(b:Below w.heap.size w a):jJ a p rs v:=
 ⟨(b.block _ (aM.1 h.row).1).trans h.row,cQ (S:=fun _=>False) h.own (aN.of_below b) (fun _ _ e=>e)⟩
end Go.Proofs.Z
namespace Go.Proofs.Z
open Hm Hw Tryz Go.RowKit Go.Shelf Go.Sort
attribute [local go_sem] Oper.semAt_some
set_option maxRecDepth 100000 in
set_option maxHeartbeats 1000000 in
theorem aCv{α:Type}(g:α->List UInt8)(zs:List α)(n:Nat)(hn:2<=n)(Bb Bf p:Nat)(s:ByteArray)(hs:s.size<=9000000000)(f0:aE)(v0:Value)(R:f0.Ok)(D:zs.map g=(f0.feed s.data.toList).2)(J:List α->Value->World->Prop)(hJ:∀a f v A v' B,J a v A->aW A p f v->dF p v A v' B->J a v' B)(hC:∀a v A,J a v A->A.cell? ⟨Bf,0,none⟩=some (.pointer (some ⟨p,0,none⟩))/\A.cell? ⟨Bb,0,none⟩=some (.string s)):
  yC (β:=aE×Value) Fence.wide n prog 93 #[.pointer (some ⟨Bb,0,none⟩),.pointer (some ⟨Bf,0,none⟩)] (fun x=>sP (g x)) (fun a b W=>J a b.2 W/\aW W p b.1 b.2) (f0,v0)
   (fun xs b=>xs=zs/\b.1=(f0.feed s.data.toList).1) s.size:=by
 intro l Bk W E hY P hb;refine callsIn_of_wp func93 rfl trivial ?_ rfl;simp only[ntmps93,pR,bU,dS,Nat.reduceAdd,Nat.reduceSub,rV,rR,List.push_toArray,rQ,iR,eN];obtain⟨d0,d1⟩:=hC _ _ _ P.1;have HZ:=show Hid _ from D;clear D
 gi_wp2
 gi_loopw [8] (fun S wr=>∃(k:Nat)(a rest:List α)(f:aE)(v:Value),S= .int .i64 k/\k<=s.size/\a.length<=k/\f.Ok/\(zs=a++rest/\rest.map g=(f.feed (s.data.toList.drop k)).2/\(f0.feed s.data.toList).1=(f.feed (s.data.toList.drop k)).1)/\J a v wr/\aW wr p f v/\Bk wr)
  (fun S _=>s.size-(intOf S).toNat)
 case atStart=>exact⟨0,[],zs,f0,v0,rfl,dM _,aC _,R,⟨rfl,HZ.out,rfl⟩,P.1,P.2,hb⟩
 case round=>
  obtain⟨k,a,rest,f,v,rfl,hk,ae,F,G,T,hf,w⟩:=hrel;clear d0 d1 P hb;obtain⟨d0,d1⟩:=hC _ _ _ T;have U:=aA T;have j:=aA hf;have d:=aA G;clear T hf G;by_cases H:k<s.size
  ·have V:(k:Int)<(s.size:Int):=by omega
   have Q:Hid (∀W,aW W p f v->Calls prog 94 #[.pointer (some ⟨p,0,none⟩),.int .u8 s[k].toNat] W fun e w'=>e= .returned (.string ⟨(f.take s[k]).2.toArray⟩)/\∃v',aW w' p (f.take s[k]).1 v'/\dF p v W v' w'):=fun W h=>GO p f v W h s[k] (GN F);have X:=eE (l:=s.data.toList) (i:=k) (by rw[Hm.len];exact H);have hg:s.data.toList[k]'(by rw[Hm.len];exact H)=s[k]:=by simp;rfl
   rw[hg]at X;rw[X,aE.feed]at d;have q:Hid ((f.take s[k]).1.Ok):=aE.take_ok F s[k];clear X hg;generalize f.take s[k]=r at Q d q;obtain⟨u,t⟩:=r;dsimp only at Q d q;have ad:=gT;cases t with
   |nil=>
    gi_wp2_with fail
    gi_region_with_o (refine⟨trivial,fun _=>by omega,?_⟩;refine(callsIn_wide.2 (Q.out wr.drew (show aW wr.drew p f v from⟨j.out.row,j.out.own,j.out.ne,j.out.lo⟩))).mono ?_;rintro e C⟨rfl,o,I,K⟩;have y:=aA I;have m:Hid (dF p v wr o C):=(dF.refl.drewN 1).trans K;clear I K)
    all_goals gi_wp2
    all_goals refine⟨fun _ h=>(by cases h),?_⟩
    all_goals gi_wp2
    all_goals(
     go_roundw;case rel=>
      refine⟨k+1,a,rest,u,o,aY (by simp),by omega,by omega,q.out,?_,hJ _ _ _ _ _ _ U.out j.out m.out,y.out,E _ _ (m.out.others j.out) w⟩;have h:=d.out;rw[aD trivial]at h;exact h
     case measure=>simp[intOf];omega)
   |cons x t=>
    obtain⟨z,c,Y,Z,aa⟩:∃z c,rest=z::c/\g z=x::t/\Hid (zs=(a++[z])++c/\c.map g=(u.feed (s.data.toList.drop (k+1))).2/\(f0.feed s.data.toList).1=(u.feed (s.data.toList.drop (k+1))).1):=by
     have h:=d.out;rw[aB (by simp)]at h;obtain⟨h1,h2,h3⟩:=h;cases rest with
     |nil=>cases h2
     |cons z c=>
      rw[jX]at h2;injection h2 with h4 h5;exact⟨z,c,rfl,h4,by rw[h1];simp,h5,h3⟩
    subst Y
    gi_wp2_with fail
    gi_region_with_o (refine⟨trivial,fun _=>by omega,?_⟩;refine(callsIn_wide.2 (Q.out wr.drew (show aW wr.drew p f v from⟨j.out.row,j.out.own,j.out.ne,j.out.lo⟩))).mono ?_;rintro e C⟨rfl,o,I,K⟩;have y:=aA I;have m:Hid (dF p v wr o C):=(dF.refl.drewN 1).trans K;clear I K)
    all_goals(
     obtain⟨fn,tmps,assign,body,hy,hR⟩:=hY a (u,o) z C ⟨hJ _ _ _ _ _ _ U.out j.out m.out,y.out⟩ (E _ _ (m.out.others j.out) w) (by omega);rw[Z]at hy;unfold sP at hy
     gi_wp2
     refine⟨fun _=>by omega,hR.mono ?_⟩;rintro z' w5⟨rfl,⟨L,M⟩,N⟩;have ab:=aA L;have ac:=aA M;clear L M
     gi_wp2
     go_roundw;case rel=>exact⟨k+1,a++[z],c,u,o,aY (by simp),by omega,by simp;omega,q.out,aa.out,ab.out,ac.out,N⟩
     case measure=>simp[intOf];omega)
  ·have V:¬(k:Int)<(s.size:Int):=by omega
   have O:s.data.toList.drop k=[]:=gH (by rw[Hm.len];omega);rw[O]at d;clear O
   gi_wp2
   refine bodyPost_end (results_none rfl _ _ _) rfl ?_;refine⟨⟨_,rfl⟩,a,f,⟨?_,?_⟩,⟨v,U.out,j.out⟩,w⟩
   ·have h:=d.out;have h2:rest=[]:=by simpa[aE.feed]using h.2.1
    rw[h.1,h2,kZ]
   ·exact(d.out.2.2).symm
end Go.Proofs.Z

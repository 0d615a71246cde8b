/- Pressed by program out of Vm. -/
import Derived.Test.YtdlhbmncbmconaaGreatDoorA09
import Derived.Test.YtdlhbmncbmconaaGreatDoorRows
import Derived.Deep.Slices
import Derived.Deep.MidRow
namespace Go.Proofs.Z
open Hm Tryz Go.Proofs.YtdlhbmncbmconaaGreatDoor Go.ChangeShapes Go.WideShapes
structure cK where
 kind:Int
 w:Int
 v:Int
 u:Int
 n:Int
 m:Int
 s:List UInt8
 msg:aO
def bA(o:cK):Array Value:=#[.int .i64 o.kind,.int .i64 o.w,.int .i64 o.v,.int .i64 o.u,.int .i64 o.n,.int .i64 o.m,.string ⟨o.s.toArray⟩,.int .i64 o.msg.fac,.int .i64 o.msg.sev,.string ⟨o.msg.time.toArray⟩,.string ⟨o.msg.host.toArray⟩,.string ⟨o.msg.app.toArray⟩,.string ⟨o.msg.proc.toArray⟩,.string ⟨o.msg.id.toArray⟩,.string ⟨o.msg.data.toArray⟩,.string ⟨o.msg.text.toArray⟩]
structure cK.Small(B:Nat)(o:cK):Prop where
 s:o.s.length<=B
 time:o.msg.time.length<=B
 host:o.msg.host.length<=B
 app:o.msg.app.length<=B
 proc:o.msg.proc.length<=B
 id:o.msg.id.length<=B
 data:o.msg.data.length<=B
 text:o.msg.text.length<=B
 iw: -9223372036854775808<=o.w/\o.w<=9223372036854775807
 iv: -9223372036854775808<=o.v/\o.v<=9223372036854775807
 iu: -9223372036854775808<=o.u/\o.u<=9223372036854775807
 inn: -9223372036854775808<=o.n/\o.n<=9223372036854775807
theorem cK.Small.mono{B C:Nat}{o:cK}(h:o.Small B)(a:B<=C):o.Small C:=
 ⟨cH h.s a,cH h.time a,cH h.host a,cH h.app a,cH h.proc a,cH h.id a,cH h.data a,cH h.text a,h.iw,h.iv,h.iu,h.inn⟩
structure oG(B:Nat)(W:World)(ad:Option Addr)(ops:List cK):Prop where
 cells:∀j o,ops[j]?=some o->∃b off,ad=some ⟨b,off,none⟩/\W.rangeAt b (off+j*16) (bA o).toList
 small:∀o∈ops,o.Small B
 most:ops.length<=B
 sum:(ops.map fun o=>o.s.length).sum<=B
theorem JY:prog.cellsOf 82=16:=by kernel_rfl
theorem D9:prog.cellsOf 80=9:=by kernel_rfl
theorem E0:prog.cellsOf 78=4:=by kernel_rfl
theorem JZ:prog.cellsOf 3=1:=by kernel_rfl
theorem AS:prog.cellsOf 9=1:=by kernel_rfl
theorem rG{H:Type}{d:DataW H}:∀{l:List (DataW H)},d∈l->Rows.uptoBulk d<=Rows.uptoBulkAll l
 |x::r,h=>by
  unfold Rows.uptoBulkAll;rcases jY.1 h with rfl|h
  ·omega
  ·have:=rG h;omega
theorem E3{H:Type}(d:DataW H):1<=Rows.uptoBulk d:=by
 cases d with
 |lit l=>cases l <;> simp[Rows.uptoBulk]
 |nil=>simp[Rows.uptoBulk]
 |ptr d=>simp[Rows.uptoBulk]
 |slice elems spare=>simp[Rows.uptoBulk]
 |agg parts=>simp[Rows.uptoBulk]
 |iface t d=>simp[Rows.uptoBulk]
 |map entries=>simp[Rows.uptoBulk]
 |held h=>simp[Rows.uptoBulk]
theorem E4{H:Type}(l:List (DataW H)):l.length<=Rows.uptoBulkAll l:=by
 induction l with
 |nil=>simp[Rows.uptoBulkAll]
 |cons x r ih=>have:=E3 x;simp only[Rows.uptoBulkAll,bU];omega
theorem E5{H:Type}(elems a:List (DataW H)):Rows.uptoBulkAll elems<=Rows.uptoBulk (.slice elems a):=by
 simp only[Rows.uptoBulk];omega
theorem wM{H:Type}(a:List (DataW H)):Rows.uptoBulkAll a<=Rows.uptoBulk (.agg a):=by
 simp only[Rows.uptoBulk];omega
theorem qH{H:Type}(s:List UInt8):s.length<=Rows.uptoBulk (DataW.lit (H:=H) (.string s)):=by
 simp[Rows.uptoBulk]
theorem wN{n:Int}(h:(Lit.int .i64 n).wf=true): -9223372036854775808<=n/\n<=9223372036854775807:=by
 have h:=Bool.and_eq_true_iff.1 h;exact⟨of_decide_eq_true h.1,of_decide_eq_true h.2⟩
theorem KA{H:Type}(D:Nat->DataW H)(R:Nat->cK):∀l:List Nat,(∀i∈l,(R i).s.length<=Rows.uptoBulk (D i))->((l.map R).map fun o=>o.s.length).sum<=Rows.uptoBulkAll (l.map D)
 |[],_=>by simp
 |i::l,h=>by
  have h1:=h i (by simp);have h2:=KA D R l (fun j a=>h j (List.mem_cons_of_mem _ a));simp only[jX,List.sum_cons,Rows.uptoBulkAll];omega
set_option linter.unusedSimpArgs false in
set_option maxRecDepth 20000 in
set_option maxHeartbeats 2000000 in
theorem E6{H:Type}{enc:TypeId×Value->H}{W:World}{n:Nat}{q:List Value}{x:DataW H×List MemPlace}(h:DataW.trod enc prog W 0 (fun _=>true) true n 82 q=some x)(B:Nat)(E:Rows.uptoBulk x.1<=B):∃o:cK,q=(bA o).toList/\o.Small B:=by
 obtain⟨xs,m,_,rfl,i,r,j⟩:=DataW.trod_struct underlying82 h;rw[JY]at i;match q,i with
 |[c0,c1,a,b,c,e,c6,c7,c8,c9,c10,c11,c12,c13,c14,c15],_=>
 match xs,r with
 |[x0,x1,x2,x3,x4,x5,x6,x7],_=>
 have h0:DataW.trod enc prog W 0 (fun _=>true) true m 3 (([c0,c1,a,b,c,e,c6,c7,c8,c9,c10,c11,c12,c13,c14,c15].drop 0).take (prog.cellsOf 3))=some x0:=j 0 _ rfl;have h1:DataW.trod enc prog W 0 (fun _=>true) true m 3 (([c0,c1,a,b,c,e,c6,c7,c8,c9,c10,c11,c12,c13,c14,c15].drop 1).take (prog.cellsOf 3))=some x1:=j 1 _ rfl;have h2:DataW.trod enc prog W 0 (fun _=>true) true m 3 (([c0,c1,a,b,c,e,c6,c7,c8,c9,c10,c11,c12,c13,c14,c15].drop 2).take (prog.cellsOf 3))=some x2:=j 2 _ rfl;have h3:DataW.trod enc prog W 0 (fun _=>true) true m 3 (([c0,c1,a,b,c,e,c6,c7,c8,c9,c10,c11,c12,c13,c14,c15].drop 3).take (prog.cellsOf 3))=some x3:=j 3 _ rfl;have h4:DataW.trod enc prog W 0 (fun _=>true) true m 3 (([c0,c1,a,b,c,e,c6,c7,c8,c9,c10,c11,c12,c13,c14,c15].drop 4).take (prog.cellsOf 3))=some x4:=j 4 _ rfl;have h5:DataW.trod enc prog W 0 (fun _=>true) true m 3 (([c0,c1,a,b,c,e,c6,c7,c8,c9,c10,c11,c12,c13,c14,c15].drop 5).take (prog.cellsOf 3))=some x5:=j 5 _ rfl;have h6:DataW.trod enc prog W 0 (fun _=>true) true m 9 (([c0,c1,a,b,c,e,c6,c7,c8,c9,c10,c11,c12,c13,c14,c15].drop 6).take (prog.cellsOf 9))=some x6:=j 6 _ rfl;have h7:DataW.trod enc prog W 0 (fun _=>true) true m 80 (([c0,c1,a,b,c,e,c6,c7,c8,c9,c10,c11,c12,c13,c14,c15].drop 7).take (prog.cellsOf 80))=some x7:=j 7 _ rfl;simp only[JZ,AS,D9,iZ,fB,mG,List.take_zero,List.getElem?_cons_zero,List.getElem?_cons_succ]at h0 h1 h2 h3 h4 h5 h6 h7;obtain⟨k0,F,_,_⟩:=DataW.trod_int underlying3 h0;obtain⟨k1,G,_,s⟩:=DataW.trod_int underlying3 h1;obtain⟨k2,I,_,t⟩:=DataW.trod_int underlying3 h2;obtain⟨k3,J,_,u⟩:=DataW.trod_int underlying3 h3;obtain⟨k4,K,_,v⟩:=DataW.trod_int underlying3 h4;obtain⟨k5,L,_,_⟩:=DataW.trod_int underlying3 h5;obtain⟨s6,M,b6,_⟩:=DataW.trod_string underlying9 h6;obtain⟨ys,m2,_,hy,_,w,k⟩:=DataW.trod_struct underlying80 h7;match ys,w with
 |[y0,y1,y2,y3,y4,y5],_=>
 have N:DataW.trod enc prog W 0 (fun _=>true) true m2 3 (([c7,c8,c9,c10,c11,c12,c13,c14,c15].drop 0).take (prog.cellsOf 3))=some y0:=k 0 _ rfl;have O:DataW.trod enc prog W 0 (fun _=>true) true m2 3 (([c7,c8,c9,c10,c11,c12,c13,c14,c15].drop 1).take (prog.cellsOf 3))=some y1:=k 1 _ rfl;have P:DataW.trod enc prog W 0 (fun _=>true) true m2 9 (([c7,c8,c9,c10,c11,c12,c13,c14,c15].drop 2).take (prog.cellsOf 9))=some y2:=k 2 _ rfl;have Q:DataW.trod enc prog W 0 (fun _=>true) true m2 78 (([c7,c8,c9,c10,c11,c12,c13,c14,c15].drop 3).take (prog.cellsOf 78))=some y3:=k 3 _ rfl;have R:DataW.trod enc prog W 0 (fun _=>true) true m2 9 (([c7,c8,c9,c10,c11,c12,c13,c14,c15].drop 7).take (prog.cellsOf 9))=some y4:=k 4 _ rfl;have S:DataW.trod enc prog W 0 (fun _=>true) true m2 9 (([c7,c8,c9,c10,c11,c12,c13,c14,c15].drop 8).take (prog.cellsOf 9))=some y5:=k 5 _ rfl;simp only[JZ,AS,E0,iZ,fB,mG,List.take_zero,List.getElem?_cons_zero,List.getElem?_cons_succ]at N O P Q R S;obtain⟨q0,f0,_,_⟩:=DataW.trod_int underlying3 N;obtain⟨q1,f1,_,_⟩:=DataW.trod_int underlying3 O;obtain⟨t2,f2,b2,_⟩:=DataW.trod_string underlying9 P;obtain⟨t4,f4,b4,_⟩:=DataW.trod_string underlying9 R;obtain⟨t5,f5,b5,_⟩:=DataW.trod_string underlying9 S;obtain⟨zs,m3,_,hz,_,A,p⟩:=DataW.trod_array underlying78 Q;match zs,A with
 |[z0,z1,z2,z3],_=>
 have T:=p 0 (by decide);have U:=p 1 (by decide);have V:=p 2 (by decide);have X:=p 3 (by decide);simp only[AS,Nat.zero_mul,Nat.one_mul,Nat.mul_one,iZ,fB,mG,List.take_zero,List.getElem?_cons_zero,List.getElem?_cons_succ]at T U V X;obtain⟨u0,v0,d0,_⟩:=DataW.trod_string underlying9 T;obtain⟨u1,Y,d1,_⟩:=DataW.trod_string underlying9 U;obtain⟨u2,Z,d2,_⟩:=DataW.trod_string underlying9 V;obtain⟨u3,v3,d3,_⟩:=DataW.trod_string underlying9 X;simp only[List.cons.injEq,and_true]at F G I J K L M f0 f1 f2 f4 f5 v0 Y Z v3;subst F G I J K L M f0 f1 f2 f4 f5 v0 Y Z v3;have a7:Rows.uptoBulk x7.1<=B:=by
  have h1:=wM ([x0,x1,x2,x3,x4,x5,x6,x7].map (·.1));have h2:=rG (d:=x7.1) (l:=[x0,x1,x2,x3,x4,x5,x6,x7].map (·.1)) (by simp);dsimp only at E;omega
 have a6:Rows.uptoBulk x6.1<=B:=by
  have h1:=wM ([x0,x1,x2,x3,x4,x5,x6,x7].map (·.1));have h2:=rG (d:=x6.1) (l:=[x0,x1,x2,x3,x4,x5,x6,x7].map (·.1)) (by simp);dsimp only at E;omega
 rw[hy]at a7;dsimp only at a7;have f:∀y∈[y0,y1,y2,y3,y4,y5],Rows.uptoBulk y.1<=B:=fun y C=>by
  have h1:=wM ([y0,y1,y2,y3,y4,y5].map (·.1));have h2:=rG (d:=y.1) (l:=[y0,y1,y2,y3,y4,y5].map (·.1)) (List.mem_map.2 ⟨y,C,rfl⟩);omega
 have a:=f y2 (by simp);have b:=f y3 (by simp);have c:=f y4 (by simp);have e:=f y5 (by simp);rw[hz]at b;dsimp only at b;have g:∀z∈[z0,z1,z2,z3],Rows.uptoBulk z.1<=B:=fun z D=>by
  have h1:=wM ([z0,z1,z2,z3].map (·.1));have h2:=rG (d:=z.1) (l:=[z0,z1,z2,z3].map (·.1)) (List.mem_map.2 ⟨z,D,rfl⟩);omega
 have r0:=g z0 (by simp);have r1:=g z1 (by simp);have r2:=g z2 (by simp);have r3:=g z3 (by simp);rw[b6]at a6;rw[b2]at a;rw[b4]at c;rw[b5]at e;rw[d0]at r0;rw[d1]at r1;rw[d2]at r2;rw[d3]at r3;refine⟨⟨k0,k1,k2,k3,k4,k5,s6.data.toList,⟨q0,q1,t2.data.toList,u0.data.toList,u1.data.toList,u2.data.toList,u3.data.toList,t4.data.toList,t5.data.toList⟩⟩,?_,?_⟩
 ·simp[bA]
 ·exact⟨cH (qH _) a6,cH (qH _) a,cH (qH _) r0,cH (qH _) r1,cH (qH _) r2,cH (qH _) r3,cH (qH _) c,cH (qH _) e,wN s,wN t,wN u,wN v⟩
theorem E8{H:Type}{enc:TypeId×Value->H}{W:World}{v:Value}{d:DataW H}{p:List MemPlace}(h:DataW.Trod enc prog W 0 (fun _=>true) true 22 v d p)(q:v.cells=#[v])(B:Nat)(L:Rows.uptoBulk d<=B):
  ∃(M:Option Addr)(ops:List cK)(c:Nat),v= .slice M ops.length c/\oG B W M ops:=by
 obtain⟨N,t⟩:=h;rw[q]at t;rcases Go.Deep.open_slice underlying22 t with⟨f,O⟩|⟨a,len,c,m,n,D,Pl,f,hb,hl,hm,C,O,E⟩
 ·have F:v= .slice none 0 0:=by simpa using f
  exact⟨none,[],0,F,fun j z g=>by simp at g,by simp,by simp,by simp⟩
 ·have F:v= .slice (some a) len c:=by simpa using f
  have G:d= .slice ((List.range len).map D) ((List.range (m-len)).map fun j=>D (len+j)):=aQ Prod.fst O;have S:m=c:=by simpa using C
  rw[G]at L;have e:=cH (E5 _ _) L;have u:len<=B:=by
   have:=E4 ((List.range len).map D);simp at this;omega
  have each:∀i,i<len->∃o:cK,(∀j,j<16->W.cell? ((a.add (i*16)).add j)=(bA o).toList[j]?)/\o.Small B/\o.s.length<=Rows.uptoBulk (D i):=by
   intro i hi;obtain⟨T,h1,h2⟩:=E i (by omega);rw[JY]at h1;obtain⟨_,U,k⟩:=World.cells?_some h1;obtain⟨o,V,P⟩:=E6 h2 (Rows.uptoBulk (D i)) (aC _);refine⟨o,fun j g=>?_,P.mono (cH (rG (List.mem_map.2 ⟨i,by simpa using hi,rfl⟩)) e),P.s⟩;rw[k j g,V]
  have X:Inhabited cK:=⟨⟨0,0,0,0,0,0,[],aO.none⟩⟩;obtain⟨R,A⟩:=Go.Deep.choose_lt each;refine⟨some a,(List.range len).map R,c,by simpa using F,?_,?_,by simpa using u,cH (KA D R _ (fun i hi=>(A i (by simpa using hi)).2.2)) e⟩
  ·intro j r g;have w:j<len:=by
    have:=(iY.1 g).1;simpa using this
   rw[List.getElem?_map,List.getElem?_range w]at g;have I:R j=r:=by simpa using g
   obtain⟨h2,h3⟩:=A j w;rw[I]at h2;obtain⟨b,J,x⟩:=a;obtain⟨Y,_⟩:=A 0 (by omega);have h20:=Y 0 (by decide);have l:x=none:=by
    have:=World.cell?_spot (h20.trans rfl);simpa[Addr.add]using this
   subst l;refine⟨b,J,rfl,?_⟩;intro Q v' y;have K:Q<16:=(iY.1 y).1;have:=h2 Q K;rw[add_plain,add_plain]at this;rw[this,y]
  ·intro r Z;obtain⟨i,hi,rfl⟩:=List.mem_map.1 Z;exact(A i (by simpa using hi)).2.1
end Go.Proofs.Z

/- Pressed by program out of Cr. -/
import Derived.Test.YtdlhbmncbmconaaGreatDoorA28
namespace Go.Hm
theorem aA8(f s:Int)(b c d e g l:List UInt8)(a:Nat):
  (eH ⟨f,s,b,c,d,e,g,[],[]⟩ l a).2=(eH ⟨0,0,b,c,d,e,g,[],[]⟩ l a).2/\
  ((eH ⟨0,0,b,c,d,e,g,[],[]⟩ l a).2.1=0->(eH ⟨f,s,b,c,d,e,g,[],[]⟩ l a).1={(eH ⟨0,0,b,c,d,e,g,[],[]⟩ l a).1 with fac:=f,sev:=s})/\
  (¬(eH ⟨0,0,b,c,d,e,g,[],[]⟩ l a).2.1=0->(eH ⟨f,s,b,c,d,e,g,[],[]⟩ l a).1=aO.none):=by
 unfold eH;split
 ·exact⟨rfl,(fun h=>by cases h),fun _=>rfl⟩
 ·split
  ·split <;> exact⟨rfl,fun _=>rfl,fun h=>absurd rfl h⟩
  ·split
   ·exact⟨rfl,(fun h=>by cases h),fun _=>rfl⟩
   ·split <;> exact⟨rfl,fun _=>rfl,fun h=>absurd rfl h⟩
theorem xW(l:List UInt8):∀(a:List (Nat×Nat))(n:Nat),(∀k∈a,¬k.2=0)->∀e,(dH l a n).1=some e->¬e.1=0
 |[],n,_,e,h=>by cases h
 |k::a,n,hk,e,h=>by
  unfold dH at h;split at h
  ·exact xW l a _ (fun x b=>hk x (List.mem_cons_of_mem _ b)) e h
  ·split at h
   ·cases h;exact hk k List.mem_cons_self
   ·exact xW l a _ (fun x b=>hk x (List.mem_cons_of_mem _ b)) e h
theorem aA9(f s:Int)(l:List UInt8)(a:Nat):
  (eV f s l a).2=(eV 0 0 l a).2/\((eV 0 0 l a).2.1=0->(eV f s l a).1={(eV 0 0 l a).1 with fac:=f,sev:=s})/\(¬(eV 0 0 l a).2.1=0->(eV f s l a).1=aO.none):=by
 unfold eV;split
 ·exact⟨rfl,(fun h=>by cases h),fun _=>rfl⟩
 ·unfold lC;split
  ·next e he=>
   have:=xW l aX _ (by decide) e he;exact⟨rfl,fun h=>absurd h this,fun _=>rfl⟩
  ·exact aA8 f s _ _ _ _ _ l _
theorem aBa(m:aO)(l:List UInt8)(a:Nat):(eH m l a).2.1=0->(eH m l a).2.2=0:=by
 unfold eH;split
 ·intro h;cases h
 ·split
  ·intro _;rfl
  ·split
   ·intro h;cases h
   ·intro _;rfl
theorem aBb(f s:Int)(l:List UInt8)(a:Nat):(eV f s l a).2.1=0->(eV f s l a).2.2=0:=by
 unfold eV;split
 ·intro h;cases h
 ·unfold lC;split
  ·next e he=>exact fun h=>absurd h (xW l aX _ (by decide) e he)
  ·exact aBa _ l _
theorem aBc{l:List UInt8}(h:(cS l).2=0):(cS l).1=13:=by
 unfold cS at h⊢;split
 ·rfl
 ·next h1=>
  rw[aB h1]at h;split
  ·rfl
  ·next h2=>
   rw[aB h2]at h;split
   ·rfl
   ·next h3=>
    rw[aB h3]at h;simp at h
theorem aBd(f s:Int)(l:List UInt8)(y:Nat):jB (aO.of f s) l y={jB (aO.of 0 0) l y with fac:=f,sev:=s}:=by
 rw[BX,BX]
theorem PO{l:List UInt8}{a:Nat}:Lib.hasPrefix (l.drop a) [49,32]=true↔∃h:a+1<l.length,l[a].toNat=49/\l[a+1].toNat=32:=by
 constructor
 ·intro h;have b:=iA h;simp only[bC,bU,dS]at b;refine⟨by omega,?_⟩;rw[eE (by omega:a<l.length),eE (by omega:a+1<l.length)]at h;simp[Lib.hasPrefix,List.isPrefixOf]at h;rw[<-h.1,<-h.2];decide
 ·rintro⟨h,h1,h2⟩;rw[eE (by omega:a<l.length),eE (by omega:a+1<l.length)];have c:l[a]=49:=eY.1 h1;have d:l[a+1]=32:=eY.1 h2;rw[c,d];simp[Lib.hasPrefix,List.isPrefixOf]
end Go.Hm
namespace Go.Proofs.Z
open Hm Hw Tryz Go.RowKit Go.Sort
attribute [local go_sem] dY fR fS
theorem aBe(l:List UInt8)(c:l.length<=1000000000000000)(y:Int)(w:World)(h:200<l.length):
  Calls prog 110 #[.string ⟨l.toArray⟩,.int .i64 y] w fun e d=>
   e= .returned (.tuple #[.agg (aL aO.none),.int .i64 1,.int .i64 0])/\Below w.heap.size w d:=by
 have hi:(200:Int)<(l.length:Int):=by omega
 clear h c;go_enter func110,ntmps110;go_wp2_with(first
  |(refine bI rfl _ _ _ rfl rfl w.heap.size (aL aO.none) rfl rfl _ _ (heap_alloc_new _ _) bP rfl rfl ?_;intro f a;have b:=aA a;clear a))
 refine bB (eA results110 _ _ _ _ _ _ _ rfl b.out.row underlying80 rfl bP) rfl ⟨?_,((aF _ _).alloc (aC _) _).trans (b.out.below (aC _))⟩;exact eB rfl rfl rfl
theorem aBf(l:List UInt8)(y:Int)(w:World)(h:l.length<=200)(c:dB y=false):
  Calls prog 110 #[.string ⟨l.toArray⟩,.int .i64 y] w fun e f=>
   e= .returned (.tuple #[.agg (aL aO.none),.int .i64 10,.int .i64 0])/\Below w.heap.size w f:=by
 have hi:¬(200:Int)<(l.length:Int):=by omega
 clear h;by_cases g:y<1
 ·clear c;go_enter func110,ntmps110;go_wp2_with(first
   |(refine bI rfl _ _ _ rfl rfl w.heap.size (aL aO.none) rfl rfl _ _ (heap_alloc_new _ _) bP rfl rfl ?_;intro d a;have b:=aA a;clear a))
  refine bB (eA results110 _ _ _ _ _ _ _ rfl b.out.row underlying80 rfl bP) rfl ⟨?_,((aF _ _).alloc (aC _) _).trans (b.out.below (aC _))⟩;exact eB rfl rfl rfl
 ·have i:9999<y:=by
   unfold dB at c;simp at c;omega
  clear c;go_enter func110,ntmps110;go_wp2_with(first
   |(refine bI rfl _ _ _ rfl rfl w.heap.size (aL aO.none) rfl rfl _ _ (heap_alloc_new _ _) bP rfl rfl ?_;intro d a;have b:=aA a;clear a))
  refine bB (eA results110 _ _ _ _ _ _ _ rfl b.out.row underlying80 rfl bP) rfl ⟨?_,((aF _ _).alloc (aC _) _).trans (b.out.below (aC _))⟩;exact eB rfl rfl rfl
set_option maxRecDepth 20000 in
set_option maxHeartbeats 4000000 in
theorem aBg(l:List UInt8)(y:Int)(w:World)(h:l.length<=200)(V:1<=y)(W:y<=9999)(q a:Nat)(L:cS l=(q,a))(r:¬(0<a/\Lib.hasPrefix (l.drop a) [49,32]=true)):
  Calls prog 110 #[.string ⟨l.toArray⟩,.int .i64 y] w fun e F=>
   e= .returned (if bO (l.drop a)=false then .tuple #[.agg (aL aO.none),.int .i64 9,.int .i64 a]else .tuple #[.agg (aL (jB (aO.of ((q:Int)/8) ((q:Int)%8)) (l.drop a) y.toNat)),.int .i64 0,.int .i64 0])/\Below w.heap.size w F:=by
 have hi:¬(200:Int)<(l.length:Int):=by omega
 have N:y=((y.toNat:Nat):Int):=by omega
 have Q:¬y<1:=by omega
 have R:¬9999<y:=by omega
 have G:=pW l;have g:= @aBc l;have i:Hid (∀w,Calls prog 155 #[.string ⟨l.toArray⟩] w fun e F=>e= .returned (oN l)/\F=w):=fun w=>OC l (by omega) w;unfold oN at i;rw[L]at G g i;dsimp only at G g i;clear L;have E:Hid (∀w,Calls prog 157 #[.string ⟨(l.drop a).toArray⟩] w fun e F=>e= .returned (.bool (bO (l.drop a)))/\F=w):=fun w=>xV (l.drop a) (by rw[bC];omega) w;have K:Hid (∀w,Calls prog 158 #[.string ⟨(l.drop a).toArray⟩,.int .i64 y] w fun e F=>e= .returned (.agg (aL (jB (aO.of 0 0) (l.drop a) y.toNat)))/\Below w.heap.size w F):=fun w=>by
  have:=aAW (l.drop a) (by rw[bC];omega) y.toNat (by omega) (by omega) w
  rwa [<-N]at this
 rw[aBd];generalize bO (l.drop a)=pl at E⊢;obtain⟨M,S⟩:∃M,jB (aO.of 0 0) (l.drop a) y.toNat=M:=⟨_,rfl⟩;rw[S]at K⊢;clear S N;have O:wrap64 ((q:Int)/8)=(q:Int)/8:=by unfold wrap64;omega
 have P:(a:Int)<=(l.length:Int):=by omega
 have H:(l.drop a).take (l.length-a)=l.drop a:=fV (by rw[bC];omega);rcases(by
  by_cases h0:a=0
  ·exact .inl h0
  ·refine .inr ⟨h0,?_⟩;by_cases h1:a+1<l.length
   ·refine .inr ⟨h1,?_⟩;by_cases h2:l[a].toNat=49
    ·refine .inr ⟨h2,?_⟩;intro h3;exact r ⟨by omega,PO.2 ⟨h1,h2,h3⟩⟩
    ·exact .inl h2
   ·exact .inl h1:a=0∨(¬a=0/\(¬a+1<l.length∨∃h1:a+1<l.length,(¬l[a].toNat=49∨(l[a].toNat=49/\¬l[a+1].toNat=32)))))with h0|⟨h0,h1|⟨h1,h2|⟨h2,h3⟩⟩⟩
 ·subst h0;have h13:=g rfl;subst h13;rw[aD rfl]at i;clear r g O P H G;rw[fB]at E K;have Z:((0:Nat):Int)=0:=rfl;cases pl with
  |false=>
   rw[aD rfl];go_enter func110,ntmps110;go_wp2_with fail;refine(i.out _).mono ?_;rintro e j⟨rfl,b⟩;have b:=b.symm;subst b;go_wp2_with fail;refine(E.out _).mono ?_;rintro e j⟨rfl,b⟩;have b:=b.symm;subst b;go_wp2_with(first
    |(refine bI rfl _ _ _ rfl rfl w.heap.size (aL aO.none) rfl rfl _ _ (heap_alloc_new _ _) bP rfl rfl ?_;intro I s;have t:=aA s;clear s))
   refine bB (eA results110 _ _ _ _ _ _ _ rfl t.out.row underlying80 rfl bP) rfl ⟨?_,((aF _ _).alloc (aC _) _).trans (t.out.below (aC _))⟩;exact eB rfl rfl rfl
  |true=>
   rw[aB (by decide)];go_enter func110,ntmps110;go_wp2_with fail;refine(i.out _).mono ?_;rintro e j⟨rfl,b⟩;have b:=b.symm;subst b;go_wp2_with fail;refine(E.out _).mono ?_;rintro e j⟨rfl,b⟩;have b:=b.symm;subst b;go_wp2_with fail;refine(K.out _).mono ?_;rintro e c⟨rfl,d⟩;have k:Hid (Below w.heap.size w c):=((aF _ _).alloc (aC _) _).trans (d.mono (by simp));have f:Hid (c.heap[w.heap.size]?=some (.cells (aL aO.none) 80 (0,0))):=(d.block _ (by simp)).trans (heap_alloc_new _ _);have m:w.heap.size<c.heap.size:=(aM.1 f.out).1;clear d;go_wp2_with(first
    |(refine bI rfl _ _ _ rfl rfl c.heap.size (aL M) rfl rfl _ _ (heap_alloc_new _ _) bP rfl rfl ?_;intro u v;have n:=aA v;clear v)
    |(refine bK rfl _ _ _ rfl rfl c.heap.size 0 _ rfl rfl _ _ _ n.out.row jC (by simp[aL]) rfl rfl ?_;intro x z;have o:=aA z;clear z)
    |(refine bK rfl _ _ _ rfl rfl c.heap.size 1 _ rfl rfl _ _ _ o.out.row jC (by simp[aL]) rfl rfl ?_;intro A B;have p:=aA B;clear B)
    |(refine cG rfl _ _ rfl c.heap.size rfl _ _ _ _ p.out.row underlying80 rfl bP ?_)
    |(refine bI rfl _ _ _ rfl rfl w.heap.size _ rfl rfl _ _ ((p.out.other _ (by omega)).trans ((o.out.other _ (by omega)).trans ((n.out.other _ (by omega)).trans ((heap_alloc_old _ _ m).trans f.out)))) bP rfl rfl ?_;intro J C;have D:=aA C;clear C))
   refine bB (eA results110 _ _ _ _ _ _ _ rfl D.out.row underlying80 rfl bP) rfl ⟨?_,((((((k.out.alloc (by omega) _).trans (n.out.below (by omega))).trans (o.out.below (by omega))).trans (p.out.below (by omega))).trans (D.out.below (by omega))))⟩;exact eB rfl rfl rfl
 ·rw[aB h0]at i;clear r g;have T:¬(a:Int)+1<(l.length:Int):=by omega
  have U:¬(a:Int)<0:=by omega
  clear h0 h1;cases pl with
  |false=>
   rw[aD rfl];go_enter func110,ntmps110;go_wp2_with fail;refine(i.out _).mono ?_;rintro e j⟨rfl,b⟩;have b:=b.symm;subst b;go_wp2_with fail;refine(E.out _).mono ?_;rintro e j⟨rfl,b⟩;have b:=b.symm;subst b;go_wp2_with(first
    |(refine bI rfl _ _ _ rfl rfl w.heap.size (aL aO.none) rfl rfl _ _ (heap_alloc_new _ _) bP rfl rfl ?_;intro I s;have t:=aA s;clear s))
   refine bB (eA results110 _ _ _ _ _ _ _ rfl t.out.row underlying80 rfl bP) rfl ⟨?_,((aF _ _).alloc (aC _) _).trans (t.out.below (aC _))⟩;exact eB rfl rfl rfl
  |true=>
   rw[aB (by decide)];go_enter func110,ntmps110;go_wp2_with fail;refine(i.out _).mono ?_;rintro e j⟨rfl,b⟩;have b:=b.symm;subst b;go_wp2_with fail;refine(E.out _).mono ?_;rintro e j⟨rfl,b⟩;have b:=b.symm;subst b;go_wp2_with fail;refine(K.out _).mono ?_;rintro e c⟨rfl,d⟩;have k:Hid (Below w.heap.size w c):=((aF _ _).alloc (aC _) _).trans (d.mono (by simp));have f:Hid (c.heap[w.heap.size]?=some (.cells (aL aO.none) 80 (0,0))):=(d.block _ (by simp)).trans (heap_alloc_new _ _);have m:w.heap.size<c.heap.size:=(aM.1 f.out).1;clear d;go_wp2_with(first
    |(refine bI rfl _ _ _ rfl rfl c.heap.size (aL M) rfl rfl _ _ (heap_alloc_new _ _) bP rfl rfl ?_;intro u v;have n:=aA v;clear v)
    |(refine bK rfl _ _ _ rfl rfl c.heap.size 0 _ rfl rfl _ _ _ n.out.row jC (by simp[aL]) rfl rfl ?_;intro x z;have o:=aA z;clear z)
    |(refine bK rfl _ _ _ rfl rfl c.heap.size 1 _ rfl rfl _ _ _ o.out.row jC (by simp[aL]) rfl rfl ?_;intro A B;have p:=aA B;clear B)
    |(refine cG rfl _ _ rfl c.heap.size rfl _ _ _ _ p.out.row underlying80 rfl bP ?_)
    |(refine bI rfl _ _ _ rfl rfl w.heap.size _ rfl rfl _ _ ((p.out.other _ (by omega)).trans ((o.out.other _ (by omega)).trans ((n.out.other _ (by omega)).trans ((heap_alloc_old _ _ m).trans f.out)))) bP rfl rfl ?_;intro J C;have D:=aA C;clear C))
   refine bB (eA results110 _ _ _ _ _ _ _ rfl D.out.row underlying80 rfl bP) rfl ⟨?_,((((((k.out.alloc (by omega) _).trans (n.out.below (by omega))).trans (o.out.below (by omega))).trans (p.out.below (by omega))).trans (D.out.below (by omega))))⟩;exact eB rfl rfl rfl
 ·rw[aB h0]at i;clear r g;have T:(a:Int)+1<(l.length:Int):=by omega
  have U:¬(a:Int)<0:=by omega
  have X:((l[a].toNat:Int)==49)=false:=bG.2 (by omega);have Y:a<l.length:=by omega
  clear h0 h2;cases pl with
  |false=>
   rw[aD rfl];go_enter func110,ntmps110;go_wp2_with fail;refine(i.out _).mono ?_;rintro e j⟨rfl,b⟩;have b:=b.symm;subst b;go_wp2_with fail;refine(E.out _).mono ?_;rintro e j⟨rfl,b⟩;have b:=b.symm;subst b;go_wp2_with(first
    |(refine bI rfl _ _ _ rfl rfl w.heap.size (aL aO.none) rfl rfl _ _ (heap_alloc_new _ _) bP rfl rfl ?_;intro I s;have t:=aA s;clear s))
   refine bB (eA results110 _ _ _ _ _ _ _ rfl t.out.row underlying80 rfl bP) rfl ⟨?_,((aF _ _).alloc (aC _) _).trans (t.out.below (aC _))⟩;exact eB rfl rfl rfl
  |true=>
   rw[aB (by decide)];go_enter func110,ntmps110;go_wp2_with fail;refine(i.out _).mono ?_;rintro e j⟨rfl,b⟩;have b:=b.symm;subst b;go_wp2_with fail;refine(E.out _).mono ?_;rintro e j⟨rfl,b⟩;have b:=b.symm;subst b;go_wp2_with fail;refine(K.out _).mono ?_;rintro e c⟨rfl,d⟩;have k:Hid (Below w.heap.size w c):=((aF _ _).alloc (aC _) _).trans (d.mono (by simp));have f:Hid (c.heap[w.heap.size]?=some (.cells (aL aO.none) 80 (0,0))):=(d.block _ (by simp)).trans (heap_alloc_new _ _);have m:w.heap.size<c.heap.size:=(aM.1 f.out).1;clear d;go_wp2_with(first
    |(refine bI rfl _ _ _ rfl rfl c.heap.size (aL M) rfl rfl _ _ (heap_alloc_new _ _) bP rfl rfl ?_;intro u v;have n:=aA v;clear v)
    |(refine bK rfl _ _ _ rfl rfl c.heap.size 0 _ rfl rfl _ _ _ n.out.row jC (by simp[aL]) rfl rfl ?_;intro x z;have o:=aA z;clear z)
    |(refine bK rfl _ _ _ rfl rfl c.heap.size 1 _ rfl rfl _ _ _ o.out.row jC (by simp[aL]) rfl rfl ?_;intro A B;have p:=aA B;clear B)
    |(refine cG rfl _ _ rfl c.heap.size rfl _ _ _ _ p.out.row underlying80 rfl bP ?_)
    |(refine bI rfl _ _ _ rfl rfl w.heap.size _ rfl rfl _ _ ((p.out.other _ (by omega)).trans ((o.out.other _ (by omega)).trans ((n.out.other _ (by omega)).trans ((heap_alloc_old _ _ m).trans f.out)))) bP rfl rfl ?_;intro J C;have D:=aA C;clear C))
   refine bB (eA results110 _ _ _ _ _ _ _ rfl D.out.row underlying80 rfl bP) rfl ⟨?_,((((((k.out.alloc (by omega) _).trans (n.out.below (by omega))).trans (o.out.below (by omega))).trans (p.out.below (by omega))).trans (D.out.below (by omega))))⟩;exact eB rfl rfl rfl
 ·rw[aB h0]at i;clear r g;have T:(a:Int)+1<(l.length:Int):=by omega
  have U:¬(a:Int)<0:=by omega
  have X:((l[a].toNat:Int)==49)=true:=dZ.2 (by omega);have t3:((l[a+1].toNat:Int)==32)=false:=bG.2 (by omega);have t4:((a:Int)+1).toNat=a+1:=by omega
  have Y:a<l.length:=by omega
  clear h0 h2 h3;cases pl with
  |false=>
   rw[aD rfl];go_enter func110,ntmps110;go_wp2_with fail;refine(i.out _).mono ?_;rintro e j⟨rfl,b⟩;have b:=b.symm;subst b;go_wp2_with fail;refine(E.out _).mono ?_;rintro e j⟨rfl,b⟩;have b:=b.symm;subst b;go_wp2_with(first
    |(refine bI rfl _ _ _ rfl rfl w.heap.size (aL aO.none) rfl rfl _ _ (heap_alloc_new _ _) bP rfl rfl ?_;intro I s;have t:=aA s;clear s))
   refine bB (eA results110 _ _ _ _ _ _ _ rfl t.out.row underlying80 rfl bP) rfl ⟨?_,((aF _ _).alloc (aC _) _).trans (t.out.below (aC _))⟩;exact eB rfl rfl rfl
  |true=>
   rw[aB (by decide)];go_enter func110,ntmps110;go_wp2_with fail;refine(i.out _).mono ?_;rintro e j⟨rfl,b⟩;have b:=b.symm;subst b;go_wp2_with fail;refine(E.out _).mono ?_;rintro e j⟨rfl,b⟩;have b:=b.symm;subst b;go_wp2_with fail;refine(K.out _).mono ?_;rintro e c⟨rfl,d⟩;have k:Hid (Below w.heap.size w c):=((aF _ _).alloc (aC _) _).trans (d.mono (by simp));have f:Hid (c.heap[w.heap.size]?=some (.cells (aL aO.none) 80 (0,0))):=(d.block _ (by simp)).trans (heap_alloc_new _ _);have m:w.heap.size<c.heap.size:=(aM.1 f.out).1;clear d;go_wp2_with(first
    |(refine bI rfl _ _ _ rfl rfl c.heap.size (aL M) rfl rfl _ _ (heap_alloc_new _ _) bP rfl rfl ?_;intro u v;have n:=aA v;clear v)
    |(refine bK rfl _ _ _ rfl rfl c.heap.size 0 _ rfl rfl _ _ _ n.out.row jC (by simp[aL]) rfl rfl ?_;intro x z;have o:=aA z;clear z)
    |(refine bK rfl _ _ _ rfl rfl c.heap.size 1 _ rfl rfl _ _ _ o.out.row jC (by simp[aL]) rfl rfl ?_;intro A B;have p:=aA B;clear B)
    |(refine cG rfl _ _ rfl c.heap.size rfl _ _ _ _ p.out.row underlying80 rfl bP ?_)
    |(refine bI rfl _ _ _ rfl rfl w.heap.size _ rfl rfl _ _ ((p.out.other _ (by omega)).trans ((o.out.other _ (by omega)).trans ((n.out.other _ (by omega)).trans ((heap_alloc_old _ _ m).trans f.out)))) bP rfl rfl ?_;intro J C;have D:=aA C;clear C))
   refine bB (eA results110 _ _ _ _ _ _ _ rfl D.out.row underlying80 rfl bP) rfl ⟨?_,((((((k.out.alloc (by omega) _).trans (n.out.below (by omega))).trans (o.out.below (by omega))).trans (p.out.below (by omega))).trans (D.out.below (by omega))))⟩;exact eB rfl rfl rfl
set_option maxRecDepth 20000 in
set_option maxHeartbeats 4000000 in
theorem aBh(l:List UInt8)(y:Int)(w:World)(h:l.length<=200)(W:1<=y)(X:y<=9999)(b a:Nat)(t:cS l=(b,a))(Y:0<a)(K:Lib.hasPrefix (l.drop a) [49,32]=true):
  Calls prog 110 #[.string ⟨l.toArray⟩,.int .i64 y] w fun e u=>
   e= .returned (.tuple #[.agg (aL (eV ((b:Int)/8) ((b:Int)%8) l (a+2)).1),.int .i64 (eV ((b:Int)/8) ((b:Int)%8) l (a+2)).2.1,.int .i64 (eV ((b:Int)/8) ((b:Int)%8) l (a+2)).2.2])/\Below w.heap.size w u:=by
 have hi:¬(200:Int)<(l.length:Int):=by omega
 have L:¬y<1:=by omega
 have O:¬9999<y:=by omega
 have v:=pW l;have r:Hid (∀w,Calls prog 155 #[.string ⟨l.toArray⟩] w fun e u=>e= .returned (oN l)/\u=w):=fun w=>OC l (by omega) w;unfold oN at r;rw[t]at v r;dsimp only at v r;rw[aB (by omega)]at r;clear t;obtain⟨Z,c1,c2⟩:=PO.1 K;clear K;have C:Hid (∀w,Calls prog 156 #[.string ⟨l.toArray⟩,.int .i64 ((a:Int)+2)] w fun e u=>(∃m:aO,e= .returned (.tuple #[.agg (aL m),.int .i64 (eV 0 0 l (a+2)).2.1,.int .i64 (eV 0 0 l (a+2)).2.2])/\((eV 0 0 l (a+2)).2.1=0->m=(eV 0 0 l (a+2)).1))/\Below w.heap.size w u):=fun w=>by
  have:=aA7 l h (a+2) (by omega) w
  rwa [show((a+2:Nat):Int)=(a:Int)+2 by omega]at this
 obtain⟨f1,f2,f3⟩:=aA9 ((b:Int)/8) ((b:Int)%8) l (a+2);have f4:=aBb 0 0 l (a+2);obtain⟨N,P⟩:∃N,eV 0 0 l (a+2)=N:=⟨_,rfl⟩;rw[P]at C f1 f2 f3 f4;generalize eV ((b:Int)/8) ((b:Int)%8) l (a+2)=R at f1 f2 f3⊢;obtain⟨R1,R2⟩:=R;dsimp only at f1 f2 f3⊢;subst f1;obtain⟨N1,E,I⟩:=N;dsimp only at f2 f3 f4 C⊢;clear P;have i:=show Hid _ from f2;have j:=show Hid _ from f3;have k:=show Hid _ from f4;clear f2 f3 f4;have aa:wrap64 ((b:Int)/8)=(b:Int)/8:=by unfold wrap64;omega
 have t0:¬(a:Int)<0:=by omega
 have t1:(a:Int)+1<(l.length:Int):=by omega
 have ab:a<l.length:=by omega
 have t2:((l[a].toNat:Int)==49)=true:=dZ.2 (by omega);have t3:((l[a+1].toNat:Int)==32)=true:=dZ.2 (by omega);have t4:((a:Int)+1).toNat=a+1:=by omega
 clear Y c1 c2;by_cases n:E=0
 ·have D:((E:Int) !=0)=false:=by simp;omega
  have o:=show Hid _ from i.out n;have HI:=show Hid _ from k.out n;clear i j k;go_enter func110,ntmps110;go_wp2_with fail;refine(r.out _).mono ?_;rintro e w1⟨rfl,c⟩;have c:=c.symm;subst c;go_wp2_with fail;refine(C.out _).mono ?_;rintro e f⟨⟨M,rfl,Q⟩,d⟩;have HM:=show Hid _ from Q n;have F:=show Hid _ from n;clear Q n;have p:Hid (Below w.heap.size w f):=((aF _ _).alloc (aC _) _).trans (d.mono (by simp));have g:Hid (f.heap[w.heap.size]?=some (.cells (aL aO.none) 80 (0,0))):=(d.block _ (by simp)).trans (heap_alloc_new _ _);have q:w.heap.size<f.heap.size:=(aM.1 g.out).1;clear d;go_wp2_with(first
   |(refine bI rfl _ _ _ rfl rfl f.heap.size (aL M) rfl rfl _ _ (heap_alloc_new _ _) bP rfl rfl ?_;intro x z;have s:=aA z;clear z)
   |(refine bK rfl _ _ _ rfl rfl f.heap.size 0 _ rfl rfl _ _ _ s.out.row jC (by simp[aL]) rfl rfl ?_;intro S T;have G:=aA T;clear T)
   |(refine bK rfl _ _ _ rfl rfl f.heap.size 1 _ rfl rfl _ _ _ G.out.row jC (by simp[aL]) rfl rfl ?_;intro U V;have H:=aA V;clear V)
   |(refine cG rfl _ _ rfl f.heap.size rfl _ _ _ _ H.out.row underlying80 rfl bP ?_)
   |(refine bI rfl _ _ _ rfl rfl w.heap.size _ rfl rfl _ _ ((H.out.other _ (by omega)).trans ((G.out.other _ (by omega)).trans ((s.out.other _ (by omega)).trans ((heap_alloc_old _ _ q).trans g.out)))) bP rfl rfl ?_;intro J A;have B:=aA A;clear A))
  refine bB (eA results110 _ _ _ _ _ _ _ rfl B.out.row underlying80 rfl bP) rfl ⟨?_,((((((p.out.alloc (by omega) _).trans (s.out.below (by omega))).trans (G.out.below (by omega))).trans (H.out.below (by omega))).trans (B.out.below (by omega))))⟩;rw[o.out,<-HM.out];exact eB rfl (by rw[F.out];rfl) (by rw[HI.out];rfl)
 ·have D:((E:Int) !=0)=true:=by simp;omega
  have o:=show Hid _ from j.out n;clear i j k n;go_enter func110,ntmps110;go_wp2_with fail;refine(r.out _).mono ?_;rintro e w1⟨rfl,c⟩;have c:=c.symm;subst c;go_wp2_with fail;refine(C.out _).mono ?_;rintro e f⟨⟨M,rfl,_⟩,d⟩;have p:Hid (Below w.heap.size w f):=((aF _ _).alloc (aC _) _).trans (d.mono (by simp));have g:Hid (f.heap[w.heap.size]?=some (.cells (aL aO.none) 80 (0,0))):=(d.block _ (by simp)).trans (heap_alloc_new _ _);have q:w.heap.size<f.heap.size:=(aM.1 g.out).1;clear d;go_wp2_with(first
   |(refine bI rfl _ _ _ rfl rfl f.heap.size (aL M) rfl rfl _ _ (heap_alloc_new _ _) bP rfl rfl ?_;intro x z;have s:=aA z;clear z)
   |(refine bI rfl _ _ _ rfl rfl w.heap.size (aL aO.none) rfl rfl _ _ ((s.out.other _ (by omega)).trans ((heap_alloc_old _ _ q).trans g.out)) bP rfl rfl ?_;intro J A;have B:=aA A;clear A))
  refine bB (eA results110 _ _ _ _ _ _ _ rfl B.out.row underlying80 rfl bP) rfl ⟨?_,((((p.out.alloc (by omega) _).trans (s.out.below (by omega))).trans (B.out.below (by omega))))⟩;rw[o.out];exact eB rfl rfl rfl
theorem uT(l:List UInt8)(d:l.length<=1000000000000000)(y:Int)(w:World):
  Calls prog 110 #[.string ⟨l.toArray⟩,.int .i64 y] w fun e c=>
   e= .returned (.tuple #[.agg (aL (bH l y).1),.int .i64 (bH l y).2.1,.int .i64 (bH l y).2.2])/\Below w.heap.size w c:=by
 unfold bH;by_cases h1:200<l.length
 ·rw[aD h1];exact aBe l d y w h1
 rw[aB h1];by_cases h2:dB y=false
 ·rw[aD h2];exact aBf l y w (by omega) h2
 rw[aB h2];have a:1<=y/\y<=9999:=by
  unfold dB at h2;simp at h2;omega
 by_cases h3:0<(cS l).2/\Lib.hasPrefix (l.drop (cS l).2) [49,32]=true
 ·rw[aD h3];exact aBh l y w (by omega) a.1 a.2 (cS l).1 (cS l).2 rfl h3.1 h3.2
 rw[aB h3];refine(aBg l y w (by omega) a.1 a.2 (cS l).1 (cS l).2 rfl h3).mono ?_;rintro e c⟨rfl,f⟩;refine⟨?_,f⟩;by_cases b:bO (l.drop (cS l).2)=false
 ·rw[aD b,aD b];rfl
 ·rw[aB b,aB b];rfl
end Go.Proofs.Z

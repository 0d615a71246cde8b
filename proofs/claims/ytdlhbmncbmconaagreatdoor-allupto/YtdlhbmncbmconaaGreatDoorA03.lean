/- Pressed by program out of Mb Mc Mg. -/
import Derived.Test.YtdlhbmncbmconaaGreatDoorA02
import Derived.Lib.ValidLaws
namespace Go.Hm
def M4(u:List UInt8):Prop:=(∃c,u=[92,c]/\jO c=true)∨(∃a:UInt8,u=[a]/\¬a.toNat=34/\¬a.toNat=93/\¬a.toNat=92)
def kG(a:List UInt8):Prop:=∃us:List (List UInt8),a=us.flatten/\∀u∈us,M4 u
theorem kG.nil:kG []:=⟨[],rfl,fun _ h=>by simp at h⟩
theorem kG.esc{c:UInt8}{t:List UInt8}(b:jO c=true)(h:kG t):kG (92::c::t):=by
 obtain⟨d,rfl,e⟩:=h;exact⟨[92,c]::d,rfl,fun u a=>by rcases jY.1 a with rfl|a;exact .inl ⟨c,rfl,b⟩;exact e u a⟩
theorem kG.one{a:UInt8}{t:List UInt8}(h1:¬a.toNat=34)(h2:¬a.toNat=93)(h3:¬a.toNat=92)(h:kG t):kG (a::t):=by
 obtain⟨c,rfl,d⟩:=h;exact⟨[a]::c,rfl,fun u b=>by rcases jY.1 b with rfl|b;exact .inr ⟨a,rfl,h1,h2,h3⟩;exact d u b⟩
theorem kG.each{P:List UInt8->Prop}(h0:P [])(h1:∀c t,jO c=true->P t->P (92::c::t))(h2:∀(a:UInt8) t,¬a.toNat=34->¬a.toNat=93->¬a.toNat=92->P t->P (a::t)){a:List UInt8}(h:kG a):P a:=by
 obtain⟨e,rfl,f⟩:=h;induction e with
 |nil=>exact h0
 |cons u e d=>
  have d:=d (fun v g=>f v (by simp[g]));rcases f u (by simp)with⟨c,rfl,i⟩|⟨b,rfl,j,k,l⟩
  ·exact h1 c _ i d
  ·exact h2 b _ j k l d
theorem M5{a:List UInt8}(h:kG a)(r:List UInt8):dA (a++34::r)=some a.length:=by
 refine kG.each (P:=fun a=>dA (a++34::r)=some a.length) ?_ ?_ ?_ h
 ·exact vE rfl
 ·intro c t d b;rw[eN,eN,vF rfl d,b];rfl
 ·intro a t h1 h2 h3 b;rw[eN,vG h1 h2 h3,b];rfl
theorem M6:∀(n:Nat)(l:List UInt8),l.length<=n->∀v,dA l=some v->∃a r,l=a++34::r/\a.length=v/\kG a:=by
 intro n;induction n with
 |zero=>intro l f v d;cases l with|nil=>cases d|cons a t=>simp at f
 |succ n ih=>
  intro l f v d;cases l with
  |nil=>cases d
  |cons a t=>
   simp only[bU]at f;by_cases h1:a.toNat=34
   ·rw[vE h1]at d;cases d;exact⟨[],t,by rw[eY.1 (show a.toNat=(34:UInt8).toNat from h1)];rfl,rfl,.nil⟩
   ·by_cases h2:a.toNat=93
    ·rw[yI h2]at d;cases d
    ·by_cases h3:a.toNat=92
     ·cases t with
      |nil=>rw[yJ h3]at d;cases d
      |cons c u=>
       cases g:jO c with
       |false=>rw[yK h3 g]at d;cases d
       |true=>
        rw[vF h3 g]at d;obtain⟨x,h,rfl⟩:=rU.1 d;simp only[bU]at f;obtain⟨b,r,rfl,i,e⟩:=ih u (by omega) x h;obtain rfl:a=92:=eY.1 h3;exact⟨92::c::b,r,rfl,by simp[i],.esc g e⟩
     ·rw[vG h1 h2 h3]at d;obtain⟨x,h,rfl⟩:=rU.1 d;obtain⟨b,r,rfl,i,e⟩:=ih t (by omega) x h;exact⟨a::b,r,rfl,by simp[i],.one h1 h2 h3 e⟩
def qM(n:List UInt8):Prop:=1<=n.length/\n.length<=12/\∀c∈n,gR c=true
theorem sW(p:UInt8->Bool)(b:Nat)(l:List UInt8):∀c∈l.take (aZ p b l),p c=true:=by
 intro c a;have h:l.take (aZ p b l)=(l.take b).takeWhile p:=by
  unfold aZ;have d:(l.take b).takeWhile p <+: l:=(List.takeWhile_prefix p).trans (List.take_prefix b l);exact(List.prefix_iff_eq_take.1 d).symm
 rw[h]at a;have:=List.all_takeWhile (p:=p) (l:=l.take b);rw[nL]at this;exact this c a
theorem wV{p:UInt8->Bool}{b:Nat}{a r:List UInt8}(d:a.length<=b)(h:∀c∈a,p c=true)(e:a.length=b∨r=[]∨∃c t,r=c::t/\p c=false):aZ p b (a++r)=a.length:=by
 refine vC p b _ _ (by simp) d (by simpa using h) ?_;rcases e with h|rfl|⟨c,t,rfl,f⟩
 ·exact .inr (.inl h)
 ·left;simp
 ·exact .inr (.inr ⟨c,by simp,f⟩)
theorem LB{n:List UInt8}(h:qM n){c:UInt8}(a:gR c=false)(r:List UInt8):fW (n++c::r)=n.length:=
 wV h.2.1 h.2.2 (.inr (.inr ⟨c,r,rfl,a⟩))
theorem LC{l:List UInt8}(h:¬fW l=0):∃n r,l=n++r/\n.length=fW l/\qM n:=by
 have a:=yH l;refine⟨l.take (fW l),l.drop (fW l),(qS _ _).symm,by simp;omega,by simp;omega,by simp;omega,sW gR 12 l⟩
theorem pK{l:List UInt8}{c:UInt8}(h:Lib.hasPrefix l [c]=true):∃t,l=c::t:=by
 unfold Lib.hasPrefix at h;obtain⟨t,rfl⟩:=List.isPrefixOf_iff_prefix.1 h;exact⟨t,rfl⟩
theorem M7{l:List UInt8}{c d:UInt8}(h:Lib.hasPrefix l [c,d]=true):∃t,l=c::d::t:=by
 unfold Lib.hasPrefix at h;obtain⟨t,rfl⟩:=List.isPrefixOf_iff_prefix.1 h;exact⟨t,rfl⟩
theorem uL(p t:List UInt8):Lib.hasPrefix (p++t) p=true:=List.isPrefixOf_iff_prefix.2 ⟨t,rfl⟩
theorem sY(c:UInt8)(t:List UInt8):Lib.hasPrefix (c::t) [c]=true:=uL [c] t
theorem wW{c d:UInt8}(t:List UInt8)(h:¬c=d):Lib.hasPrefix (c::t) [d]=false:=by
 cases a:Lib.hasPrefix (c::t) [d]with
 |false=>rfl
 |true=>obtain⟨u,b⟩:=pK a;cases b;exact(h rfl).elim
def iK(n v:List UInt8):List UInt8:=n++61::34::(v++[34])
theorem LF{n v:List UInt8}(a:qM n)(b:kG v)(r:List UInt8):eG (iK n v++r)=(iK n v).length:=by
 have e:iK n v++r=n++61::(34::(v++34::r)):=by simp[iK]
 have c:fW (iK n v++r)=n.length:=by rw[e];exact LB a (by decide) _
 unfold eG;rw[c,e];have h1:=a.1;rw[aB]
 ·rw[show(n++61::(34::(v++34::r))).drop (n.length+2)=v++34::r by simp];rw[M5 b];simp[iK];omega
 ·rw[jN];rintro(h|h)
  ·omega
  ·rw[show(61:UInt8)::34::(v++34::r)=[61,34]++(v++34::r)from rfl,uL]at h;cases h
theorem M8{l:List UInt8}(h:¬eG l=0):∃n v r,l=iK n v++r/\qM n/\kG v/\eG l=(iK n v).length:=by
 unfold eG at h;split at h
 ·exact(h rfl).elim
 ·next h1=>
  split at h
  ·exact(h rfl).elim
  ·next v hv=>
   obtain⟨n,r,c,f,g⟩:=LC (l:=l) (fun e=>h1 (.inl e));have h2:Lib.hasPrefix (l.drop (fW l)) [61,34]=true:=by
    cases i:Lib.hasPrefix (l.drop (fW l)) [61,34]with
    |true=>rfl
    |false=>exact(h1 (.inr i)).elim
   rw[<-f,c,jN]at h2;obtain⟨t,rfl⟩:=M7 h2;have h3:l.drop (fW l+2)=t:=by rw[<-f,c];simp
   rw[h3]at hv;obtain⟨a,d,rfl,j,hA⟩:=M6 _ t (aC _) v hv;have b:l=iK n a++d:=by rw[c];simp[iK]
   exact⟨n,a,d,b,g,hA,by rw[b];exact LF g hA d⟩
def mW(a:List UInt8):Prop:=∃ps:List (List UInt8×List UInt8),a=(ps.map fun p=>32::iK p.1 p.2).flatten/\∀p∈ps,qM p.1/\kG p.2
theorem mW.nil:mW []:=⟨[],rfl,fun _ h=>by simp at h⟩
theorem mW.more{n v t:List UInt8}(b:qM n)(c:kG v)(h:mW t):mW (32::(iK n v++t)):=by
 obtain⟨d,rfl,e⟩:=h;exact⟨(n,v)::d,rfl,fun u a=>by rcases jY.1 a with rfl|a;exact⟨b,c⟩;exact e u a⟩
theorem mW.each{P:List UInt8->Prop}(h0:P [])(h1:∀n v t,qM n->kG v->P t->P (32::(iK n v++t))){a:List UInt8}(h:mW a):P a:=by
 obtain⟨c,rfl,b⟩:=h;induction c with
 |nil=>exact h0
 |cons p c ih=>exact h1 p.1 p.2 _ (b p (by simp)).1 (b p (by simp)).2 (ih (fun v d=>b v (by simp[d])))
theorem M9(n v:List UInt8):0<(iK n v).length:=by simp[iK];omega
theorem N0{a:List UInt8}(h:mW a){r:List UInt8}(c:Lib.hasPrefix r [32]=false):∀f,(a++r).length<f->eK f (a++r)=some a.length:=by
 refine mW.each (P:=fun a=>∀f,(a++r).length<f->eK f (a++r)=some a.length) ?_ ?_ h
 ·intro f b;rw[iR]at b⊢;exact tK b c
 ·intro n v t d g i f b;have e:(32::(iK n v++t)++r).drop 1=iK n v++(t++r):=by simp
  have j:eG ((32::(iK n v++t)++r).drop 1)=(iK n v).length:=by rw[e];exact LF d g _
  have h0:=M9 n v;rw[yL b (sY 32 _) (by omega),j];rw[show(32::(iK n v++t)++r).drop (1+(iK n v).length)=t++r by rw[<-dW,e,jN]];rw[i f (by simp at b⊢;omega)];simp;omega
theorem N2:∀(f:Nat)(l:List UInt8)(k:Nat),l.length<f->eK f l=some k->∃a r,l=a++r/\mW a/\a.length=k/\Lib.hasPrefix r [32]=false:=by
 intro f;induction f with
 |zero=>intro l k h;omega
 |succ f ih=>
  intro l k c h;cases b:Lib.hasPrefix l [32]with
  |false=>
   rw[tK c b]at h;cases h;exact⟨[],l,rfl,.nil,rfl,b⟩
  |true=>
   by_cases h0:eG (l.drop 1)=0
   ·rw[yM c b h0]at h;cases h
   ·unfold eK at h;rw[aD b,aB h0]at h;obtain⟨x,d,rfl⟩:=rU.1 h;obtain⟨t,rfl⟩:=pK b;rw[show(32::t).drop 1=t from rfl]at h0 d⊢;obtain⟨n,v,r,rfl,g,i,e⟩:=M8 h0;rw[e,<-dW,show(32::(iK n v++r)).drop 1=iK n v++r from rfl,jN]at d;obtain⟨a,j,rfl,hA,m,o⟩:=ih r x (by simp at c;omega) d;exact⟨32::(iK n v++a),j,by simp,.more g i hA,by simp[m,e];omega,o⟩
def pL(x:List UInt8×List UInt8):Prop:=∃ps,qM x.1/\mW ps/\x.2=91::(x.1++(ps++[93]))
theorem pL.pos{x:List UInt8×List UInt8}(h:pL x):0<x.2.length:=by obtain⟨a,_,_,e⟩:=h;rw[e];simp
theorem N3{a:List UInt8}(h:mW a)(r:List UInt8):∃c t,a++93::r=c::t/\gR c=false:=by
 refine mW.each (P:=fun a=>∃c t,a++93::r=c::t/\gR c=false) ?_ ?_ h
 ·exact⟨93,r,rfl,by decide⟩
 ·intro n v t _ _ _;exact⟨32,_,rfl,by decide⟩
theorem LG{x:List UInt8×List UInt8}(h:pL x)(r:List UInt8):dE (x.2++r)=(x.1,x.2.length):=by
 obtain⟨a,f,d,e⟩:=h;obtain⟨n,b⟩:=x;dsimp only at e f⊢;subst e;have j:91::(n++(a++[93]))++r=91::(n++(a++93::r)):=by simp
 rw[j];obtain⟨c,t,g,k⟩:=N3 d r;have l:fW ((91::(n++(a++93::r))).drop 1)=n.length:=by
  rw[show(91::(n++(a++93::r))).drop 1=n++(a++93::r)from rfl,g];exact LB f k t
 have h1:=f.1;unfold dE;rw[aB (by rw[sY];simp),l,aB (by omega)];have i:(91::(n++(a++93::r))).drop (1+n.length)=a++93::r:=by
  rw[<-dW,show(91::(n++(a++93::r))).drop 1=n++(a++93::r)from rfl,jN]
 rw[i,N0 d (wW r (by decide)) _ (by simp;omega)];dsimp only;rw[<-dW,i,jN,aB (by rw[sY];simp)];simp;omega
theorem N4{l:List UInt8}(h:¬(dE l).2=0):∃x r,l=x.2++r/\pL x/\dE l=(x.1,x.2.length):=by
 have o:=h;unfold dE at h;split at h
 ·exact(h rfl).elim
 ·next h1=>
  split at h
  ·exact(h rfl).elim
  ·next h2=>
   split at h
   ·exact(h rfl).elim
   ·next k hk=>
    split at h
    ·exact(h rfl).elim
    ·next h3=>
     obtain⟨t,rfl⟩:=pK (by simpa using h1:Lib.hasPrefix l [91]=true);rw[show(91::t).drop 1=t from rfl]at h2 hk h3;obtain⟨n,r,rfl,f,g⟩:=LC h2;rw[<-f]at hk h3;have c:(91::(n++r)).drop (1+n.length)=r:=by
      rw[<-dW,show(91::(n++r)).drop 1=n++r from rfl,jN]
     rw[c]at hk;obtain⟨b,i,rfl,j,m,_⟩:=N2 _ r k (by simp;omega) hk;rw[<-m,<-dW,c,jN]at h3;obtain⟨a,rfl⟩:=pK (by simpa using h3:Lib.hasPrefix i [93]=true);have d:pL (n,91::(n++(b++[93]))):=⟨b,g,j,rfl⟩;have e:91::(n++(b++93::a))=(91::(n++(b++[93])))++a:=by simp
     refine⟨_,a,e,d,?_⟩;rw[e];exact LG d a
def kJ(bs:List (List UInt8×List UInt8)):List UInt8:=(bs.map (·.2)).flatten
theorem wX(b:List UInt8×List UInt8)(a:List (List UInt8×List UInt8)):kJ (b::a)=b.2++kJ a:=rfl
theorem N5(x:List UInt8×Nat)(a:List (List UInt8×Nat))(h:a≠[]):jR (x::a)=jR a:=by
 unfold jR;cases a with
 |nil=>exact(h rfl).elim
 |cons y ys=>rw[List.getLast?_cons_cons]
theorem LH:∀(a:List (List UInt8×List UInt8))(l:List UInt8)(e f:Nat)(r:List UInt8),(∀b∈a,pL b)->(dE r).2=0->l.drop e=kJ a++r->e<=l.length->l.length<f+e->
  (fI f l e).map (·.1)=a.map (·.1)/\(fI f l e=[]↔a=[])/\(a≠[]->jR (fI f l e)=e+(kJ a).length)
 |[],l,e,f,r,_,hr,hl,he,hf=>by
  rw[show kJ []++r=r from rfl]at hl;rw[vI hf he (by rw[hl];exact hr)];exact⟨rfl,by simp,fun h=>(h rfl).elim⟩
 |b::a,l,e,f,r,hb,hr,hl,he,hf=>by
  rw[wX,jH]at hl;have j:dE (l.drop e)=(b.1,b.2.length):=by rw[hl];exact LG (hb b (by simp)) _
  have h0:=(hb b (by simp)).pos;have h1:=aQ List.length hl;simp only[bC,dL]at h1;have i:=vJ hf he (by rw[j];exact Nat.ne_of_gt h0);rw[j]at i;dsimp only at i;have g:=LH a l (e+b.2.length) f r (fun c k=>hb c (by simp[k])) hr (by rw[<-dW,hl,jN]) (by omega) (by omega);rw[i];refine⟨by simp[g.1],by simp,fun _=>?_⟩;by_cases d:a=[]
  ·rw[g.2.1.2 d,d];simp[jR,kJ]
  ·rw[N5 _ _ (fun e=>d (g.2.1.1 e)),g.2.2 d,wX];simp;omega
theorem LJ{a:List (List UInt8×List UInt8)}{r:List UInt8}(d:∀b∈a,pL b)(e:(dE r).2=0):
  iO (kJ a++r)=if(a.map (·.1)).Nodup then(if bO (kJ a)=true then(kJ a).length else 0)else 0:=by
 have h:=LH a (kJ a++r) 0 ((kJ a++r).length+1) r d e rfl (dM _) (by omega);have f:jR (fI ((kJ a++r).length+1) (kJ a++r) 0)=(kJ a).length:=by
  by_cases c:a=[]
  ·rw[h.2.1.2 c,c];rfl
  ·rw[h.2.2 c];omega
 unfold iO mQ;rw[h.1,f,List.take_left]
theorem N6:∀(n:Nat)(l:List UInt8),l.length<=n->∃c r,l=kJ c++r/\(∀b∈c,pL b)/\(dE r).2=0:=by
 intro n;induction n with
 |zero=>intro l d;cases l with|nil=>exact⟨[],[],rfl,by simp,rfl⟩|cons a t=>simp at d
 |succ n ih=>
  intro l d;by_cases h:(dE l).2=0
  ·exact⟨[],l,rfl,by simp,h⟩
  ·obtain⟨x,r,rfl,f,_⟩:=N4 h;have:=f.pos;obtain⟨c,g,rfl,i,j⟩:=ih r (by simp at d;omega);exact⟨x::c,g,by rw[wX,jH],fun b e=>by rcases jY.1 e with rfl|h;exact f;exact i b h,j⟩
def pM(d:List UInt8):Prop:=∃bs:List (List UInt8×List UInt8),bs≠[]/\d=kJ bs/\(∀b∈bs,pL b)/\(bs.map (·.1)).Nodup/\bO d=true
theorem pM.head{d:List UInt8}(h:pM d):∃t,d=91::t:=by
 obtain⟨a,h0,rfl,c,_,_⟩:=h;cases a with
 |nil=>exact(h0 rfl).elim
 |cons b a=>obtain⟨f,_,_,e⟩:=c b (by simp);rw[wX,e];exact⟨_,rfl⟩
theorem LK{d:List UInt8}(h:pM d){r:List UInt8}(a:(dE r).2=0):iO (d++r)=d.length:=by
 obtain⟨f,h0,rfl,b,c,e⟩:=h;rw[LJ b a,aD c,aD e]
theorem N7{r:List UInt8}(h:Lib.hasPrefix r [91]=false):(dE r).2=0:=by
 unfold dE;rw[aD h]
theorem LM{l:List UInt8}(h:¬iO l=0):∃d r,l=d++r/\pM d/\iO l=d.length:=by
 obtain⟨b,r,rfl,c,e⟩:=N6 _ l (aC _);have a:=LJ c e;by_cases h1:(b.map (·.1)).Nodup
 ·by_cases h2:bO (kJ b)=true
  ·rw[aD h1,aD h2]at a;refine⟨kJ b,r,rfl,⟨b,?_,rfl,c,h1,h2⟩,a⟩;rintro rfl;exact h a
  ·rw[aD h1,aB h2]at a;exact(h a).elim
 ·rw[aB h1]at a;exact(h a).elim
theorem LO(d:List UInt8):jA d=true↔pM d:=by
 constructor
 ·intro h;unfold jA at h;simp only[gP,Bool.not_eq_true',dZ,List.isEmpty_eq_false_iff]at h;have h0:¬iO d=0:=by rw[h.2];exact fun e=>h.1 (List.length_eq_zero_iff.1 e)
  obtain⟨a,r,rfl,f,b⟩:=LM h0;have:=h.2;rw[b,dL]at this;obtain rfl:r=[]:=List.length_eq_zero_iff.1 (by omega)
  rwa [kZ]
 ·intro h;obtain⟨t,c⟩:=h.head;have:=LK h (r:=[]) rfl;rw[kZ]at this;unfold jA;rw[this,c];simp
theorem N8{d r:List UInt8}(h:pM d)(a:Lib.hasPrefix r [91]=false):fJ (d++r)=d.length:=by
 obtain⟨t,rfl⟩:=h.head;unfold fJ;rw[aB (by rw[eN,wW _ (by decide)];simp)];exact LK h (N7 a)
theorem N9{c s:UInt8}(h:jI c s=true)(a:¬s=32):¬c=32:=by
 unfold jI at h;split at h
 ·intro e;subst e;revert h;decide
 ·intro e;subst e;exact a (by simpa using h)
theorem wY:∀(t s:List UInt8),bZ t s=true->t.length=s.length
 |[],[],_=>rfl
 |[],_::_,h=>by simp[bZ]at h
 | _::_,[],h=>by simp[bZ]at h
 |a::t,b::s,h=>by
  simp only[bZ,gP]at h;simp[wY t s h.2]
theorem O4{t s:List UInt8}(h:bZ t s=true)(c:32∉s):32∉t:=by
 intro d;obtain⟨j,b⟩:=List.getElem?_of_mem d;have f:=wY t s h;have a:j<s.length:=by rw[<-f];exact(iY.1 b).1
 exact N9 (yN t s h j 32 s[j] b (dP a)) (fun e=>c (e▸List.getElem_mem a)) rfl
theorem O5{l:List UInt8}{c x:UInt8}(h:x∈Lib.trimRightB l c):x∈l:=by
 unfold Lib.trimRightB at h;have:=(List.dropWhile_suffix (fun y=>y==c) (l:=l.reverse)).subset (List.mem_reverse.1 h);simpa using this
theorem O8(l:List UInt8):32∉(dT l).1:=by
 unfold dT;split
 ·simp
 ·next hp=>
  split
  ·simp
  ·dsimp only;split
   ·simp
   ·intro a;have h1:=O5 a;obtain⟨t,rfl⟩:=pK (by simpa using hp:Lib.hasPrefix l [46]=true);rw[show(46::t).drop 1=t from rfl,Nat.add_comm,mG]at h1;rcases jY.1 h1 with h|h
    ·exact absurd h (by decide)
    ·have:=sW aH 6 t 32 h;exact absurd this (by decide)
theorem AV(y mo d h mi s:Nat):(eT y mo d h mi s).length=19:=by simp[eT,fP,d2]
theorem LQ{l t:List UInt8}(h:dK l=some t):19<=l.length/\bZ (l.take 19) jQ=true/\∃u,u.length=19/\t=u++(dT (l.drop 19)).1++[90]:=by
 unfold dK at h;split at h
 ·cases h
 ·next h1=>
  split at h
  ·cases h
  ·split at h
   ·cases h
   ·split at h
    ·cases h
    ·cases h;refine⟨by omega,?_,_,AV _ _ _ _ _ _,rfl⟩;cases a:bZ (l.take 19) jQ with
     |true=>rfl
     |false=>exact(h1 (.inr a)).elim
theorem AW{t:List UInt8}(h:eF t=true):dK t=some t:=by simpa[eF]using h
theorem O9{t:List UInt8}(h:eF t=true):32∉t:=by
 obtain⟨h1,h2,u,b,c⟩:=LQ (AW h);have d:t.drop 19=(dT (t.drop 19)).1++[90]:=by
  conv=>lhs;rw[c]
  rw[jH,<-b,jN]
 intro a;rw[<-qS 19 t]at a;rcases jM.1 a with a|a
 ·exact O4 h2 (by decide) a
 ·rw[d]at a;rcases jM.1 a with a|a
  ·exact O8 _ a
  ·exact absurd a (by decide)
theorem Q2{t:List UInt8}(h:eF t=true):19<=t.length:=(LQ (AW h)).1
theorem LS{w:List UInt8}{n:Nat}(h:bX w n=true):¬w=[]/\¬w=[45]/\w.length<=n/\∀c∈w,fO c=true:=by
 unfold bX at h;simp only[gP,Bool.not_eq_true',mN,nL]at h;obtain⟨⟨⟨h1,h2⟩,h3⟩,h4⟩:=h;refine⟨?_,?_,h3,h4⟩
 ·intro e;rw[e]at h1;exact absurd h1 (by decide)
 ·intro e;rw[e]at h2;exact absurd h2 (by decide)
theorem Q3{w:List UInt8}(h:∀c∈w,fO c=true):32∉w:=fun a=>absurd (h 32 a) (by decide)
theorem AX{a p r:List UInt8}(b:32∉p):eU (a++(p++32::r)) a.length=(p,a.length+p.length+1):=by
 unfold eU;rw[jN,pV,vK 32 p r b];rfl
theorem AY:∀(c:List (Nat×Nat))(ws:List (List UInt8))(a r:List UInt8),c.length=ws.length->cY c ws=none->
  dH (a++((ws.flatMap fun w=>told w++[32])++r)) c a.length=(none,ws,(a++(ws.flatMap fun w=>told w++[32])).length)
 |[],[],a,r,_,_=>by simp[dH]
 |[],_::_,_,_,h,_=>by simp at h
 | _::_,[],_,_,h,_=>by simp at h
 |k::c,w::ws,a,r,hl,hf=>by
  unfold cY at hf;split at hf
  ·cases hf
  ·next hw=>
   have i:32∉told w:=by
    unfold told;split
    ·decide
    ·next h0=>
     cases b:bX w k.1 with
     |false=>exact(hw ⟨h0,b⟩).elim
     |true=>exact Q3 (LS b).2.2.2
   have e:a++(((w::ws).flatMap fun w=>told w++[32])++r)=a++(told w++32::((ws.flatMap fun w=>told w++[32])++r)):=by simp
   have j:a++(told w++32::((ws.flatMap fun w=>told w++[32])++r))=(a++(told w++[32]))++((ws.flatMap fun w=>told w++[32])++r):=by simp
   have l:=AX (a:=a) (r:=(ws.flatMap fun w=>told w++[32])++r) i;have g:=AY c ws (a++(told w++[32])) r (by simpa using hl) hf;have d:(a++(told w++[32])).length=a.length+(told w).length+1:=by simp;omega
   rw[d,<-j]at g;rw[e];unfold dH;rw[l];dsimp only;rw[g];dsimp only;by_cases h0:w=[]
   ·subst h0;rw[aD (show told []=[45]from rfl)];simp
   ·have b:bX w k.1=true:=by
     cases b:bX w k.1 with
     |false=>exact(hw ⟨h0,b⟩).elim
     |true=>rfl
    have f:told w=w:=by unfold told;rw[aB h0]
    rw[f,aB (LS b).2.1,aB (by rw[b];simp)];simp[f]
theorem wZ{n:Nat}(h:n<10):aH (UInt8.ofNat (48+n))=true:=by
 rcases(by omega:n=0∨n=1∨n=2∨n=3∨n=4∨n=5∨n=6∨n=7∨n=8∨n=9)with h|h|h|h|h|h|h|h|h|h <;> subst h <;> rfl
theorem pN{n:Nat}(h:n<10):(UInt8.ofNat (48+n)).toNat-48=n:=by
 rw[UInt8.toNat_ofNat'];omega
theorem LU:∀n:Nat,∀c∈Lib.decDigits n,aH c=true:=by
 intro n;induction n using Nat.strongRecOn with
 |ind n ih=>
  intro c a;by_cases h:n<10
  ·rw[kA h]at a;rw[qR.1 a];exact wZ h
  ·rw[jP h]at a;rcases jM.1 a with a|a
   ·exact ih _ (by omega) c a
   ·rw[qR.1 a];exact wZ (by omega)
theorem LV:∀n:Nat,cB (Lib.decDigits n)=n:=by
 intro n;induction n using Nat.strongRecOn with
 |ind n ih=>
  by_cases h:n<10
  ·rw[kA h];unfold cB;simp only[List.foldl_cons,List.foldl_nil];rw[pN h];omega
  ·rw[jP h,yG,ih _ (by omega),pN (by omega)];omega
theorem Q4{n:Nat}(h:n<1000):(Lib.decDigits n).length<=3:=by
 by_cases h1:n<100
 ·have:=pU h1;omega
 ·rw[jP (by omega)];have:=pU (n:=n/10) (by omega);simp only[dL,bU,dS];omega
theorem Q5(n:Nat):0<(Lib.decDigits n).length:=by
 by_cases h:n<10
 ·rw[kA h];simp
 ·rw[jP h];simp
theorem LW:∀n:Nat,0<n->∃c t,Lib.decDigits n=c::t/\aH c=true/\c≠48:=by
 intro n;induction n using Nat.strongRecOn with
 |ind n ih=>
  intro h0;by_cases h:n<10
  ·refine⟨_,[],kA h,wZ h,fun e=>?_⟩;have:=pN h;rw[e]at this;simp at this;omega
  ·obtain⟨c,t,a,h1,h2⟩:=ih (n/10) (by omega) (by omega);exact⟨c,t++[UInt8.ofNat (48+n%10)],by rw[jP h,a];rfl,h1,h2⟩
theorem LX{n:Nat}(h:n<=191)(r:List UInt8):cS (60::(Lib.decDigits n++62::r))=(n,1+(Lib.decDigits n).length+1):=by
 have hA:aZ aH 3 ((60::(Lib.decDigits n++62::r)).drop 1)=(Lib.decDigits n).length:=
  wV (Q4 (by omega)) (LU n) (.inr (.inr ⟨62,r,rfl,by decide⟩))
 have d:=Q5 n;unfold cS;rw[hA,aB (by rw[sY];simp),<-dW,show(60::(Lib.decDigits n++62::r)).drop 1=Lib.decDigits n++62::r from rfl,jN,List.take_left,LV];rw[aB (by rw[sY];rintro(h|h);omega;cases h),aB];rintro(⟨h1,h2⟩|h1)
 ·by_cases h0:n=0
  ·subst h0;rw[kA (by omega)]at h2;simp at h2
  ·obtain⟨c,t,b,_,a⟩:=LW n (by omega);rw[b]at h1;exact a (eY.1 (by simpa using h1))
 ·omega
structure rL(m:aO):Prop where
 f0:0<=m.fac
 f1:m.fac<24
 s0:0<=m.sev
 s1:m.sev<8
 time:m.time=[]∨eF m.time=true
 words:cY aX [m.host,m.app,m.proc,m.id]=none
 data:m.data=[]∨pM m.data
 text:bO m.text=true
theorem Q6(m:aO):eP m=0↔rL m:=by
 constructor
 ·intro h;have f:=FX h;unfold eP at h;split at h
  ·omega
  ·split at h
   ·omega
   ·next h2=>
    split at h
    ·next e he=>
     have:∀(l:List (Nat×Nat))(c:List (List UInt8))(e:Nat),(∀k∈l,0<k.2)->cY l c=some e->0<e:=by
      intro l;induction l with
      |nil=>intro c e _ h;cases c <;> cases h
      |cons k ks ih=>
       intro c e g h;cases c with
       |nil=>cases h
       |cons x xs=>
        unfold cY at h;split at h
        ·cases h;exact g k (by simp)
        ·exact ih xs e (fun i j=>g i (by simp[j])) h
     have:=this aX _ e (by decide) he;omega
    ·next hw=>
     split at h
     ·omega
     ·next h4=>
      split at h
      ·omega
      ·next h5=>
       refine⟨f.1,f.2.1,f.2.2.1,f.2.2.2,?_,hw,?_,by simpa using h5⟩
       ·by_cases d:m.time=[]
        ·exact .inl d
        ·right;cases hi:eF m.time with
         |true=>rfl
         |false=>exact(h2 ⟨d,hi⟩).elim
       ·by_cases d:m.data=[]
        ·exact .inl d
        ·right;rw[<-LO];cases hi:jA m.data with
         |true=>rfl
         |false=>exact(h4 ⟨d,hi⟩).elim
 ·rintro⟨h1,h2,h3,h4,h5,h6,h7,h8⟩;unfold eP;rw[aB (by simp[fH,h1,h2,h3,h4]),aB,h6]
  ·dsimp only;rw[aB,aB (by simp[h8])];rintro⟨a,b⟩;rcases h7 with h|h
   ·exact a h
   ·rw[(LO _).2 h]at b;cases b
  ·rintro⟨a,b⟩;rcases h5 with h|h
   ·exact a h
   ·rw[h]at b;cases b
def kK(x:List UInt8):List UInt8:=if x=[]then[]else 32::x
theorem Q7{m:aO}:Lib.join (mA m) [32]=
  60::(Lib.decDigits (8*m.fac+m.sev).toNat++62::([49,32]++(told m.time++32::(([m.host,m.app,m.proc,m.id].flatMap fun w=>told w++[32])++(told m.data++kK m.text))))):=by
 unfold mA;simp only[jX,List.map_nil];by_cases h:m.text=[]
 ·rw[aD h,kK,aD h];simp only[kZ,tX];simp[Lib.join,List.intercalate,List.intersperse]
 ·rw[aB h,kK,aB h];simp only[eN,iR,tX];simp[Lib.join,List.intercalate,List.intersperse]
theorem LY{m:aO}(a d x:List UInt8)(h0:m.data=[])(h1:m.text=[])(g:d=[]∨pM d)(j:bO x=true):eH m (a++(told d++kK x)) a.length=({m with data:=d,text:=x},0,0):=by
 have k:fJ (told d++kK x)=(told d).length:=by
  rcases g with rfl|g
  ·unfold fJ;rw[aD (by rw[show told []=[45]from rfl];exact uL [45] _)];rfl
  ·obtain⟨t,e⟩:=g.head;have:told d=d:=by unfold told;rw[aB (by rw[e];simp)]
   rw[this];refine N8 g ?_;unfold kK;split
   ·rfl
   ·exact wW _ (by decide)
 have h45:(told d=[45])=(d=[]):=by
  rcases g with rfl|g
  ·simp[told]
  ·obtain⟨t,e⟩:=g.head;subst e;simp[told]
 unfold eH;rw[jN,k,List.take_left];have i:0<(told d).length:=by
  unfold told;split
  ·simp
  ·next h=>exact List.length_pos_iff.2 h
 rw[aB]
 ·by_cases f:x=[]
  ·subst f;rw[aD (by simp[kK])];by_cases b:d=[]
   ·rw[aD (by rw[h45];exact b),b];cases m
    simp_all
   ·rw[aB (by rw[h45];exact b)];have:told d=d:=by unfold told;rw[aB b]
    rw[this];cases m
    simp_all
  ·have c:kK x=32::x:=by unfold kK;rw[aB f]
   rw[aB (by rw[c];simp)];have l:(a++(told d++kK x)).drop (a.length+(told d).length+1)=x:=by
    rw[Nat.add_assoc,<-dW,jN,<-dW,jN,c];rfl
   rw[l,aB (by simp[j])];by_cases b:d=[]
   ·rw[aD (by rw[h45];exact b),b];cases m
    simp_all
   ·rw[aB (by rw[h45];exact b)];have:told d=d:=by unfold told;rw[aB b]
    rw[this]
 ·rintro(h|⟨h,n⟩)
  ·omega
  ·refine n ?_;by_cases f:x=[]
   ·subst f;simp[kK]at h
   ·have c:kK x=32::x:=by unfold kK;rw[aB f]
    rw[c,gQ,tH (by omega),Nat.add_sub_cancel_left,tH (by omega),Nat.sub_self];rfl
theorem xB{m:aO}(h:(cA m).2=0):(cA m).1.length<=200:=by
 unfold cA at h⊢;by_cases h0:eP m=0
 ·rw[aB (by simp[h0])]at h⊢;by_cases h1:200<mH (mA m)
  ·rw[aD h1]at h;cases h
  ·rw[aB h1];unfold mA at h1⊢;rw[<-vX]at h1;dsimp only;omega
 ·rw[aD (by simpa using h0)];simp
theorem LZ{m:aO}(h:(cA m).2=0){y:Int}(q:dB y=true):bH (cA m).1 y=(m,0,0):=by
 have c:=xB h;have f:eP m=0:=by
  unfold cA at h;split at h
  ·exact h
  ·next f=>exact Classical.not_not.1 f
 have s:=(Q6 m).1 f;have t:(cA m).1=Lib.join (mA m) [32]:=by
  unfold cA at h⊢;rw[aB (by simp[f])]at h⊢;split at h
  ·cases h
  ·next hh=>rw[aB hh]
 rw[t]at c⊢;rw[Q7]at c⊢;generalize E:(8*m.fac+m.sev).toNat=n at c⊢;obtain⟨f0,f1,s0,s1,o,hw,u,v⟩:=s;have g:n<=191:=by omega
 have x:=LX g ([49,32]++(told m.time++32::(([m.host,m.app,m.proc,m.id].flatMap fun w=>told w++[32])++(told m.data++kK m.text))));unfold bH;rw[aB (by omega),aB (by rw[q];simp),x];dsimp only;have z:∀r:List UInt8,(60::(Lib.decDigits n++62::r)).drop (1+(Lib.decDigits n).length+1)=r:=by
  intro r;rw[show 1+(Lib.decDigits n).length+1=1+((Lib.decDigits n).length+1) by omega,<-dW,show(60::(Lib.decDigits n++62::r)).drop 1=Lib.decDigits n++62::r from rfl,<-dW,jN];rfl
 rw[z,aD ⟨by omega,uL _ _⟩];have i:32∉told m.time:=by
  rcases o with h|h
  ·rw[h];decide
  ·unfold told;split
   ·decide
   ·exact O9 h
 obtain⟨a,p⟩:∃a:List UInt8,a=60::(Lib.decDigits n++62::[49,32]):=⟨_,rfl⟩;have j:1+(Lib.decDigits n).length+1+2=a.length:=by rw[p];simp;omega
 have A:∀r:List UInt8,60::(Lib.decDigits n++62::([49,32]++r))=a++r:=by intro r;rw[p];simp
 rw[A,j];have k:iP (told m.time)=some m.time:=by
  unfold iP;rcases o with h|h
  ·rw[h];rfl
  ·have h19:=Q2 h;have h0:¬m.time=[]:=fun e=>by rw[e]at h19;simp at h19
   have:told m.time=m.time:=by unfold told;rw[aB h0]
   rw[this,aB (fun e=>by rw[e]at h19;simp at h19),AW h]
 rw[sD (AX i) k];have B:∀r:List UInt8,a++(told m.time++32::r)=(a++(told m.time++[32]))++r:=by intro r;simp
 have l:a.length+(told m.time).length+1=(a++(told m.time++[32])).length:=by simp;omega
 rw[B,l];generalize a++(told m.time++[32])=b;have d:=AY aX [m.host,m.app,m.proc,m.id] b (told m.data++kK m.text) rfl hw;rw[sC (by rw[d]),d];dsimp only;rw[<-jH b,LY _ _ _ rfl rfl u v];simp only[List.getD_cons_zero,List.getD_cons_succ];have C:(n:Int)/8=m.fac:=by omega
 have D:(n:Int)%8=m.sev:=by omega
 rw[C,D]
theorem Q8:∀b:Fin 256,2<=Lib.firstT b.val%8->128<=Lib.accLo (Lib.firstT b.val/16):=by decide +kernel
theorem Q9:∀(n:Nat)(a:List UInt8)(c:UInt8)(r:List UInt8),a.length<=n->c.toNat<128->Lib.validD (a++c::r)=true->Lib.validD r=true:=by
 intro n;induction n with
 |zero=>
  intro a c r f e h;obtain rfl:a=[]:=List.length_eq_zero_iff.1 (by omega)
  rwa [iR,Lib.validD_cons c r e]at h
 |succ n ih=>
  intro a c r f e h;cases a with
  |nil=>rwa [iR,Lib.validD_cons c r e]at h
  |cons b a=>
   by_cases o:b.toNat<128
   ·rw[eN,Lib.validD_cons b _ o]at h;exact ih a c r (by simpa using f) e h
   ·rw[Lib.validD_lead _ (by simp) (by simpa using o)]at h;split at h
    ·cases h
    ·next k hk=>
     have g:2<=Lib.firstT b.toNat%8:=by
      rw[show((b::a++c::r).getD 0 0)=b from rfl]at hk;unfold Lib.checkN at hk;split at hk
      ·omega
      ·split at hk
       ·omega
       ·split at hk
        ·omega
        ·cases hk
     have i:=Q8 ⟨b.toNat,b.toNat_lt⟩ g;dsimp only at i;have l:1<=k/\k<=(b::a).length/\k<=4:=by
      have d:∀j,a.length=j->((b::a++c::r).getD (j+1) 0)=c:=by
       rintro j rfl;simp[List.getD_eq_getElem?_getD]
      rw[show((b::a++c::r).getD 0 0)=b from rfl]at hk;simp only[bU];unfold Lib.checkN at hk;have m:=d 0;have p:=d 1;have q:=d 2;split at hk
      ·split at hk
       ·cases hk
       ·next hh=>
        cases hk;refine⟨by omega,?_,by omega⟩;by_cases h0:a.length=0
        ·rw[m h0]at hh;omega
        ·omega
      ·split at hk
       ·split at hk
        ·cases hk
        ·next hh=>
         cases hk;refine⟨by omega,?_,by omega⟩;by_cases h0:a.length=0
         ·rw[m h0]at hh;omega
         ·by_cases h1:a.length=1
          ·rw[p h1]at hh;omega
          ·omega
       ·split at hk
        ·split at hk
         ·cases hk
         ·next hh=>
          cases hk;refine⟨by omega,?_,by omega⟩;by_cases h0:a.length=0
          ·rw[m h0]at hh;omega
          ·by_cases h1:a.length=1
           ·rw[p h1]at hh;omega
           ·by_cases h2:a.length=2
            ·rw[q h2]at hh;omega
            ·omega
        ·cases hk
     rw[List.drop_append_of_le_length l.2.1]at h;refine ih ((b::a).drop k) c r ?_ e h;rw[bC];simp only[bU]at f⊢;omega
theorem MA{a r:List UInt8}{c:UInt8}(b:c.toNat<128)(h:bO (a++c::r)=true):bO r=true:=by
 unfold bO at h⊢;simp only[gP,nL]at h⊢;exact⟨fun x d=>h.1 x (by simp[d]),Q9 _ a c r (aC _) b h.2⟩
theorem MB{w:List UInt8}{n:Nat}(h1:¬w=[])(h2:¬w=[45])(h3:w.length<=n)(h4:∀c∈w,fO c=true):bX w n=true:=by
 unfold bX;simp only[gP,Bool.not_eq_true',mN,nL];refine⟨⟨⟨?_,?_⟩,h3⟩,h4⟩
 ·cases w with
  |nil=>exact(h1 rfl).elim
  |cons=>rfl
 ·simpa using h2
theorem MC{c:UInt8}(h:cE c=true):fO c=true:=by
 simp only[cE,nZ,aH,fO,Bool.or_eq_true,gP,mN,dZ]at h⊢;omega
theorem R3{c:UInt8}(h:aH c=true):fO c=true:=by
 simp only[aH,fO,gP,mN]at h⊢;omega
def uM(fr:List UInt8):Prop:=fr=[]∨∃ds c,fr=46::(ds++[c])/\(∀x∈ds,aH x=true)/\aH c=true/\ds.length+1<=6/\c≠48
theorem MD(l:List UInt8){c d:UInt8}(h:¬d=c):Lib.trimRightB (l++[d]) c=l++[d]:=by
 unfold Lib.trimRightB;simp[h]
theorem R4(c:UInt8)(l:List UInt8):∃a b,l=a++b/\Lib.trimRightB l c=a/\(a=[]∨∃e d,a=e++[d]/\d≠c):=by
 refine⟨Lib.trimRightB l c,(l.reverse.takeWhile (fun x=>x==c)).reverse,?_,rfl,?_⟩
 ·unfold Lib.trimRightB;rw[<-List.reverse_append,List.takeWhile_append_dropWhile,List.reverse_reverse]
 ·unfold Lib.trimRightB;cases h:l.reverse.dropWhile (fun x=>x==c)with
  |nil=>left;rfl
  |cons d t=>
   right;refine⟨t.reverse,d,by simp,?_⟩;have:=List.head?_dropWhile_not (fun x=>x==c) l.reverse;rw[h]at this;simpa using this
theorem R5(l:List UInt8):uM (dT l).1:=by
 unfold dT;split
 ·exact .inl rfl
 ·next hp=>
  split
  ·exact .inl rfl
  ·dsimp only;split
   ·exact .inl rfl
   ·next hne=>
    obtain⟨t,rfl⟩:=pK (by simpa using hp:Lib.hasPrefix l [46]=true);rw[show(46::t).drop 1=t from rfl,Nat.add_comm,mG]at hne⊢;obtain⟨a,b,c,h,i⟩:=R4 48 (46::t.take (aZ aH 6 t));rw[h]at hne⊢;rcases i with rfl|⟨g,d,rfl,j⟩
    ·exact .inl rfl
    ·right;cases g with
     |nil=>
      simp only[iR,eN,List.cons.injEq]at c;rw[<-c.1]at hne;exact(hne rfl).elim
     |cons x g=>
      simp only[eN,List.cons.injEq]at c;obtain⟨rfl,c⟩:=c;have e:∀x∈g++[d]++b,aH x=true:=by rw[<-c];exact sW aH 6 t
      have f:=aQ List.length c;have h6:=nN aH 6 t;simp only[eJ,dL,bU,dS]at f;exact⟨g,d,rfl,fun x k=>e x (by simp[k]),e d (by simp),by omega,j⟩
theorem R6{fr z:List UInt8}(h:uM fr)(e:∃c t,z=c::t/\aH c=false/\¬c=46):dT (fr++z)=(fr,z):=by
 obtain⟨c,t,rfl,f,h46⟩:=e;rcases h with rfl|⟨a,d,rfl,h1,h2,h3,h4⟩
 ·unfold dT;rw[iR,aD (wW t h46)]
 ·have hA:aZ aH 6 ((46::(a++[d])++c::t).drop 1)=(a++[d]).length:=
   wV (by simp;omega) (fun x b=>by rcases jM.1 b with b|b;exact h1 x b;rw[qR.1 b];exact h2) (.inr (.inr ⟨c,t,rfl,f⟩))
  have g:(46::(a++[d])++c::t).take (1+(a++[d]).length)=46::(a++[d]):=by
   rw[Nat.add_comm,eN,mG,List.take_left]
  have i:(46::(a++[d])++c::t).drop (1+(a++[d]).length)=c::t:=by
   rw[Nat.add_comm,eN,iZ,jN]
  unfold dT;rw[hA,aB (by rw[eN,sY];simp),aB (by simp),g,i];rw[show(46::(a++[d]):List UInt8)=(46::a)++[d]from rfl,MD _ h4,aB (by simp)]
theorem MG{n:Nat}(h:n<100):cB (d2 n)=n:=by
 unfold cB d2;simp only[List.foldl_cons,List.foldl_nil];rw[pN (by omega),pN (by omega)];omega
theorem MH{n:Nat}(h:n<10000):cB (fP n)=n:=by
 unfold cB fP d2;simp only[eN,iR,List.foldl_cons,List.foldl_nil];rw[pN (by omega),pN (by omega),pN (by omega),pN (by omega)];omega
theorem R7{c:UInt8}(h:aH c=true):jI c 48=true:=by simp[jI,h]
theorem R8{y mo d h mi s:Nat}(f:y<10000)(b:mo<100)(g:d<100)(i:h<100)(c:mi<100)(j:s<100):bZ (eT y mo d h mi s) jQ=true:=by
 simp only[eT,fP,d2,jQ,eN,iR,bZ,gP];have a:∀n:Nat,n<10->jI (UInt8.ofNat (48+n)) 48=true:=fun n e=>R7 (wZ e);refine⟨a _ (by omega),a _ (by omega),a _ (by omega),a _ (by omega),rfl,a _ (by omega),a _ (by omega),rfl,a _ (by omega),a _ (by omega),rfl,a _ (by omega),a _ (by omega),rfl,a _ (by omega),a _ (by omega),rfl,a _ (by omega),a _ (by omega),trivial⟩
theorem R9(y mo d h mi s:Nat)(r:List UInt8):aK (eT y mo d h mi s++r) 0 4=cB (fP y)/\aK (eT y mo d h mi s++r) 5 7=cB (d2 mo)/\aK (eT y mo d h mi s++r) 8 10=cB (d2 d)/\
  aK (eT y mo d h mi s++r) 11 13=cB (d2 h)/\aK (eT y mo d h mi s++r) 14 16=cB (d2 mi)/\aK (eT y mo d h mi s++r) 17 19=cB (d2 s):=by
 refine⟨rfl,rfl,rfl,rfl,rfl,rfl⟩
theorem S0{y mo d h mi s:Nat}{fr z:List UInt8}{k:Int}(b:fL y mo d h mi s=true)(n:uM fr)(o:∃c t,z=c::t/\aH c=false/\¬c=46)(p:eZ z=some k):
  dK (eT y mo d h mi s++(fr++z))=if dB (bY y mo d h mi k).1.1=false then none else
   some (eT (bY y mo d h mi k).1.1.toNat (bY y mo d h mi k).1.2.1.toNat (bY y mo d h mi k).1.2.2.toNat ((bY y mo d h mi k).2/60).toNat ((bY y mo d h mi k).2%60).toNat s++fr++[90]):=by
 have r:=vH b;have e:=AV y mo d h mi s;obtain⟨f,g,i,j,l,m⟩:=R9 y mo d h mi s (fr++z);rw[MH (by omega)]at f;rw[MG (by omega)]at g i j l m;unfold dK;rw[f,g,i,j,l,m];have q:(eT y mo d h mi s++(fr++z)).take 19=eT y mo d h mi s:=by rw[<-e,List.take_left]
 have a:(eT y mo d h mi s++(fr++z)).drop 19=fr++z:=by rw[<-e,jN]
 rw[q,a,R6 n o];rw[aB]
 ·dsimp only;rw[p];dsimp only;rw[aB (by rw[b];simp)]
 ·rintro(h1|h1)
  ·simp only[dL]at h1;omega
  ·rw[R8 (by omega) (by omega) (by omega) (by omega) (by omega) (by omega)]at h1;cases h1
theorem S1{y mo d h mi:Int}(h0:0<=60*h+mi)(h1:60*h+mi<1440):bY y mo d h mi 0=((y,mo,d),60*h+mi):=by
 unfold bY;rw[aB (by omega),aB (by omega)];simp
theorem MI{y mo d h mi s:Nat}{fr:List UInt8}(a:fL y mo d h mi s=true)(b:uM fr):eF (eT y mo d h mi s++(fr++[90]))=true:=by
 have f:=vH a;have h1:=S0 (z:=[90]) (k:=0) a b ⟨90,[],rfl,by decide,by decide⟩ (by unfold eZ;rw[aD rfl]);rw[S1 (by omega) (by omega)]at h1;dsimp only at h1;rw[aB (by simp[dB];omega)]at h1;have c:((60*(h:Int)+mi)/60).toNat=h:=by omega
 have e:((60*(h:Int)+mi)%60).toNat=mi:=by omega
 rw[c,e]at h1;simp only[Int.toNat_natCast]at h1;unfold eF;rw[h1];simp
theorem S2{y mo d h mi s:Int}(h1:dB y=true)(h2:1<=mo)(h3:mo<=12)(h4:1<=d)(h5:d<=dO y mo)(h6:h<=23)(h7:mi<=59)(h8:s<=59):fL y mo d h mi s=true:=by
 unfold fL;rw[h1];simp[h2,h3,h4,h5,h6,h7,h8]
theorem S5{l t:List UInt8}(h:dK l=some t):∃(y mo d i mi s:Nat)(fr:List UInt8),t=eT y mo d i mi s++(fr++[90])/\fL y mo d i mi s=true/\uM fr:=by
 unfold dK at h;split at h
 ·cases h
 ·split at h
  ·cases h
  ·next k hk=>
   split at h
   ·cases h
   ·next he=>
    split at h
    ·cases h
    ·next hy=>
     have g:fL (aK l 0 4) (aK l 5 7) (aK l 8 10) (aK l 11 13) (aK l 14 16) (aK l 17 19)=true:=by simpa using he
     have e:dB (bY (aK l 0 4) (aK l 5 7) (aK l 8 10) (aK l 11 13) (aK l 14 16) k).1.1=true:=by simpa using hy
     have m:=vH g;have f:=DY hk;have j:=DZ (aK l 0 4) (aK l 5 7) (aK l 8 10) (aK l 11 13) (aK l 14 16) k (by omega) (by omega) (by omega) (by omega) (by omega) (by omega) (by omega) (by omega) (by omega) (by omega) f.1 f.2;cases h;refine⟨_,_,_,_,_,_,(dT (l.drop 19)).1,jH _ _ _,?_,R5 _⟩;generalize bY (aK l 0 4) (aK l 5 7) (aK l 8 10) (aK l 11 13) (aK l 14 16) k=E at j e;obtain⟨⟨a,b,c⟩,n⟩:=E;dsimp only at j e⊢;rw[Int.toNat_of_nonneg (by omega),Int.toNat_of_nonneg (by omega),Int.toNat_of_nonneg (by omega)];exact S2 e (by omega) (by omega) (by omega) (by omega) (by omega) (by omega) (by omega)
theorem S6{l t:List UInt8}(h:dK l=some t):eF t=true:=by
 obtain⟨y,mo,d,c,mi,s,fr,rfl,a,b⟩:=S5 h;exact MI a b
theorem S8{p t:List UInt8}(h:iP p=some t):t=[]∨eF t=true:=by
 unfold iP at h;split at h
 ·cases h;exact .inl rfl
 ·exact .inr (S6 h)
theorem AZ(l:List UInt8):∀(a:List (Nat×Nat))(nx:Nat),(dH l a nx).1=none->cY a (dH l a nx).2.1=none/\(dH l a nx).2.1.length=a.length
 |[],nx,_=>by simp[dH,cY]
 |k::a,nx,h=>by
  unfold dH at h⊢;split
  ·next hp=>
   rw[aD hp]at h;have b:=AZ l a _ h;refine⟨?_,by simp[b.2]⟩;unfold cY;rw[aB (by simp)];exact b.1
  ·next hp=>
   rw[aB hp]at h;split
   ·next hw=>rw[aD hw]at h;cases h
   ·next hw=>
    rw[aB hw]at h;have b:=AZ l a _ h;refine⟨?_,by simp[b.2]⟩;unfold cY;rw[aB (fun e=>hw e.2)];exact b.1
theorem S9{l:List UInt8}(h:¬fJ l=0):l.take (fJ l)=[45]∨pM (l.take (fJ l)):=by
 unfold fJ at h⊢;split
 ·next hp=>
  left;obtain⟨t,rfl⟩:=pK hp;rfl
 ·next hp=>
  rw[aB hp]at h;right;obtain⟨d,r,rfl,a,b⟩:=LM h;rw[b,List.take_left];exact a
theorem T0{m:aO}{l:List UInt8}{a:Nat}(i:rL m)(h:(eH m l a).2.1=0):rL (eH m l a).1:=by
 obtain⟨f0,f1,s0,s1,b,hw,c,d⟩:=i;unfold eH at h⊢;split
 ·next h1=>rw[aD h1]at h;cases h
 ·next h1=>
  rw[aB h1]at h;have f:=S9 (l:=l.drop a) (fun e=>h1 (.inl e));split
  ·split
   ·exact⟨f0,f1,s0,s1,b,hw,c,d⟩
   ·next hne=>exact⟨f0,f1,s0,s1,b,hw,.inr (f.resolve_left hne),d⟩
  ·next h2=>
   rw[aB h2]at h;split
   ·next h3=>rw[aD h3]at h;cases h
   ·next h3=>
    have g:bO (l.drop (a+fJ (l.drop a)+1))=true:=by simpa using h3
    split
    ·exact⟨f0,f1,s0,s1,b,hw,c,g⟩
    ·next hne=>exact⟨f0,f1,s0,s1,b,hw,.inr (f.resolve_left hne),g⟩
theorem T2{f s:Int}{j l:List UInt8}{g:Nat}(m:0<=f/\f<24/\0<=s/\s<8)(r:j=[]∨eF j=true)(h:(lC f s j l g).2.1=0):rL (lC f s j l g).1:=by
 cases hw:(dH l aX g).1 with
 |some e=>
  rw[vL hw]at h;have:∀(i:List (Nat×Nat))(g:Nat)(e:Nat×Nat),(∀k∈i,0<k.2)->(dH l i g).1=some e->0<e.1:=by
   intro i;induction i with
   |nil=>intro g e _ h;cases h
   |cons k i ih=>
    intro g e o h;unfold dH at h;split at h
    ·exact ih _ _ (fun p q=>o p (by simp[q])) h
    ·split at h
     ·cases h;exact o k (by simp)
     ·exact ih _ _ (fun p q=>o p (by simp[q])) h
  have:=this aX g e (by decide) hw;dsimp only at h;omega
 |none=>
  rw[sC hw]at h⊢;have n:=AZ l aX g hw;refine T0 ⟨m.1,m.2.1,m.2.2.1,m.2.2.2,r,?_,.inl rfl,rfl⟩ h;generalize(dH l aX g).2.1=t at n;match t,n with
  |[a,b,c,d],n=>exact n.1
theorem BA(l:List UInt8):((dG l).1=[]∨bX (dG l).1 16=true)/\((dG l).2.1=[]∨bX (dG l).2.1 16=true)/\((dG l).2.2=0∨∃a c r,l=a++c::r/\c.toNat<128/\(dG l).2.2=a.length+1):=by
 have h16:=nN cE 16 l;have b:∀app proc e,e<=l.length->((app=[]∨bX app 16=true)/\(proc=[]∨bX proc 16=true))->((fC l app proc e).1=[]∨bX (fC l app proc e).1 16=true)/\((fC l app proc e).2.1=[]∨bX (fC l app proc e).2.1 16=true)/\
   ((fC l app proc e).2.2=0∨∃a c r,l=a++c::r/\c.toNat<128/\(fC l app proc e).2.2=a.length+1):=by
  intro app proc e p d;unfold fC;split
  ·exact⟨.inl rfl,.inl rfl,.inl rfl⟩
  ·next h1=>
   obtain⟨t,k⟩:=pK (by simpa using h1:Lib.hasPrefix (l.drop e) [58]=true);have m:l=l.take e++58::t:=by rw[<-k,qS]
   have g:(l.take e).length=e:=by simp;omega
   split
   ·next h2=>
    rw[<-dW,k]at h2;obtain⟨u,n⟩:=pK h2;have i:t=32::u:=n;refine⟨d.1,d.2,.inr ⟨l.take e++[58],32,u,?_,by decide,by simp only[dL,g];rfl⟩⟩;rw[jH,List.singleton_append,<-i];exact m
   ·exact⟨d.1,d.2,.inr ⟨l.take e,58,t,m,by decide,by rw[g]⟩⟩
 unfold dG;split
 ·exact⟨.inl rfl,.inl rfl,.inl rfl⟩
 ·next h1=>
  have f:bX (l.take (aZ cE 16 l)) 16=true:=by
   refine MB (fun e=>h1 (.inl ?_)) (fun e=>h1 (.inr e)) (by simp;omega) (fun c j=>MC (sW cE 16 l c j));have:=aQ List.length e;simp only[eJ,dS]at this;omega
  split
  ·split
   ·exact⟨.inl rfl,.inl rfl,.inl rfl⟩
   ·next h3=>
    have h8:=nN aH 8 (l.drop (aZ cE 16 l+1));rw[bC]at h8;have h93:Lib.hasPrefix (l.drop (aZ cE 16 l+(1+aZ aH 8 (l.drop (aZ cE 16 l+1))))) [93]=true:=by
     cases o:Lib.hasPrefix (l.drop (aZ cE 16 l+(1+aZ aH 8 (l.drop (aZ cE 16 l+1))))) [93]with
     |true=>rfl
     |false=>exact(h3 (.inr o)).elim
    have h:=iA h93;simp only[bC,bU,dS]at h;refine b _ _ _ (by omega) ⟨.inr f,.inr (MB (fun e=>h3 (.inl ?_)) (fun e=>?_) (by simp;omega) (fun c j=>R3 (sW aH 8 _ c j)))⟩
    ·have:=aQ List.length e;simp at this;omega
    ·have:=sW aH 8 (l.drop (aZ cE 16 l+1)) 45 (by rw[e];simp);exact absurd this (by decide)
  ·exact b _ _ _ h16.2 ⟨.inr f,.inl rfl⟩
theorem MJ{l:List UInt8}(h:bO l=true):bO (l.drop (dG l).2.2)=true:=by
 rcases(BA l).2.2 with h0|⟨a,c,r,b,d,e⟩
 ·rw[h0];exact h
 ·rw[e];have:l.drop (a.length+1)=r:=by
   conv=>lhs;rw[b]
   rw[<-dW,jN];rfl
  rw[this];rw[b]at h;exact MA d h
theorem T3(l:List UInt8)(y:Nat)(h:0<(cM l y).2.2):eF (cM l y).1=true/\bX (cM l y).2.1 32=true/\(bO l=true->bO (l.drop (cM l y).2.2)=true):=by
 unfold cM at h⊢;split
 ·next h1=>rw[aD h1]at h;exact absurd h (by decide)
 ·next h1=>
  rw[aB h1]at h;split
  ·next h2=>rw[aD h2]at h;exact absurd h (by decide)
  ·next h2=>
   rw[pV]at h2⊢;have a:(gI (l.take 15) y).2=true:=by cases b:(gI (l.take 15) y).2 with|true=>rfl|false=>exact(h2 (.inl b)).elim
   have f:(bE 32 (l.drop 16)).2.2=true:=by cases b:(bE 32 (l.drop 16)).2.2 with|true=>rfl|false=>exact(h2 (.inr (.inl b))).elim
   have g:bX (bE 32 (l.drop 16)).1 32=true:=by cases b:bX (bE 32 (l.drop 16)).1 32 with|true=>rfl|false=>exact(h2 (.inr (.inr b))).elim
   refine⟨?_,g,fun e=>?_⟩
   ·unfold gI at a⊢;split
    ·next h3=>rw[aD h3]at a;cases a
    ·next h3=>rw[aB h3]at a;exact a
   ·have i:=nB 32 _ f;have d:l=(l.take 16++(bE 32 (l.drop 16)).1)++32::(bE 32 (l.drop 16)).2.1:=by
     rw[jH,<-i,qS]
    have c:(l.take 16++(bE 32 (l.drop 16)).1).length=16+(bE 32 (l.drop 16)).1.length:=by
     simp only[dL,eJ];omega
    have j:l.drop (16+(bE 32 (l.drop 16)).1.length+1)=(bE 32 (l.drop 16)).2.1:=by
     rw[<-c];generalize(l.take 16++(bE 32 (l.drop 16)).1)=q at d;generalize(bE 32 (l.drop 16)).2.1=u at d;rw[d,<-dW,jN];rfl
    dsimp only;rw[j];rw[d]at e;exact MA (by decide) e
theorem MK{h a p:List UInt8}(h1:h=[]∨bX h 32=true)(h2:a=[]∨bX a 16=true)(h3:p=[]∨bX p 16=true):cY aX [h,a,p,[]]=none:=by
 unfold aX;simp only[cY];rw[aB,aB,aB,aB (by simp)]
 ·rintro⟨x,e⟩;rcases h3 with h|h;exact x h;rw[h]at e;cases e
 ·rintro⟨x,e⟩;rcases h2 with h|h;exact x h;rw[h]at e;cases e
 ·rintro⟨x,e⟩;rcases h1 with h|h;exact x h;rw[h]at e;cases e
theorem T4{f s:Int}{l:List UInt8}{y:Nat}(a:0<=f/\f<24/\0<=s/\s<8)(c:bO l=true):rL (jB (aO.of f s) l y):=by
 unfold jB;split
 ·next h=>
  obtain⟨d,e,g⟩:=T3 l y h;have b:=BA (l.drop (cM l y).2.2);exact⟨a.1,a.2.1,a.2.2.1,a.2.2.2,.inr d,MK (.inr e) b.1 b.2.1,.inl rfl,MJ (g c)⟩
 ·have b:=BA l;exact⟨a.1,a.2.1,a.2.2.1,a.2.2.2,.inl rfl,MK (.inl rfl) b.1 b.2.1,.inl rfl,MJ c⟩
theorem ML{l:List UInt8}{y:Int}(h:(bH l y).2.1=0):rL (bH l y).1:=by
 have c:=pW l;have b:(0:Int)<=((cS l).1:Int)/8/\((cS l).1:Int)/8<24/\(0:Int)<=((cS l).1:Int)%8/\((cS l).1:Int)%8<8:=by omega
 unfold bH at h⊢;split
 ·next h1=>rw[aD h1]at h;cases h
 ·next h1=>
  rw[aB h1]at h;split
  ·next h2=>rw[aD h2]at h;cases h
  ·next h2=>
   rw[aB h2]at h;split
   ·next h3=>
    rw[aD h3]at h;cases a:iP (eU l ((cS l).2+2)).1 with
    |none=>rw[vM rfl a]at h;cases h
    |some tm=>
     rw[sD rfl a]at h⊢;exact T2 b (S8 a) h
   ·next h3=>
    rw[aB h3]at h;split
    ·next h4=>rw[aD h4]at h;cases h
    ·next h4=>exact T4 b (by simpa using h4)
theorem aDs{l:List UInt8}{y:Int}(h:200<l.length):bH l y=(aO.none,1,0):=by
 unfold bH;rw[aD h]
end Go.Hm
namespace Go.Hm
def rM(x:Int×Int×Int):Prop:=1<=x.1/\x.1<=9999/\1<=x.2.1/\x.2.1<=12/\1<=x.2.2/\x.2.2<=dO x.1 x.2.1
open Go.Op (bytesLess)
def pO(p:List UInt8):List UInt8:=[60,48,62,49,32]++(p++[32,45,32,45,32,45,32,45,32,45])
theorem aDt{p:List UInt8}(i:32∉p)(h45:¬p=[45])(m:p.length<=180):bH (pO p) 1=match dK p with
  |none=>(aO.none,3,5)
  |some t=>(⟨0,0,t,[],[],[],[],[],[]⟩,0,0):=by
 have f:(pO p).length=p.length+15:=by simp[pO]
 have j:cS (pO p)=(0,3):=by
  have:=LX (n:=0) (by omega) ([49,32]++(p++[32,45,32,45,32,45,32,45,32,45]));rw[kA (by omega)]at this;exact this
 have c:eU (pO p) 5=(p,5+p.length+1):=by
  have:=AX (a:=[60,48,62,49,32]) (r:=[45,32,45,32,45,32,45,32,45]) i;exact this
 have k:bH (pO p) 1=eV 0 0 (pO p) 5:=by
  unfold bH;rw[aB (by omega),aB (by decide),j];rw[aD ⟨by decide,uL [49,32] _⟩];rfl
 rw[k];have g:iP p=dK p:=by unfold iP;rw[aB h45]
 cases h:dK p with
 |none=>rw[vM c (by rw[g,h])]
 |some t=>
  rw[sD c (by rw[g,h])];have l:pO p=([60,48,62,49,32]++(p++[32]))++((([[],[],[],[]]:List (List UInt8)).flatMap fun w=>told w++[32])++(told []++kK [])):=by simp[pO,told,kK]
  have e:5+p.length+1=([60,48,62,49,32]++(p++[32])).length:=by simp;omega
  rw[e,l];generalize [60,48,62,49,32]++(p++[32])=b;have d:=AY aX [[],[],[],[]] b (told []++kK []) rfl rfl;rw[sC (by rw[d]),d];dsimp only;rw[<-jH b,LY _ _ _ rfl rfl (.inl rfl) rfl];rfl
end Go.Hm
namespace Go.Hm
abbrev iW:=UInt8×List UInt8
def xD(r:iW):List UInt8:=bM r.1 r.2
def lT(rs:List iW):List UInt8:=(rs.map xD).flatten
theorem T5:lT []=[]:=rfl
theorem xE(r:iW)(rs:List iW):lT (r::rs)=xD r++lT rs:=rfl
theorem T6(a b:List iW):lT (a++b)=lT a++lT b:=by simp[lT]
theorem BB(r:iW):(xD r).length=r.2.length+5:=mS _ _
def MM(rs:List iW):Prop:=∀r∈rs,r.2.length<65536
theorem MN{l:List UInt8}{k:UInt8}{e:List UInt8}{n:Nat}(h:gU l=some (k,e,n)):n=e.length+5/\e.length<65536/\∃t,l=bM k e++t:=by
 unfold gU at h;split at h
 ·cases h
 ·next h1=>
  split at h
  ·cases h
  ·next h2=>
   split at h
   ·cases h
   ·next h3=>
    have d:(l.drop (3+cT (l.drop 1))).take 2=lL (l.take (3+cT (l.drop 1))):=Classical.not_not.1 h3;simp only[Option.some.injEq,Prod.mk.injEq]at h;obtain⟨rfl,rfl,rfl⟩:=h;obtain⟨k,a,b,t,rfl⟩:∃k a b t,l=k::a::b::t:=by
     match l,h1 with
     |[],h1=>exact absurd (by simp) h1
     |[_],h1=>exact absurd (by simp) h1
     |[_,_],h1=>exact absurd (by simp) h1
     |k::a::b::t,_=>exact⟨k,a,b,t,rfl⟩
    ·clear h1;have i:cT ((k::a::b::t).drop 1)=256*a.toNat+b.toNat:=rfl;rw[i]at h2 d⊢;have p:=a.toNat_lt;have q:=b.toNat_lt;generalize r:256*a.toNat+b.toNat=m at h2 d;simp only[bU]at h2;have c:(((k::a::b::t).drop 3).take m).length=m:=by simp;omega
     have f:iC m=[a,b]:=by
      unfold iC;have j:UInt8.ofNat (m/256)=a:=eY.1 (by rw[UInt8.toNat_ofNat'];omega);have o:UInt8.ofNat m=b:=eY.1 (by rw[UInt8.toNat_ofNat'];omega);rw[j,o]
     refine⟨by rw[c];omega,by rw[c];omega,t.drop (m+2),?_⟩;have g:jD ((k::a::b::t).getD 0 0) (((k::a::b::t).drop 3).take m)=(k::a::b::t).take (3+m):=by
      unfold jD;rw[c,f,Nat.add_comm 3 m];rfl
     unfold bM;rw[g,<-d,Nat.add_comm 3 m];show k::a::b::t=(k::a::b::t.take m)++((t.drop m).take 2)++t.drop (m+2);rw[jH,<-dW,qS];simp
theorem T7{m:aO}(h:(cA m).2=0):iU (cA m).1=true:=by
 have a:=LZ h (y:=1) (by decide);unfold iU;rw[a];simp only[decide_true,Bool.true_and,mN];rw[<-h]
theorem T8{g:aG}{r:iW}(h:(g.back r).2=true)(f:r.2.length<65536):(g.back r).1.records=g.records++xD r:=by
 unfold aG.back at h⊢;split
 ·next h1=>
  rw[aD h1]at h;split
  ·show g.records++bM 80 r.2=g.records++bM r.1 r.2;rw[h1]
  ·next h2=>rw[aB h2]at h;cases h
 ·next h1=>
  rw[aB h1]at h;split
  ·next h3=>
   rw[aD h3]at h;split
   ·next h4=>
    obtain⟨h5,h6⟩:=h4;unfold aG.ack at h6⊢;split
    ·next h7=>rw[aD h7]at h6;cases h6
    ·next h7=>
     show g.records++bM 65 (iC ((cT r.2:Int)).toNat)=_;have:iC (cT r.2)=r.2:=by
      obtain⟨k,c⟩:=r;match c,h5 with
      |[a,b],_=>
       have i:=a.toNat_lt;have j:=b.toNat_lt;show[UInt8.ofNat ((256*a.toNat+b.toNat)/256),UInt8.ofNat (256*a.toNat+b.toNat)]=[a,b];have d:UInt8.ofNat ((256*a.toNat+b.toNat)/256)=a:=eY.1 (by rw[UInt8.toNat_ofNat'];omega);have e:UInt8.ofNat (256*a.toNat+b.toNat)=b:=eY.1 (by rw[UInt8.toNat_ofNat'];omega);rw[d,e]
     rw[Int.toNat_natCast,this,<-h3];rfl
   ·next h4=>rw[aB h4]at h;cases h
  ·next h3=>rw[aB h3]at h;cases h
theorem xF:∀(f:Nat)(l:List UInt8),MM (kC f l)/\∃t,l=lT (kC f l)++t
 |0,l=>⟨fun _ h=>by simp[kC]at h,l,rfl⟩
 |f+1,l=>by
  unfold kC;cases h:gU l with
  |none=>exact⟨fun _ h=>by simp at h,l,rfl⟩
  |some x=>
   obtain⟨k,b,n⟩:=x;obtain⟨c,d,t,rfl⟩:=MN h;dsimp only;have e:(bM k b++t).drop n=t:=by rw[c,<-mS k b,jN]
   rw[e];obtain⟨h1,u,h2⟩:=xF f t;refine⟨fun q a=>by rcases jY.1 a with rfl|a;exact d;exact h1 q a,u,?_⟩;rw[xE,jH,<-h2];rfl
def MP(t:List UInt8):Bool:=(decide ((t.getD 0 0).toNat<49)||decide (57<(t.getD 0 0).toNat))&&t.all fun c=>!decide (c.toNat=10)
def T9(b:Bool)(t:List UInt8):List UInt8:=if b then t++[10]else Lib.decDigits t.length++32::t
theorem aDu{n:Nat}{b:Bool}{t:List UInt8}(h0:t≠[])(i:t.length<=n)(k:b=true->MP t=true):(aE.fresh n).feed (T9 b t)=(aE.fresh n,[61::t]):=by
 have f:0<t.length:=List.length_pos_iff.2 h0;cases b with
 |false=>
  obtain⟨c,l,j,h1,h2⟩:=LW t.length f;have a:=LU t.length;have d:=LV t.length;rw[j]at a d;show(aE.fresh n).feed (Lib.decDigits t.length++32::t)=_;rw[j];exact SY l t c (fun x g=>a x (by simp[g])) h1 h2 d h0 i
 |true=>
  have h:=k rfl;cases t with
  |nil=>exact(h0 rfl).elim
  |cons c t=>
   unfold MP at h;simp only[List.getD_cons_zero,gP,Bool.or_eq_true,mN,nL,Bool.not_eq_true',rT]at h;show(aE.fresh n).feed (c::t++[10])=_;refine SZ c t ?_ (fun x g e=>h.2 x g (by rw[e];rfl)) i;rintro⟨h1,h2⟩;rw[zC]at h1;have h3:c.toNat=48:=by omega
   exact h2 (eY.1 (by simpa using h3))
def iL:Nat->List UInt8->Nat->Option Nat
 |0,_,c=>some c
 | _+1,[],_=>none
 |n+1,b::t,c=>if b.toNat<128∨191<b.toNat then none else iL n t (64*c+b.toNat-128)
def iX(b:Nat):Option (Nat×Nat×Nat):=
 if 192<=b/\b<224 then some (1,128,b-192)else if 224<=b/\b<240 then some (2,2048,b-224)else if 240<=b/\b<248 then some (3,65536,b-240)else none
def nJ(least v:Nat):Bool:=decide (v<least)||decide (1114111<v)||(decide (55296<=v)&&decide (v<=57343))
theorem V6{b:UInt8}{t:List UInt8}(h:b.toNat<32∨b.toNat=127):bO (b::t)=false:=by
 have:kQ b=true:=by simp[kQ];omega
 unfold bO;simp[this]
theorem V7{b:UInt8}{t:List UInt8}(h:¬(b.toNat<32∨b.toNat=127))(h2:b.toNat<128):bO (b::t)=bO t:=by
 have:kQ b=false:=by simp[kQ];omega
 unfold bO;rw[Lib.validD_cons b t h2];simp[this]
theorem NM{b:UInt8}(h:128<=b.toNat):kQ b=false:=by simp[kQ];omega
theorem BF{b:UInt8}{t:List UInt8}{k:Nat}(a:128<=b.toNat)(d:Lib.validD (b::t)=Lib.validD (t.drop k))(e:∀c∈t.take k,128<=c.toNat):bO (b::t)=bO (t.drop k):=by
 unfold bO;rw[d];congr 1;rw[List.all_cons,NM a];conv=>lhs;rw[<-qS k t]
 rw[List.all_append];have:(t.take k).all (fun c=>!kQ c)=true:=by
  rw[nL];intro c f;rw[NM (e c f)];rfl
 rw[this];simp
theorem kN{b:UInt8}{t:List UInt8}(a:Lib.validD (b::t)=false):bO (b::t)=false:=by unfold bO;rw[a];simp
def xI(l:List UInt8):Option Nat->Bool
 |none=>false
 |some k=>Lib.validD (l.drop k)
set_option maxHeartbeats 4000000 in
theorem V8(b:UInt8)(t:List UInt8)(o:128<=b.toNat):bO (b::t)=match iX b.toNat with
  |none=>false
  |some (n,least,c)=>match iL n t c with
   |none=>false
   |some v=>if nJ least v=true then false else bO (t.drop n):=by
 have j:Lib.validD (b::t)=xI (b::t) (Lib.checkN (b::t).length ((b::t).getD 1 0).toNat ((b::t).getD 2 0).toNat ((b::t).getD 3 0).toNat (Lib.firstT ((b::t).getD 0 0).toNat%8) (Lib.accLo (Lib.firstT ((b::t).getD 0 0).toNat/16)) (Lib.accHi (Lib.firstT ((b::t).getD 0 0).toNat/16))):=by
  rw[Lib.validD_lead (b::t) (by simp) (by simpa using o)];split
  ·next e=>rw[e];rfl
  ·next e=>rw[e];rfl
 rw[show(b::t).getD 0 0=b from rfl,show(b::t).getD 1 0=t.getD 0 0 from rfl,show(b::t).getD 2 0=t.getD 1 0 from rfl,show(b::t).getD 3 0=t.getD 2 0 from rfl]at j;have q:=b.toNat_lt;have f:∀sz lo hi,Lib.firstT b.toNat%8=sz->Lib.accLo (Lib.firstT b.toNat/16)=lo->Lib.accHi (Lib.firstT b.toNat/16)=hi->
   Lib.validD (b::t)=xI (b::t) (Lib.checkN (b::t).length (t.getD 0 0).toNat (t.getD 1 0).toNat (t.getD 2 0).toNat sz lo hi):=by
  intro sz lo hi h1 h2 h3;rw[j,h1,h2,h3]
 by_cases A:b.toNat<192
 ·have:iX b.toNat=none:=by unfold iX;rw[aB (by omega),aB (by omega),aB (by omega)]
  rw[this];dsimp only;refine kN ?_;have d:Lib.firstT b.toNat=241:=by unfold Lib.firstT;(repeat' split) <;> omega
  rw[j,d];rfl
 by_cases B:b.toNat<224
 ·have l:iX b.toNat=some (1,128,b.toNat-192):=by unfold iX;rw[aD (by omega)]
  rw[l];dsimp only;by_cases C:b.toNat<194
  ·have d:Lib.firstT b.toNat=241:=by unfold Lib.firstT;(repeat' split) <;> omega
   have a:Lib.validD (b::t)=false:=by rw[j,d];rfl
   rw[kN a];cases t with
   |nil=>rfl
   |cons x r=>
    have p:=x.toNat_lt;simp only[iL];by_cases h:x.toNat<128∨191<x.toNat
    ·rw[aD h]
    ·rw[aB h];dsimp only;rw[aD];simp[nJ];omega
  ·have d:Lib.firstT b.toNat=2:=by unfold Lib.firstT;(repeat' split) <;> omega
   have a:=f 2 128 191 (by rw[d]) (by rw[d];rfl) (by rw[d];rfl);cases t with
   |nil=>rw[kN (by rw[a];rfl)];rfl
   |cons x r=>
    have p:=x.toNat_lt;simp only[iL];unfold Lib.checkN at a;rw[aD rfl]at a;simp only[List.getD_cons_zero,bU]at a;by_cases h:x.toNat<128∨191<x.toNat
    ·rw[aD h];dsimp only;refine kN ?_;rw[a,aD (by omega)];rfl
    ·rw[aB (by omega)]at a;rw[aB h];dsimp only;rw[aB]
     ·exact BF o a (fun c g=>by simp at g;subst g;omega)
     ·simp[nJ];omega
 by_cases D:b.toNat<240
 ·have l:iX b.toNat=some (2,2048,b.toNat-224):=by unfold iX;rw[aB (by omega),aD (by omega)]
  rw[l];dsimp only;obtain⟨lo,hi,a,s⟩:∃lo hi,(Lib.validD (b::t)=xI (b::t) (Lib.checkN (b::t).length (t.getD 0 0).toNat (t.getD 1 0).toNat (t.getD 2 0).toNat 3 lo hi))/\((b.toNat=224/\lo=160/\hi=191)∨(b.toNat=237/\lo=128/\hi=159)∨(b.toNat≠224/\b.toNat≠237/\lo=128/\hi=191)):=by
   by_cases i:b.toNat=224
   ·have d:Lib.firstT b.toNat=19:=by rw[i];rfl
    exact⟨160,191,f 3 160 191 (by rw[d]) (by rw[d];rfl) (by rw[d];rfl),.inl ⟨i,rfl,rfl⟩⟩
   ·by_cases d1:b.toNat=237
    ·have d:Lib.firstT b.toNat=35:=by rw[d1];rfl
     exact⟨128,159,f 3 128 159 (by rw[d]) (by rw[d];rfl) (by rw[d];rfl),.inr (.inl ⟨d1,rfl,rfl⟩)⟩
    ·have d:Lib.firstT b.toNat=3:=by unfold Lib.firstT;(repeat' split) <;> omega
     exact⟨128,191,f 3 128 191 (by rw[d]) (by rw[d];rfl) (by rw[d];rfl),.inr (.inr ⟨i,d1,rfl,rfl⟩)⟩
  unfold Lib.checkN at a;rw[aB (by omega),aD rfl]at a;match t,a with
  |[],a=>rw[kN (by rw[a,aD (by simp)];rfl)];rfl
  |[x],a=>
   rw[kN (by rw[a,aD (by simp)];rfl)];simp only[iL];by_cases h:x.toNat<128∨191<x.toNat
   ·rw[aD h]
   ·rw[aB h]
  |x::y::r,a=>
   have p:=x.toNat_lt;have u:=y.toNat_lt;simp only[List.getD_cons_zero,List.getD_cons_succ,bU]at a;simp only[iL];by_cases h:x.toNat<128∨191<x.toNat
   ·rw[aD h];exact kN (by rw[a,aD (by omega)];rfl)
   ·rw[aB h];by_cases h2:y.toNat<128∨191<y.toNat
    ·rw[aD h2];exact kN (by rw[a,aD (by omega)];rfl)
    ·rw[aB h2];dsimp only;by_cases m:x.toNat<lo∨hi<x.toNat
     ·rw[kN (by rw[a,aD (by omega)];rfl),aD];simp[nJ];omega
     ·rw[aB (by omega)]at a;rw[aB]
      ·exact BF (k:=2) o a (fun c g=>by simp at g;rcases g with rfl|rfl <;> omega)
      ·simp[nJ];omega
 by_cases E:b.toNat<248
 ·have l:iX b.toNat=some (3,65536,b.toNat-240):=by unfold iX;rw[aB (by omega),aB (by omega),aD (by omega)]
  rw[l];dsimp only;by_cases F:244<b.toNat
  ·have d:Lib.firstT b.toNat=241:=by unfold Lib.firstT;(repeat' split) <;> omega
   have a:Lib.validD (b::t)=false:=by rw[j,d];rfl
   rw[kN a];match t with
   |[]=>rfl
   |[x]=>
    simp only[iL];by_cases h:x.toNat<128∨191<x.toNat
    ·rw[aD h]
    ·rw[aB h]
   |[x,y]=>
    simp only[iL];by_cases h:x.toNat<128∨191<x.toNat
    ·rw[aD h]
    ·rw[aB h];by_cases h2:y.toNat<128∨191<y.toNat
     ·rw[aD h2]
     ·rw[aB h2]
   |x::y::z::r=>
    have p:=x.toNat_lt;have u:=y.toNat_lt;have w:=z.toNat_lt;simp only[iL];by_cases h:x.toNat<128∨191<x.toNat
    ·rw[aD h]
    ·rw[aB h];by_cases h2:y.toNat<128∨191<y.toNat
     ·rw[aD h2]
     ·rw[aB h2];by_cases h3:z.toNat<128∨191<z.toNat
      ·rw[aD h3]
      ·rw[aB h3];dsimp only;rw[aD];simp[nJ];omega
  ·obtain⟨lo,hi,a,s⟩:∃lo hi,(Lib.validD (b::t)=xI (b::t) (Lib.checkN (b::t).length (t.getD 0 0).toNat (t.getD 1 0).toNat (t.getD 2 0).toNat 4 lo hi))/\((b.toNat=240/\lo=144/\hi=191)∨(b.toNat=244/\lo=128/\hi=143)∨(b.toNat≠240/\b.toNat≠244/\lo=128/\hi=191)):=by
    by_cases i:b.toNat=240
    ·have d:Lib.firstT b.toNat=52:=by rw[i];rfl
     exact⟨144,191,f 4 144 191 (by rw[d]) (by rw[d];rfl) (by rw[d];rfl),.inl ⟨i,rfl,rfl⟩⟩
    ·by_cases d1:b.toNat=244
     ·have d:Lib.firstT b.toNat=68:=by rw[d1];rfl
      exact⟨128,143,f 4 128 143 (by rw[d]) (by rw[d];rfl) (by rw[d];rfl),.inr (.inl ⟨d1,rfl,rfl⟩)⟩
     ·have d:Lib.firstT b.toNat=4:=by unfold Lib.firstT;(repeat' split) <;> omega
      exact⟨128,191,f 4 128 191 (by rw[d]) (by rw[d];rfl) (by rw[d];rfl),.inr (.inr ⟨i,d1,rfl,rfl⟩)⟩
   unfold Lib.checkN at a;rw[aB (by omega),aB (by omega),aD rfl]at a;match t,a with
   |[],a=>rw[kN (by rw[a,aD (by simp)];rfl)];rfl
   |[x],a=>
    rw[kN (by rw[a,aD (by simp)];rfl)];simp only[iL];by_cases h:x.toNat<128∨191<x.toNat
    ·rw[aD h]
    ·rw[aB h]
   |[x,y],a=>
    rw[kN (by rw[a,aD (by simp)];rfl)];simp only[iL];by_cases h:x.toNat<128∨191<x.toNat
    ·rw[aD h]
    ·rw[aB h];by_cases h2:y.toNat<128∨191<y.toNat
     ·rw[aD h2]
     ·rw[aB h2]
   |x::y::z::r,a=>
    have p:=x.toNat_lt;have u:=y.toNat_lt;have w:=z.toNat_lt;simp only[List.getD_cons_zero,List.getD_cons_succ,bU]at a;simp only[iL];by_cases h:x.toNat<128∨191<x.toNat
    ·rw[aD h];exact kN (by rw[a,aD (by omega)];rfl)
    ·rw[aB h];by_cases h2:y.toNat<128∨191<y.toNat
     ·rw[aD h2];exact kN (by rw[a,aD (by omega)];rfl)
     ·rw[aB h2];by_cases h3:z.toNat<128∨191<z.toNat
      ·rw[aD h3];exact kN (by rw[a,aD (by omega)];rfl)
      ·rw[aB h3];dsimp only;by_cases m:x.toNat<lo∨hi<x.toNat
       ·rw[kN (by rw[a,aD (by omega)];rfl),aD];simp[nJ];omega
       ·rw[aB (by omega)]at a;rw[aB]
        ·exact BF (k:=3) o a (fun c g=>by simp at g;rcases g with rfl|rfl|rfl <;> omega)
        ·simp[nJ];omega
 ·have:iX b.toNat=none:=by unfold iX;rw[aB (by omega),aB (by omega),aB (by omega)]
  rw[this];dsimp only;refine kN ?_;have d:Lib.firstT b.toNat=241:=by unfold Lib.firstT;(repeat' split) <;> omega
  rw[j,d];rfl
def aR(l:List UInt8)(a n:Nat):Nat×Bool:=if a+n<=l.length/\1<=n/\((l.drop a).take n).all aH=true then(cB ((l.drop a).take n),true)else(0,false)
def uP(y m:Int):Int:=if m=2 then(if jZ y=true then 29 else 28)else if m=4∨m=6∨m=9∨m=11 then 30 else 31
theorem BI{y m:Int}(h1:1<=m)(h2:m<=12):uP y m=dO y m:=by
 unfold uP dO;rcases(by omega:m=1∨m=2∨m=3∨m=4∨m=5∨m=6∨m=7∨m=8∨m=9∨m=10∨m=11∨m=12)with h|h|h|h|h|h|h|h|h|h|h|h <;> subst h;case inr.inl=>
  rw[aD rfl];cases jZ y <;> rfl
 all_goals(first|rfl|(simp[oT]))
def jW(y m d:Int):Bool:=decide (1<=y)&&decide (y<=9999)&&decide (1<=m)&&decide (m<=12)&&decide (1<=d)&&decide (d<=dO y m)
theorem xJ(y m d:Int):jW y m d=true↔rM (y,m,d):=by
 simp only[jW,gP,mN,rM];constructor
 ·rintro⟨⟨⟨⟨⟨a,b⟩,c⟩,d⟩,e⟩,f⟩;exact⟨a,b,c,d,e,f⟩
 ·rintro⟨a,b,c,d,e,f⟩;exact⟨⟨⟨⟨⟨a,b⟩,c⟩,d⟩,e⟩,f⟩
def fN(y m d sec:Int):(Int×Int×Int)×Int:=
 if sec<0 then(fX y m d,sec+86400)else if 86400<=sec then(fY y m d,sec-86400)else((y,m,d),sec)
def mD(y m d sec:Int):Option (List UInt8):=
 if(fN y m d sec).1.1<1∨9999<(fN y m d sec).1.1 then none else
 some (eT (fN y m d sec).1.1.toNat (fN y m d sec).1.2.1.toNat (fN y m d sec).1.2.2.toNat ((fN y m d sec).2/3600).toNat ((fN y m d sec).2/60%60).toNat ((fN y m d sec).2%60).toNat)
def gZ(l:List UInt8)(a:Nat):Option Nat:=
 if(aR l a 2).2=false∨(aR l (a+3) 2).2=false∨(aR l (a+6) 2).2=false∨¬(l.getD (a+2) 0).toNat=58∨¬(l.getD (a+5) 0).toNat=58∨23<(aR l a 2).1∨59<(aR l (a+3) 2).1∨59<(aR l (a+6) 2).1 then none else
 some (3600*(aR l a 2).1+60*(aR l (a+3) 2).1+(aR l (a+6) 2).1)
def jG(l:List UInt8):Option (List UInt8×Nat):=
 if(l.getD 19 0).toNat=46 then(if(l.drop 20).takeWhile aH=[]∨6<((l.drop 20).takeWhile aH).length then none else some (Lib.trimRightB ((l.drop 20).takeWhile aH) 48,20+((l.drop 20).takeWhile aH).length))else some ([],19)
def fU(z:List UInt8):Option Int:=
 if z=[90]then some 0 else
 if¬z.length=6∨(¬(z.getD 0 0).toNat=43/\¬(z.getD 0 0).toNat=45)∨¬(z.getD 3 0).toNat=58 then none else
 if(aR z 1 2).2=false∨(aR z 4 2).2=false∨23<(aR z 1 2).1∨59<(aR z 4 2).1 then none else
 if(z.getD 0 0).toNat=43 then some (60*(aR z 1 2).1+(aR z 4 2).1:Int)else some (-(60*(aR z 1 2).1+(aR z 4 2).1:Int))
def fA(l:List UInt8):Option (List UInt8):=
 if l.length<20∨¬(l.getD 4 0).toNat=45∨¬(l.getD 7 0).toNat=45∨¬(l.getD 10 0).toNat=84 then none else
 match gZ l 11 with
 |none=>none
 |some sec=>
  if(aR l 0 4).2=false∨(aR l 5 2).2=false∨(aR l 8 2).2=false∨jW (aR l 0 4).1 (aR l 5 2).1 (aR l 8 2).1=false then none else
  match jG l with
  |none=>none
  |some pt=>
   match fU (l.drop pt.2)with
   |none=>none
   |some k=>
    match mD (aR l 0 4).1 (aR l 5 2).1 (aR l 8 2).1 (sec-60*k)with
    |none=>none
    |some t=>some (t++(if pt.1=[]then[]else 46::pt.1)++[90])
theorem rN{l:List UInt8}{a n:Nat}(h:(aR l a n).2=true):a+n<=l.length/\(∀c∈(l.drop a).take n,aH c=true)/\(aR l a n).1=cB ((l.drop a).take n):=by
 unfold aR at h⊢;split
 ·next h1=>exact⟨h1.1,by simpa using h1.2.2,rfl⟩
 ·next h1=>rw[aB h1]at h;cases h
theorem BJ{l:List UInt8}{a n:Nat}(h1:a+n<=l.length)(b:1<=n)(h:∀c∈(l.drop a).take n,aH c=true):aR l a n=(cB ((l.drop a).take n),true):=by
 unfold aR;rw[aD ⟨h1,b,by simpa using h⟩]
theorem NP:∀(t s:List UInt8),bZ t s=true↔t.length=s.length/\∀j,j<s.length->jI (t.getD j 0) (s.getD j 0)=true
 |[],[]=>by simp[bZ]
 |[],_::_=>by simp[bZ]
 | _::_,[]=>by simp[bZ]
 |a::t,b::s=>by
  simp only[bZ,gP,NP t s,bU,Nat.add_right_cancel_iff];constructor
  ·rintro⟨h1,h2,h3⟩;refine⟨h2,fun j c=>?_⟩;cases j with
   |zero=>exact h1
   |succ j=>exact h3 j (by omega)
  ·rintro⟨h1,h2⟩;exact⟨h2 0 (by omega),h1,fun j c=>h2 (j+1) (by omega)⟩
theorem BK{c:UInt8}:jI c 48=aH c:=by simp[jI]
theorem xK{c s:UInt8}(h:¬s=48):jI c s=true↔c.toNat=s.toNat:=by
 unfold jI;rw[aB h,dZ,<-eY];exact eq_comm
theorem V9{l:List UInt8}{n j:Nat}(h:j<n):(l.take n).getD j 0=l.getD j 0:=by
 rw[gQ,gQ,List.getElem?_take,aD h]
theorem W6{l:List UInt8}{a n:Nat}(h:a+n<=l.length):(∀c∈(l.drop a).take n,aH c=true)↔∀j,a<=j->j<a+n->aH (l.getD j 0)=true:=by
 constructor
 ·intro b j h1 h2;refine b _ ?_;have:((l.drop a).take n)[j-a]?=some (l.getD j 0):=by
   rw[List.getElem?_take,aD (by omega),nM,show a+(j-a)=j by omega,dP (by omega),gQ,dP (by omega)];rfl
  exact fG this
 ·intro b c d;obtain⟨i,hi⟩:=List.getElem?_of_mem d;rw[List.getElem?_take]at hi;split at hi
  ·rw[nM]at hi;have:=b (a+i) (by omega) (by omega);rw[gQ,hi]at this;exact this
  ·cases hi
theorem W7{l:List UInt8}(h:19<=l.length):bZ (l.take 19) jQ=true↔
  (aR l 0 4).2=true/\(aR l 5 2).2=true/\(aR l 8 2).2=true/\(aR l 11 2).2=true/\(aR l 14 2).2=true/\(aR l 17 2).2=true/\
  (l.getD 4 0).toNat=45/\(l.getD 7 0).toNat=45/\(l.getD 10 0).toNat=84/\(l.getD 13 0).toNat=58/\(l.getD 16 0).toNat=58:=by
 have g:(l.take 19).length=19:=by simp;omega
 have d:∀a n,a+n<=19->1<=n->((aR l a n).2=true↔∀j,a<=j->j<a+n->aH (l.getD j 0)=true):=by
  intro a n h1 h2;rw[<-W6 (by omega)];constructor
  ·intro o;exact(rN o).2.1
  ·intro o;rw[BJ (by omega) h2 o]
 rw[d 0 4 (by omega) (by omega),d 5 2 (by omega) (by omega),d 8 2 (by omega) (by omega),d 11 2 (by omega) (by omega),d 14 2 (by omega) (by omega),d 17 2 (by omega) (by omega),NP];have e:∀j,j<19->(l.take 19).getD j 0=l.getD j 0:=fun j f=>V9 f;constructor
 ·rintro⟨_,f⟩;have v:∀j,j<19->jQ.getD j 0=48->aH (l.getD j 0)=true:=by
   intro j h1 h2;have:=f j h1;rw[h2,e j h1,BK]at this;exact this
  have i:∀j,j<19->¬jQ.getD j 0=48->(l.getD j 0).toNat=(jQ.getD j 0).toNat:=by
   intro j h1 h2;have:=f j h1;rw[e j h1,xK h2]at this;exact this
  refine⟨?_,?_,?_,?_,?_,?_,i 4 (by decide) (by decide),i 7 (by decide) (by decide),i 10 (by decide) (by decide),i 13 (by decide) (by decide),i 16 (by decide) (by decide)⟩;all_goals
   intro j h1 h2;refine v j (by omega) ?_
  ·rcases(by omega:j=0∨j=1∨j=2∨j=3)with h|h|h|h <;> subst h <;> rfl
  ·rcases(by omega:j=5∨j=6)with h|h <;> subst h <;> rfl
  ·rcases(by omega:j=8∨j=9)with h|h <;> subst h <;> rfl
  ·rcases(by omega:j=11∨j=12)with h|h <;> subst h <;> rfl
  ·rcases(by omega:j=14∨j=15)with h|h <;> subst h <;> rfl
  ·rcases(by omega:j=17∨j=18)with h|h <;> subst h <;> rfl
 ·rintro⟨m,q,r,s,t,u,b1,b2,w,b4,b5⟩;refine⟨g,fun j f=>?_⟩;have p:j<19:=f;rw[e j p];have b:aH (l.getD j 0)=true->jQ.getD j 0=48->jI (l.getD j 0) (jQ.getD j 0)=true:=fun h1 h2=>by rw[h2,BK];exact h1
  have k:∀c:UInt8,jQ.getD j 0=c->¬c=48->(l.getD j 0).toNat=c.toNat->jI (l.getD j 0) (jQ.getD j 0)=true:=fun c h1 h2 h3=>by rw[h1];exact(xK h2).2 h3
  rcases(by omega:j=0∨j=1∨j=2∨j=3∨j=4∨j=5∨j=6∨j=7∨j=8∨j=9∨j=10∨j=11∨j=12∨j=13∨j=14∨j=15∨j=16∨j=17∨j=18)with h|h|h|h|h|h|h|h|h|h|h|h|h|h|h|h|h|h|h <;> subst h
  ·exact b (m _ (by omega) (by omega)) rfl
  ·exact b (m _ (by omega) (by omega)) rfl
  ·exact b (m _ (by omega) (by omega)) rfl
  ·exact b (m _ (by omega) (by omega)) rfl
  ·exact k 45 rfl (by decide) b1
  ·exact b (q _ (by omega) (by omega)) rfl
  ·exact b (q _ (by omega) (by omega)) rfl
  ·exact k 45 rfl (by decide) b2
  ·exact b (r _ (by omega) (by omega)) rfl
  ·exact b (r _ (by omega) (by omega)) rfl
  ·exact k 84 rfl (by decide) w
  ·exact b (s _ (by omega) (by omega)) rfl
  ·exact b (s _ (by omega) (by omega)) rfl
  ·exact k 58 rfl (by decide) b4
  ·exact b (t _ (by omega) (by omega)) rfl
  ·exact b (t _ (by omega) (by omega)) rfl
  ·exact k 58 rfl (by decide) b5
  ·exact b (u _ (by omega) (by omega)) rfl
  ·exact b (u _ (by omega) (by omega)) rfl
theorem NQ{z:List UInt8}(h:z.length=6)(g:UInt8)(i:¬g=48):bZ z [g,48,48,58,48,48]=true↔(z.getD 0 0).toNat=g.toNat/\(z.getD 3 0).toNat=58/\(aR z 1 2).2=true/\(aR z 4 2).2=true:=by
 obtain⟨a,b,c,d,e,f,rfl⟩:∃a b c d e f,z=[a,b,c,d,e,f]:=by
  match z,h with
  |[a,b,c,d,e,f],_=>exact⟨a,b,c,d,e,f,rfl⟩
 have j:(aR [a,b,c,d,e,f] 1 2).2=true↔aH b=true/\aH c=true:=by
  unfold aR;simp only[iZ,fB,mG,List.take_zero,List.all_cons,List.all_nil,Bool.and_true,bU,dS,gP];split
  ·next h=>exact⟨fun _=>h.2.2,fun _=>rfl⟩
  ·next h=>exact⟨fun e=>(by cases e),fun e=>(h ⟨by omega,by omega,e⟩).elim⟩
 have k:(aR [a,b,c,d,e,f] 4 2).2=true↔aH e=true/\aH f=true:=by
  unfold aR;simp only[iZ,fB,mG,List.take_zero,List.all_cons,List.all_nil,Bool.and_true,bU,dS,gP];split
  ·next h=>exact⟨fun _=>h.2.2,fun _=>rfl⟩
  ·next h=>exact⟨fun e=>(by cases e),fun e=>(h ⟨by omega,by omega,e⟩).elim⟩
 rw[j,k];simp only[bZ,gP,Bool.and_true,List.getD_cons_zero,List.getD_cons_succ,BK,xK i,xK (show¬(58:UInt8)=48 by decide)];constructor
 ·rintro⟨h1,h2,h3,h4,h5,h6⟩;exact⟨h1,h4,⟨h2,h3⟩,h5,h6⟩
 ·rintro⟨h1,h4,⟨h2,h3⟩,h5,h6⟩;exact⟨h1,h2,h3,h4,h5,h6⟩
theorem NR(z:List UInt8):fU z=eZ z:=by
 unfold fU eZ;by_cases h0:z=[90]
 ·rw[aD h0,aD h0]
 ·rw[aB h0,aB h0];by_cases h6:z.length=6
  ·have h:=NQ h6 43 (by decide);have i:=NQ h6 45 (by decide);rw[show oU=[43,48,48,58,48,48]from rfl,show oV=[45,48,48,58,48,48]from rfl];by_cases f:((z.getD 0 0).toNat=43∨(z.getD 0 0).toNat=45)/\(z.getD 3 0).toNat=58/\(aR z 1 2).2=true/\(aR z 4 2).2=true
   ·obtain⟨e,h3,d1,d2⟩:=f;have m:=(rN d1).2.2;have n:=(rN d2).2.2;rw[aB (by omega),d1,d2,m,n];rw[aB (c:=bZ z [43,48,48,58,48,48]=false/\bZ z [45,48,48,58,48,48]=false)]
    ·by_cases g:23<cB ((z.drop 1).take 2)∨59<cB ((z.drop 4).take 2)
     ·rw[aD g,aD (by simpa using g)]
     ·rw[aB g,aB (by simpa using g)];by_cases a:(z.getD 0 0).toNat=43
      ·rw[aD a,aB (by omega)]
      ·rw[aB a,aD (by omega)]
    ·rintro⟨b,d⟩;rcases e with e|e
     ·rw[h.2 ⟨e,h3,d1,d2⟩]at b;cases b
     ·rw[i.2 ⟨e,h3,d1,d2⟩]at d;cases d
   ·have b:bZ z [43,48,48,58,48,48]=false:=by
     cases a:bZ z [43,48,48,58,48,48]with
     |false=>rfl
     |true=>have:=h.1 a;exact(f ⟨.inl this.1,this.2⟩).elim
    have d:bZ z [45,48,48,58,48,48]=false:=by
     cases a:bZ z [45,48,48,58,48,48]with
     |false=>rfl
     |true=>have:=i.1 a;exact(f ⟨.inr this.1,this.2⟩).elim
    rw[aD (c:=bZ z [43,48,48,58,48,48]=false/\bZ z [45,48,48,58,48,48]=false) ⟨b,d⟩];by_cases j:¬z.length=6∨(¬(z.getD 0 0).toNat=43/\¬(z.getD 0 0).toNat=45)∨¬(z.getD 3 0).toNat=58
    ·rw[aD j]
    ·rw[aB j,aD];by_cases k:(aR z 1 2).2=false
     ·exact .inl k
     ·by_cases l:(aR z 4 2).2=false
      ·exact .inr (.inl l)
      ·exact(f ⟨by omega,by omega,by simpa using k,by simpa using l⟩).elim
  ·have b:bZ z oU=false:=by
    cases a:bZ z oU with
    |false=>rfl
    |true=>exact(h6 (wY _ _ a)).elim
   have d:bZ z oV=false:=by
    cases a:bZ z oV with
    |false=>rfl
    |true=>exact(h6 (wY _ _ a)).elim
   rw[aD (.inl h6),aD ⟨b,d⟩]
theorem OA{z:List UInt8}{c:UInt8}{t:List UInt8}(a:z=c::t)(h1:¬c.toNat=90)(h2:¬c.toNat=43)(h3:¬c.toNat=45):fU z=none:=by
 subst a;unfold fU;rw[aB (by intro e;injection e with e _;exact h1 (by rw[e];rfl)),aD (.inr (.inl ⟨by simpa using h2,by simpa using h3⟩))]
theorem OB{p:UInt8->Bool}:∀(b:Nat)(l:List UInt8),((l.take b).takeWhile p)=(l.takeWhile p).take b
 |0,l=>by simp
 |b+1,[]=>by simp
 |b+1,a::t=>by
  rw[mG,lB,lB];split
  ·rw[mG,OB b t]
  ·simp
theorem BP(p:UInt8->Bool)(l:List UInt8):l.takeWhile p=l.take (l.takeWhile p).length:=List.prefix_iff_eq_take.1 (List.takeWhile_prefix p)
theorem X7(t:List UInt8):Lib.trimRightB (46::t) 48=46::Lib.trimRightB t 48:=by
 unfold Lib.trimRightB;rw[List.reverse_cons];have:∀r:List UInt8,(r++[46]).dropWhile (· == 48)=r.dropWhile (· == 48)++[46]:=by
  intro r;induction r with
  |nil=>rfl
  |cons a r ih=>
   rw[eN,List.dropWhile_cons,List.dropWhile_cons];split
   ·exact ih
   ·rfl
 rw[this,List.reverse_append];rfl
theorem X8(l:List UInt8)(h:20<=l.length):Lib.hasPrefix (l.drop 19) [46]=decide ((l.getD 19 0).toNat=46):=by
 have e:l.drop 19=l[19]::l.drop 20:=eE (by omega);have g:l.getD 19 0=l[19]:=by rw[gQ,dP (by omega)];rfl
 rw[e,g];by_cases a:l[19].toNat=46
 ·have:l[19]=46:=eY.1 (by simpa using a);rw[this];simp[Lib.hasPrefix]
 ·have:¬l[19]=46:=fun e=>a (by rw[e];rfl);rw[decide_eq_false a];have b:((46:UInt8)==l[19])=false:=bG.2 (fun e=>this e.symm);simp only[Lib.hasPrefix,List.isPrefixOf,b,Bool.false_and]
theorem X9(l:List UInt8)(h:20<=l.length):(match jG l with
  |none=>fU (dT (l.drop 19)).2=none
  |some pt=>(dT (l.drop 19)).1=(if pt.1=[]then[]else 46::pt.1)/\(dT (l.drop 19)).2=l.drop pt.2):=by
 have q:=X8 l h;have j:l.drop 19=l[19]::l.drop 20:=eE (by omega);have k:l.getD 19 0=l[19]:=by rw[gQ,dP (by omega)];rfl
 by_cases b:(l.getD 19 0).toNat=46;rotate_left
 ·rw[decide_eq_false b]at q;have d:jG l=some ([],19):=by unfold jG;rw[aB b]
  have f:dT (l.drop 19)=([],l.drop 19):=by unfold dT;rw[aD q]
  rw[d,f];exact⟨rfl,rfl⟩
 rw[decide_eq_true b]at q;have m:(l.drop 19).drop 1=l.drop 20:=by rw[dW]
 obtain⟨D,i⟩:∃D,(l.drop 20).takeWhile aH=D:=⟨_,rfl⟩;have n:aZ aH 6 (l.drop 20)=min 6 D.length:=by
  unfold aZ;rw[OB,eJ,i]
 have s:jG l=if D=[]∨6<D.length then none else some (Lib.trimRightB D 48,20+D.length):=by unfold jG;rw[aD b,i]
 have g:dT (l.drop 19)=if aZ aH 6 (l.drop 20)=0 then([],l.drop 19)else
   (if Lib.trimRightB ((l.drop 19).take (1+aZ aH 6 (l.drop 20))) 48=[46]then[]else Lib.trimRightB ((l.drop 19).take (1+aZ aH 6 (l.drop 20))) 48,(l.drop 19).drop (1+aZ aH 6 (l.drop 20))):=by
  unfold dT;rw[aB (by rw[q];simp),m]
 by_cases h0:D=[]
 ·have d:jG l=none:=by rw[s,aD (.inl h0)]
  have f:dT (l.drop 19)=([],l.drop 19):=by rw[g,aD (by rw[n,h0];rfl)]
  rw[d,f];show fU (l.drop 19)=none;refine OA j ?_ ?_ ?_ <;> rw[<-k] <;> omega
 have z:0<D.length:=List.length_pos_iff.2 h0;by_cases h6:6<D.length
 ·have d:jG l=none:=by rw[s,aD (.inr h6)]
  have u:aZ aH 6 (l.drop 20)=6:=by rw[n];omega
  have f:(dT (l.drop 19)).2=l.drop 26:=by rw[g,aB (by rw[n];omega),u,dW]
  rw[d];show fU (dT (l.drop 19)).2=none;rw[f];have o:26<l.length:=by
   have:=aQ List.length (BP aH (l.drop 20));rw[i,eJ,bC]at this;omega
  have v:aH l[26]=true:=by
   have B:l[26]∈(l.drop 20).takeWhile aH:=by
    rw[BP aH (l.drop 20),i];rw[List.mem_iff_getElem];refine⟨6,by rw[eJ,bC];omega,?_⟩;rw[List.getElem_take,List.getElem_drop]
   have p:∀(x:List UInt8),∀c∈x.takeWhile aH,aH c=true:=by
    intro x;induction x with
    |nil=>intro c b;simp at b
    |cons a t ih=>
     intro c b;rw[lB]at b;split at b
     ·next hp=>
      rcases jY.1 b with b|b
      ·rw[b];exact hp
      ·exact ih c b
     ·simp at b
   exact p _ _ B
  have A:48<=l[26].toNat/\l[26].toNat<=57:=by simpa[aH]using v
  exact OA (eE o) (by omega) (by omega) (by omega)
 ·have d:jG l=some (Lib.trimRightB D 48,20+D.length):=by rw[s,aB (by intro h;rcases h with h|h;exact h0 h;exact h6 h)]
  have w:aZ aH 6 (l.drop 20)=D.length:=by rw[n];omega
  have y:(l.drop 19).take (1+D.length)=46::D:=by
   rw[j,show 1+D.length=D.length+1 by omega,mG];congr 1
   ·exact eY.1 (by rw[<-k,b];rfl)
   ·conv=>rhs;rw[<-i,BP aH (l.drop 20),i]
  have f:dT (l.drop 19)=(if 46::Lib.trimRightB D 48=[46]then[]else 46::Lib.trimRightB D 48,l.drop (20+D.length)):=by
   rw[g,aB (by rw[n];omega),w,y,X7,dW,show 19+(1+D.length)=20+D.length by omega]
  rw[d,f];refine⟨?_,rfl⟩;dsimp only;by_cases r:Lib.trimRightB D 48=[]
  ·rw[aD (by rw[r]),aD r]
  ·rw[aB (by intro e;injection e with _ e;exact r e),aB r]
theorem Y0(y m d h mi s k:Int)(b:0<=s)(a:s<60):fN y m d (3600*h+60*mi+s-60*k)=((bY y m d h mi k).1,60*(bY y m d h mi k).2+s):=by
 unfold fN bY;by_cases h1:60*h+mi-k<0
 ·rw[aD (by omega),aD h1];dsimp only;congr 1;omega
 ·rw[aB (by omega),aB h1];by_cases h2:1440<=60*h+mi-k
  ·rw[aD (by omega),aD h2];dsimp only;congr 1;omega
  ·rw[aB (by omega),aB h2];dsimp only;congr 1;omega
theorem sZ{l:List UInt8}{a n:Nat}(h:(aR l a n).2=true):(aR l a n).1=aK l a (a+n):=by
 rw[(rN h).2.2];unfold aK;rw[Nat.add_sub_cancel_left]
theorem Y1{l:List UInt8}{a n:Nat}(h:gZ l a=some n):(aR l a 2).2=true/\(aR l (a+3) 2).2=true/\(aR l (a+6) 2).2=true/\(l.getD (a+2) 0).toNat=58/\(l.getD (a+5) 0).toNat=58:=by
 unfold gZ at h;split at h
 ·cases h
 ·next hc=>
  have h1:¬(aR l a 2).2=false:=fun e=>hc (.inl e);have h2:¬(aR l (a+3) 2).2=false:=fun e=>hc (.inr (.inl e));have h3:¬(aR l (a+6) 2).2=false:=fun e=>hc (.inr (.inr (.inl e)));refine⟨by simpa using h1,by simpa using h2,by simpa using h3,?_,?_⟩
  ·exact nY fun e=>hc (.inr (.inr (.inr (.inl e))))
  ·exact nY fun e=>hc (.inr (.inr (.inr (.inr (.inl e)))))
theorem xN(l:List UInt8):fA l=dK l:=by
 by_cases h19:l.length<19
 ·have h1:fA l=none:=by unfold fA;rw[aD (.inl (by omega))]
  have h2:dK l=none:=by unfold dK;rw[aD (.inl h19)]
  rw[h1,h2]
 by_cases h20:l.length<20
 ·have h1:fA l=none:=by unfold fA;rw[aD (.inl h20)]
  have M:l.drop 19=[]:=gH (by omega);have h2:dK l=none:=by
   unfold dK;split
   ·rfl
   ·rw[show eZ (dT (l.drop 19)).2=none by rw[M];decide +kernel]
  rw[h1,h2]
 have D:=W7 (l:=l) (by omega);by_cases r:bZ (l.take 19) jQ=true;rotate_left
 ·have h2:dK l=none:=by unfold dK;rw[aD (.inr (by simpa using r))]
  rw[h2];unfold fA;split
  ·rfl
  ·next hc=>
   cases f:gZ l 11 with
   |none=>rfl
   |some sec=>
    dsimp only;obtain⟨N,O,P,Q,R⟩:=Y1 f;rw[aD];refine nY fun b=>r (D.2 ⟨?_,?_,?_,N,O,P,?_,?_,?_,Q,R⟩)
    ·have:¬(aR l 0 4).2=false:=fun e=>b (.inl e);simpa using this
    ·have:¬(aR l 5 2).2=false:=fun e=>b (.inr (.inl e));simpa using this
    ·have:¬(aR l 8 2).2=false:=fun e=>b (.inr (.inr (.inl e)));simpa using this
    ·exact nY fun e=>hc (.inr (.inl e))
    ·exact nY fun e=>hc (.inr (.inr (.inl e)))
    ·exact nY fun e=>hc (.inr (.inr (.inr e)))
 obtain⟨E,F,G,i,j,m,X,Y,S,w,x⟩:=D.1 r;have H:=sZ E;have I:=sZ F;have J:=sZ G;have n:=sZ i;have o:=sZ j;have p:=sZ m;simp only[Nat.reduceAdd]at H I J n o p;have f:gZ l 11=if 23<aK l 11 13∨59<aK l 14 16∨59<aK l 17 19 then none else some (3600*aK l 11 13+60*aK l 14 16+aK l 17 19):=by
  unfold gZ;simp only[Nat.reduceAdd,i,j,m,n,o,p,w,x];simp
 have T:fA l=(match gZ l 11 with
  |none=>none
  |some sec=>
   if jW (aK l 0 4) (aK l 5 7) (aK l 8 10)=false then none else
   match jG l with
   |none=>none
   |some pt=>
    match fU (l.drop pt.2)with
    |none=>none
    |some k=>
     match mD (aK l 0 4) (aK l 5 7) (aK l 8 10) (sec-60*k)with
     |none=>none
     |some t=>some (t++(if pt.1=[]then[]else 46::pt.1)++[90])):=by
  unfold fA;rw[aB (by omega)];cases gZ l 11 with
  |none=>rfl
  |some sec=>
   dsimp only;rw[E,F,G,H,I,J];by_cases u:jW (aK l 0 4) (aK l 5 7) (aK l 8 10)=false
   ·rw[aD (.inr (.inr (.inr u))),aD u]
   ·rw[aB (by simp;simpa using u),aB u];try rfl
 have U:dK l=(match eZ (dT (l.drop 19)).2 with
  |none=>none
  |some k=>
   if fL (aK l 0 4) (aK l 5 7) (aK l 8 10) (aK l 11 13) (aK l 14 16) (aK l 17 19)=false then none else
   if dB (bY (aK l 0 4) (aK l 5 7) (aK l 8 10) (aK l 11 13) (aK l 14 16) k).1.1=false then none else
   some (eT (bY (aK l 0 4) (aK l 5 7) (aK l 8 10) (aK l 11 13) (aK l 14 16) k).1.1.toNat
    (bY (aK l 0 4) (aK l 5 7) (aK l 8 10) (aK l 11 13) (aK l 14 16) k).1.2.1.toNat
    (bY (aK l 0 4) (aK l 5 7) (aK l 8 10) (aK l 11 13) (aK l 14 16) k).1.2.2.toNat
    ((bY (aK l 0 4) (aK l 5 7) (aK l 8 10) (aK l 11 13) (aK l 14 16) k).2/60).toNat
    ((bY (aK l 0 4) (aK l 5 7) (aK l 8 10) (aK l 11 13) (aK l 14 16) k).2%60).toNat
    (aK l 17 19)++(dT (l.drop 19)).1++[90])):=by
  conv=>lhs;unfold dK
  rw[aB (by intro h;rcases h with h|h;omega;rw[r]at h;cases h)];rfl
 have a:=X9 l (by omega);rw[T,U,f];generalize aK l 0 4=y;generalize aK l 5 7=mo;generalize aK l 8 10=d;generalize aK l 11 13=h;generalize aK l 14 16=mi;generalize aK l 17 19=s;have c:fL y mo d h mi s=false->(match eZ (dT (l.drop 19)).2 with
  |none=>none
  |some k=>
   if fL (y:Int) mo d h mi s=false then none else
   if dB (bY y mo d h mi k).1.1=false then none else
   some (eT (bY y mo d h mi k).1.1.toNat (bY y mo d h mi k).1.2.1.toNat (bY y mo d h mi k).1.2.2.toNat ((bY y mo d h mi k).2/60).toNat ((bY y mo d h mi k).2%60).toNat s++(dT (l.drop 19)).1++[90]))=none:=by
  intro V;cases eZ (dT (l.drop 19)).2 with
  |none=>rfl
  |some k=>dsimp only;rw[aD V]
 by_cases q:23<h∨59<mi∨59<s
 ·rw[aD q,c (by
   unfold fL;simp only[Bool.and_eq_false_iff,rT];omega)]
 rw[aB q];dsimp only;cases v:jW (y:Int) mo d with
 |false=>
  rw[aD rfl,c (by
   unfold jW at v;unfold fL dB;simp only[Bool.and_eq_false_iff,rT]at v⊢;omega)]
 |true=>
  have z:fL (y:Int) mo d h mi s=true:=by
   unfold jW at v;unfold fL dB;simp only[gP,mN]at v⊢;omega
  rw[aB (by simp)];cases K:jG l with
  |none=>
   rw[K]at a;dsimp only at a⊢;rw[NR]at a;rw[a]
  |some pt=>
   rw[K]at a;dsimp only at a⊢;rw[a.1,a.2,<-NR];cases Z:fU (l.drop pt.2)with
   |none=>rfl
   |some k=>
    dsimp only;rw[z,aB (show¬(true=false) by simp)];have W:=Y0 y mo d h mi s k (by omega) (by omega);unfold mD;rw[show((3600*h+60*mi+s:Nat):Int)-60*k=3600*(h:Int)+60*(mi:Int)+(s:Int)-60*k by omega,W];dsimp only;have A:((60*(bY (y:Int) mo d h mi k).2+(s:Int))/3600).toNat=((bY (y:Int) mo d h mi k).2/60).toNat:=by congr 1;omega
    have B:((60*(bY (y:Int) mo d h mi k).2+(s:Int))/60%60).toNat=((bY (y:Int) mo d h mi k).2%60).toNat:=by congr 1;omega
    have C:((60*(bY (y:Int) mo d h mi k).2+(s:Int))%60).toNat=s:=by omega
    rw[A,B,C];by_cases L:(bY (y:Int) mo d h mi k).1.1<1∨9999<(bY (y:Int) mo d h mi k).1.1
    ·have g:dB (bY (y:Int) mo d h mi k).1.1=false:=by unfold dB;simp only[Bool.and_eq_false_iff,rT];omega
     rw[aD L,aD g]
    ·have g:¬dB (bY (y:Int) mo d h mi k).1.1=false:=by unfold dB;simp only[Bool.and_eq_false_iff,rT];omega
     rw[aB L,aB g]
end Go.Hm

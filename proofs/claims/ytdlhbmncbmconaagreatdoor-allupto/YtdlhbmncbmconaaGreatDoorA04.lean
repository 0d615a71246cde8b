/- Pressed by program out of Wa Wb Wc Wo Wd Ws Wl. -/
import Derived.Test.YtdlhbmncbmconaaGreatDoorA00
import Derived.Test.YtdlhbmncbmconaaGreatDoorA01
import Derived.WalkSpells
import Derived.WalkLawsBesides
import Derived.BigQuiet
import Derived.RangeFuncWrites
import Derived.StillTail
import Derived.Laws.AppendOwnNone
import Derived.ProofKit
import Derived.OpenShut
import Derived.MakeChecks
namespace Go.Hw
open Go.RowKit
structure aI(w:World)(g:Nat)(t:TypeId)(cs:Array Value)(w2:World):Prop where
 row:w2.heap[g]?=some (.cells cs t (0,0))
 other:∀k,k≠g->w2.heap[k]?=w.heap[k]?
 size:w2.heap.size=w.heap.size
 os:w2.os=w.os
 tape:w2.tape=w.tape
 output:w2.output=w.output
theorem aI.below{w a:World}{g:Nat}{t:TypeId}{b:Array Value}(h:aI w g t b a){B:Nat}(c:B<=g):Below B w a:=
 ⟨h.os,h.tape,h.output,by rw[h.size];exact aC _,fun k d=>h.other k (by omega)⟩
theorem mO{w:World}{g:Nat}{t:TypeId}{old:Array Value}(b:w.heap[g]?=some (.cells old t (0,0)))(a:Array Value):aI w g t a (w.setRow g a) where
 row:=setRow_heap w g old a t (0,0) b
 other k hk:=setRow_other w g k a hk
 size:=by simp
 os:=rfl
 tape:=rfl
 output:=rfl
section
variable {P : Program}
theorem bI{ops:Array Oper}{rest:List Oper}{o:Oper}{a:Act}{w:World}{Q:Exit->Act->World->Prop}(c:o.guard=none)(d:TypeId)(x y:Operand)(i:o.op= .store d x y)(j:o.dst=none)(g:Nat)(cells:Array Value)(k:a.eval x= .pointer (some ⟨g,0,none⟩))(l:a.eval y= .agg cells)(t:TypeId)(old:Array Value)(e:w.heap[g]?=some (.cells old t (0,0)))(hi:(P.info? d).map (·.size)=some cells.size)(b:old.size=cells.size)(h1:cells.toList.all (·.oneCell')=true)(h:∀f,aI w g t cells f->wpList P ops Q rest a f):wpList P ops Q (o::rest) a w:=
 wpList_store_row c d x y i g cells k l t old e hi b (by rw[<-Array.all_toList];exact h1) (by rw[j];exact h _ (mO e cells))
theorem CZ(w:World)(g i:Nat)(t d:TypeId)(old:Array Value)(v:Value)(e:w.heap[g]?=some (.cells old t (0,0)))(hi:(P.info? d).map (·.size)=some 1)(f:i<old.size)(h1:v.oneCell'=true):(storeVar d ⟨g,i,none⟩ v).run P w= .ok () (w.setRow g (old.setIfInBounds i v)):=by
 have l:v.cells=#[v]:=by cases v <;> first|rfl|cases h1
 have b:(⟨g,i,none⟩:Addr).add 0=⟨g,i,none⟩:=by unfold Addr.add;split <;> simp_all
 have a:w.cell? ⟨g,i,none⟩=some old[i]:=by simp[World.cell?,e,f]
 have c:w.frozen? ⟨g,i,none⟩=false:=by simp[World.frozen?,e]
 have h:(store ((⟨g,i,none⟩:Addr).add 0) v).run P w= .ok () (w.setRow g (old.setIfInBounds i v)):=by
  rw[b,run_store P w _ v _ h1,a];simp[c,setCell_eq_setRow w g i old t (0,0) v e]
 cases k:P.info? d with
 |none=>simp[k]at hi
 |some j=>
  have m:j.size=1:=by simpa[k]using hi
  simp[storeVar,sizeOf,typeInfo,k,l,m,storeCells,Sem.run_bind,h]
theorem bK{ops:Array Oper}{rest:List Oper}{o:Oper}{a:Act}{w:World}{Q:Exit->Act->World->Prop}(c:o.guard=none)(d:TypeId)(x y:Operand)(k:o.op= .store d x y)(l:o.dst=none)(g i:Nat)(v:Value)(m:a.eval x= .pointer (some ⟨g,i,none⟩))(n:a.eval y=v)(t:TypeId)(old b:Array Value)(f:w.heap[g]?=some (.cells old t (0,0)))(hi:(P.info? d).map (·.size)=some 1)(e:i<old.size)(h1:v.oneCell'=true)(p:old.setIfInBounds i v=b)(h:∀j,aI w g t b j->wpList P ops Q rest a j):wpList P ops Q (o::rest) a w:=by
 subst p;refine wpList_plain c fun _ q=>?_;unfold Oper.wp execOp;simp only[k,m,n,Instr.storeAt,Instr.sureAddr,Sem.run_bind,Sem.run_pure,Result.andThen_ok,CZ w g i t d old v f hi e h1];exact q (a.put o.dst undef) _ (by rw[l];exact h _ (mO f _))
end
end Go.Hw
namespace Go.Hw
open Go.RowKit
theorem eA{P:Program}{i:Func}{p a b:Tmp}{c:TypeId}(h:i.results=#[.cell p c,.tmp a,.tmp b])(tmps:Array Value)(w:World)(g:Nat)(t:TypeId)(e:Array Value)(fr:Nat×Nat)(d:TypeDesc)(j:tmps.getD p undef= .pointer (some ⟨g,0,none⟩))(k:w.heap[g]?=some (.cells e t fr))(l:P.underlying c=some d)(m:(match d with| .struct _| .array _ _=>true| _=>false)=true)(hi:(P.info? c).map (·.size)=some e.size):
  (results i tmps).run P w= .ok (.tuple #[.agg e,tmps.getD a undef,tmps.getD b undef]) w:=by
 have n:=run_loadVar_row (P:=P) w g t c e fr d k l m hi;have f:tmps[p]?.getD undef= .pointer (some ⟨g,0,none⟩):=by simpa using j
 simp[results,h,f,asAddr,n]
theorem RX{w:World}{g:Nat}{a:Array Value}{t:TypeId}{fr:Nat×Nat}(b:w.heap[g]?=some (.cells a t fr)):w.setRow g a=w:=by
 have:(w.setRow g a).heap=w.heap:=by
  refine Array.ext_getElem? fun i=>?_;by_cases h:i=g
  ·rw[h,setRow_heap w g a a t fr b,b]
  ·exact setRow_other w g i a h
 have h2:w.setRow g a={w with heap:=(w.setRow g a).heap}:=rfl;rw[h2,this]
theorem DC{P:Program}{C:World->Prop}{o:Oper}{a:Act}{w:World}(b:TypeId)(x y:Operand)(d:o.op= .store b x y)(g:Nat)(cells:Array Value)(e:a.eval x= .pointer (some ⟨g,0,none⟩))(f:a.eval y= .agg cells)(t:TypeId)(c:w.heap[g]?=some (.cells cells t (0,0)))(hi:(P.info? b).map (·.size)=some cells.size)(h1:cells.toList.all (·.oneCell')=true):
  o.quietAt P a C w undef:=by
 unfold Oper.quietAt execOp;simp only[d,e,f,Instr.storeAt,Instr.sureAddr,Sem.run_bind,Sem.run_pure,Result.andThen_ok,run_storeVar_row w g t b cells cells c hi rfl (by rw[<-Array.all_toList];exact h1),RX c];exact⟨rfl,rfl⟩
theorem DJ{P:Program}{ops:Array Oper}{w:World}{Q:Act->Prop}{rest:List Oper}{o:Oper}{a:Act}(hw:Region.wanted o (yielded ops a.tmps)=true)(b:TypeId)(x:Operand)(e:o.op= .load b x)(g:Nat)(f:a.eval x= .pointer (some ⟨g,0,none⟩))(t:TypeId)(c:Array Value)(fr:Nat×Nat)(d:TypeDesc)(i:w.heap[g]?=some (.cells c t fr))(j:P.underlying b=some d)(k:(match d with| .struct _| .array _ _=>true| _=>false)=true)(hi:(P.info? b).map (·.size)=some c.size)(h:∀K:Act->Prop,(∀a,wpStill P ops w Q rest a->K a)->K (a.put o.dst (.agg c))):wpStill P ops w Q (o::rest) a:=by
 unfold wpStill;rw[aD hw];unfold Oper.still execOp;simp only[e,f,Instr.loadAt,Instr.sureAddr,Sem.run_bind,Sem.run_pure,Result.andThen_ok,run_loadVar_row w g t b c fr d i j k hi];exact⟨rfl,h _ fun _ h=>h⟩
structure aN(S:Nat->Prop)(w w':World):Prop where
 os:w'.os=w.os
 tape:w'.tape=w.tape
 output:w'.output=w.output
 size:w.heap.size<=w'.heap.size
 block:∀k,k<w.heap.size->¬S k->w'.heap[k]?=w.heap[k]?
theorem aN.refl(S:Nat->Prop)(w:World):aN S w w:=⟨rfl,rfl,rfl,aC _,fun _ _ _=>rfl⟩
theorem aN.of_below{S:Nat->Prop}{w a:World}(h:Below w.heap.size w a):aN S w a:=⟨h.os,h.tape,h.output,h.size,fun k b _=>h.block k b⟩
theorem aN.trans{S T:Nat->Prop}{a b c:World}(h:aN S a b)(k:aN T b c)(e:∀i,i<a.heap.size->T i->S i):aN S a c:=
 ⟨k.os.trans h.os,k.tape.trans h.tape,k.output.trans h.output,cH h.size k.size,fun i hi d=>(k.block i (oQ hi h.size) (fun t=>d (e i hi t))).trans (h.block i hi d)⟩
theorem aN.mono{S T:Nat->Prop}{a b:World}(h:aN S a b)(c:∀i,i<a.heap.size->S i->T i):aN T a b:=
 ⟨h.os,h.tape,h.output,h.size,fun i hi d=>h.block i hi (fun s=>d (c i hi s))⟩
theorem aN.next{S:Nat->Prop}{a b c:World}(h:aN S a b)(k:Below b.heap.size b c):aN S a c:=h.trans (aN.of_below (S:=fun _=>False) k) (fun _ _ f=>f.elim)
theorem aN.alloc{S:Nat->Prop}{a b:World}(h:aN S a b)(o:Obj):aN S a (b.alloc o):=h.next ((aF _ _).alloc (aC _) o)
theorem aN.of_grown{w b:World}{row:Option Nat}(a:w.grownBy b row):aN (fun k=>some k=row) w b:=⟨a.os,a.tape,a.output,a.size,fun k c d=>a.block k c d⟩
theorem aI.kept{w a:World}{g:Nat}{t:TypeId}{b:Array Value}(h:aI w g t b a):aN (fun k=>k=g) w a:=
 ⟨h.os,h.tape,h.output,by rw[h.size];exact aC _,fun k _ c=>h.other k c⟩
theorem aN.below{S:Nat->Prop}{w a:World}(h:aN S w a){B:Nat}(b:∀k,k<w.heap.size->S k->B<=k)(c:B<=w.heap.size):Below B w a:=
 ⟨h.os,h.tape,h.output,h.size,fun k d=>h.block k (by omega) (fun s=>by have:=b k (by omega) s;omega)⟩
theorem aN.others{S:Nat->Prop}{w b:World}(h:aN S w b)(d:∀(k:Nat)(o:Obj),S k->w.heap[k]?=some o->o.isCells=true):KeepsOthers w b:=
 ⟨h.size,fun k o a c=>(h.block k (aM.1 a).1 (fun s=>by rw[d k o s a]at c;cases c)).trans a⟩
theorem cQ{S:Nat->Prop}{w d:World}{a:Nat}{e:TypeId}{size:Nat}{v:Value}{n:Nat}{xs:List Value}(h:w.ownsRow a e size v n xs)(i:aN S w d)(j:∀k,v.ownBlock=some k->¬S k):d.ownsRow a e size v n xs:=by
 refine⟨h.1,?_⟩;rcases h.2 with h|⟨g,b,c,rfl,l,f,rest⟩
 ·exact .inl h
 ·exact .inr ⟨g,b,c,rfl,l,(i.block g (aM.1 f).1 (j g rfl)).trans f,rest⟩
theorem dN{w:World}{b:Nat}{e:TypeId}{size:Nat}{v:Value}{n:Nat}{xs:List Value}(h:w.ownsRow b e size v n xs){k:Nat}(c:v.ownBlock=some k):∃a,w.heap[k]?=some (.cells a e (0,0)):=by
 rcases h.2 with⟨rfl,_⟩|⟨g,d,a,rfl,_,f,_⟩
 ·cases c
 ·cases c;exact⟨a,f⟩
def yC{α β:Type}(F:Fence)(n:Nat)(P:Program)(g:Nat)(lb:Array Value)(encs:α->Array Value)(I:List α->β->World->Prop)(b0:β)(S:List α->β->Prop)(N:Nat):Prop:=
 ∀(l:Nat)(Bk:World->Prop)(W:World),(∀A B,KeepsOthers A B->Bk A->Bk B)->
  (∀pre b x W1,I pre b W1->Bk W1->pre.length<N->YieldAt F (n-1) P l (encs x) W1 fun e W'=>e= .returned (.bool true)/\I (pre++[x]) b W'/\Bk W')->
  I [] b0 W->Bk W->
  CallsIn F n P g (#[.func (.yield l) #[] #[]]++lb) W fun e W'=>(∃v,e= .returned v)/\∃xs b,S xs b/\I xs b W'/\Bk W'
theorem DK{F:Fence}{n:Nat}{P:Program}{α β:Type}{g:Operand}{H:Array Tmp}{assign body:Code}{Q:Exit->Act->World->Prop}{a:Act}{w:World}(J:F.round=none)(h1:1<=n){gf:Nat}{lb:Array Value}(hg:a.eval g= .func (.func gf) #[] lb)(L:F.fn gf)(eg:∀args w,(callFunc gf args).run P w= .ok (.enter gf args) w){h:α->Array Value}{I:List α->β->World->Prop}{b0:β}{S:List α->β->Prop}{N:Nat}(z:yC F (n-1) P gf lb h I b0 S N)(M:∀x,(h x).size=H.size)(i:∀f b W l o O,w.heap.size<=l->I f b W->W.heap[l]?=some o->o.isCells=false->I f b (W.putObj l O))(h0:∀o O,I [] b0 ((w.alloc o).alloc O))(a₁:α->Act)(j:∀(l:Nat)(x:α)(W:World)(K:Act->World->Prop),K (a₁ x) W->
   assign.wpIn (F.inRound l) (n-1-1) P (Exit.then K (fun _ _ _=>False)) {tmps:=(H.zip (h x)).foldl (fun t(p,v)=>t.setIfInBounds p v) a.tmps,defers:=[]} W)(q:∀(l:Nat)(f:List α)(b:β)(x:α)(W:World),I f b W->f.length<N->body.wpIn (F.inRound l) (n-1-1) P (fun e _ W'=>e= .normal/\KeepsOthers W W'/\I (f++[x]) b W') (a₁ x) W)(r:∀(D:Nat)(xs:List α)(b:β)(W:World),w.heap.size<=D->S xs b->I xs b W->W.heap[D]?=some (.deferred (some []))->Q .normal {a with defers:={target:= .collected D,args:=#[]}::a.defers} W):
  (Code.rangeFunc g H assign body).wpIn F n P Q a w:=by
 refine wpIn_rangeFunc ?_;intro fn R;rw[J];obtain⟨d,c⟩:∃d:LoopState->Option Code->Loop,d=fun st pe=>{state:=st,pending:=pe,fn,tmps:=a.tmps,params:=H,assign,body,defers:=w.heap.size}:=⟨_,rfl⟩;obtain⟨k,m⟩:∃k,(w.alloc (.deferred (some []))).alloc (.loop (d .ready none))=k:=⟨_,rfl⟩;have T:k.heap[w.heap.size+1]?=some (.loop (d .ready none)):=by
  rw[<-m];have:=World.alloc_heap_new (w.alloc (.deferred (some []))) (.loop (d .ready none));rwa [World.size_alloc]at this
 have U:k.heap[w.heap.size]?=some (.deferred (some [])):=by
  rw[<-m];exact(Below.heap_alloc _ _ _ (by simp)).trans (World.alloc_heap_new w _)
 have V:I [] b0 k:=by rw[<-m];exact h0 _ _
 refine⟨w.heap.size+1,[{target:= .collected w.heap.size,args:=#[]}],k,{target:= .fn (.func gf) lb,args:=#[.func (.yield (w.heap.size+1)) #[] #[]]},k,gf,
  #[.func (.yield (w.heap.size+1)) #[] #[]]++lb,k,?_,?_,?_,?_,fun _=>h1,?_⟩
 ·rw[<-m,c];exact run_enterLoop_outer _ _ _ _ _
 ·simp only[resolve,hg];simp[go_sem]
 ·intro f' C;simp[Target.leads]at C;subst C;exact L
 ·simp[invoke,go_sem,eg]
 ·refine(z (w.heap.size+1)
   (fun W=>W.heap[w.heap.size+1]?=some (.loop (d .ready none))/\W.heap[w.heap.size]?=some (.deferred (some [])))
   k (fun A B y hb=>⟨y.same _ _ hb.1 rfl,y.same _ _ hb.2 rfl⟩) ?_ V ⟨T,U⟩).mono ?_
  ·rintro f b x W hi⟨s,y⟩E;have X:w.heap.size+1<W.heap.size:=(aM.1 s).1;have hy:=run_yield (P:=P) (args:=h x) s (by rw[c];exact M x);rw[c]at hy;refine⟨fn,_,assign,body,hy,roundIn_of_wpIn R (j _ x W _ ⟨_,run_beginRound s (by rw[c]),?_⟩)⟩;have Y:(W.putObj (w.heap.size+1) (.loop {d .ready none with state:= .busy})).heap[w.heap.size+1]?=some (.loop {d .ready none with state:= .busy}):=World.putObj_heap_same X;have Z:(W.putObj (w.heap.size+1) (.loop {d .ready none with state:= .busy})).heap[w.heap.size]?=some (.deferred (some [])):=(World.putObj_heap_other (by omega)).trans y;refine wpIn_mono (q _ f b x _ (i _ _ _ _ _ _ (by omega) hi s rfl) E) ?_;rintro e a3 W3⟨rfl,G,aa⟩;have u:=G.same _ _ Y rfl;have hr:=run_endRound (P:=P) none u;rw[c]at hr;refine⟨_,_,hr,rfl,i _ _ _ _ _ _ (by omega) aa u rfl,?_,?_⟩
   ·rw[c];exact World.putObj_heap_same (aM.1 u).1
   ·exact(World.putObj_heap_other (by omega)).trans (G.same _ _ Z rfl)
  ·rintro e W2⟨⟨v,rfl⟩,xs,b,hS,hi,s,y⟩;exact⟨none,_,by have:=run_endLoop (P:=P) s (by rw[c];simp);rw[c]at this;exact this,r _ xs b _ (aC _) hS (i _ _ _ _ _ _ (by omega) hi s rfl) ((World.putObj_heap_other (by omega)).trans y)⟩
theorem oR{P:Program}{f:Func}{p a:Tmp}{b:TypeId}(h:f.results=#[.cell p b,.tmp a])(tmps:Array Value)(w:World)(g:Nat)(t:TypeId)(c:Array Value)(fr:Nat×Nat)(d:TypeDesc)(i:tmps.getD p undef= .pointer (some ⟨g,0,none⟩))(j:w.heap[g]?=some (.cells c t fr))(k:P.underlying b=some d)(l:(match d with| .struct _| .array _ _=>true| _=>false)=true)(hi:(P.info? b).map (·.size)=some c.size):
  (results f tmps).run P w= .ok (.tuple #[.agg c,tmps.getD a undef]) w:=by
 have m:=run_loadVar_row (P:=P) w g t b c fr d j k l hi;have e:tmps[p]?.getD undef= .pointer (some ⟨g,0,none⟩):=by simpa using i
 simp[results,h,e,asAddr,m]
end Go.Hw
namespace Go.Hw
theorem mP{P:Program}{md:Region.Mode}{l:List Oper}{Q:Exit->Act->World->Prop}{c:Nat}{b:Array Bool}{a:Act}{w:World}(k:Nat)(d:c=(l.drop k).length)(e:Region.seqB md l.toArray (l.drop k).length k b=true)(h:wpList P l.toArray Q (l.drop k) a w):wpAny P md l.toArray Q c b a w:=by
 subst d;exact wpAny_of_seq (l.drop k) k b a w (fun j=>by simp[List.getElem?_drop]) e h
end Go.Hw
namespace Go.Hw
section
variable {P : Program} {md : Region.Mode} {ops : Array Oper} {Q : Exit → Act → World → Prop}
theorem oS{L:Array Bool}{i:Nat}(h:i∈Region.ready md ops L):i<ops.size/\L.getD i true=false/\∀o,ops[i]?=some o->∀e∈o.after,Region.binds md e=true->L.getD e.on false=true:=by
 unfold Region.ready at h;rw[List.mem_filter]at h;obtain⟨h1,h2⟩:=h;simp only[gP,Bool.not_eq_true']at h2;refine⟨by simpa using h1,h2.1,fun o a e b c=>?_⟩;have h3:=h2.2;rw[a]at h3;simp only[Option.map_some,Option.getD_some,Array.all_eq_true']at h3;have:=h3 e b;simpa[c]using this
def yD(ops:Array Oper):Bool:=(List.range ops.size).all fun i=>((ops[i]?).map (·.after.all fun e=>decide (e.on<i))).getD true
theorem DL{L:Array Bool}(r:L.size=ops.size)(l:yD ops=true)(m:Region.ready md ops L=[]):∀n i,i<n->i<ops.size->L.getD i false=true:=by
 intro n;induction n with
 |zero=>intro i h;omega
 |succ n ih=>
  intro i hi a;by_cases d:i<n
  ·exact ih i d a
  ·cases j:L.getD i false with
   |true=>rfl
   |false=>
    have b:i∈Region.ready md ops L:=by
     unfold Region.ready;rw[List.mem_filter];refine⟨by simpa using a,?_⟩;have f:L.getD i true=false:=by
      have o:i<L.size:=by omega
      simp[Array.getD,o]at j⊢;exact j
     simp only[f,Bool.not_false,Bool.true_and];have k:ops[i]?=some ops[i]:=Array.getElem?_eq_getElem a;rw[k];simp only[Option.map_some,Option.getD_some,Array.all_eq_true'];intro e p;have c:=nL.1 l i (by simpa using a);rw[k]at c;simp only[Option.map_some,Option.getD_some,Array.all_eq_true']at c;have g:=c e p;have q:e.on<i:=by simpa using g
     have:=ih e.on (by omega) (by omega);simp[this]
    rw[m]at b;cases b
def qT(L:Array Bool):Nat:=(L.toList.filter (fun b=>!b)).length
theorem vB{L:Array Bool}{i:Nat}(h:L.getD i true=false):qT (L.setIfInBounds i true)<qT L:=by
 have hi:i<L.size:=by
  rcases Nat.lt_or_ge i L.size with c|c
  ·exact c
  ·simp[Array.getD,Nat.not_lt.2 c]at h
 have f:L.toList[i]'(by simpa using hi)=false:=by simpa[Array.getD,hi]using h
 unfold qT;rw[Array.toList_setIfInBounds];have d:∀(l:List Bool)(j:Nat)(a:j<l.length),l[j]=false->((l.set j true).filter (fun b=>!b)).length<(l.filter (fun b=>!b)).length:=by
  intro l;induction l with
  |nil=>intro j a;simp at a
  |cons b t ih=>
   intro j a e;cases j with
   |zero=>simp at e;subst e;simp
   |succ j=>
    have:=ih j (by simpa using a) (by simpa using e);cases b <;> simp at this⊢ <;> omega
 exact d L.toList i (by simpa using hi) f
theorem RY(c:Array Bool->Act->World->Prop)(n:yD ops=true)(e:∀L a w i,L.size=ops.size->c L a w->i∈Region.ready md ops L->wpOp P ops Q i (fun l m=>c (L.setIfInBounds i true) l m) a w)(d:∀L a w,c L a w->(∀i,i<ops.size->L.getD i false=true)->Q .normal a w):
  ∀b L a w,L.size=ops.size->qT L<=b->c L a w->wpAny P md ops Q b L a w:=by
 intro b;induction b with
 |zero=>
  intro L a w k p hi;have g:Region.ready md ops L=[]:=by
   cases g:Region.ready md ops L with
   |nil=>rfl
   |cons j t=>
    have:=vB (oS (md:=md) (ops:=ops) (L:=L) (i:=j) (by rw[g];simp)).2.1;omega
  exact⟨g,d L a w hi (fun i f=>DL k n g (i+1) i (by omega) f)⟩
 |succ b ih=>
  intro L a w k p hi;refine⟨fun g=>d L a w hi (fun i f=>DL k n g (i+1) i (by omega) f),fun i o=>?_⟩;refine wpOp_mono (fun l m h=>ih _ l m (by simpa using k) ?_ h) (e L a w i k hi o);have:=vB (oS o).2.1;omega
theorem DO(n:Nat):qT (Array.replicate n false)=n:=by simp[qT]
end
theorem RZ{P:Program}{id:Nat}{Q:Exit->Act->World->Prop}{a:Act}{w:World}{l:List Oper}(b:Array Bool->Act->World->Prop)(g:P.follows .mixedOrders=true)(h:yD l.toArray=true)(h0:b (Array.replicate l.toArray.size false) a w.drew)(c:∀L a w i,b L a w->i<l.toArray.size->(∀o,l.toArray[i]?=some o->∀e∈o.after,Region.binds .any e=true->L.getD e.on false=true)->wpOp P l.toArray Q i (fun j k=>b (L.setIfInBounds i true) j k) a w)(d:∀L a w,b L a w->(∀i,i<l.toArray.size->L.getD i false=true)->Q .normal a w):(Code.region id l.toArray true).wp P Q a w:=
 wp_region_any g (RY b h (fun L a w i _ hi f=>c L a w i hi (oS f).1 (oS f).2.2) d _ _ _ _ (by simp) (by rw[DO];exact aC _) h0)
theorem aP{L:Array Bool}{i j:Nat}(h:(L.setIfInBounds i true).getD j false=true):j=i∨L.getD j false=true:=by
 by_cases e:j=i
 ·exact .inl e
 ·right;have:(L.setIfInBounds i true)[j]?=L[j]?:=by simp[Ne.symm e]
  simpa[Array.getD_eq_getD_getElem?,this]using h
end Go.Hw
namespace Go.Hw
section
variable {P : Program} (w : World)
theorem SA(b:Nat)(t u p e:TypeId)(i:TypeInfo)(y:P.underlying t=some (.slice e))(z:P.underlying u=some .string)(hi:P.info? e=some i)(B:i.zero=some (.int .u8 0))(a:i.size=1)(j:i.bytes=1)(v:Value)(n:Nat)(xs:List Value)(c:w.ownsRow b e 1 v n xs)(s:ByteArray)(h63:n+s.size<=maxLen)(f:n+s.size<=140737488355328)(l:b<=w.heap.size):
  ∃v' q,(Builtin.append_ #[t,u] p #[v,.string s]).run P w= .ok v' q/\q.ownsRow b e 1 v' (n+s.size) (xs++Lib.strCells s)/\w.grownBy q v.ownBlock/\(∀k,v'.ownBlock=some k->v.ownBlock=some k∨w.heap.size<=k):=by
 obtain⟨v',q,m,h2,h3,h4⟩:=Lib.run_append_own_string (P:=P) w b t u p e i y z hi B a j v n xs c s h63 f l;refine⟨v',q,m,h2,h3,?_⟩;have A:n+s.size<=9223372036854775807:=by simp only[maxLen]at h63;omega
 have C:xs.length=n:=by simpa using c.1
 intro k r;rcases c.2 with⟨rfl,rfl⟩|⟨g,h,x,rfl,G,H,I,J,D,E⟩
 ·by_cases K:s.size=0
  ·rw[h4.2 ⟨rfl,K⟩]at r;cases r
  ·have d:=run_append_nil_string (P:=P) w t u p e i (.int .u8 0) y z hi B s (by omega) (by omega) (by rw[j];omega);rw[d]at m;cases m;cases r;exact .inr (aC _)
 ·by_cases o:n+s.size<=h
  ·have F:x.size=h:=by simpa using D
   have d:=Lib.run_append_room_string (P:=P) w t u p e i y z hi a g n h x H s o (by omega);rw[d]at m;cases m;exact .inl r
  ·have d:=Lib.run_append_grow_string (P:=P) w t u p e i (.int .u8 0) y z hi B ⟨g,0,none⟩ n h xs (by rw[a];simpa using C) (c.cells (g:=g) rfl) s (by omega) (by omega) (by rw[j];exact growslice_fits (by omega) (by omega));rw[d]at m;cases m;cases r;exact .inr (aC _)
theorem qU{ops:Array Oper}{rest:List Oper}{o:Oper}{a:Act}{Q:Exit->Act->World->Prop}(l:o.guard=none)(sl x:Operand)(t u:TypeId)(p:o.op= .call {callee:= .builtin .append,args:=#[sl,x],argTypes:=#[t,u]})(b:Nat)(e:TypeId)(i:TypeInfo)(q:P.underlying t=some (.slice e))(r:P.underlying u=some .string)(hi:P.info? e=some i)(y:i.zero=some (.int .u8 0))(d:i.size=1)(m:i.bytes=1)(v:Value)(n:Nat)(xs:List Value)(z:a.eval sl=v)(g:w.ownsRow b e 1 v n xs)(s:ByteArray)(A:a.eval x= .string s)(h63:n+s.size<=maxLen)(c:n+s.size<=140737488355328)(f:b<=w.heap.size)(h:∀v' j,j.ownsRow b e 1 v' (n+s.size) (xs++Lib.strCells s)->w.grownBy j v.ownBlock->(∀k,v'.ownBlock=some k->v.ownBlock=some k∨w.heap.size<=k)->wpList P ops Q rest (a.put o.dst v') j):wpList P ops Q (o::rest) a w:=by
 refine wpList_plain l fun K B=>?_;obtain⟨v',j,C,h2,h3,h4⟩:=SA (P:=P) w b t u o.type e i q r hi y d m v n xs g s h63 c f;unfold Oper.wp execOp;simp only[p,resolve,invoke,builtin,Sem.run_bind,Sem.run_pure,Result.andThen_ok,List.map_toArray,jX,List.map_nil,z,A,C];exact B _ _ (h v' j h2 h3 h4)
end
end Go.Hw
namespace Go.Hw
open Go.RowKit
def eQ(w:World)(base:Nat)(e:TypeId)(v:Value)(xs:List Value):Prop:=
 (v= .slice none 0 0/\xs=[])∨∃g o cap cur,v= .slice (some ⟨g,o,none⟩) xs.length cap/\base<=g/\w.heap[g]?=some (.cells cur e (0,0))/\xs.length<=cap/\cap<=maxLen/\o+cap<=cur.size/\(cur.toList.drop o).take xs.length=xs
theorem qC{w:World}{a:Nat}{e:TypeId}{v:Value}{n:Nat}{xs:List Value}(h:w.ownsRow a e 1 v n xs):eQ w a e v xs:=by
 have d:xs.length=n:=by simpa using h.1
 rcases h.2 with⟨rfl,h0⟩|⟨g,b,c,rfl,f,i,h1,h2,h3,h4⟩
 ·exact .inl ⟨rfl,tJ (by omega)⟩
 ·exact .inr ⟨g,0,b,c,by rw[d],f,i,by omega,h2,by omega,by simpa[d]using h4⟩
theorem ZA(w:World)(a:Nat)(e:TypeId):eQ w a e (.slice none 0 0) []:= .inl ⟨rfl,rfl⟩
theorem qD{S:Nat->Prop}{w d:World}{a:Nat}{e:TypeId}{v:Value}{xs:List Value}(h:eQ w a e v xs)(i:aN S w d)(j:∀k,v.ownBlock=some k->¬S k):eQ d a e v xs:=by
 rcases h with h|⟨g,o,b,c,rfl,l,f,rest⟩
 ·exact .inl h
 ·exact .inr ⟨g,o,b,c,rfl,l,(i.block g (aM.1 f).1 (j g rfl)).trans f,rest⟩
theorem jF{w:World}{a:Nat}{e:TypeId}{v:Value}{xs:List Value}(h:eQ w a e v xs){k:Nat}(c:v.ownBlock=some k):a<=k/\∃b,w.heap[k]?=some (.cells b e (0,0)):=by
 rcases h with⟨rfl,_⟩|⟨g,o,d,b,rfl,f,i,_⟩
 ·cases c
 ·cases c;exact⟨f,b,i⟩
theorem IN{w:World}{b:Nat}{e:TypeId}{v:Value}{xs:List Value}(h:eQ w b e v xs):∃c a,v= .slice c xs.length a:=by
 rcases h with⟨rfl,rfl⟩|⟨g,o,a,d,rfl,_⟩
 ·exact⟨none,0,rfl⟩
 ·exact⟨_,a,rfl⟩
theorem AC{l xs:List Value}{o:Nat}(h:(l.drop o).take xs.length=xs){j:Nat}{u:Value}(a:xs[j]?=some u):l[o+j]?=some u:=by
 have b:=(iY.1 a).1;rw[<-h,List.getElem?_take,aD b,nM]at a;exact a
theorem AE{w:World}{a:Nat}{e:TypeId}{g o n b:Nat}{xs:List Value}(h:eQ w a e (.slice (some ⟨g,o,none⟩) n b) xs){j:Nat}{u:Value}(f:xs[j]?=some u):w.cell? ⟨g,o+j,none⟩=some u:=by
 rcases h with⟨c,_⟩|⟨m,p,d,i,c,_,k,_,_,q,l⟩
 ·cases c
 ·cases c;have:=AC l f;simp[World.cell?,k];simpa using this
theorem aI.trans{a b c:World}{g:Nat}{t:TypeId}{e d:Array Value}(h:aI a g t e b)(k:aI b g t d c):aI a g t d c where
 row:=k.row
 other i hi:=(k.other i hi).trans (h.other i hi)
 size:=k.size.trans h.size
 os:=k.os.trans h.os
 tape:=k.tape.trans h.tape
 output:=k.output.trans h.output
theorem wE{g:Nat}{t:TypeId}:∀(b:List Value)(o:Nat)(w:World)(cur:Array Value),w.heap[g]?=some (.cells cur t (0,0))->o+b.length<=cur.size->
  ∃a,aI w g t a (w.setCells g o b)/\a.toList=cur.toList.take o++b++cur.toList.drop (o+b.length)
 |[],o,w,cur,hg,_=>⟨cur,⟨hg,fun _ _=>rfl,rfl,rfl,rfl,rfl⟩,by simp⟩
 |v::r,o,w,cur,hg,hl=>by
  simp only[bU]at hl;have c:aI w g t (cur.setIfInBounds o v) (w.setCell ⟨g,o,none⟩ v):=by
   rw[setCell_eq_setRow w g o cur t (0,0) v hg];exact mO hg _
  obtain⟨a,e,f⟩:=wE r (o+1) (w.setCell ⟨g,o,none⟩ v) _ c.row (by simp;omega);refine⟨a,c.trans e,?_⟩;rw[f];have h:(cur.setIfInBounds o v).toList=cur.toList.take o++v::cur.toList.drop (o+1):=by
   rw[Array.toList_setIfInBounds,List.set_eq_take_append_cons_drop,aD (by simpa using(show o<cur.size by omega))]
  rw[h];have d:(cur.toList.take o).length=o:=by simp;omega
  have i:(cur.toList.take o++v::cur.toList.drop (o+1)).take (o+1)=cur.toList.take o++[v]:=by
   rw[List.take_append,d,fV (by omega)];simp
  have j:(cur.toList.take o++v::cur.toList.drop (o+1)).drop (o+1+r.length)=cur.toList.drop (o+(r.length+1)):=by
   rw[List.drop_append,d,gH (by omega),show o+1+r.length-o=r.length+1 by omega,iZ,dW];simp;congr 1;omega
  rw[i,j];simp
section
variable {P : Program}
theorem ZB(w:World)(r:Nat)(t F e:TypeId)(i:TypeInfo)(z:Value)(h:Nat)(M:P.underlying t=some (.slice e))(hi:P.info? e=some i)(Q:i.zero=some z)(d:i.size=1)(B:i.bytes=h)(G:z.cells.size=1)(v:Value)(xs:List Value)(H:eQ w r e v xs)(a:Addr)(m c:Nat)(b:List Value)(hl:b.length=m)(l:∀j u,b[j]?=some u->w.cell? (a.add j)=some u)(h1:∀u∈b,u.oneCell'=true)(hm:0<m)(h63:xs.length+m<=maxLen)(n:(xs.length+m)*h<=140737488355328)(C:r<=w.heap.size):
  ∃N f D,(Builtin.append_ #[t,t] F #[v,.slice (some a) m c]).run P w= .ok (.slice (some N) (xs.length+m) f) D/\eQ D r e (.slice (some N) (xs.length+m) f) (xs++b)/\w.grownBy D v.ownBlock/\(v.ownBlock=some N.block∨w.heap.size=N.block):=by
 rcases H with⟨rfl,rfl⟩|⟨g,o,f,x,rfl,hb,O,hc,R,aa,I⟩
 ·obtain⟨v',D,y,h2,h3,h4,h5⟩:=run_append_own_at (P:=P) w r t F e i z 1 h M hi Q d B G (by decide) (.slice none 0 0) 0 [] (World.ownsRow_nil _ _ _ _) a m c b (by omega) l h1 (by simpa using h63) (by simpa using n) C;rcases h2.2 with⟨rfl,h0⟩|⟨g,f,x,rfl,_⟩
  ·omega
  ·refine⟨_,f,D,by simpa using y,?_,h3,?_⟩
   ·have:=qC h2;simpa using this
   ·rcases h5 with h5|h5
    ·cases h5
    ·right;simpa[Value.ownBlock,eq_comm]using h5
 ·by_cases E:xs.length+m<=f
  ·have S:∀j,j<b.length->(w.cell? ⟨g,o+xs.length*i.size+j,none⟩).isSome=true:=fun j T=>by
    have:o+xs.length*i.size+j<x.size:=by rw[d];omega
    simp[World.cell?,O,this]
   have U:∀j,j<b.length->w.frozen? ⟨g,o+xs.length*i.size+j,none⟩=false:=fun j T=>by simp[World.frozen?,O]
   have y:=run_append_room_cells (P:=P) w t F e i M hi g o xs.length f a m c b (by rw[d];omega) l h1 E S U;rw[d,Nat.mul_one]at y;obtain⟨A,p,ec⟩:=wE b (o+xs.length) w x O (by omega);refine⟨⟨g,o,none⟩,f,_,y,.inr ⟨g,o,f,A,by rw[dL,hl],hb,p.row,by rw[dL];omega,R,?_,?_⟩,⟨p.os,p.tape,p.output,by rw[p.size];exact aC _,fun k _ V=>p.other k (fun e=>V (by simp[Value.ownBlock,e]))⟩,.inl rfl⟩
   ·have:=aQ List.length ec;simp at this;omega
   ·rw[ec];have W:(x.toList.take (o+xs.length)).drop o=xs:=by
     rw[List.drop_take,show o+xs.length-o=xs.length by omega];exact I
    rw[jH,List.drop_append_of_le_length (by simp;omega),W,<-jH,List.take_left]
  ·have s:∀j u,xs[j]?=some u->w.cell? ((⟨g,o,none⟩:Addr).add j)=some u:=fun j u T=>by
    have:=AC I T;have J:(⟨g,o,none⟩:Addr).add j=⟨g,o+j,none⟩:=by unfold Addr.add;split <;> simp_all
    rw[J];simp[World.cell?,O];simpa using this
   obtain⟨v',D,y,h2,h3⟩:=run_append_arg_grows (P:=P) w t F e i z 1 h M hi Q d B G (by decide) ⟨g,o,none⟩ xs.length f xs (by omega) s a m c b (by omega) l (by omega) h63 n;rcases h2.2 with⟨rfl,h0⟩|⟨g',K,A,rfl,ab,ac,_⟩
   ·omega
   ·have X:=qC h2;have L:=run_append_grow (P:=P) w t F e i z M hi Q ⟨g,o,none⟩ xs.length f xs (by rw[d];omega) s a m c b (by rw[d];omega) l (by omega) (by simp only[maxLen]at h63;omega) (growslice_fits (by omega) (by rw[B];exact n));rw[L]at y;have Y:g'=w.heap.size:=by
     have:=(Result.ok.inj y).1;simp at this;exact this.1.symm
    refine⟨_,K,D,by rw[L,y],?_,⟨h3.os,h3.tape,h3.output,h3.size,fun k V _=>h3.block k V (by simp)⟩,.inr Y.symm⟩;rcases X with⟨Z,_⟩|⟨q,q1,q2,q3,Z,q5,q6⟩
    ·cases Z
    ·exact .inr ⟨q,q1,q2,q3,Z,by omega,q6⟩
theorem IQ{ops:Array Oper}{rest:List Oper}{o:Oper}{a:Act}{w:World}{Q:Exit->Act->World->Prop}(A:o.guard=none)(s x:Operand)(t:TypeId)(E:o.op= .call {callee:= .builtin .append,args:=#[s,x],argTypes:=#[t,t]})(f:Nat)(e:TypeId)(i:TypeInfo)(z:Value)(d:Nat)(F:P.underlying t=some (.slice e))(hi:P.info? e=some i)(G:i.zero=some z)(n:i.size=1)(B:i.bytes=d)(C:z.cells.size=1)(v:Value)(xs:List Value)(H:a.eval s=v)(r:eQ w f e v xs)(D:Addr)(m c:Nat)(b:List Value)(I:a.eval x= .slice (some D) m c)(J:b.length=m)(p:∀j u,b[j]?=some u->w.cell? (D.add j)=some u)(h1:∀u∈b,u.oneCell'=true)(L:0<m)(h63:xs.length+m<=maxLen)(k:(xs.length+m)*d<=140737488355328)(q:f<=w.heap.size)(h:∀g l y,eQ y f e (.slice (some g) (xs.length+m) l) (xs++b)->w.grownBy y v.ownBlock->(v.ownBlock=some g.block∨w.heap.size=g.block)->wpList P ops Q rest (a.put o.dst (.slice (some g) (xs.length+m) l)) y):
  wpList P ops Q (o::rest) a w:=by
 refine wpList_plain A fun K M=>?_;obtain⟨g,l,y,N,h2,h3,h4⟩:=ZB (P:=P) w f t o.type e i z d F hi G n B C v xs r D m c b J p h1 L h63 k q;unfold Oper.wp execOp;simp only[E,resolve,invoke,builtin,Sem.run_bind,Sem.run_pure,Result.andThen_ok,List.map_toArray,jX,List.map_nil,H,I,N];exact M _ _ (h g l y h2 h3 h4)
end
end Go.Hw
namespace Go.Hw
open Go.ChangeShapes Go.RowKit Go.WideShapes
section
variable {H : Type} {enc : TypeId × Value → H} {P : Program}
theorem IU(e:laidOutB P=true){W f:World}(g:Below W.heap.size W f):∀{a:List TypeId}{vs:List Value}{ds:List (DataW H)}{ps:List MemPlace},(∀t∈a,P.readableRec t=true/\t<P.types.size)->(∀x∈ps,x.block<W.heap.size)->
  DataW.TrodAll enc P W 0 (fun _=>true) true a vs ds ps->DataW.TrodAll enc P f 0 (fun b=>decide (b<W.heap.size)) true a vs ds ps
 |[],vs,ds,ps,_,_,h=>by
  obtain⟨rfl,rfl,rfl⟩:=trodAll_nil h;exact trodAll_mk0
 |t::a,vs,ds,ps,hr,hlt,h=>by
  obtain⟨v,i,d,j,p,q,rfl,rfl,rfl,h1,h2⟩:=trodAll_cons h;have h3:=Below.trod e (hr t (by simp)).1 (hr t (by simp)).2 h1 g (fun x c=>hlt x (by simp[c]));exact trodAll_cons_mk h3 (IU e g (fun u k=>hr u (by simp[k])) (fun x c=>hlt x (by simp[c])) h2)
theorem ZC{s:ChangeSpec}{f:Func}{W z:World}{args:Array Value}{b D:List (DataW H)}{a:List MemPlace}{t:TypeId}(E:laidOutB P=true)(A:s.vars=[])(m:DataW.Whole enc P f.params.toList s.vars false W args.toList b D a)(B:Below W.heap.size W z)(e:∀t∈f.params.toList,P.readableRec t=true/\t<P.types.size)(n:f.resultTypes=#[t])(g:P.underlying t=some .bool)(k:∀xs:List (DataW H),xs.length=f.params.toList.length->(s.fn H xs).results=[.lit (.bool true)])(i:∀xs:List (DataW H),xs.length=f.params.toList.length->(s.fn H xs).args=xs)(j:∀xs:List (DataW H),xs.length=f.params.toList.length->(s.fn H xs).vars=[]):
  s.post enc P f false true false false W args (.bool true) z:=by
 have o:=m;have r:∀x∈a,x.block<W.heap.size:=fun x u=>m.lt x u;obtain⟨p,q,hA,C,rfl,F,G⟩:=m;have c:b.length=f.params.toList.length:=by
  have:∀{l:List TypeId}{w:List Value}{b:List (DataW H)}{y:List MemPlace},DataW.TrodAll enc P W 0 (fun _=>true) true l w b y->b.length=l.length:=by
   intro l;induction l with
   |nil=>intro w b y h;obtain⟨rfl,rfl,rfl⟩:=trodAll_nil h;rfl
   |cons t l ih=>intro w b y h;obtain⟨v,I,d,J,p,q,rfl,rfl,rfl,h1,h2⟩:=trodAll_cons h;simp[ih h2]
  exact this hA
 rw[A]at C;obtain⟨rfl,rfl⟩:=trodVars_none C;refine⟨b,[],_,[],p,[],o,?_,?_,?_,B.frame _,fun h=>by cases h⟩
 ·rw[kZ,k b c,n];exact trodAll_cons_mk (shut_bool g _) trodAll_mk0
 ·rw[kZ,i b c];exact IU E B e (fun x u=>r x (by simp[u])) hA
 ·rw[kZ,j b c,A];exact rfl
end
end Go.Hw
namespace Go.Hw
open Go.RowKit
def eD(T:Array Value):List (Nat×Nat)->(Nat->Value)->Array Value
 |[],_=>T
 |s::r,X=>(eD T r X).setIfInBounds s.1 (X s.2)
def cC(X:Nat->Value)(i:Nat)(y:Value)(j:Nat):Value:=if j=i then y else X j
theorem wF{n i:Nat}(h:(Array.replicate n false).getD i false=true):False:=by
 simp only[rS,Array.getElem?_replicate]at h;split at h <;> cases h
def uE(md:Region.Mode)(ops:Array Oper):Bool:=(List.range ops.size).all fun i=>((ops[i]?).map (·.after.all fun e=>!Region.binds md e||decide (e.on<i))).getD true
theorem IV{md:Region.Mode}{ops:Array Oper}{L:Array Bool}(s:L.size=ops.size)(l:uE md ops=true)(m:Region.ready md ops L=[]):∀n i,i<n->i<ops.size->L.getD i false=true:=by
 intro n;induction n with
 |zero=>intro i h;omega
 |succ n ih=>
  intro i hi a;by_cases d:i<n
  ·exact ih i d a
  ·cases j:L.getD i false with
   |true=>rfl
   |false=>
    have b:i∈Region.ready md ops L:=by
     unfold Region.ready;rw[List.mem_filter];refine⟨by simpa using a,?_⟩;have f:L.getD i true=false:=by
      have o:i<L.size:=by omega
      simp[Array.getD,o]at j⊢;exact j
     simp only[f,Bool.not_false,Bool.true_and];have k:ops[i]?=some ops[i]:=Array.getElem?_eq_getElem a;rw[k];simp only[Option.map_some,Option.getD_some,Array.all_eq_true'];intro e p;have c:=nL.1 l i (by simpa using a);rw[k]at c;simp only[Option.map_some,Option.getD_some,Array.all_eq_true']at c;have g:=c e p;cases q:Region.binds md e with
     |false=>simp
     |true=>
      have r:e.on<i:=by simpa[q]using g
      have:=ih e.on (by omega) (by omega);simp[this]
    rw[m]at b;cases b
theorem ZD{P:Program}{md:Region.Mode}{ops:Array Oper}{Q:Exit->Act->World->Prop}(c:Array Bool->Act->World->Prop)(n:uE md ops=true)(e:∀L a w i,L.size=ops.size->c L a w->i∈Region.ready md ops L->wpOp P ops Q i (fun l m=>c (L.setIfInBounds i true) l m) a w)(d:∀L a w,c L a w->(∀i,i<ops.size->L.getD i false=true)->Q .normal a w):
  ∀b L a w,L.size=ops.size->qT L<=b->c L a w->wpAny P md ops Q b L a w:=by
 intro b;induction b with
 |zero=>
  intro L a w k p hi;have g:Region.ready md ops L=[]:=by
   cases g:Region.ready md ops L with
   |nil=>rfl
   |cons j t=>
    have:=vB (oS (md:=md) (ops:=ops) (L:=L) (i:=j) (by rw[g];simp)).2.1;omega
  exact⟨g,d L a w hi (fun i f=>IV k n g (i+1) i (by omega) f)⟩
 |succ b ih=>
  intro L a w k p hi;refine⟨fun g=>d L a w hi (fun i f=>IV k n g (i+1) i (by omega) f),fun i o=>?_⟩;refine wpOp_mono (fun l m h=>ih _ l m (by simpa using k) ?_ h) (e L a w i k hi o);have:=vB (oS o).2.1;omega
theorem IW{P:Program}{id:Nat}{Q:Exit->Act->World->Prop}{a:Act}{w:World}{l:List Oper}(b:Array Bool->Act->World->Prop)(g:P.follows .mixedOrders=true)(h:uE .any l.toArray=true)(h0:b (Array.replicate l.toArray.size false) a w.drew)(c:∀L a w i,b L a w->i<l.toArray.size->(∀o,l.toArray[i]?=some o->∀e∈o.after,Region.binds .any e=true->L.getD e.on false=true)->L.getD i true=false->wpOp P l.toArray Q i (fun j k=>b (L.setIfInBounds i true) j k) a w)(d:∀L a w,b L a w->(∀i,i<l.toArray.size->L.getD i false=true)->Q .normal a w):(Code.region id l.toArray true).wp P Q a w:=
 wp_region_any g (ZD b h (fun L a w i _ hi f=>c L a w i hi (oS f).1 (oS f).2.2 (oS f).2.1) d _ _ _ _ (by simp) (by rw[DO];exact aC _) h0)
theorem aDr{P:Program}{id:Nat}{Q:Exit->Act->World->Prop}{T:Array Value}{w:World}{l:List Oper}(b:List (Nat×Nat))(R:Array Bool->(Nat->Value)->World->Prop)(f:P.follows .mixedOrders=true)(g:uE .any l.toArray=true)(h0:T=eD T b (fun _=>undef))(j:R (Array.replicate l.toArray.size false) (fun _=>undef) w.drew)(c:∀L X w i,R L X w->i<l.toArray.size->(∀o,l.toArray[i]?=some o->∀e∈o.after,Region.binds .any e=true->L.getD e.on false=true)->L.getD i true=false->wpOp P l.toArray Q i (fun k m=>∃X,k=⟨eD T b X,[]⟩/\R (L.setIfInBounds i true) X m) ⟨eD T b X,[]⟩ w)(d:∀L X w,R L X w->(∀i,i<l.toArray.size->L.getD i false=true)->Q .normal ⟨eD T b X,[]⟩ w):(Code.region id l.toArray true).wp P Q ⟨T,[]⟩ w:=
 IW (fun L a w=>∃X,a=⟨eD T b X,[]⟩/\R L X w) f g ⟨_,by rw[<-h0],j⟩ (fun L a w i⟨X,e,h⟩ hi hd hn=>by subst e;exact c L X w i h hi hd hn) (fun L a w⟨X,e,h⟩ ha=>by subst e;exact d L X w h ha)
theorem IX{P:Program}{id:Nat}{Q:Exit->Act->World->Prop}{T:Array Value}{w:World}{l:List Oper}(b:List (Nat×Nat))(f:Nat->Value)(R:Array Bool->(Nat->Value)->World->Prop)(g:P.follows .mixedOrders=true)(j:uE .any l.toArray=true)(h0:T=eD T b f)(k:R (Array.replicate l.toArray.size false) f w.drew)(c:∀L X w i,R L X w->i<l.toArray.size->(∀o,l.toArray[i]?=some o->∀e∈o.after,Region.binds .any e=true->L.getD e.on false=true)->L.getD i true=false->wpOp P l.toArray Q i (fun m n=>∃X,m=⟨eD T b X,[]⟩/\R (L.setIfInBounds i true) X n) ⟨eD T b X,[]⟩ w)(d:∀L X w,R L X w->(∀i,i<l.toArray.size->L.getD i false=true)->Q .normal ⟨eD T b X,[]⟩ w):(Code.region id l.toArray true).wp P Q ⟨T,[]⟩ w:=
 IW (fun L a w=>∃X,a=⟨eD T b X,[]⟩/\R L X w) g j ⟨_,by rw[<-h0],k⟩ (fun L a w i⟨X,e,h⟩ hi hd hn=>by subst e;exact c L X w i h hi hd hn) (fun L a w⟨X,e,h⟩ ha=>by subst e;exact d L X w h ha)
end Go.Hw
namespace Go.Hw
open Go.RowKit
def wI(e:TypeId)(v:Value)(n:Nat)(w w':World):Prop:=∀u j ys,w.ownsRow 0 e 1 u j ys->(∀k,u.ownBlock=some k->v.ownBlock=some k->j<=n)->w'.ownsRow 0 e 1 u j ys
theorem C0{l m:List Value}{x:Value}{n j:Nat}{a:List Value}(d:n<l.length)(b:m=l.take n++[x]++l.drop (n+1))(c:j<=n)(h:l.take j=a):m.take j=a:=by
 subst b;rw[jH,List.take_append_of_le_length (by simp;omega),List.take_take,Nat.min_eq_left c,h]
section
variable {P : Program}
theorem C1(w:World)(t R e:TypeId)(i:TypeInfo)(z:Value)(c:Nat)(T:P.underlying t=some (.slice e))(hi:P.info? e=some i)(Y:i.zero=some z)(b:i.size=1)(I:i.bytes=c)(J:z.cells.size=1)(v:Value)(n:Nat)(xs:List Value)(f:w.ownsRow 0 e 1 v n xs)(a:Addr)(x:Value)(d:∀j u,[x][j]?=some u->w.cell? (a.add j)=some u)(h1:x.oneCell'=true)(h63:n+1<=maxLen)(h:(n+1)*c<=140737488355328):
  ∃v' H,(Builtin.append_ #[t,t] R #[v,.slice (some a) 1 1]).run P w= .ok v' H/\H.ownsRow 0 e 1 v' (n+1) (xs++[x])/\w.grownBy H v.ownBlock/\(v'.ownBlock=v.ownBlock∨v'.ownBlock=some w.heap.size)/\wI e v n w H:=by
 have K:∀u∈[x],u.oneCell'=true:=fun u m=>by simp at m;subst m;exact h1
 obtain⟨v',H,L,h2,h3,h4,h5⟩:=run_append_own_at (P:=P) w 0 t R e i z 1 c T hi Y b I J (by decide) v n xs f a 1 1 [x] rfl d K h63 h (dM _);refine⟨v',H,L,h2,h3,h5,?_⟩;intro u j ys m r;have aa:xs.length=n:=by simpa using f.1
 rcases f.2 with⟨rfl,_⟩|⟨g,o,l,rfl,hb,S,ab,ac,U,ad⟩
 ·exact cQ m (aN.of_grown h3) (fun k _ e=>by cases e)
 ·have Z:l.size=o:=by simpa using U
  by_cases E:n+1<=o
  ·have V:∀j,j<[x].length->(w.cell? ⟨g,0+n*i.size+j,none⟩).isSome=true:=fun j r=>by
    have r:j=0:=by simpa using r
    subst r;have:0+n*i.size+0<l.size:=by rw[b];omega
    simp[World.cell?,S,b];omega
   have W:∀j,j<[x].length->w.frozen? ⟨g,0+n*i.size+j,none⟩=false:=fun j r=>by simp[World.frozen?,S]
   have q:=run_append_room_cells (P:=P) w t R e i T hi g 0 n o a 1 1 [x] (by rw[b];rfl) d K E V W;rw[b,Nat.mul_one,Nat.zero_add]at q;obtain⟨s,p,ec⟩:=wE [x] n w l S (by simp;omega);rw[q]at L;cases L;rcases m.2 with⟨rfl,h0⟩|⟨M,y,N,rfl,O,F,A,B,C,D⟩
   ·exact⟨m.1,.inl ⟨rfl,h0⟩⟩
   ·by_cases Q:M=g
    ·subst Q;rw[S]at F;cases F;have ae:=r M rfl rfl;have X:s.size=l.size:=by
      have:=aQ List.length ec;simp at this;omega
     refine⟨m.1,.inr ⟨M,y,s,rfl,O,p.row,A,B,by rw[X];exact C,?_⟩⟩;exact C0 (by simpa using(show n<l.size by omega)) (by simpa using ec) (by omega) D
    ·exact⟨m.1,.inr ⟨M,y,N,rfl,O,(p.other M Q).trans F,A,B,C,D⟩⟩
  ·have G:∀j u,xs[j]?=some u->w.cell? ((⟨g,0,none⟩:Addr).add j)=some u:=fun j u r=>f.cells (g:=g) rfl j u r;obtain⟨v2,w2,q,h22,h32⟩:=run_append_arg_grows (P:=P) w t R e i z 1 c T hi Y b I J (by decide) ⟨g,0,none⟩ n o xs (by omega) G a 1 1 [x] rfl d (by omega) h63 h;rw[q]at L;cases L;exact cQ m (aN.of_grown h32) (fun k _ e=>by cases e)
theorem nF{ops:Array Oper}{rest:List Oper}{o:Oper}{a:Act}{w:World}{Q:Exit->Act->World->Prop}(m:o.guard=none)(s x:Operand)(t:TypeId)(y:o.op= .call {callee:= .builtin .append,args:=#[s,x],argTypes:=#[t,t]})(e:TypeId)(i:TypeInfo)(z:Value)(b:Nat)(A:P.underlying t=some (.slice e))(hi:P.info? e=some i)(B:i.zero=some z)(f:i.size=1)(p:i.bytes=b)(q:z.cells.size=1)(v:Value)(n:Nat)(xs:List Value)(C:a.eval s=v)(l:w.ownsRow 0 e 1 v n xs)(r:Addr)(c:Value)(D:a.eval x= .slice (some r) 1 1)(g:∀j u,[c][j]?=some u->w.cell? (r.add j)=some u)(h1:c.oneCell'=true)(h63:n+1<=maxLen)(d:(n+1)*b<=140737488355328)(h:∀v' k,k.ownsRow 0 e 1 v' (n+1) (xs++[c])->w.grownBy k v.ownBlock->(v'.ownBlock=v.ownBlock∨v'.ownBlock=some w.heap.size)->wI e v n w k->wpList P ops Q rest (a.put o.dst v') k):
  wpList P ops Q (o::rest) a w:=by
 refine wpList_plain m fun K E=>?_;obtain⟨v',k,F,h2,h3,h4,h5⟩:=C1 (P:=P) w t o.type e i z b A hi B f p q v n xs l r c g h1 h63 d;unfold Oper.wp execOp;simp only[y,resolve,invoke,builtin,Sem.run_bind,Sem.run_pure,Result.andThen_ok,List.map_toArray,jX,List.map_nil,C,D,F];exact E _ _ (h v' k h2 h3 h4 h5)
end
theorem C3{w:World}{e:TypeId}{v:Value}{n:Nat}{xs:List Value}(h:w.ownsRow 0 e 1 v n xs){i:Nat}(hi:i<n):
  ∃g b a,v= .slice (some ⟨g,0,none⟩) n b/\w.heap[g]?=some (.cells a e (0,0))/\i<a.size/\∀x f,aI w g e (a.setIfInBounds i x) f->f.ownsRow 0 e 1 v n (xs.set i x):=by
 rcases h.2 with⟨rfl,h0⟩|⟨g,b,a,rfl,m,o,j,k,c,d⟩
 ·omega
 ·have l:a.size=b:=by simpa using c
  refine⟨g,b,a,rfl,o,by omega,fun x f p=>⟨by simpa using h.1,.inr ⟨g,b,_,rfl,m,p.row,j,k,by simpa using c,?_⟩⟩⟩;rw[Nat.mul_one]at d⊢;rw[Array.toList_setIfInBounds,List.take_set,d]
theorem C4{m:Value}{xs:List Value}{k n:Nat}(a:k<n)(b:xs.length=n):(List.replicate k m++xs.drop k).set k m=List.replicate (k+1) m++xs.drop (k+1):=by
 rw[List.set_append_right _ _ (by simp)];simp only[List.length_replicate,Nat.sub_self];rw[eE (by omega:k<xs.length),eM,List.replicate_succ',jH];rfl
end Go.Hw

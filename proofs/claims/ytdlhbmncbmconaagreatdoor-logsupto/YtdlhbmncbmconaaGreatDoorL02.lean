/- Pressed by program out of Wa Wb Wc Wd Wo Wl Ws. -/
import Derived.WalkKit
import Derived.WalkSpells
import Derived.WalkLawsBesides
import Derived.BigQuiet
import Derived.Maps.AppendAt
import Derived.RangeFuncWrites
import Derived.StillTail
import Derived.RegionTactic
import Derived.Lib.AppendStr
import Derived.Tactics
import Derived.ArgAppend
import Derived.Lib.SliceRun
import Derived.Laws.AppendOwnNone
import Derived.ProofKit
import Derived.OpenShut
import Derived.Carry
import Derived.MakeChecks
import Derived.Below
namespace Go.Hw
open Go.RowKit
structure Put (w:World) (g:Nat) (t:TypeId) (cs:Array Value) (w2:World):Prop where
 row:w2.heap[g]?=some (.cells cs t (0,0))
 other:∀ k,k ≠ g->w2.heap[k]?=w.heap[k]?
 size:w2.heap.size=w.heap.size
 os:w2.os=w.os
 tape:w2.tape=w.tape
 output:w2.output=w.output
theorem Put.below {w w2:World} {g:Nat} {t:TypeId} {cs:Array Value} (h:Put w g t cs w2) {B:Nat} (hB:B<=g):Below B w w2:=
 ⟨h.os,h.tape,h.output,by rw [h.size];exact Nat.le_refl _,fun k hk=>h.other k (by omega)⟩
theorem put_setRow {w:World} {g:Nat} {t:TypeId} {old:Array Value} (hg:w.heap[g]?=some (.cells old t (0,0))) (cs:Array Value):Put w g t cs (w.setRow g cs) where
 row:=setRow_heap w g old cs t (0,0) hg
 other k hk:=setRow_other w g k cs hk
 size:=by simp
 os:=rfl
 tape:=rfl
 output:=rfl
section
variable {P:Program}
theorem wpList_store_rowP {ops:Array Oper} {rest:List Oper} {o:Oper} {a:Act} {w:World} {Q:Exit->Act->World->Prop} (hgd:o.guard=none) (ty:TypeId) (x y:Operand) (ho:o.op=.store ty x y)
  (hd:o.dst=none) (g:Nat) (cells:Array Value) (hx:a.eval x=.pointer (some ⟨g,0,none⟩)) (hy:a.eval y=.agg cells)
  (t:TypeId) (old:Array Value) (hg:w.heap[g]?=some (.cells old t (0,0))) (hi:(P.info? ty).map (·.size)=some cells.size)
  (hold:old.size=cells.size) (h1:cells.toList.all (·.oneCell')=true)
  (h:∀ w2,Put w g t cells w2->wpList P ops Q rest a w2):wpList P ops Q (o :: rest) a w:=
 wpList_store_row hgd ty x y ho g cells hx hy t old hg hi hold (by rw [<-Array.all_toList];exact h1) (by rw [hd];exact h _ (put_setRow hg cells))
theorem run_storeVar_field (w:World) (g i:Nat) (t ty:TypeId) (old:Array Value) (v:Value) (hg:w.heap[g]?=some (.cells old t (0,0))) (hi:(P.info? ty).map (·.size)=some 1)
  (hlt:i < old.size) (h1:v.oneCell'=true):(storeVar ty ⟨g,i,none⟩ v).run P w=.ok () (w.setRow g (old.setIfInBounds i v)):=by
 have hc:v.cells=#[v]:=by cases v<;>first | rfl | cases h1
 have hadd:(⟨g,i,none⟩:Addr).add 0=⟨g,i,none⟩:=by unfold Addr.add;split<;>simp_all
 have hcell:w.cell? ⟨g,i,none⟩=some old[i]:=by simp [World.cell?,hg,hlt]
 have hfro:w.frozen? ⟨g,i,none⟩=false:=by simp [World.frozen?,hg]
 have hst:(store ((⟨g,i,none⟩:Addr).add 0) v).run P w=.ok () (w.setRow g (old.setIfInBounds i v)):=by
  rw [hadd,run_store P w _ v _ h1,hcell]
  simp [hfro,setCell_eq_setRow w g i old t (0,0) v hg]
 cases hq:P.info? ty with
 | none=>simp [hq] at hi
 | some j=>
  have hs:j.size=1:=by simpa [hq] using hi
  simp [storeVar,sizeOf,typeInfo,hq,hc,hs,storeCells,Sem.run_bind,hst]
theorem wpList_store_fieldP {ops:Array Oper} {rest:List Oper} {o:Oper} {a:Act} {w:World} {Q:Exit->Act->World->Prop} (hgd:o.guard=none) (ty:TypeId) (x y:Operand) (ho:o.op=.store ty x y)
  (hd:o.dst=none) (g i:Nat) (v:Value) (hx:a.eval x=.pointer (some ⟨g,i,none⟩)) (hy:a.eval y=v)
  (t:TypeId) (old new:Array Value) (hg:w.heap[g]?=some (.cells old t (0,0))) (hi:(P.info? ty).map (·.size)=some 1)
  (hlt:i < old.size) (h1:v.oneCell'=true) (hn:old.setIfInBounds i v=new)
  (h:∀ w2,Put w g t new w2->wpList P ops Q rest a w2):wpList P ops Q (o :: rest) a w:=by
 subst hn
 refine wpList_plain hgd fun _ hK=>?_
 unfold Oper.wp execOp
 simp only [ho,hx,hy,Instr.storeAt,Instr.sureAddr,Sem.run_bind,Sem.run_pure,Result.andThen_ok,run_storeVar_field w g i t ty old v hg hi hlt h1]
 exact hK (a.put o.dst undef) _ (by rw [hd];exact h _ (put_setRow hg _))
end
end Go.Hw
namespace Go.Hw
open Go.RowKit
theorem results_row3 {P:Program} {fn:Func} {p a b:Tmp} {ty:TypeId} (h:fn.results=#[.cell p ty,.tmp a,.tmp b]) (tmps:Array Value) (w:World) (g:Nat) (t:TypeId) (cs:Array Value) (fr:Nat × Nat) (d:TypeDesc)
  (hp:tmps.getD p undef=.pointer (some ⟨g,0,none⟩)) (hg:w.heap[g]?=some (.cells cs t fr))
  (hu:P.underlying ty=some d) (hd:(match d with | .struct _ | .array _ _=>true | _=>false)=true) (hi:(P.info? ty).map (·.size)=some cs.size) :
  (results fn tmps).run P w=.ok (.tuple #[.agg cs,tmps.getD a undef,tmps.getD b undef]) w:=by
 have hl:=run_loadVar_row (P:=P) w g t ty cs fr d hg hu hd hi
 have hp':tmps[p]?.getD undef=.pointer (some ⟨g,0,none⟩):=by simpa using hp
 simp [results,h,hp',asAddr,hl]
end Go.Hw
namespace Go.Hw
open Go.RowKit
theorem setRow_self {w:World} {g:Nat} {cs:Array Value} {t:TypeId} {fr:Nat × Nat} (hg:w.heap[g]?=some (.cells cs t fr)):w.setRow g cs=w:=by
 have:(w.setRow g cs).heap=w.heap:=by
  refine Array.ext_getElem? fun i=>?_
  by_cases h:i=g
  ·rw [h,setRow_heap w g cs cs t fr hg,hg]
  ·exact setRow_other w g i cs h
 have h2:w.setRow g cs={ w with heap:=(w.setRow g cs).heap }:=rfl
 rw [h2,this]
theorem quiet_store_self {P:Program} {C:World->Prop} {o:Oper} {a:Act} {w:World} (ty:TypeId) (x y:Operand) (ho:o.op=.store ty x y)
  (g:Nat) (cells:Array Value) (hx:a.eval x=.pointer (some ⟨g,0,none⟩)) (hy:a.eval y=.agg cells)
  (t:TypeId) (hg:w.heap[g]?=some (.cells cells t (0,0))) (hi:(P.info? ty).map (·.size)=some cells.size) (h1:cells.toList.all (·.oneCell')=true) :
  o.quietAt P a C w undef:=by
 unfold Oper.quietAt execOp
 simp only [ho,hx,hy,Instr.storeAt,Instr.sureAddr,Sem.run_bind,Sem.run_pure,Result.andThen_ok,run_storeVar_row w g t ty cells cells hg hi rfl (by rw [<-Array.all_toList];exact h1),setRow_self hg]
 exact ⟨rfl,rfl⟩
theorem still_load_row {P:Program} {ops:Array Oper} {w:World} {Q:Act->Prop} {rest:List Oper} {o:Oper} {a:Act} (hw:Region.wanted o (yielded ops a.tmps)=true) (ty:TypeId) (x:Operand) (ho:o.op=.load ty x)
  (g:Nat) (hx:a.eval x=.pointer (some ⟨g,0,none⟩)) (t:TypeId) (cs:Array Value) (fr:Nat × Nat) (d:TypeDesc) (hg:w.heap[g]?=some (.cells cs t fr))
  (hu:P.underlying ty=some d) (hd:(match d with | .struct _ | .array _ _=>true | _=>false)=true) (hi:(P.info? ty).map (·.size)=some cs.size)
  (h:∀ K:Act->Prop,(∀ a,wpStill P ops w Q rest a->K a)->K (a.put o.dst (.agg cs))):wpStill P ops w Q (o :: rest) a:=by
 unfold wpStill
 rw [if_pos hw]
 unfold Oper.still execOp
 simp only [ho,hx,Instr.loadAt,Instr.sureAddr,Sem.run_bind,Sem.run_pure,Result.andThen_ok,run_loadVar_row w g t ty cs fr d hg hu hd hi]
 exact ⟨rfl,h _ fun _ h=>h⟩
end Go.Hw
namespace Go.Hw
open Go.RowKit
structure Kept (S:Nat->Prop) (w w':World):Prop where
 os:w'.os=w.os
 tape:w'.tape=w.tape
 output:w'.output=w.output
 size:w.heap.size<=w'.heap.size
 block:∀ k,k < w.heap.size->¬ S k->w'.heap[k]?=w.heap[k]?
theorem Kept.refl (S:Nat->Prop) (w:World):Kept S w w:=⟨rfl,rfl,rfl,Nat.le_refl _,fun _ _ _=>rfl⟩
theorem Kept.of_below {S:Nat->Prop} {w w':World} (h:Below w.heap.size w w'):Kept S w w':=⟨h.os,h.tape,h.output,h.size,fun k hk _=>h.block k hk⟩
theorem Kept.trans {S T:Nat->Prop} {a b c:World} (h:Kept S a b) (k:Kept T b c) (hT:∀ i,i < a.heap.size->T i->S i):Kept S a c:=
 ⟨k.os.trans h.os,k.tape.trans h.tape,k.output.trans h.output,Nat.le_trans h.size k.size,fun i hi hs=>(k.block i (Nat.lt_of_lt_of_le hi h.size) (fun t=>hs (hT i hi t))).trans (h.block i hi hs)⟩
theorem Kept.mono {S T:Nat->Prop} {a b:World} (h:Kept S a b) (hT:∀ i,i < a.heap.size->S i->T i):Kept T a b:=
 ⟨h.os,h.tape,h.output,h.size,fun i hi hs=>h.block i hi (fun s=>hs (hT i hi s))⟩
theorem Kept.next {S:Nat->Prop} {a b c:World} (h:Kept S a b) (k:Below b.heap.size b c):Kept S a c:=h.trans (Kept.of_below (S:=fun _=>False) k) (fun _ _ f=>f.elim)
theorem Kept.alloc {S:Nat->Prop} {a b:World} (h:Kept S a b) (o:Obj):Kept S a (b.alloc o):=h.next ((Below.refl _ _).alloc (Nat.le_refl _) o)
theorem Kept.of_grown {w w':World} {row:Option Nat} (hg:w.grownBy w' row):Kept (fun k=>some k=row) w w':=⟨hg.os,hg.tape,hg.output,hg.size,fun k hk hs=>hg.block k hk hs⟩
theorem Put.kept {w w2:World} {g:Nat} {t:TypeId} {cs:Array Value} (h:Put w g t cs w2):Kept (fun k=>k=g) w w2:=
 ⟨h.os,h.tape,h.output,by rw [h.size];exact Nat.le_refl _,fun k _ hk=>h.other k hk⟩
theorem Kept.below {S:Nat->Prop} {w w':World} (h:Kept S w w') {B:Nat} (hS:∀ k,k < w.heap.size->S k->B<=k) (hB:B<=w.heap.size):Below B w w':=
 ⟨h.os,h.tape,h.output,h.size,fun k hk=>h.block k (by omega) (fun s=>by have:=hS k (by omega) s;omega)⟩
theorem ownsRow_keptS {S:Nat->Prop} {w w':World} {base:Nat} {e:TypeId} {size:Nat} {v:Value} {n:Nat} {xs:List Value} (h:w.ownsRow base e size v n xs) (hk:Kept S w w') (hS:∀ k,v.ownBlock=some k->¬ S k):w'.ownsRow base e size v n xs:=by
 refine ⟨h.1,?_⟩
 rcases h.2 with h | ⟨g,cap,cur,rfl,hb,hg,rest⟩
 ·exact .inl h
 ·exact .inr ⟨g,cap,cur,rfl,hb,(hk.block g (Array.getElem?_eq_some_iff.1 hg).1 (hS g rfl)).trans hg,rest⟩
theorem ownsRow_cells {w:World} {base:Nat} {e:TypeId} {size:Nat} {v:Value} {n:Nat} {xs:List Value} (h:w.ownsRow base e size v n xs) {k:Nat} (hk:v.ownBlock=some k):∃ cur,w.heap[k]?=some (.cells cur e (0,0)):=by
 rcases h.2 with ⟨rfl,_⟩ | ⟨g,cap,cur,rfl,_,hg,_⟩
 ·cases hk
 ·cases hk
  exact ⟨cur,hg⟩
end Go.Hw
namespace Go.Hw
open Go.RowKit
theorem results_row2 {P:Program} {fn:Func} {p a:Tmp} {ty:TypeId} (h:fn.results=#[.cell p ty,.tmp a]) (tmps:Array Value) (w:World) (g:Nat) (t:TypeId) (cs:Array Value) (fr:Nat × Nat) (d:TypeDesc)
  (hp:tmps.getD p undef=.pointer (some ⟨g,0,none⟩)) (hg:w.heap[g]?=some (.cells cs t fr))
  (hu:P.underlying ty=some d) (hd:(match d with | .struct _ | .array _ _=>true | _=>false)=true) (hi:(P.info? ty).map (·.size)=some cs.size) :
  (results fn tmps).run P w=.ok (.tuple #[.agg cs,tmps.getD a undef]) w:=by
 have hl:=run_loadVar_row (P:=P) w g t ty cs fr d hg hu hd hi
 have hp':tmps[p]?.getD undef=.pointer (some ⟨g,0,none⟩):=by simpa using hp
 simp [results,h,hp',asAddr,hl]
end Go.Hw
namespace Go.Hw
theorem wpAny_tail {P:Program} {md:Region.Mode} {l:List Oper} {Q:Exit->Act->World->Prop} {fuel:Nat} {listed:Array Bool} {a:Act} {w:World} (k:Nat) (hf:fuel=(l.drop k).length)
  (hB:Region.seqB md l.toArray (l.drop k).length k listed=true) (h:wpList P l.toArray Q (l.drop k) a w):wpAny P md l.toArray Q fuel listed a w:=by
 subst hf
 exact wpAny_of_seq (l.drop k) k listed a w (fun j=>by simp [List.getElem?_drop]) hB h
end Go.Hw
namespace Go.Hw
section
variable {P:Program} {md:Region.Mode} {ops:Array Oper} {Q:Exit->Act->World->Prop}
theorem ready_deps {L:Array Bool} {i:Nat} (h:i ∈ Region.ready md ops L):i < ops.size/\L.getD i true=false/\∀ o,ops[i]?=some o->∀ e ∈ o.after,Region.binds md e=true->L.getD e.on false=true:=by
 unfold Region.ready at h
 rw [List.mem_filter] at h
 obtain ⟨h1,h2⟩:=h
 simp only [Bool.and_eq_true,Bool.not_eq_true'] at h2
 refine ⟨by simpa using h1,h2.1,fun o ho e he hb=>?_⟩
 have h3:=h2.2
 rw [ho] at h3
 simp only [Option.map_some,Option.getD_some,Array.all_eq_true'] at h3
 have:=h3 e he
 simpa [hb] using this
def forward (ops:Array Oper):Bool:=(List.range ops.size).all fun i=>((ops[i]?).map (·.after.all fun e=>decide (e.on < i))).getD true
theorem all_listed {L:Array Bool} (hs:L.size=ops.size) (hf:forward ops=true) (hr:Region.ready md ops L=[]):∀ n i,i < n->i < ops.size->L.getD i false=true:=by
 intro n
 induction n with
 | zero=>intro i h;omega
 | succ n ih=>
  intro i hi hlt
  by_cases hin:i < n
  ·exact ih i hin hlt
  ·cases hg:L.getD i false with
   | true=>rfl
   | false=>
    have hmem:i ∈ Region.ready md ops L:=by
     unfold Region.ready
     rw [List.mem_filter]
     refine ⟨by simpa using hlt,?_⟩
     have hgt:L.getD i true=false:=by
      have hl:i < L.size:=by omega
      simp [Array.getD,hl] at hg ⊢
      exact hg
     simp only [hgt,Bool.not_false,Bool.true_and]
     have ho:ops[i]?=some ops[i]:=Array.getElem?_eq_getElem hlt
     rw [ho]
     simp only [Option.map_some,Option.getD_some,Array.all_eq_true']
     intro e he
     have hfi:=List.all_eq_true.1 hf i (by simpa using hlt)
     rw [ho] at hfi
     simp only [Option.map_some,Option.getD_some,Array.all_eq_true'] at hfi
     have hei:=hfi e he
     have hon:e.on < i:=by simpa using hei
     have:=ih e.on (by omega) (by omega)
     simp [this]
    rw [hr] at hmem
    cases hmem
def left (L:Array Bool):Nat:=(L.toList.filter (fun b=>!b)).length
theorem left_set {L:Array Bool} {i:Nat} (h:L.getD i true=false):left (L.setIfInBounds i true) < left L:=by
 have hi:i < L.size:=by
  rcases Nat.lt_or_ge i L.size with h' | h'
  ·exact h'
  ·simp [Array.getD,Nat.not_lt.2 h'] at h
 have hv:L.toList[i]'(by simpa using hi)=false:=by simpa [Array.getD,hi] using h
 unfold left
 rw [Array.toList_setIfInBounds]
 have key:∀ (l:List Bool) (j:Nat) (hj:j < l.length),l[j]=false->((l.set j true).filter (fun b=>!b)).length < (l.filter (fun b=>!b)).length:=by
  intro l
  induction l with
  | nil=>intro j hj;simp at hj
  | cons b t ih=>
   intro j hj hb
   cases j with
   | zero=>simp at hb;subst hb;simp
   | succ j=>
    have:=ih j (by simpa using hj) (by simpa using hb)
    cases b<;>simp at this ⊢<;>omega
 exact key L.toList i (by simpa using hi) hv
theorem wpAny_inv (Inv:Array Bool->Act->World->Prop) (hf:forward ops=true)
  (hstep:∀ L a w i,L.size=ops.size->Inv L a w->i ∈ Region.ready md ops L->wpOp P ops Q i (fun a' w'=>Inv (L.setIfInBounds i true) a' w') a w)
  (hend:∀ L a w,Inv L a w->(∀ i,i < ops.size->L.getD i false=true)->Q .normal a w) :
  ∀ fuel L a w,L.size=ops.size->left L<=fuel->Inv L a w->wpAny P md ops Q fuel L a w:=by
 intro fuel
 induction fuel with
 | zero=>
  intro L a w hs hl hi
  have hr:Region.ready md ops L=[]:=by
   cases hr:Region.ready md ops L with
   | nil=>rfl
   | cons j t=>
    have:=left_set (ready_deps (md:=md) (ops:=ops) (L:=L) (i:=j) (by rw [hr];simp)).2.1
    omega
  exact ⟨hr,hend L a w hi (fun i hlt=>all_listed hs hf hr (i+1) i (by omega) hlt)⟩
 | succ fuel ih=>
  intro L a w hs hl hi
  refine ⟨fun hr=>hend L a w hi (fun i hlt=>all_listed hs hf hr (i+1) i (by omega) hlt),fun i hm=>?_⟩
  refine wpOp_mono (fun a' w' h=>ih _ a' w' (by simpa using hs) ?_ h) (hstep L a w i hs hi hm)
  have:=left_set (ready_deps hm).2.1
  omega
theorem left_none (n:Nat):left (Array.replicate n false)=n:=by simp [left]
end
theorem region_inv {P:Program} {id:Nat} {Q:Exit->Act->World->Prop} {a:Act} {w:World} {l:List Oper} (Inv:Array Bool->Act->World->Prop) (hm:P.follows .mixedOrders=true) (hf:forward l.toArray=true)
  (h0:Inv (Array.replicate l.toArray.size false) a w.drew)
  (hstep:∀ L a w i,Inv L a w->i < l.toArray.size->(∀ o,l.toArray[i]?=some o->∀ e ∈ o.after,Region.binds .any e=true->L.getD e.on false=true)->wpOp P l.toArray Q i (fun a' w'=>Inv (L.setIfInBounds i true) a' w') a w)
  (hend:∀ L a w,Inv L a w->(∀ i,i < l.toArray.size->L.getD i false=true)->Q .normal a w):(Code.region id l.toArray true).wp P Q a w:=
 wp_region_any hm (wpAny_inv Inv hf (fun L a w i _ hi hr=>hstep L a w i hi (ready_deps hr).1 (ready_deps hr).2.2) hend _ _ _ _ (by simp) (by rw [left_none];exact Nat.le_refl _) h0)
theorem listed_set {L:Array Bool} {i j:Nat} (h:(L.setIfInBounds i true).getD j false=true):j=i∨L.getD j false=true:=by
 by_cases e:j=i
 ·exact .inl e
 ·right
  have:(L.setIfInBounds i true)[j]?=L[j]?:=by simp [Ne.symm e]
  simpa [Array.getD_eq_getD_getElem?,this] using h
end Go.Hw
namespace Go.Hw
section
variable {P:Program} (w:World)
theorem run_append_string_at (base:Nat) (t u ty e:TypeId) (i:TypeInfo) (ht:P.underlying t=some (.slice e)) (hu:P.underlying u=some .string) (hi:P.info? e=some i) (hz:i.zero=some (.int .u8 0))
  (hsize:i.size=1) (hby:i.bytes=1) (v:Value) (n:Nat) (xs:List Value) (hown:w.ownsRow base e 1 v n xs) (s:ByteArray) (h63:n+s.size<=maxLen) (hbytes:n+s.size<=140737488355328) (hbase:base<=w.heap.size) :
  ∃ v' w',(Builtin.append_ #[t,u] ty #[v,.string s]).run P w=.ok v' w'/\w'.ownsRow base e 1 v' (n+s.size) (xs ++ Lib.strCells s)/\w.grownBy w' v.ownBlock/\(∀ k,v'.ownBlock=some k->v.ownBlock=some k∨w.heap.size<=k):=by
 obtain ⟨v',w',hr,h2,h3,h4⟩:=Lib.run_append_own_string (P:=P) w base t u ty e i ht hu hi hz hsize hby v n xs hown s h63 hbytes hbase
 refine ⟨v',w',hr,h2,h3,?_⟩
 have hsmall:n+s.size<=9223372036854775807:=by simp only [maxLen] at h63;omega
 have hxl:xs.length=n:=by simpa using hown.1
 intro k hk
 rcases hown.2 with ⟨rfl,rfl⟩ | ⟨g,cap,cur,rfl,hbg,hg,hnc,hcm,hcs,htake⟩
 ·by_cases hm:s.size=0
  ·rw [h4.2 ⟨rfl,hm⟩] at hk
   cases hk
  ·have hr2:=run_append_nil_string (P:=P) w t u ty e i (.int .u8 0) ht hu hi hz s (by omega) (by omega) (by rw [hby];omega)
   rw [hr2] at hr
   cases hr
   cases hk
   exact .inr (Nat.le_refl _)
 ·by_cases hroom:n+s.size<=cap
  ·have hcs':cur.size=cap:=by simpa using hcs
   have hr2:=Lib.run_append_room_string (P:=P) w t u ty e i ht hu hi hsize g n cap cur hg s hroom (by omega)
   rw [hr2] at hr
   cases hr
   exact .inl hk
  ·have hr2:=Lib.run_append_grow_string (P:=P) w t u ty e i (.int .u8 0) ht hu hi hz ⟨g,0,none⟩ n cap xs (by rw [hsize];simpa using hxl) (hown.cells (g:=g) rfl) s (by omega) (by omega) (by rw [hby];exact growslice_fits (by omega) (by omega))
   rw [hr2] at hr
   cases hr
   cases hk
   exact .inr (Nat.le_refl _)
theorem wpList_append_string_at {ops:Array Oper} {rest:List Oper} {o:Oper} {a:Act} {Q:Exit->Act->World->Prop} (hgd:o.guard=none) (sl x:Operand) (t u:TypeId)
  (ho:o.op=.call { callee:=.builtin .append,args:=#[sl,x],argTypes:=#[t,u] })
  (base:Nat) (e:TypeId) (i:TypeInfo) (ht:P.underlying t=some (.slice e)) (hu:P.underlying u=some .string) (hi:P.info? e=some i) (hz:i.zero=some (.int .u8 0))
  (hsize:i.size=1) (hby:i.bytes=1)
  (v:Value) (n:Nat) (xs:List Value) (hs:a.eval sl=v) (hown:w.ownsRow base e 1 v n xs) (s:ByteArray) (hx:a.eval x=.string s)
  (h63:n+s.size<=maxLen) (hbytes:n+s.size<=140737488355328) (hbase:base<=w.heap.size)
  (h:∀ v' w',w'.ownsRow base e 1 v' (n+s.size) (xs ++ Lib.strCells s)->w.grownBy w' v.ownBlock->(∀ k,v'.ownBlock=some k->v.ownBlock=some k∨w.heap.size<=k)->wpList P ops Q rest (a.put o.dst v') w'):wpList P ops Q (o :: rest) a w:=by
 refine wpList_plain hgd fun K hK=>?_
 obtain ⟨v',w',hr,h2,h3,h4⟩:=run_append_string_at (P:=P) w base t u o.type e i ht hu hi hz hsize hby v n xs hown s h63 hbytes hbase
 unfold Oper.wp execOp
 simp only [ho,resolve,invoke,builtin,Sem.run_bind,Sem.run_pure,Result.andThen_ok,List.map_toArray,List.map_cons,List.map_nil,hs,hx,hr]
 exact hK _ _ (h v' w' h2 h3 h4)
end
end Go.Hw
namespace Go.Hw
open Go.RowKit
def ownsFrom (w:World) (base:Nat) (e:TypeId) (v:Value) (xs:List Value):Prop:=
 (v=.slice none 0 0/\xs=[])∨∃ g o cap cur,v=.slice (some ⟨g,o,none⟩) xs.length cap/\base<=g/\w.heap[g]?=some (.cells cur e (0,0))/\xs.length<=cap/\cap<=maxLen/\o+cap<=cur.size/\(cur.toList.drop o).take xs.length=xs
theorem ownsFrom_row {w:World} {base:Nat} {e:TypeId} {v:Value} {n:Nat} {xs:List Value} (h:w.ownsRow base e 1 v n xs):ownsFrom w base e v xs:=by
 have hn:xs.length=n:=by simpa using h.1
 rcases h.2 with ⟨rfl,h0⟩ | ⟨g,cap,cur,rfl,hb,hg,h1,h2,h3,h4⟩
 ·exact .inl ⟨rfl,List.eq_nil_of_length_eq_zero (by omega)⟩
 ·exact .inr ⟨g,0,cap,cur,by rw [hn],hb,hg,by omega,h2,by omega,by simpa [hn] using h4⟩
theorem ownsFrom_nil (w:World) (base:Nat) (e:TypeId):ownsFrom w base e (.slice none 0 0) []:=.inl ⟨rfl,rfl⟩
theorem ownsFrom_keptS {S:Nat->Prop} {w w':World} {base:Nat} {e:TypeId} {v:Value} {xs:List Value} (h:ownsFrom w base e v xs) (hk:Kept S w w') (hS:∀ k,v.ownBlock=some k->¬ S k):ownsFrom w' base e v xs:=by
 rcases h with h | ⟨g,o,cap,cur,rfl,hb,hg,rest⟩
 ·exact .inl h
 ·exact .inr ⟨g,o,cap,cur,rfl,hb,(hk.block g (Array.getElem?_eq_some_iff.1 hg).1 (hS g rfl)).trans hg,rest⟩
theorem ownsFrom_cells {w:World} {base:Nat} {e:TypeId} {v:Value} {xs:List Value} (h:ownsFrom w base e v xs) {k:Nat} (hk:v.ownBlock=some k):base<=k/\∃ cur,w.heap[k]?=some (.cells cur e (0,0)):=by
 rcases h with ⟨rfl,_⟩ | ⟨g,o,cap,cur,rfl,hb,hg,_⟩
 ·cases hk
 ·cases hk
  exact ⟨hb,cur,hg⟩
theorem ownsFrom_form {w:World} {base:Nat} {e:TypeId} {v:Value} {xs:List Value} (h:ownsFrom w base e v xs):∃ ad cap,v=.slice ad xs.length cap:=by
 rcases h with ⟨rfl,rfl⟩ | ⟨g,o,cap,cur,rfl,_⟩
 ·exact ⟨none,0,rfl⟩
 ·exact ⟨_,cap,rfl⟩
theorem drop_take_get {l xs:List Value} {o:Nat} (h:(l.drop o).take xs.length=xs) {j:Nat} {u:Value} (hj:xs[j]?=some u):l[o+j]?=some u:=by
 have hlt:=(List.getElem?_eq_some_iff.1 hj).1
 rw [<-h,List.getElem?_take,if_pos hlt,List.getElem?_drop] at hj
 exact hj
theorem ownsFrom_at {w:World} {base:Nat} {e:TypeId} {g o n cap:Nat} {xs:List Value} (h:ownsFrom w base e (.slice (some ⟨g,o,none⟩) n cap) xs) {j:Nat} {u:Value} (hj:xs[j]?=some u):w.cell? ⟨g,o+j,none⟩=some u:=by
 rcases h with ⟨hv,_⟩ | ⟨g',o',cap',cur,hv,_,hg,_,_,hc,ht⟩
 ·cases hv
 ·cases hv
  have:=drop_take_get ht hj
  simp [World.cell?,hg]
  simpa using this
theorem Put.trans {a b c:World} {g:Nat} {t:TypeId} {c1 c2:Array Value} (h:Put a g t c1 b) (k:Put b g t c2 c):Put a g t c2 c where
 row:=k.row
 other i hi:=(k.other i hi).trans (h.other i hi)
 size:=k.size.trans h.size
 os:=k.os.trans h.os
 tape:=k.tape.trans h.tape
 output:=k.output.trans h.output
theorem put_setCells {g:Nat} {t:TypeId}:∀ (vs:List Value) (o:Nat) (w:World) (cur:Array Value),w.heap[g]?=some (.cells cur t (0,0))->o+vs.length<=cur.size ->
  ∃ cur',Put w g t cur' (w.setCells g o vs)/\cur'.toList=cur.toList.take o ++ vs ++ cur.toList.drop (o+vs.length)
 | [],o,w,cur,hg,_=>⟨cur,⟨hg,fun _ _=>rfl,rfl,rfl,rfl,rfl⟩,by simp⟩
 | v :: r,o,w,cur,hg,hl=>by
  simp only [List.length_cons] at hl
  have p1:Put w g t (cur.setIfInBounds o v) (w.setCell ⟨g,o,none⟩ v):=by
   rw [setCell_eq_setRow w g o cur t (0,0) v hg]
   exact put_setRow hg _
  obtain ⟨cur',p2,e2⟩:=put_setCells r (o+1) (w.setCell ⟨g,o,none⟩ v) _ p1.row (by simp;omega)
  refine ⟨cur',p1.trans p2,?_⟩
  rw [e2]
  have hs:(cur.setIfInBounds o v).toList=cur.toList.take o ++ v :: cur.toList.drop (o+1):=by
   rw [Array.toList_setIfInBounds,List.set_eq_take_append_cons_drop,if_pos (by simpa using (show o < cur.size by omega))]
  rw [hs]
  have ho:(cur.toList.take o).length=o:=by simp;omega
  have t1:(cur.toList.take o ++ v :: cur.toList.drop (o+1)).take (o+1)=cur.toList.take o ++ [v]:=by
   rw [List.take_append,ho,List.take_of_length_le (by omega)]
   simp
  have t2:(cur.toList.take o ++ v :: cur.toList.drop (o+1)).drop (o+1+r.length)=cur.toList.drop (o+(r.length+1)):=by
   rw [List.drop_append,ho,List.drop_of_length_le (by omega),show o+1+r.length - o=r.length+1 by omega,List.drop_succ_cons,List.drop_drop]
   simp
   congr 1
   omega
  rw [t1,t2]
  simp
section
variable {P:Program}
theorem run_append_from (w:World) (base:Nat) (t ty e:TypeId) (i:TypeInfo) (z:Value) (bytes:Nat) (ht:P.underlying t=some (.slice e)) (hi:P.info? e=some i) (hz:i.zero=some z)
  (hsize:i.size=1) (hby:i.bytes=bytes) (hzs:z.cells.size=1) (v:Value) (xs:List Value) (hown:ownsFrom w base e v xs)
  (a:Addr) (m c:Nat) (news:List Value) (hl:news.length=m) (hnews:∀ j u,news[j]?=some u->w.cell? (a.add j)=some u) (h1:∀ u ∈ news,u.oneCell'=true) (hm:0 < m)
  (h63:xs.length+m<=maxLen) (hbytes:(xs.length+m) * bytes<=140737488355328) (hbase:base<=w.heap.size) :
  ∃ ad cap w',(Builtin.append_ #[t,t] ty #[v,.slice (some a) m c]).run P w=.ok (.slice (some ad) (xs.length+m) cap) w'/\ownsFrom w' base e (.slice (some ad) (xs.length+m) cap) (xs ++ news)/\w.grownBy w' v.ownBlock/\(v.ownBlock=some ad.block∨w.heap.size=ad.block):=by
 rcases hown with ⟨rfl,rfl⟩ | ⟨g,o,cap,cur,rfl,hb,hg,hc,hcm,hcs,htk⟩
 ·obtain ⟨v',w',hr,h2,h3,h4,h5⟩:=run_append_own_at (P:=P) w base t ty e i z 1 bytes ht hi hz hsize hby hzs (by decide) (.slice none 0 0) 0 [] (World.ownsRow_nil _ _ _ _) a m c news (by omega) hnews h1 (by simpa using h63) (by simpa using hbytes) hbase
  rcases h2.2 with ⟨rfl,h0⟩ | ⟨g,cap,cur,rfl,_⟩
  ·omega
  ·refine ⟨_,cap,w',by simpa using hr,?_,h3,?_⟩
   ·have:=ownsFrom_row h2
    simpa using this
   ·rcases h5 with h5 | h5
    ·cases h5
    ·right
     simpa [Value.ownBlock,eq_comm] using h5
 ·by_cases hroom:xs.length+m<=cap
  ·have hin:∀ j,j < news.length->(w.cell? ⟨g,o+xs.length * i.size+j,none⟩).isSome=true:=fun j hj=>by
    have:o+xs.length * i.size+j < cur.size:=by rw [hsize];omega
    simp [World.cell?,hg,this]
   have hfr:∀ j,j < news.length->w.frozen? ⟨g,o+xs.length * i.size+j,none⟩=false:=fun j hj=>by simp [World.frozen?,hg]
   have hr:=run_append_room_cells (P:=P) w t ty e i ht hi g o xs.length cap a m c news (by rw [hsize];omega) hnews h1 hroom hin hfr
   rw [hsize,Nat.mul_one] at hr
   obtain ⟨cur',p,ec⟩:=put_setCells news (o+xs.length) w cur hg (by omega)
   refine ⟨⟨g,o,none⟩,cap,_,hr,.inr ⟨g,o,cap,cur',by rw [List.length_append,hl],hb,p.row,by rw [List.length_append];omega,hcm,?_,?_⟩,⟨p.os,p.tape,p.output,by rw [p.size];exact Nat.le_refl _,fun k _ hk=>p.other k (fun e=>hk (by simp [Value.ownBlock,e]))⟩,.inl rfl⟩
   ·have:=congrArg List.length ec
    simp at this
    omega
   ·rw [ec]
    have hto:(cur.toList.take (o+xs.length)).drop o=xs:=by
     rw [List.drop_take,show o+xs.length - o=xs.length by omega];exact htk
    rw [List.append_assoc,List.drop_append_of_le_length (by simp;omega),hto,<-List.append_assoc,List.take_left]
  ·have holds:∀ j u,xs[j]?=some u->w.cell? ((⟨g,o,none⟩:Addr).add j)=some u:=fun j u hj=>by
    have:=drop_take_get htk hj
    have hadd:(⟨g,o,none⟩:Addr).add j=⟨g,o+j,none⟩:=by unfold Addr.add;split<;>simp_all
    rw [hadd]
    simp [World.cell?,hg]
    simpa using this
   obtain ⟨v',w',hr,h2,h3⟩:=run_append_arg_grows (P:=P) w t ty e i z 1 bytes ht hi hz hsize hby hzs (by decide) ⟨g,o,none⟩ xs.length cap xs (by omega) holds a m c news (by omega) hnews (by omega) h63 hbytes
   rcases h2.2 with ⟨rfl,h0⟩ | ⟨g',cap',cur',rfl,hb',hg',_⟩
   ·omega
   ·have h2':=ownsFrom_row h2
    have hr':=run_append_grow (P:=P) w t ty e i z ht hi hz ⟨g,o,none⟩ xs.length cap xs (by rw [hsize];omega) holds a m c news (by rw [hsize];omega) hnews (by omega) (by simp only [maxLen] at h63;omega) (growslice_fits (by omega) (by rw [hby];exact hbytes))
    rw [hr'] at hr
    have hge:g'=w.heap.size:=by
     have:=(Result.ok.inj hr).1
     simp at this
     exact this.1.symm
    refine ⟨_,cap',w',by rw [hr',hr],?_,⟨h3.os,h3.tape,h3.output,h3.size,fun k hk _=>h3.block k hk (by simp)⟩,.inr hge.symm⟩
    rcases h2' with ⟨hv,_⟩ | ⟨q,q1,q2,q3,hv,q5,q6⟩
    ·cases hv
    ·exact .inr ⟨q,q1,q2,q3,hv,by omega,q6⟩
theorem wpList_append_from {ops:Array Oper} {rest:List Oper} {o:Oper} {a:Act} {w:World} {Q:Exit->Act->World->Prop} (hgd:o.guard=none) (s x:Operand) (t:TypeId)
  (ho:o.op=.call { callee:=.builtin .append,args:=#[s,x],argTypes:=#[t,t] })
  (base:Nat) (e:TypeId) (i:TypeInfo) (z:Value) (bytes:Nat) (ht:P.underlying t=some (.slice e)) (hi:P.info? e=some i) (hz:i.zero=some z) (hsize:i.size=1) (hby:i.bytes=bytes) (hzs:z.cells.size=1)
  (v:Value) (xs:List Value) (hs:a.eval s=v) (hown:ownsFrom w base e v xs)
  (ad:Addr) (m c:Nat) (news:List Value) (hx:a.eval x=.slice (some ad) m c) (hl:news.length=m) (hnews:∀ j u,news[j]?=some u->w.cell? (ad.add j)=some u) (h1:∀ u ∈ news,u.oneCell'=true) (hm:0 < m)
  (h63:xs.length+m<=maxLen) (hbytes:(xs.length+m) * bytes<=140737488355328) (hbase:base<=w.heap.size)
  (h:∀ ad' cap w',ownsFrom w' base e (.slice (some ad') (xs.length+m) cap) (xs ++ news)->w.grownBy w' v.ownBlock->(v.ownBlock=some ad'.block∨w.heap.size=ad'.block)->wpList P ops Q rest (a.put o.dst (.slice (some ad') (xs.length+m) cap)) w') :
  wpList P ops Q (o :: rest) a w:=by
 refine wpList_plain hgd fun K hK=>?_
 obtain ⟨ad',cap,w',hr,h2,h3,h4⟩:=run_append_from (P:=P) w base t o.type e i z bytes ht hi hz hsize hby hzs v xs hown ad m c news hl hnews h1 hm h63 hbytes hbase
 unfold Oper.wp execOp
 simp only [ho,resolve,invoke,builtin,Sem.run_bind,Sem.run_pure,Result.andThen_ok,List.map_toArray,List.map_cons,List.map_nil,hs,hx,hr]
 exact hK _ _ (h ad' cap w' h2 h3 h4)
end
end Go.Hw
namespace Go.Hw
open Go.ChangeShapes Go.WideShapes Go.RowKit
section
variable {H:Type} {enc:TypeId × Value->H} {P:Program}
theorem trodAll_stays (hl:laidOutB P=true) {W W':World} (hb:Below W.heap.size W W'):∀ {ts:List TypeId} {vs:List Value} {ds:List (DataW H)} {ps:List MemPlace},(∀ t ∈ ts,P.readableRec t=true/\t < P.types.size)->(∀ x ∈ ps,x.block < W.heap.size) ->
  DataW.TrodAll enc P W 0 (fun _=>true) true ts vs ds ps->DataW.TrodAll enc P W' 0 (fun b=>decide (b < W.heap.size)) true ts vs ds ps
 | [],vs,ds,ps,_,_,h=>by
  obtain ⟨rfl,rfl,rfl⟩:=trodAll_nil h
  exact trodAll_mk0
 | t :: ts,vs,ds,ps,hr,hlt,h=>by
  obtain ⟨v,vs',d,ds',p,q,rfl,rfl,rfl,h1,h2⟩:=trodAll_cons h
  have h3:=Below.trod hl (hr t (by simp)).1 (hr t (by simp)).2 h1 hb (fun x hx=>hlt x (by simp [hx]))
  exact trodAll_cons_mk h3 (trodAll_stays hl hb (fun u hu=>hr u (by simp [hu])) (fun x hx=>hlt x (by simp [hx])) h2)
theorem post_bool {s:ChangeSpec} {f:Func} {W W':World} {args:Array Value} {ds gs:List (DataW H)} {before:List MemPlace} {t:TypeId} (hl:laidOutB P=true) (hv:s.vars=[])
  (hW:DataW.Whole enc P f.params.toList s.vars false W args.toList ds gs before) (hb:Below W.heap.size W W')
  (hread:∀ t ∈ f.params.toList,P.readableRec t=true/\t < P.types.size) (hrt:f.resultTypes=#[t]) (hbool:P.underlying t=some .bool)
  (hres:∀ xs:List (DataW H),xs.length=f.params.toList.length->(s.fn H xs).results=[.lit (.bool true)]) (hargs:∀ xs:List (DataW H),xs.length=f.params.toList.length->(s.fn H xs).args=xs) (hvars:∀ xs:List (DataW H),xs.length=f.params.toList.length->(s.fn H xs).vars=[]) :
  s.post enc P f false true false false W args (.bool true) W':=by
 have hW':=hW
 have hlt:∀ x ∈ before,x.block < W.heap.size:=fun x hx=>hW.lt x hx
 obtain ⟨p,q,hA,hV,rfl,hfz,hnd⟩:=hW
 have hlen:ds.length=f.params.toList.length:=by
  have:∀ {ts:List TypeId} {vs:List Value} {ds:List (DataW H)} {ps:List MemPlace},DataW.TrodAll enc P W 0 (fun _=>true) true ts vs ds ps->ds.length=ts.length:=by
   intro ts
   induction ts with
   | nil=>intro vs ds ps h;obtain ⟨rfl,rfl,rfl⟩:=trodAll_nil h;rfl
   | cons t ts ih=>intro vs ds ps h;obtain ⟨v,vs',d,ds',p,q,rfl,rfl,rfl,h1,h2⟩:=trodAll_cons h;simp [ih h2]
  exact this hA
 rw [hv] at hV
 obtain ⟨rfl,rfl⟩:=trodVars_none hV
 refine ⟨ds,[],_,[],p,[],hW',?_,?_,?_,hb.frame _,fun h=>by cases h⟩
 ·rw [List.append_nil,hres ds hlen,hrt]
  exact trodAll_cons_mk (shut_bool hbool _) trodAll_mk0
 ·rw [List.append_nil,hargs ds hlen]
  exact trodAll_stays hl hb hread (fun x hx=>hlt x (by simp [hx])) hA
 ·rw [List.append_nil,hvars ds hlen,hv]
  exact rfl
end
end Go.Hw
namespace Go.Hw
open Go.RowKit
def putAll (T:Array Value):List (Nat × Nat)->(Nat->Value)->Array Value
 | [],_=>T
 | s :: r,X=>(putAll T r X).setIfInBounds s.1 (X s.2)
def upd (X:Nat->Value) (i:Nat) (y:Value) (j:Nat):Value:=if j=i then y else X j
theorem getD_rep {n i:Nat} (h:(Array.replicate n false).getD i false=true):False:=by
 simp only [Array.getD_eq_getD_getElem?,Array.getElem?_replicate] at h
 split at h<;>cases h
def forwardB (md:Region.Mode) (ops:Array Oper):Bool:=(List.range ops.size).all fun i=>((ops[i]?).map (·.after.all fun e=>!Region.binds md e || decide (e.on < i))).getD true
theorem all_listedB {md:Region.Mode} {ops:Array Oper} {L:Array Bool} (hs:L.size=ops.size) (hf:forwardB md ops=true) (hr:Region.ready md ops L=[]):∀ n i,i < n->i < ops.size->L.getD i false=true:=by
 intro n
 induction n with
 | zero=>intro i h;omega
 | succ n ih=>
  intro i hi hlt
  by_cases hin:i < n
  ·exact ih i hin hlt
  ·cases hg:L.getD i false with
   | true=>rfl
   | false=>
    have hmem:i ∈ Region.ready md ops L:=by
     unfold Region.ready
     rw [List.mem_filter]
     refine ⟨by simpa using hlt,?_⟩
     have hgt:L.getD i true=false:=by
      have hl:i < L.size:=by omega
      simp [Array.getD,hl] at hg ⊢
      exact hg
     simp only [hgt,Bool.not_false,Bool.true_and]
     have ho:ops[i]?=some ops[i]:=Array.getElem?_eq_getElem hlt
     rw [ho]
     simp only [Option.map_some,Option.getD_some,Array.all_eq_true']
     intro e he
     have hfi:=List.all_eq_true.1 hf i (by simpa using hlt)
     rw [ho] at hfi
     simp only [Option.map_some,Option.getD_some,Array.all_eq_true'] at hfi
     have hei:=hfi e he
     cases hb:Region.binds md e with
     | false=>simp
     | true=>
      have hon:e.on < i:=by simpa [hb] using hei
      have:=ih e.on (by omega) (by omega)
      simp [this]
    rw [hr] at hmem
    cases hmem
theorem wpAny_invB {P:Program} {md:Region.Mode} {ops:Array Oper} {Q:Exit->Act->World->Prop} (Inv:Array Bool->Act->World->Prop) (hf:forwardB md ops=true)
  (hstep:∀ L a w i,L.size=ops.size->Inv L a w->i ∈ Region.ready md ops L->wpOp P ops Q i (fun a' w'=>Inv (L.setIfInBounds i true) a' w') a w)
  (hend:∀ L a w,Inv L a w->(∀ i,i < ops.size->L.getD i false=true)->Q .normal a w) :
  ∀ fuel L a w,L.size=ops.size->left L<=fuel->Inv L a w->wpAny P md ops Q fuel L a w:=by
 intro fuel
 induction fuel with
 | zero=>
  intro L a w hs hl hi
  have hr:Region.ready md ops L=[]:=by
   cases hr:Region.ready md ops L with
   | nil=>rfl
   | cons j t=>
    have:=left_set (ready_deps (md:=md) (ops:=ops) (L:=L) (i:=j) (by rw [hr];simp)).2.1
    omega
  exact ⟨hr,hend L a w hi (fun i hlt=>all_listedB hs hf hr (i+1) i (by omega) hlt)⟩
 | succ fuel ih=>
  intro L a w hs hl hi
  refine ⟨fun hr=>hend L a w hi (fun i hlt=>all_listedB hs hf hr (i+1) i (by omega) hlt),fun i hm=>?_⟩
  refine wpOp_mono (fun a' w' h=>ih _ a' w' (by simpa using hs) ?_ h) (hstep L a w i hs hi hm)
  have:=left_set (ready_deps hm).2.1
  omega
theorem region_inv3 {P:Program} {id:Nat} {Q:Exit->Act->World->Prop} {a:Act} {w:World} {l:List Oper} (Inv:Array Bool->Act->World->Prop) (hm:P.follows .mixedOrders=true) (hf:forwardB .any l.toArray=true)
  (h0:Inv (Array.replicate l.toArray.size false) a w.drew)
  (hstep:∀ L a w i,Inv L a w->i < l.toArray.size->(∀ o,l.toArray[i]?=some o->∀ e ∈ o.after,Region.binds .any e=true->L.getD e.on false=true)->L.getD i true=false->wpOp P l.toArray Q i (fun a' w'=>Inv (L.setIfInBounds i true) a' w') a w)
  (hend:∀ L a w,Inv L a w->(∀ i,i < l.toArray.size->L.getD i false=true)->Q .normal a w):(Code.region id l.toArray true).wp P Q a w:=
 wp_region_any hm (wpAny_invB Inv hf (fun L a w i _ hi hr=>hstep L a w i hi (ready_deps hr).1 (ready_deps hr).2.2 (ready_deps hr).2.1) hend _ _ _ _ (by simp) (by rw [left_none];exact Nat.le_refl _) h0)
theorem region_slots {P:Program} {id:Nat} {Q:Exit->Act->World->Prop} {T:Array Value} {w:World} {l:List Oper} (slots:List (Nat × Nat)) (R:Array Bool->(Nat->Value)->World->Prop) (hm:P.follows .mixedOrders=true) (hf:forwardB .any l.toArray=true)
  (h0:T=putAll T slots (fun _=>undef)) (hr:R (Array.replicate l.toArray.size false) (fun _=>undef) w.drew)
  (hstep:∀ L X w i,R L X w->i < l.toArray.size->(∀ o,l.toArray[i]?=some o->∀ e ∈ o.after,Region.binds .any e=true->L.getD e.on false=true)->L.getD i true=false->wpOp P l.toArray Q i (fun a' w'=>∃ X,a'=⟨putAll T slots X,[]⟩/\R (L.setIfInBounds i true) X w') ⟨putAll T slots X,[]⟩ w)
  (hend:∀ L X w,R L X w->(∀ i,i < l.toArray.size->L.getD i false=true)->Q .normal ⟨putAll T slots X,[]⟩ w):(Code.region id l.toArray true).wp P Q ⟨T,[]⟩ w:=
 region_inv3 (fun L a w=>∃ X,a=⟨putAll T slots X,[]⟩/\R L X w) hm hf ⟨_,by rw [<-h0],hr⟩ (fun L a w i ⟨X,e,h⟩ hi hd hn=>by subst e;exact hstep L X w i h hi hd hn) (fun L a w ⟨X,e,h⟩ ha=>by subst e;exact hend L X w h ha)
theorem region_slots0 {P:Program} {id:Nat} {Q:Exit->Act->World->Prop} {T:Array Value} {w:World} {l:List Oper} (slots:List (Nat × Nat)) (X0:Nat->Value) (R:Array Bool->(Nat->Value)->World->Prop) (hm:P.follows .mixedOrders=true) (hf:forwardB .any l.toArray=true)
  (h0:T=putAll T slots X0) (hr:R (Array.replicate l.toArray.size false) X0 w.drew)
  (hstep:∀ L X w i,R L X w->i < l.toArray.size->(∀ o,l.toArray[i]?=some o->∀ e ∈ o.after,Region.binds .any e=true->L.getD e.on false=true)->L.getD i true=false->wpOp P l.toArray Q i (fun a' w'=>∃ X,a'=⟨putAll T slots X,[]⟩/\R (L.setIfInBounds i true) X w') ⟨putAll T slots X,[]⟩ w)
  (hend:∀ L X w,R L X w->(∀ i,i < l.toArray.size->L.getD i false=true)->Q .normal ⟨putAll T slots X,[]⟩ w):(Code.region id l.toArray true).wp P Q ⟨T,[]⟩ w:=
 region_inv3 (fun L a w=>∃ X,a=⟨putAll T slots X,[]⟩/\R L X w) hm hf ⟨_,by rw [<-h0],hr⟩ (fun L a w i ⟨X,e,h⟩ hi hd hn=>by subst e;exact hstep L X w i h hi hd hn) (fun L a w ⟨X,e,h⟩ ha=>by subst e;exact hend L X w h ha)
end Go.Hw
namespace Go.Hw
open Go.RowKit
def Older (e:TypeId) (v:Value) (n:Nat) (w w':World):Prop:=∀ u j ys,w.ownsRow 0 e 1 u j ys->(∀ k,u.ownBlock=some k->v.ownBlock=some k->j<=n)->w'.ownsRow 0 e 1 u j ys
theorem take_put {l m:List Value} {x:Value} {n j:Nat} {ys:List Value} (hl:n < l.length) (hm:m=l.take n ++ [x] ++ l.drop (n+1)) (hj:j<=n) (h:l.take j=ys):m.take j=ys:=by
 subst hm
 rw [List.append_assoc,List.take_append_of_le_length (by simp;omega),List.take_take,Nat.min_eq_left hj,h]
section
variable {P:Program}
theorem run_append_item (w:World) (t ty e:TypeId) (i:TypeInfo) (z:Value) (bytes:Nat) (ht:P.underlying t=some (.slice e)) (hi:P.info? e=some i) (hz:i.zero=some z)
  (hsize:i.size=1) (hby:i.bytes=bytes) (hzs:z.cells.size=1) (v:Value) (n:Nat) (xs:List Value) (hown:w.ownsRow 0 e 1 v n xs)
  (a:Addr) (x:Value) (hnews:∀ j u,[x][j]?=some u->w.cell? (a.add j)=some u) (h1:x.oneCell'=true) (h63:n+1<=maxLen) (hbytes:(n+1) * bytes<=140737488355328) :
  ∃ v' w',(Builtin.append_ #[t,t] ty #[v,.slice (some a) 1 1]).run P w=.ok v' w'/\w'.ownsRow 0 e 1 v' (n+1) (xs ++ [x])/\w.grownBy w' v.ownBlock/\(v'.ownBlock=v.ownBlock∨v'.ownBlock=some w.heap.size)/\Older e v n w w':=by
 have h1':∀ u ∈ [x],u.oneCell'=true:=fun u hu=>by simp at hu;subst hu;exact h1
 obtain ⟨v',w',hr,h2,h3,h4,h5⟩:=run_append_own_at (P:=P) w 0 t ty e i z 1 bytes ht hi hz hsize hby hzs (by decide) v n xs hown a 1 1 [x] rfl hnews h1' h63 hbytes (Nat.zero_le _)
 refine ⟨v',w',hr,h2,h3,h5,?_⟩
 intro u j ys hu hj
 have hxl:xs.length=n:=by simpa using hown.1
 rcases hown.2 with ⟨rfl,_⟩ | ⟨g,cap,cur,rfl,hb,hg,hnc,hcm,hcs,htk⟩
 ·exact ownsRow_keptS hu (Kept.of_grown h3) (fun k _ e=>by cases e)
 ·have hcs':cur.size=cap:=by simpa using hcs
  by_cases hroom:n+1<=cap
  ·have hin:∀ j,j < [x].length->(w.cell? ⟨g,0+n * i.size+j,none⟩).isSome=true:=fun j hj=>by
    have hj:j=0:=by simpa using hj
    subst hj
    have:0+n * i.size+0 < cur.size:=by rw [hsize];omega
    simp [World.cell?,hg,hsize]
    omega
   have hfr:∀ j,j < [x].length->w.frozen? ⟨g,0+n * i.size+j,none⟩=false:=fun j hj=>by simp [World.frozen?,hg]
   have hr2:=run_append_room_cells (P:=P) w t ty e i ht hi g 0 n cap a 1 1 [x] (by rw [hsize];rfl) hnews h1' hroom hin hfr
   rw [hsize,Nat.mul_one,Nat.zero_add] at hr2
   obtain ⟨cur',p,ec⟩:=put_setCells [x] n w cur hg (by simp;omega)
   rw [hr2] at hr
   cases hr
   rcases hu.2 with ⟨rfl,h0⟩ | ⟨g2,cap2,cur2,rfl,hb2,hg2,hnc2,hcm2,hcs2,htk2⟩
   ·exact ⟨hu.1,.inl ⟨rfl,h0⟩⟩
   ·by_cases hgg:g2=g
    ·subst hgg
     rw [hg] at hg2
     cases hg2
     have hjn:=hj g2 rfl rfl
     have hs':cur'.size=cur.size:=by
      have:=congrArg List.length ec
      simp at this
      omega
     refine ⟨hu.1,.inr ⟨g2,cap2,cur',rfl,hb2,p.row,hnc2,hcm2,by rw [hs'];exact hcs2,?_⟩⟩
     exact take_put (by simpa using (show n < cur.size by omega)) (by simpa using ec) (by omega) htk2
    ·exact ⟨hu.1,.inr ⟨g2,cap2,cur2,rfl,hb2,(p.other g2 hgg).trans hg2,hnc2,hcm2,hcs2,htk2⟩⟩
  ·have holds:∀ j u,xs[j]?=some u->w.cell? ((⟨g,0,none⟩:Addr).add j)=some u:=fun j u hj=>hown.cells (g:=g) rfl j u hj
   obtain ⟨v2,w2,hr2,h22,h32⟩:=run_append_arg_grows (P:=P) w t ty e i z 1 bytes ht hi hz hsize hby hzs (by decide) ⟨g,0,none⟩ n cap xs (by omega) holds a 1 1 [x] rfl hnews (by omega) h63 hbytes
   rw [hr2] at hr
   cases hr
   exact ownsRow_keptS hu (Kept.of_grown h32) (fun k _ e=>by cases e)
theorem wpList_append_item {ops:Array Oper} {rest:List Oper} {o:Oper} {a:Act} {w:World} {Q:Exit->Act->World->Prop} (hgd:o.guard=none) (s x:Operand) (t:TypeId)
  (ho:o.op=.call { callee:=.builtin .append,args:=#[s,x],argTypes:=#[t,t] })
  (e:TypeId) (i:TypeInfo) (z:Value) (bytes:Nat) (ht:P.underlying t=some (.slice e)) (hi:P.info? e=some i) (hz:i.zero=some z) (hsize:i.size=1) (hby:i.bytes=bytes) (hzs:z.cells.size=1)
  (v:Value) (n:Nat) (xs:List Value) (hs:a.eval s=v) (hown:w.ownsRow 0 e 1 v n xs)
  (ad:Addr) (new:Value) (hx:a.eval x=.slice (some ad) 1 1) (hnews:∀ j u,[new][j]?=some u->w.cell? (ad.add j)=some u) (h1:new.oneCell'=true)
  (h63:n+1<=maxLen) (hbytes:(n+1) * bytes<=140737488355328)
  (h:∀ v' w',w'.ownsRow 0 e 1 v' (n+1) (xs ++ [new])->w.grownBy w' v.ownBlock->(v'.ownBlock=v.ownBlock∨v'.ownBlock=some w.heap.size)->Older e v n w w'->wpList P ops Q rest (a.put o.dst v') w') :
  wpList P ops Q (o :: rest) a w:=by
 refine wpList_plain hgd fun K hK=>?_
 obtain ⟨v',w',hr,h2,h3,h4,h5⟩:=run_append_item (P:=P) w t o.type e i z bytes ht hi hz hsize hby hzs v n xs hown ad new hnews h1 h63 hbytes
 unfold Oper.wp execOp
 simp only [ho,resolve,invoke,builtin,Sem.run_bind,Sem.run_pure,Result.andThen_ok,List.map_toArray,List.map_cons,List.map_nil,hs,hx,hr]
 exact hK _ _ (h v' w' h2 h3 h4 h5)
end
theorem ownsRow_set {w:World} {e:TypeId} {v:Value} {n:Nat} {xs:List Value} (h:w.ownsRow 0 e 1 v n xs) {i:Nat} (hi:i < n) :
  ∃ g cap cur,v=.slice (some ⟨g,0,none⟩) n cap/\w.heap[g]?=some (.cells cur e (0,0))/\i < cur.size/\∀ x w2,Put w g e (cur.setIfInBounds i x) w2->w2.ownsRow 0 e 1 v n (xs.set i x):=by
 rcases h.2 with ⟨rfl,h0⟩ | ⟨g,cap,cur,rfl,hb,hg,hnc,hcm,hcs,htk⟩
 ·omega
 ·have hcs':cur.size=cap:=by simpa using hcs
  refine ⟨g,cap,cur,rfl,hg,by omega,fun x w2 p=>⟨by simpa using h.1,.inr ⟨g,cap,_,rfl,hb,p.row,hnc,hcm,by simpa using hcs,?_⟩⟩⟩
  rw [Nat.mul_one] at htk ⊢
  rw [Array.toList_setIfInBounds,List.take_set,htk]
theorem set_next {m:Value} {xs:List Value} {k n:Nat} (hk:k < n) (hn:xs.length=n):(List.replicate k m ++ xs.drop k).set k m=List.replicate (k+1) m ++ xs.drop (k+1):=by
 rw [List.set_append_right _ _ (by simp)]
 simp only [List.length_replicate,Nat.sub_self]
 rw [List.drop_eq_getElem_cons (by omega:k < xs.length),List.set_cons_zero,List.replicate_succ',List.append_assoc]
 rfl
end Go.Hw

/- Pressed by program out of Eg Eh. -/
import Derived.Test.YtdlhbmncbmconaaGreatDoorL31
namespace Go.Proofs.YtdlhbmncbmconaaGreatDoor
open Go.RowKit Go.Sort
attribute [local go_sem] app_mk rcut rbyte
theorem own_form4 {w:World} {base e n size:Nat} {v:Value} {xs:List Value} (h:w.ownsRow base e size v n xs):∃ a cap,v=.slice a n cap:=by
 rcases h.2 with ⟨rfl,h0⟩ | ⟨g,cap,cur,rfl,_⟩
 ·exact ⟨none,0,by rw [h0]⟩
 ·exact ⟨_,_,rfl⟩
structure RIt where
 v:Value
 q:Hm.RR
def ritCells (xs:List RIt):List Value:=xs.flatMap fun x=>[x.v,.int .i64 x.q.lo,.int .i64 x.q.hi,.bool x.q.keep]
structure RRulesAt (w:World) (p:Nat) (rs:List Hm.Rl) (xs:List RIt) (v:Value):Prop where
 row:w.heap[p]?=some (.cells #[v] 219 (0,0))
 own:w.ownsRow (p+1) 222 4 v xs.length (ritCells xs)
 each:∀ x ∈ xs,w.ownsRow (p+1) 3 1 x.v x.q.facs.length (x.q.facs.map natV)
 len:rs.length=xs.length
 alike:∀ (k:Nat) r x,rs[k]?=some r->xs[k]?=some x->Hm.Alike r x.q
end Go.Proofs.YtdlhbmncbmconaaGreatDoor
namespace Go.Hm
theorem rf_done {fu n:Nat} {acc:List Rl} (hfu:0 < fu):rulesFrom fu n [] acc=.ok acc:=by
 match fu,hfu with
 | k+1,_=>rw [rulesFrom,if_pos rfl]
theorem rf_cut {fu n:Nat} {l:List UInt8} {acc:List Rl} (hfu:0 < fu) (hl:¬ l=[]) (h:n=12∨(cutB 10 l).2.2=false):rulesFrom fu n l acc=.error n:=by
 match fu,hfu with
 | k+1,_=>rw [rulesFrom,if_neg hl,if_pos h]
theorem rf_bad {fu n:Nat} {l:List UInt8} {acc:List Rl} (hfu:0 < fu) (hl:¬ l=[]) (h:readRule (cutB 10 l).1=none):rulesFrom fu n l acc=.error n:=by
 match fu,hfu with
 | k+1,_=>
  rw [rulesFrom,if_neg hl]
  split
  ·rfl
  ·rw [h]
theorem rf_next {fu n:Nat} {l:List UInt8} {acc:List Rl} {r:Rl} (hfu:0 < fu) (hl:¬ l=[]) (h:¬ (n=12∨(cutB 10 l).2.2=false)) (hr:readRule (cutB 10 l).1=some r):rulesFrom fu n l acc=rulesFrom (fu - 1) (n+1) (cutB 10 l).2.1 (acc ++ [r]):=by
 match fu,hfu with
 | k+1,_=>
  rw [rulesFrom,if_neg hl,if_neg h,hr]
  rfl
end Go.Hm
namespace Go.Proofs.YtdlhbmncbmconaaGreatDoor
open Go.RowKit Go.Sort
attribute [local go_sem] app_mk rcut rbyte
theorem gD {L:Array Bool} {i:Nat} (h:i < L.size):L.getD i true=L.getD i false:=by
 simp [Array.getD_eq_getD_getElem?,h]
theorem set_at {L:Array Bool} {i:Nat} (h:i < L.size):(L.setIfInBounds i true).getD i false=true:=by
 simp [Array.getD_eq_getD_getElem?,h]
structure ApR (V:Nat->Value) (B:World) (O:Obj) (G:Value->World->Prop) (P:Value->World->World->Prop) (L:Array Bool) (X:Nat->Value) (w':World):Prop where
 sz:L.size=11
 f:∀ i,i ≠ 6->i ≠ 7->i ≠ 10->L.getD i false=true->X i=V i
 a:L.getD 6 false=false->w'=B
 b:L.getD 6 false=true->X 6=.slice (some ⟨B.heap.size,0,none⟩) 1 1
 c:L.getD 6 false=true->L.getD 7 false=false->w'=B.alloc O
 d:L.getD 7 false=true->L.getD 10 false=false->G (X 7) w'
 e:L.getD 10 false=true->∃ w5,G (X 7) w5/\P (X 7) w5 w'
 o6:L.getD 6 false=true->L.getD 5 false=true
 o7:L.getD 7 false=true->L.getD 6 false=true/\L.getD 4 false=true
 o10:L.getD 10 false=true->L.getD 7 false=true
variable {V:Nat->Value} {B:World} {O:Obj} {G:Value->World->Prop} {P:Value->World->World->Prop}
theorem rep_false (i:Nat):(Array.replicate 11 false).getD i false=false:=by
 cases h:(Array.replicate 11 false).getD i false with
 | false=>rfl
 | true=>exact (Hw.getD_rep h).elim
theorem ApR.start {X:Nat->Value}:ApR V B O G P (Array.replicate 11 false) X B:=
 ⟨by simp,(fun i _ _ _ h=>by rw [rep_false] at h;cases h),fun _=>rfl,(fun h=>by rw [rep_false] at h;cases h),(fun h=>by rw [rep_false] at h;cases h),(fun h=>by rw [rep_false] at h;cases h),(fun h=>by rw [rep_false] at h;cases h),(fun h=>by rw [rep_false] at h;cases h),(fun h=>by rw [rep_false] at h;cases h),(fun h=>by rw [rep_false] at h;cases h)⟩
theorem ApR.step {L:Array Bool} {X:Nat->Value} {w':World} (h:ApR V B O G P L X w') (i:Nat) (hi:i < 11) (h6:i ≠ 6) (h7:i ≠ 7) (h10:i ≠ 10) {y:Value} (hy:y=V i):ApR V B O G P (L.setIfInBounds i true) (Hw.upd X i y) w' where
 sz:=by simpa using h.sz
 f j a b c e:=by
  unfold Hw.upd
  split
  ·next hj=>rw [hj];exact hy
  ·next hne=>exact h.f j a b c (by rwa [set_getD hne] at e)
 a e:=h.a (by rwa [set_getD (Ne.symm h6)] at e)
 b e:=by rw [set_getD (Ne.symm h6)] at e;unfold Hw.upd;rw [if_neg (Ne.symm h6)];exact h.b e
 c e1 e2:=by rw [set_getD (Ne.symm h6)] at e1;rw [set_getD (Ne.symm h7)] at e2;exact h.c e1 e2
 d e1 e2:=by rw [set_getD (Ne.symm h7)] at e1;rw [set_getD (Ne.symm h10)] at e2;unfold Hw.upd;rw [if_neg (Ne.symm h7)];exact h.d e1 e2
 e e1:=by rw [set_getD (Ne.symm h10)] at e1;unfold Hw.upd;rw [if_neg (Ne.symm h7)];exact h.e e1
 o6 e:=by
  rw [set_getD (Ne.symm h6)] at e
  by_cases q:5=i
  ·subst q;exact set_at (by rw [h.sz];omega)
  ·rw [set_getD q];exact h.o6 e
 o7 e:=by
  rw [set_getD (Ne.symm h7)] at e
  refine ⟨by rw [set_getD (Ne.symm h6)];exact (h.o7 e).1,?_⟩
  by_cases q:4=i
  ·subst q;exact set_at (by rw [h.sz];omega)
  ·rw [set_getD q];exact (h.o7 e).2
 o10 e:=by rw [set_getD (Ne.symm h10)] at e;rw [set_getD (Ne.symm h7)];exact h.o10 e
theorem ff {b:Bool} (h:¬ b=true):b=false:=by cases b;rfl;exact absurd rfl h
theorem ApR.build {L:Array Bool} {X:Nat->Value} {w':World} (h:ApR V B O G P L X w') (h6:L.getD 6 false=false) (h5:L.getD 5 false=true):ApR V B O G P (L.setIfInBounds 6 true) (Hw.upd X 6 (.slice (some ⟨w'.heap.size,0,none⟩) 1 1)) (w'.alloc O) where
 sz:=by simpa using h.sz
 f j a b c e:=by unfold Hw.upd;rw [if_neg a];exact h.f j a b c (by rwa [set_getD a] at e)
 a e:=by rw [set_at (by rw [h.sz];omega)] at e;cases e
 b _:=by unfold Hw.upd;rw [if_pos rfl,h.a h6]
 c _ _:=by rw [h.a h6]
 d e1 _:=by rw [set_getD (by decide)] at e1;have:=(h.o7 e1).1;rw [h6] at this;cases this
 e e1:=by rw [set_getD (by decide)] at e1;have:=(h.o7 (h.o10 e1)).1;rw [h6] at this;cases this
 o6 _:=by rw [set_getD (by decide)];exact h5
 o7 e:=by rw [set_getD (by decide)] at e;have:=(h.o7 e).1;rw [h6] at this;cases this
 o10 e:=by rw [set_getD (by decide)] at e ⊢;exact h.o10 e
theorem ApR.app {L:Array Bool} {X:Nat->Value} {w' w5:World} {v':Value} (h:ApR V B O G P L X w') (h7:L.getD 7 false=false) (h4:L.getD 4 false=true) (h6:L.getD 6 false=true) (hG:G v' w5):ApR V B O G P (L.setIfInBounds 7 true) (Hw.upd X 7 v') w5 where
 sz:=by simpa using h.sz
 f j a b c e:=by unfold Hw.upd;rw [if_neg b];exact h.f j a b c (by rwa [set_getD b] at e)
 a e:=by rw [set_getD (by decide),h6] at e;cases e
 b e:=by unfold Hw.upd;rw [if_neg (by decide)];exact h.b h6
 c _ e:=by rw [set_at (by rw [h.sz];omega)] at e;cases e
 d _ _:=by unfold Hw.upd;rw [if_pos rfl];exact hG
 e e1:=by rw [set_getD (by decide)] at e1;have:=h.o10 e1;rw [h7] at this;cases this
 o6 e:=by rw [set_getD (by decide)] at e ⊢;exact h.o6 e
 o7 _:=⟨by rw [set_getD (by decide)];exact h6,by rw [set_getD (by decide)];exact h4⟩
 o10 e:=by rw [set_getD (by decide)] at e;have:=h.o10 e;rw [h7] at this;cases this
theorem ApR.store {L:Array Bool} {X:Nat->Value} {w' w2:World} (h:ApR V B O G P L X w') (h10:L.getD 10 false=false) (h7:L.getD 7 false=true) (hP:P (X 7) w' w2):ApR V B O G P (L.setIfInBounds 10 true) X w2 where
 sz:=by simpa using h.sz
 f j a b c e:=h.f j a b c (by rwa [set_getD c] at e)
 a e:=by rw [set_getD (by decide),(h.o7 h7).1] at e;cases e
 b e:=h.b (h.o7 h7).1
 c _ e:=by rw [set_getD (by decide),h7] at e;cases e
 d _ e:=by rw [set_at (by rw [h.sz];omega)] at e;cases e
 e _:=⟨w',h.d h7 h10,hP⟩
 o6 e:=by rw [set_getD (by decide)] at e ⊢;exact h.o6 e
 o7 e:=by rw [set_getD (by decide)] at e;exact ⟨by rw [set_getD (by decide)];exact (h.o7 e).1,by rw [set_getD (by decide)];exact (h.o7 e).2⟩
 o10 _:=by rw [set_getD (by decide)];exact h7
theorem wp_store_fieldP {P:Program} {o:Oper} {a:Act} {w:World} {K:Act->World->Prop} {Q:Exit->Act->World->Prop} (ty:TypeId) (x y:Operand) (ho:o.op=.store ty x y)
  (hd:o.dst=none) (g i:Nat) (v:Value) (hx:a.eval x=.pointer (some ⟨g,i,none⟩)) (hy:a.eval y=v)
  (t:TypeId) (old new:Array Value) (hg:w.heap[g]?=some (.cells old t (0,0))) (hi:(P.info? ty).map (·.size)=some 1)
  (hlt:i < old.size) (h1:v.oneCell'=true) (hn:old.setIfInBounds i v=new)
  (h:∀ w2,Hw.Put w g t new w2->K a w2):Oper.wp P o a w K Q:=by
 subst hn
 unfold Oper.wp execOp
 simp only [ho,hx,hy,Instr.storeAt,Instr.sureAddr,Sem.run_bind,Sem.run_pure,Result.andThen_ok,Hw.run_storeVar_field w g i t ty old v hg hi hlt h1]
 have:=h _ (Hw.put_setRow hg (old.setIfInBounds i v))
 show K (a.put o.dst undef) _
 rw [hd]
 exact this
theorem info_rrule:(Tryz.prog.info? 222).map (fun i=>(i.zero,i.size,i.bytes))=some (some (.agg #[.slice none 0 0,.int .i64 0,.int .i64 0,.bool false]),4,48):=by kernel_rfl
theorem size_rrules:(Tryz.prog.info? 217).map (·.size)=some 1:=by kernel_rfl
def ruleV (p:Nat) (sl:Value) (cs:Array Value):Nat->Value
 | 3=>.pointer (some ⟨p,0,none⟩)
 | 4=>sl
 | 5=>.agg cs
 | 9=>.pointer (some ⟨p,0,none⟩)
 | _=>.pointer (some ⟨p,0,none⟩)
theorem cell_four_new (w:World) (x y z u:Value) (t:TypeId):∀ j s,[x,y,z,u][j]?=some s->(w.alloc (.cells #[x,y,z,u] t)).cell? ((⟨w.heap.size,0,none⟩:Addr).add j)=some s:=by
 intro j s hj
 match j,hj with
 | 0,hj=>simp at hj;subst hj;simp [Addr.add]
 | 1,hj=>simp at hj;subst hj;simp [Addr.add]
 | 2,hj=>simp at hj;subst hj;simp [Addr.add]
 | 3,hj=>simp at hj;subst hj;simp [Addr.add]
theorem put_same {T:Array Value} {i:Nat} {v:Value} (h:T[i]?=some v):T.setIfInBounds i v=T:=by
 obtain ⟨hi,hv⟩:=Array.getElem?_eq_some_iff.1 h
 apply Array.ext
 ·simp
 ·intro k h1 h2
  rw [Array.getElem_setIfInBounds]
  split
  ·next e=>subst e;exact hv.symm
  ·rfl
theorem putAll_self (T:Array Value) (X:Nat->Value):∀ slots:List (Nat × Nat),(∀ s ∈ slots,T[s.1]?=some (X s.2))->T=Hw.putAll T slots X
 | [],_=>rfl
 | s :: r,h=>by
  unfold Hw.putAll
  rw [<-putAll_self T X r (fun s hs=>h s (List.mem_cons_of_mem _ hs)),put_same (h s List.mem_cons_self)]
theorem getD_some {T:Array Value} {i:Nat} (h:i < T.size):T[i]?=some (T.getD i undef):=by simp [Array.getD,h]
theorem put48 (T:Array Value) (h:decide (57 < T.size)=true):T=Hw.putAll T [(48,0),(49,1),(50,2),(51,3),(52,4),(53,5),(54,6),(55,7),(56,8),(57,9)] (fun k=>T.getD (48+k) undef):=by
 have h:=of_decide_eq_true h
 refine putAll_self T _ _ (fun s hs=>?_)
 simp only [List.mem_cons,List.not_mem_nil,or_false] at hs
 rcases hs with rfl | rfl | rfl | rfl | rfl | rfl | rfl | rfl | rfl | rfl<;>exact getD_some (by omega)
theorem own_base2 {w:World} {b b' e size n:Nat} {v:Value} {xs:List Value} (h:w.ownsRow b e size v n xs) (hb:b'<=b):w.ownsRow b' e size v n xs:=by
 refine ⟨h.1,?_⟩
 rcases h.2 with h | ⟨g,cap,cur,rfl,hg,rest⟩
 ·exact .inl h
 ·exact .inr ⟨g,cap,cur,rfl,by omega,rest⟩
theorem rr_one {xv:Value} {lo hi:Int} {kp:Bool} (h:xv.oneCell'=true):(rrCells xv lo hi kp).toList.all (·.oneCell')=true:=by
 unfold rrCells
 show (xv.oneCell' && _)=true
 rw [h]
 rfl
theorem rit_snoc (xs:List RIt) (x:RIt):ritCells (xs ++ [x])=ritCells xs ++ [x.v,.int .i64 x.q.lo,.int .i64 x.q.hi,.bool x.q.keep]:=by simp [ritCells]
theorem RRulesAt.grow {w4 w5 w6:World} {p:Nat} {rs:List Hm.Rl} {xs:List RIt} {v v':Value} {x:RIt} {r:Hm.Rl} {O:Obj} (h:RRulesAt w4 p rs xs v) (hx:w4.ownsRow (p+1) 3 1 x.v x.q.facs.length (x.q.facs.map natV)) (hal:Hm.Alike r x.q)
  (hown:w5.ownsRow (p+1) 222 4 v' (xs.length+1) (ritCells xs ++ [x.v,.int .i64 x.q.lo,.int .i64 x.q.hi,.bool x.q.keep])) (hg:(w4.drew.alloc O).grownBy w5 v.ownBlock) (hp:Hw.Put w5 p 219 #[v'] w6):RRulesAt w6 p (rs ++ [r]) (xs ++ [x]) v':=by
 have hK:Hw.Kept (fun k=>some k=v.ownBlock) w4 w5:=(Hw.Kept.of_below (S:=fun k=>some k=v.ownBlock) (((Below.refl w4.heap.size w4).drew).alloc (Nat.le_refl _) O)).trans (Hw.Kept.of_grown hg) (fun _ _ h=>h)
 have hK6:Hw.Kept (fun k=>some k=v.ownBlock∨k=p) w4 w6:=(hK.mono (fun _ _ h=>.inl h)).trans hp.kept (fun _ _ h=>.inr h)
 have key:∀ y:RIt,w4.ownsRow (p+1) 3 1 y.v y.q.facs.length (y.q.facs.map natV)->w6.ownsRow (p+1) 3 1 y.v y.q.facs.length (y.q.facs.map natV):=fun y hy=>Hw.ownsRow_keptS hy hK6 (fun k e hk=>by
  rcases hk with hk | hk
  ·obtain ⟨c1,hc1⟩:=Hw.ownsRow_cells hy e
   obtain ⟨c2,hc2⟩:=Hw.ownsRow_cells h.own hk.symm
   rw [hc1] at hc2
   cases hc2
  ·have:=hy.lt k e;omega)
 refine ⟨hp.row,?_,?_,by simp [h.len],?_⟩
 ·rw [rit_snoc,List.length_append]
  exact Hw.ownsRow_keptS hown hp.kept (fun k e hk=>by have:=hown.lt k e;omega)
 ·intro y hy
  rcases List.mem_append.1 hy with hy | hy
  ·exact key y (h.each y hy)
  ·simp at hy;subst hy;exact key y hx
 ·intro k r' y hr hy
  by_cases hk:k < rs.length
  ·rw [List.getElem?_append_left hk] at hr
   rw [List.getElem?_append_left (by have:=h.len;omega)] at hy
   exact h.alike k r' y hr hy
  ·have hk2:k=rs.length:=by
    have:=(List.getElem?_eq_some_iff.1 hr).1
    simp at this
    omega
   subst hk2
   rw [List.getElem?_append_right (Nat.le_refl _)] at hr
   rw [List.getElem?_append_right (by have:=h.len;omega),<-h.len] at hy
   simp at hr hy
   subst hr hy
   exact hal
def RNRPost (r:Except Nat (List Hm.Rl)) (w:World) (e:Ending) (w':World):Prop:=match r with
 | .error n=>e=.returned (.tuple #[.pointer none,.int .i64 11,.int .i64 n])
 | .ok rs=>e=.returned (.tuple #[.pointer (some ⟨w.heap.size,0,none⟩),.int .i64 0,.int .i64 0])/\∃ xs v,RRulesAt w' w.heap.size rs xs v
theorem RRulesAt.next {w w':World} {p:Nat} {rs:List Hm.Rl} {xs:List RIt} {v:Value} (h:RRulesAt w p rs xs v) (hb:Below w.heap.size w w'):RRulesAt w' p rs xs v:=
 ⟨(hb.block _ (Array.getElem?_eq_some_iff.1 h.row).1).trans h.row,Hw.ownsRow_keptS (S:=fun _=>False) h.own (Hw.Kept.of_below hb) (fun _ _ e=>e),fun x hx=>Hw.ownsRow_keptS (S:=fun _=>False) (h.each x hx) (Hw.Kept.of_below hb) (fun _ _ e=>e),h.len,h.alike⟩
set_option maxRecDepth 20000 in
set_option maxHeartbeats 8000000 in
theorem rNewRules_any (l0:List UInt8) (hl0:l0.length<=400) (w:World):Calls Tryz.prog 108 #[.string ⟨l0.toArray⟩] w fun e w'=>Below w.heap.size w w'/\RNRPost (Hm.newRules l0) w e w':=by
 obtain ⟨N,hN⟩:∃ N,Hm.newRules l0=N:=⟨_,rfl⟩
 rw [hN]
 have HN0:Hid (N=Hm.rulesFrom (l0.length+1) 0 l0 []):=hN.symm
 clear hN
 have h':¬ (400:Int) < (l0.length:Int):=by omega
 have FI:Hid (∀ l:List UInt8,l.length<=400->∀ w,Calls Tryz.prog 151 #[.string ⟨l.toArray⟩,.int .u8 10] w fun e w'=>e=.returned (.int .i64 (Hm.rfind 10 l))/\w'=w):=fun l hl w=>rfind_any l (by omega) 10 w
 have RU:Hid (∀ l:List UInt8,l.length<=400->∀ w,Calls Tryz.prog 152 #[.string ⟨l.toArray⟩] w fun e w'=>RulePost (Hm.readRule l) w e w'):=fun l hl w=>rrule_any l (by omega) w
 have HL0:=show Hid _ from hl0
 clear hl0
 go_enter Tryz.func108,Tryz.ntmps108
 go_wp2
 go_loopw [0,6,7,8] (fun s0 _ _ _ wr=>∃ (fu:Nat) (l:List UInt8) (acc:List Hm.Rl) (xs:List RIt) (v:Value),s0=.string ⟨l.toArray⟩/\l.length < fu/\l.length<=400/\acc.length<=12/\N=Hm.rulesFrom fu acc.length l acc/\RRulesAt wr w.heap.size acc xs v/\Below w.heap.size w wr) (fun s0 _ _ _ _=>strN s0)
 case atStart=>exact ⟨l0.length+1,l0,[],[],.slice none 0 0,rfl,by omega,HL0.out,by simp,HN0.out,⟨heap_alloc_new _ _,World.ownsRow_nil _ _ _ _,(fun x hx=>by cases hx),rfl,fun k r x h=>by simp at h⟩,(Below.refl _ _).alloc (Nat.le_refl _) _⟩
 case round=>
  clear HN0 h'
  obtain ⟨fu,l,acc,xs,v,rfl,hfu,hl,hacc,hN,hR,hB⟩:=hrel
  have HN:Hid (N=Hm.rulesFrom fu acc.length l acc):=hN
  have HR:Hid (RRulesAt wr w.heap.size acc xs v):=hR
  have HB:Hid (Below w.heap.size w wr):=hB
  have hxl:=hR.len
  have c0:wr.cell? ⟨w.heap.size,0,none⟩=some v:=cell_of_row _ _ _ _ _ _ hR.row
  clear hN hR hB
  obtain ⟨va,vc,rfl⟩:=own_form4 HR.out.own
  by_cases hl0:l=[]
  ·have HE:Hid (N=.ok acc):=by show _=_;rw [HN.out,hl0];exact Hm.rf_done (by omega)
   subst hl0
   go_wp2
   go_ret3
   refine ⟨HB.out,?_⟩
   rw [HE.out]
   exact ⟨rfl,xs,_,HR.out⟩
  have hpos:(0:Int) < (l.length:Int):=by have:=List.length_pos_iff.2 hl0;omega
  have FL:=show Hid _ from FI.out l hl
  rcases Hm.rfind_cut (c:=10) (l:=l) with ⟨hr,hc⟩ | ⟨i,hr,hil,hc⟩
  ·have HE:Hid (N=.error acc.length):=by show _=_;rw [HN.out];exact Hm.rf_cut (by omega) hl0 (.inr (by rw [hc]))
   rw [hr] at FL
   clear hr hc hl0
   go_wp2_with fail
   refine (FL.out _).mono ?_
   rintro e w1 ⟨rfl,hw1⟩
   have hw1:=hw1.symm
   subst hw1
   go_wp2_with fail
   go_quiet (fail)
   go_wp2
   go_ret3
   refine ⟨Below.next HB.out (Nat.le_refl _) (drew_below ⟨_,rfl⟩),?_⟩
   rw [HE.out]
   exact congrArg (fun z=>Ending.returned (Value.tuple #[.pointer none,.int .i64 11,.int .i64 z])) (by omega)
  rw [hr] at FL
  have RL:=show Hid _ from RU.out (l.take i) (by rw [List.length_take];omega)
  have HBAD:Hid (Hm.readRule (l.take i)=none->N=.error acc.length):=fun h=>HN.out.trans (Hm.rf_bad (by omega) hl0 (by rw [hc];exact h))
  have HFULL:Hid (acc.length=12->N=.error acc.length):=fun h=>HN.out.trans (Hm.rf_cut (by omega) hl0 (.inl h))
  have HNEXT:Hid (∀ r,Hm.readRule (l.take i)=some r->¬ acc.length=12->N=Hm.rulesFrom (fu - 1) (acc.length+1) (l.drop (i+1)) (acc ++ [r])):=fun r h h12=>by
   have:=Hm.rf_next (fu:=fu) (n:=acc.length) (l:=l) (acc:=acc) (r:=r) (by omega) hl0 (by rw [hc];simpa using h12) (by rw [hc];exact h)
   rw [hc] at this
   exact HN.out.trans this
  clear hr hc hl0
  have i0':¬ (i:Int) < 0:=by omega
  have i1:(i:Int)<=(l.length:Int):=by omega
  have i2:(i:Int)+1<=(l.length:Int):=by omega
  have i3:((i:Int)+1).toNat=i+1:=by omega
  obtain ⟨nx,hnx⟩:∃ n,l.drop (i+1)=n:=⟨_,rfl⟩
  have hnxl:nx.length+i+1=l.length:=by rw [<-hnx,List.length_drop];omega
  have hnt:(l.drop (i+1)).take (l.length - (i+1))=nx:=by rw [hnx];exact List.take_of_length_le (by rw [<-hnx,List.length_drop];omega)
  rw [hnx] at HNEXT
  clear hnx
  generalize Hm.readRule (l.take i)=Q at RL HBAD HNEXT
  go_wp2_with fail
  refine (FL.out _).mono ?_
  rintro e w1 ⟨rfl,hw1⟩
  have hw1:=hw1.symm
  subst hw1
  go_wp2_with fail
  refine (RL.out _).mono ?_
  rintro e w3 ⟨xv,q,ok,rfl,h1c,hq1,hq2,hb3⟩
  have hz:=(Array.getElem?_eq_some_iff.1 HR.out.row).1
  have HR3:=show Hid (RRulesAt w3 w.heap.size acc xs _) from HR.out.next hb3
  have HB3:Hid (Below w.heap.size w w3):=Below.next HB.out (Nat.le_refl _) hb3
  have hz3:w.heap.size < w3.heap.size:=(Array.getElem?_eq_some_iff.1 HR3.out.row).1
  have HQ1:=show Hid _ from hq1
  have HQ2:=show Hid _ from hq2
  have hzr:=hb3.size
  clear hb3 hq1 hq2 c0 HR
  -- AFTER RULE
  obtain ⟨xlo,xhi,xkp,hcs⟩:∃ lo hi kp,q.lo=lo/\q.hi=hi/\q.keep=kp:=⟨_,_,_,rfl,rfl,rfl⟩
  rw [hcs.1,hcs.2.1,hcs.2.2]
  have HCS:=show Hid _ from hcs
  clear hcs
  have H1C:Hid ((rrCells xv xlo xhi xkp).toList.all (·.oneCell')=true):=rr_one h1c
  have c3:w3.cell? ⟨w.heap.size,0,none⟩=some (.slice va xs.length vc):=cell_of_row _ _ _ _ _ _ HR3.out.row
  cases ok with
  | false=>
   have HE:Hid (N=.error acc.length):=by
    cases hQ:Q with
    | none=>exact HBAD.out hQ
    | some r=>have:=(HQ1.out r hQ).1;cases this
   clear HBAD HFULL HNEXT HQ1 HQ2
   go_wp2_with (first
    | (refine Hw.wpList_store_rowP rfl _ _ _ rfl rfl w3.heap.size (rrCells xv xlo xhi xkp) rfl rfl _ _ (heap_alloc_new _ _) size_rrule rfl H1C.out ?_;intro w4 p4;have P4:Hid (Hw.Put (w3.alloc _) _ _ _ w4):=p4;clear p4;have c4:w4.cell? ⟨w.heap.size,0,none⟩=some (.slice va xs.length vc):=cell_of_row _ _ _ _ _ _ ((P4.out.other _ (by omega)).trans ((heap_alloc_old _ _ hz3).trans HR3.out.row)))
    | fail)
   go_quiet (fail)
   go_wp2
   go_ret3
   refine ⟨Below.next ((HB3.out.alloc HB3.out.size _).trans (P4.out.below HB3.out.size)) (Nat.le_refl _) (drew_below ⟨_,rfl⟩),?_⟩
   rw [HE.out]
   exact congrArg (fun z=>Ending.returned (Value.tuple #[.pointer none,.int .i64 11,.int .i64 z])) (by omega)
  | true=>
   obtain ⟨r,hQ⟩:∃ r,Q=some r:=by
    cases hQ:Q with
    | none=>have:=HQ2.out hQ;cases this
    | some r=>exact ⟨r,rfl⟩
   obtain ⟨_,hal,hxo⟩:=HQ1.out r hQ
   have HXO:Hid (w3.ownsRow (w.heap.size+1) 3 1 xv q.facs.length (q.facs.map natV)):=own_base2 hxo (by omega)
   have HAL:=show Hid _ from hal
   by_cases h12:acc.length=12
   ·have HE:Hid (N=.error acc.length):=HFULL.out h12
    have hb12:((xs.length:Int) == 12)=true:=beq_iff_eq.2 (by omega)
    clear HBAD HFULL HNEXT HQ1 HQ2 hal hxo h12 hQ
    go_wp2_with (first
     | (refine Hw.wpList_store_rowP rfl _ _ _ rfl rfl w3.heap.size (rrCells xv xlo xhi xkp) rfl rfl _ _ (heap_alloc_new _ _) size_rrule rfl H1C.out ?_;intro w4 p4;have P4:Hid (Hw.Put (w3.alloc _) _ _ _ w4):=p4;clear p4;have c4:w4.cell? ⟨w.heap.size,0,none⟩=some (.slice va xs.length vc):=cell_of_row _ _ _ _ _ _ ((P4.out.other _ (by omega)).trans ((heap_alloc_old _ _ hz3).trans HR3.out.row)))
     | fail)
    go_quiet (fail)
    go_wp2
    go_ret3
    refine ⟨Below.next ((HB3.out.alloc HB3.out.size _).trans (P4.out.below HB3.out.size)) (Nat.le_refl _) (drew_below ⟨_,rfl⟩),?_⟩
    rw [HE.out]
    exact congrArg (fun z=>Ending.returned (Value.tuple #[.pointer none,.int .i64 11,.int .i64 z])) (by omega)
   have hb12:((xs.length:Int) == 12)=false:=beq_eq_false_iff_ne.2 (by omega)
   have HNX:Hid (N=Hm.rulesFrom (fu - 1) (acc.length+1) nx (acc ++ [r])):=HNEXT.out r hQ h12
   clear HBAD HFULL HNEXT HQ1 HQ2 hal hxo hQ
   go_wp2_with (first
    | (refine Hw.wpList_store_rowP rfl _ _ _ rfl rfl w3.heap.size (rrCells xv xlo xhi xkp) rfl rfl _ _ (heap_alloc_new _ _) size_rrule rfl H1C.out ?_;intro w4 p4;have P4:Hid (Hw.Put (w3.alloc _) _ _ _ w4):=p4;clear p4;have c4:w4.cell? ⟨w.heap.size,0,none⟩=some (.slice va xs.length vc):=cell_of_row _ _ _ _ _ _ ((P4.out.other _ (by omega)).trans ((heap_alloc_old _ _ hz3).trans HR3.out.row)))
    | fail)
   have hzz:w3.heap.size < w4.heap.size:=by have:=P4.out.size;simp at this;omega
   have HR4:=show Hid (RRulesAt w4 w.heap.size acc xs _) from HR3.out.next (((Below.refl _ _).alloc (Nat.le_refl _) _).trans (P4.out.below (Nat.le_refl _)))
   have HB4:Hid (Below w.heap.size w w4):=(HB3.out.alloc HB3.out.size _).trans (P4.out.below HB3.out.size)
   have HX4:Hid (w4.ownsRow (w.heap.size+1) 3 1 xv q.facs.length (q.facs.map natV)):=Hw.ownsRow_keptS (S:=fun _=>False) HXO.out (Hw.Kept.of_below (((Below.refl _ _).alloc (Nat.le_refl _) _).trans (P4.out.below (Nat.le_refl _)))) (fun _ _ e=>e)
   have hrow4:=P4.out.row
   unfold rrCells at hrow4
   have x0:w4.cell? ⟨w3.heap.size,0,none⟩=some (xv):=cell_of_row _ _ _ _ _ _ hrow4
   have x1:w4.cell? ⟨w3.heap.size,1,none⟩=some (.int .i64 xlo):=cell_of_row _ _ _ _ _ _ hrow4
   have x2:w4.cell? ⟨w3.heap.size,2,none⟩=some (.int .i64 xhi):=cell_of_row _ _ _ _ _ _ hrow4
   have x3:w4.cell? ⟨w3.heap.size,3,none⟩=some (.bool xkp):=cell_of_row _ _ _ _ _ _ hrow4
   clear hrow4 c3
   obtain ⟨i0,hi,hz0,hz1,hz2'⟩:=info_parts info_rrule
   refine Hw.region_slots0 [(48,0),(49,1),(50,2),(51,3),(52,4),(53,5),(54,6),(55,7),(56,8),(57,9)] _ (ApR (ruleV w.heap.size (.slice va xs.length vc) (rrCells xv xlo xhi xkp)) w4.drew (.cells (rrCells xv xlo xhi xkp) 222 (0,0)) (fun v' w5=>w5.ownsRow (w.heap.size+1) 222 4 v' (xs.length+1) (ritCells xs ++ [xv,.int .i64 xlo,.int .i64 xhi,.bool xkp])/\(w4.drew.alloc (.cells (rrCells xv xlo xhi xkp) 222 (0,0))).grownBy w5 (Value.slice va xs.length vc).ownBlock) (fun v' w5 w6=>Hw.Put w5 w.heap.size 219 #[v'] w6)) mixed (by kernel_rfl) (put48 _ rfl) ApR.start ?_ ?_
   ·rintro LD X w' j hD hj hdep hno
    have hj11:j < 11:=hj
    have HD:Hid (ApR (ruleV w.heap.size (.slice va xs.length vc) (rrCells xv xlo xhi xkp)) w4.drew (.cells (rrCells xv xlo xhi xkp) 222 (0,0)) (fun v' w5=>w5.ownsRow (w.heap.size+1) 222 4 v' (xs.length+1) (ritCells xs ++ [xv,.int .i64 xlo,.int .i64 xhi,.bool xkp])/\(w4.drew.alloc (.cells (rrCells xv xlo xhi xkp) 222 (0,0))).grownBy w5 (Value.slice va xs.length vc).ownBlock) (fun v' w5 w6=>Hw.Put w5 w.heap.size 219 #[v'] w6) LD X w'):=hD
    have hsz:=hD.sz
    clear hD hj
    rcases (by omega:j=0∨j=1∨j=2∨j=3∨j=4∨j=5∨j=6∨j=7∨j=8∨j=9∨j=10) with h | h | h | h | h | h | h | h | h | h | h<;>subst h
    ·have hnk:LD.getD 0 false=false:=by rw [<-gD (by omega)];exact hno
     clear hdep
     simp only [Hw.putAll,List.setIfInBounds_toArray,List.set_cons_succ,List.set_cons_zero]
     refine wpOp_step rfl (fun K hK=>?_)
     go_simp
     exact hK _ _ ⟨Hw.upd X 0 (ruleV w.heap.size (.slice va xs.length vc) (rrCells xv xlo xhi xkp) 0),by simp [Hw.upd,ruleV],HD.out.step 0 (by decide) (by decide) (by decide) (by decide) rfl⟩
    ·have hnk:LD.getD 1 false=false:=by rw [<-gD (by omega)];exact hno
     clear hdep
     simp only [Hw.putAll,List.setIfInBounds_toArray,List.set_cons_succ,List.set_cons_zero]
     refine wpOp_step rfl (fun K hK=>?_)
     go_simp
     exact hK _ _ ⟨Hw.upd X 1 (ruleV w.heap.size (.slice va xs.length vc) (rrCells xv xlo xhi xkp) 1),by simp [Hw.upd,ruleV],HD.out.step 1 (by decide) (by decide) (by decide) (by decide) rfl⟩
    ·have hnk:LD.getD 2 false=false:=by rw [<-gD (by omega)];exact hno
     have hd:=hdep _ rfl
     have l1:LD.getD 1 false=true:=hd ⟨1,.data⟩ (by simp) rfl
     have e1:=HD.out.f 1 (by decide) (by decide) (by decide) l1
     simp only [ruleV] at e1
     clear hdep hd
     simp only [Hw.putAll,List.setIfInBounds_toArray,List.set_cons_succ,List.set_cons_zero]
     refine wpOp_step rfl (fun K hK=>?_)
     try simp only [e1]
     go_wp2_with fail
     exact ⟨Hw.upd X 2 (ruleV w.heap.size (.slice va xs.length vc) (rrCells xv xlo xhi xkp) 2),by simp [Hw.upd,ruleV,e1],HD.out.step 2 (by decide) (by decide) (by decide) (by decide) rfl⟩
    ·have hnk:LD.getD 3 false=false:=by rw [<-gD (by omega)];exact hno
     have hd:=hdep _ rfl
     have l2:LD.getD 2 false=true:=hd ⟨2,.data⟩ (by simp) rfl
     have e2:=HD.out.f 2 (by decide) (by decide) (by decide) l2
     simp only [ruleV] at e2
     clear hdep hd
     simp only [Hw.putAll,List.setIfInBounds_toArray,List.set_cons_succ,List.set_cons_zero]
     refine wpOp_step rfl (fun K hK=>?_)
     try simp only [e2]
     go_wp2_with fail
     exact ⟨Hw.upd X 3 (ruleV w.heap.size (.slice va xs.length vc) (rrCells xv xlo xhi xkp) 3),by simp [Hw.upd,ruleV,e2],HD.out.step 3 (by decide) (by decide) (by decide) (by decide) rfl⟩
    ·have hnk:LD.getD 4 false=false:=by rw [<-gD (by omega)];exact hno
     have hd:=hdep _ rfl
     have l3:LD.getD 3 false=true:=hd ⟨3,.data⟩ (by simp) rfl
     have e3:=HD.out.f 3 (by decide) (by decide) (by decide) l3
     simp only [ruleV] at e3
     clear hdep hd
     have h7:LD.getD 7 false=false:=ff (fun h=>by have:=(HD.out.o7 h).2;rw [hnk] at this;cases this)
     have hcw:w'.cell? ⟨w.heap.size,0,none⟩=some (.slice va xs.length vc):=by
      cases h6:LD.getD 6 false with
      | false=>rw [HD.out.a h6];exact c4
      | true=>rw [HD.out.c h6 h7];exact ((((Below.refl w4.heap.size w4).drew).alloc (Nat.le_refl _) _).cell (p:=⟨w.heap.size,0,none⟩) (show w.heap.size < w4.heap.size by omega)).trans c4
     simp only [Hw.putAll,List.setIfInBounds_toArray,List.set_cons_succ,List.set_cons_zero]
     refine wpOp_step rfl (fun K hK=>?_)
     try simp only [e3]
     go_wp2_with fail
     exact ⟨Hw.upd X 4 (ruleV w.heap.size (.slice va xs.length vc) (rrCells xv xlo xhi xkp) 4),by simp [Hw.upd,ruleV,e3],HD.out.step 4 (by decide) (by decide) (by decide) (by decide) rfl⟩
    ·have hnk:LD.getD 5 false=false:=by rw [<-gD (by omega)];exact hno
     clear hdep
     have h6:LD.getD 6 false=false:=ff (fun h=>by have:=HD.out.o6 h;rw [hnk] at this;cases this)
     have hww:=HD.out.a h6
     subst hww
     simp only [Hw.putAll,List.setIfInBounds_toArray,List.set_cons_succ,List.set_cons_zero]
     refine wpOp_step rfl (fun K hK=>?_)
     go_wp2_with fail
     exact ⟨Hw.upd X 5 (ruleV w.heap.size (.slice va xs.length vc) (rrCells xv xlo xhi xkp) 5),by simp [Hw.upd,ruleV,rrCells],HD.out.step 5 (by decide) (by decide) (by decide) (by decide) rfl⟩
    ·have hnk:LD.getD 6 false=false:=by rw [<-gD (by omega)];exact hno
     have hd:=hdep _ rfl
     have l5:LD.getD 5 false=true:=hd ⟨5,.data⟩ (by simp) rfl
     have e5:=HD.out.f 5 (by decide) (by decide) (by decide) l5
     simp only [ruleV,rrCells] at e5
     clear hdep hd
     have hww:=HD.out.a hnk
     simp only [Hw.putAll,List.setIfInBounds_toArray,List.set_cons_succ,List.set_cons_zero]
     refine wpOp_step rfl (fun K hK=>?_)
     try simp only [e5]
     subst hww
     go_wp2_with fail
     exact ⟨Hw.upd X 6 (.slice (some ⟨w4.heap.size,0,none⟩) 1 1),by simp [Hw.upd,e5],HD.out.build hnk l5⟩
    ·have hnk:LD.getD 7 false=false:=by rw [<-gD (by omega)];exact hno
     have hd:=hdep _ rfl
     have l4:LD.getD 4 false=true:=hd ⟨4,.data⟩ (by simp) rfl
     have e4:=HD.out.f 4 (by decide) (by decide) (by decide) l4
     simp only [ruleV] at e4
     have l6:LD.getD 6 false=true:=hd ⟨6,.data⟩ (by simp) rfl
     clear hdep hd
     have e6:=HD.out.b l6
     have hww:=HD.out.c l6 hnk
     simp only [Hw.putAll,List.setIfInBounds_toArray,List.set_cons_succ,List.set_cons_zero]
     refine wpOp_step rfl (fun K hK=>?_)
     try simp only [e4]
     try simp only [e6]
     subst hww
     split
     case isFalse hw=>exact absurd (by kernel_rfl) hw
     refine wp_append_own _ _ _ 217 rfl (w.heap.size+1) 222 i0 (.agg #[.slice none 0 0,.int .i64 0,.int .i64 0,.bool false]) 4 48 Tryz.underlying217 hi hz0 hz1 hz2' rfl (by decide) _ _ _ rfl ((HR4.out.next ((Below.refl w4.heap.size w4).drew)).own.alloc _) ⟨w4.heap.size,0,none⟩ 1 1 [xv,.int .i64 xlo,.int .i64 xhi,.bool xkp] rfl rfl (cell_four_new _ _ _ _ _ _) (fun u hu=>by have:=List.all_eq_true.1 H1C.out u (by simpa [rrCells] using hu);exact this) (by unfold maxLen;omega) (by omega) (by show _<=(w4.drew.alloc _).heap.size;simp;omega) ?_
     intro v' w5 hown hgrow _
     exact hK _ _ ⟨Hw.upd X 7 v',by simp [Hw.upd,Act.put,e4,e6],HD.out.app hnk l4 l6 ⟨hown,hgrow⟩⟩
    ·have hnk:LD.getD 8 false=false:=by rw [<-gD (by omega)];exact hno
     have hd:=hdep _ rfl
     have l0:LD.getD 0 false=true:=hd ⟨0,.data⟩ (by simp) rfl
     have e0:=HD.out.f 0 (by decide) (by decide) (by decide) l0
     simp only [ruleV] at e0
     clear hdep hd
     simp only [Hw.putAll,List.setIfInBounds_toArray,List.set_cons_succ,List.set_cons_zero]
     refine wpOp_step rfl (fun K hK=>?_)
     try simp only [e0]
     go_wp2_with fail
     exact ⟨Hw.upd X 8 (ruleV w.heap.size (.slice va xs.length vc) (rrCells xv xlo xhi xkp) 8),by simp [Hw.upd,ruleV,e0],HD.out.step 8 (by decide) (by decide) (by decide) (by decide) rfl⟩
    ·have hnk:LD.getD 9 false=false:=by rw [<-gD (by omega)];exact hno
     have hd:=hdep _ rfl
     have l8:LD.getD 8 false=true:=hd ⟨8,.data⟩ (by simp) rfl
     have e8:=HD.out.f 8 (by decide) (by decide) (by decide) l8
     simp only [ruleV] at e8
     clear hdep hd
     simp only [Hw.putAll,List.setIfInBounds_toArray,List.set_cons_succ,List.set_cons_zero]
     refine wpOp_step rfl (fun K hK=>?_)
     try simp only [e8]
     go_wp2_with fail
     exact ⟨Hw.upd X 9 (ruleV w.heap.size (.slice va xs.length vc) (rrCells xv xlo xhi xkp) 9),by simp [Hw.upd,ruleV,e8],HD.out.step 9 (by decide) (by decide) (by decide) (by decide) rfl⟩
    ·have hnk:LD.getD 10 false=false:=by rw [<-gD (by omega)];exact hno
     have hd:=hdep _ rfl
     have l9:LD.getD 9 false=true:=hd ⟨9,.data⟩ (by simp) rfl
     have e9:=HD.out.f 9 (by decide) (by decide) (by decide) l9
     simp only [ruleV] at e9
     have l7:LD.getD 7 false=true:=hd ⟨7,.data⟩ (by simp) rfl
     clear hdep hd
     simp only [Hw.putAll,List.setIfInBounds_toArray,List.set_cons_succ,List.set_cons_zero]
     refine wpOp_step rfl (fun K hK=>?_)
     try simp only [e9]
     split
     case isFalse hw=>exact absurd (by kernel_rfl) hw
     obtain ⟨hown,hgrow⟩:=HD.out.d l7 hnk
     generalize hX7:X 7=v7 at hown hgrow
     obtain ⟨v7a,v7c,rfl⟩:=own_form4 hown
     have hrp:w'.heap[w.heap.size]?=some (.cells #[.slice va xs.length vc] 219 (0,0)):=(hgrow.block _ (show w.heap.size < (w4.drew.alloc _).heap.size by simp;omega) (fun e=>by have:=HR4.out.own.lt _ e.symm;omega)).trans ((((Below.refl w4.heap.size w4).drew).alloc (Nat.le_refl _) _).block _ (show w.heap.size < w4.heap.size by omega) |>.trans HR4.out.row)
     refine wp_store_fieldP _ _ _ rfl rfl w.heap.size 0 _ rfl rfl _ _ #[.slice v7a (xs.length+1) v7c] hrp size_rrules (by simp) (by first | rfl | (simp only [hX7];rfl)) (by first | rfl | (simp only [hX7];rfl)) ?_
     intro w6 p6
     exact hK _ _ ⟨X,by simp [e9,hX7],HD.out.store hnk l7 (by rw [hX7];exact p6)⟩
   ·intro LD X w6 hD hall
    obtain ⟨w5,⟨hown,hgrow⟩,hput⟩:=hD.e (hall 10 (by decide))
    generalize hX7:X 7=v7 at hown hgrow hput
    have HR6:Hid (RRulesAt w6 w.heap.size (acc ++ [r]) (xs ++ [⟨xv,q⟩]) v7):=RRulesAt.grow (x:=⟨xv,q⟩) HR4.out HX4.out HAL.out (by show w5.ownsRow _ _ _ _ _ (ritCells xs ++ [xv,.int .i64 q.lo,.int .i64 q.hi,.bool q.keep]);rw [HCS.out.1,HCS.out.2.1,HCS.out.2.2];exact hown) hgrow hput
    have HB6:Hid (Below w.heap.size w w6):=(((HB4.out.drew).alloc HB4.out.size _).grown hgrow (show w.heap.size<=(w4.drew.alloc _).heap.size by simp;omega) (fun k e=>by have:=HR4.out.own.lt k e;omega)).trans (hput.below (Nat.le_refl _))
    clear hD hall hown hgrow hput hX7
    simp only [Hw.putAll,List.setIfInBounds_toArray,List.set_cons_succ,List.set_cons_zero]
    go_wp2
    go_roundw
    case rel=>exact ⟨fu - 1,nx,acc ++ [r],xs ++ [⟨xv,q⟩],v7,rfl,by omega,by omega,by simp;omega,by rw [List.length_append];exact HNX.out,HR6.out,HB6.out⟩
    case measure=>simp [strN,ByteArray.size];omega
end Go.Proofs.YtdlhbmncbmconaaGreatDoor

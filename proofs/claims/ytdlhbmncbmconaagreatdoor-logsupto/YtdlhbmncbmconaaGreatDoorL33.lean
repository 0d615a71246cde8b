/- Pressed by program out of Ei Ej Ek. -/
import Derived.Test.YtdlhbmncbmconaaGreatDoorL09
import Derived.Test.YtdlhbmncbmconaaGreatDoorL00
import Derived.Test.YtdlhbmncbmconaaGreatDoorL02
namespace Go.Proofs.YtdlhbmncbmconaaGreatDoor
open Go.RowKit Go.Sort
attribute [local go_sem] alloc_drewN setCell_drewN
theorem lpick_any (c:Int) (n:Nat) (hn:0 < n) (hn2:n<=4000000000) (h0:-9223372036854775808<=c) (h1:c<=9223372036854775807) (w:World) :
  Calls Tryz.prog 114 #[.int .i64 c,.int .i64 n] w fun e w'=>e=.returned (.int .i64 (Hm.pick c n))/\w'=w:=by
 have hnn:¬ (n:Int)=0:=by omega
 have hnn2:((n:Int) == 0)=false:=beq_eq_false_iff_ne.2 hnn
 have hn1:¬ (n:Int)=-1:=by omega
 by_cases hc:c < 0
 ·have HP:Hid (-((c+1).tmod (n:Int))=(Hm.pick c n:Int)):=by
   show _=_
   unfold Hm.pick
   rw [if_pos hc,<-Int.neg_tmod,Int.tmod_eq_emod_of_nonneg (by omega)]
   have:=Int.emod_nonneg (-(c+1)) (b:=(n:Int)) (by omega)
   omega
  go_enter Tryz.func114,Tryz.ntmps114
  go_wp2
  go_ret
  exact ⟨by rw [<-HP.out];rfl,rfl⟩
 ·have HP:Hid (c % (n:Int)=(Hm.pick c n:Int)):=by
   show _=_
   unfold Hm.pick
   rw [if_neg hc]
   have:=Int.emod_nonneg c (b:=(n:Int)) (by omega)
   omega
  go_enter Tryz.func114,Tryz.ntmps114
  go_wp2
  go_ret
  exact ⟨by rw [<-HP.out];rfl,rfl⟩
theorem lsame_from (a b:List (List UInt8)) (va vb:Value) (ba bb:Nat) (w:World) (ha:Hw.ownsFrom w ba 9 va (a.map strV)) (hb:Hw.ownsFrom w bb 9 vb (b.map strV)) (hl:a.length<=1000000000) (hl2:b.length<=1000000000) :
  Calls Tryz.prog 116 #[va,vb] w fun e w'=>e=.returned (.bool (decide (a=b)))/\Below w.heap.size w w':=by
 obtain ⟨aa,ca,rfl⟩:=from_form ha
 obtain ⟨ab,cb,rfl⟩:=from_form hb
 by_cases hlen:a.length=b.length
 ·have hli:(a.length:Int)=(b.length:Int):=by omega
  have HA:Hid (Hw.ownsFrom w ba 9 (.slice aa a.length ca) (a.map strV)):=ha
  have HB0:Hid (Hw.ownsFrom w bb 9 (.slice ab b.length cb) (b.map strV)):=hb
  have HLen:Hid (a.length=b.length):=hlen
  clear ha hb hlen
  go_enter Tryz.func116,Tryz.ntmps116
  go_wp2
  go_loopw [5] (fun ix wr=>∃ k:Nat,k<=a.length/\ix=.int .i64 k/\a.take k=b.take k/\Below w.heap.size w wr) (fun ix _=>a.length - (intOf ix).toNat)
  case atStart=>exact ⟨0,by omega,rfl,rfl,Below.refl _ _⟩
  case round=>
   obtain ⟨k,hk,rfl,hv,hbr⟩:=hrel
   have HV:Hid (a.take k=b.take k):=hv
   have HBr:Hid (Below w.heap.size w wr):=hbr
   clear hv hbr
   by_cases hlt:k < a.length
   ·have hki:(k:Int) < (a.length:Int):=by omega
    have hki2:(k:Int) < (b.length:Int):=by omega
    have hltb:k < b.length:=by omega
    obtain ⟨ga,oa,rfl⟩:=from_some HA.out (by omega)
    obtain ⟨gb,ob,rfl⟩:=from_some HB0.out (by omega)
    have c1:w.cell? ⟨ga,oa+k,none⟩=some (strV a[k]):=Hw.ownsFrom_at HA.out (by simp [hlt])
    have c2:w.cell? ⟨gb,ob+k,none⟩=some (strV b[k]):=Hw.ownsFrom_at HB0.out (by simp [hltb])
    have d1:wr.cell? ⟨ga,oa+k,none⟩=some (strV a[k]):=(HBr.out.cell (p:=⟨ga,oa+k,none⟩) (block_lt_of_cell c1)).trans c1
    have d2:wr.cell? ⟨gb,ob+k,none⟩=some (strV b[k]):=(HBr.out.cell (p:=⟨gb,ob+k,none⟩) (block_lt_of_cell c2)).trans c2
    have HT1:Hid (a.take (k+1)=a.take k ++ [a[k]]):=(List.take_append_getElem hlt).symm
    have HT2:Hid (b.take (k+1)=b.take k ++ [b[k]]):=(List.take_append_getElem hltb).symm
    unfold strV at d1 d2
    have HX:Hid (a[k]=b[k]∨¬ a=b):=by
     show _∨_
     by_cases e:a[k]=b[k]
     ·exact .inl e
     ·exact .inr (fun e'=>e (by subst e';rfl))
    generalize a[k]=x at d1 HT1 HX
    generalize b[k]=y at d2 HT2 HX
    clear c1 c2
    by_cases hxy:x=y
    ·subst hxy
     go_wp2_with fail
     go_quiet (fail)
     go_wp2
     go_roundw
     case rel=>exact ⟨k+1,by omega,int_eq (by simp),by rw [HT1.out,HT2.out,HV.out],Below.next HBr.out (Nat.le_refl _) (drew_below ⟨_,rfl⟩)⟩
     case measure=>simp [intOf];omega
    ·have HN:Hid (decide (a=b)=false):=decide_eq_false (HX.out.resolve_left hxy)
     have hxb:(x == y)=false:=beq_eq_false_iff_ne.2 hxy
     go_wp2_with fail
     go_quiet (fail)
     go_wp2
     go_ret
     exact ⟨by rw [HN.out];rfl,Below.next HBr.out (Nat.le_refl _) (drew_below ⟨_,rfl⟩)⟩
   ·have hki:¬ (k:Int) < (b.length:Int):=by omega
    have HN:Hid (decide (a=b)=true):=decide_eq_true (by
     have h:=HV.out
     have:=HLen.out
     rwa [List.take_of_length_le (by omega),List.take_of_length_le (by omega)] at h)
    go_wp2
    go_ret
    exact ⟨by rw [HN.out];rfl,HBr.out⟩
 ·have hli:¬ (a.length:Int)=(b.length:Int):=by omega
  have hlb:((a.length:Int) == (b.length:Int))=false:=beq_eq_false_iff_ne.2 hli
  have HD:Hid (decide (a=b)=false):=decide_eq_false (fun e=>hlen (by rw [e]))
  clear hlen
  go_enter Tryz.func116,Tryz.ntmps116
  go_wp2
  go_ret
  exact ⟨by rw [HD.out];rfl,Below.refl _ _⟩
end Go.Proofs.YtdlhbmncbmconaaGreatDoor
namespace Go.Proofs.YtdlhbmncbmconaaGreatDoor
open Go.RowKit Go.Sort
def ext (ρ:Nat->Nat × Nat) (n:Nat) (r:Nat × Nat):Nat->Nat × Nat:=fun k=>if k < n then ρ k else r
theorem ext_lt {ρ:Nat->Nat × Nat} {n k:Nat} {r:Nat × Nat} (h:k < n):ext ρ n r k=ρ k:=if_pos h
theorem ext_ge {ρ:Nat->Nat × Nat} {n k:Nat} {r:Nat × Nat} (h:n<=k):ext ρ n r k=r:=if_neg (by omega)
def up {α:Type} (X:Nat->α) (i:Nat) (y:α):Nat->α:=fun k=>if k=i then y else X k
theorem up_at {α:Type} (X:Nat->α) (i:Nat) (y:α):up X i y i=y:=if_pos rfl
theorem up_ne {α:Type} (X:Nat->α) {i k:Nat} (y:α) (h:k ≠ i):up X i y k=X k:=if_neg h
structure LiI where
 v:Value
 n:Nat
 m:List UInt8
structure LiItem (w:World) (ρ:Nat->Nat × Nat) (x:LiI):Prop where
 own:w.ownsRow 0 9 1 x.v x.n (List.replicate x.n (strV x.m))
 role:∀ k,x.v.ownBlock=some k->(ρ k).1=5
structure Sl (w:World) (ρ:Nat->Nat × Nat) (r:Nat × Nat) (t:TypeId) (v:Value) (xs:List Value):Prop where
 own:w.ownsRow 0 t 1 v xs.length xs
 role:∀ k,v.ownBlock=some k->ρ k=r
theorem own_lt {w:World} {base e size n:Nat} {v:Value} {xs:List Value} (h:w.ownsRow base e size v n xs) {k:Nat} (hk:v.ownBlock=some k):k < w.heap.size:=by
 obtain ⟨cur,hc⟩:=Hw.ownsRow_cells h hk
 exact (Array.getElem?_eq_some_iff.1 hc).1
theorem Sl.keep {S:Nat->Prop} {w w':World} {ρ ρ':Nat->Nat × Nat} {r:Nat × Nat} {t:TypeId} {v:Value} {xs:List Value} (h:Sl w ρ r t v xs) (hk:Hw.Kept S w w') (ag:∀ k,k < w.heap.size->ρ' k=ρ k) (hS:∀ k,k < w.heap.size->S k->ρ k ≠ r):Sl w' ρ' r t v xs:=
 ⟨Hw.ownsRow_keptS h.own hk (fun k e s=>hS k (own_lt h.own e) s (h.role k e)),fun k e=>(ag k (own_lt h.own e)).trans (h.role k e)⟩
theorem LiItem.keep {S:Nat->Prop} {w w':World} {ρ ρ':Nat->Nat × Nat} {x:LiI} (h:LiItem w ρ x) (hk:Hw.Kept S w w') (ag:∀ k,k < w.heap.size->ρ' k=ρ k) (hS:∀ k,k < w.heap.size->S k->x.v.ownBlock ≠ some k):LiItem w' ρ' x:=
 ⟨Hw.ownsRow_keptS h.own hk (fun k e s=>hS k (own_lt h.own e) s e),fun k e=>(congrArg Prod.fst (ag k (own_lt h.own e))).trans (h.role k e)⟩
def wty:Nat->TypeId
 | 0=>45
 | 1=>169
 | 2=>56
 | 3=>173
 | 4=>63
 | 5=>176
 | 6=>42
 | _=>9
def Stable (c:Nat) (I:World->(Nat->Nat × Nat)->Prop):Prop:=∀ (S:Nat->Prop) (w w':World) (ρ ρ':Nat->Nat × Nat),I w ρ->Hw.Kept S w w'->(∀ k,k < w.heap.size->ρ' k=ρ k)->(∀ k,k < w.heap.size->S k->(ρ k).1 ≠ c)->I w' ρ'
def wCells (vs:Nat->Value) (n:Nat):Array Value:=#[vs 0,vs 1,vs 2,vs 3,vs 4,vs 5,vs 6,vs 7,.int .i64 n]
theorem wCells_up (vs:Nat->Value) (n:Nat) (v:Value) {j:Nat} (hj:j < 8):(wCells vs n).setIfInBounds j v=wCells (up vs j v) n:=by
 have h:j=0∨j=1∨j=2∨j=3∨j=4∨j=5∨j=6∨j=7:=by omega
 rcases h with h | h | h | h | h | h | h | h<;>subst h<;>rfl
theorem wCells_get (vs:Nat->Value) (n:Nat) {j:Nat} (hj:j < 8):(wCells vs n)[j]?=some (vs j):=by
 have h:j=0∨j=1∨j=2∨j=3∨j=4∨j=5∨j=6∨j=7:=by omega
 rcases h with h | h | h | h | h | h | h | h<;>subst h<;>rfl
structure WIn (B p:Nat) (vs:Nat->Value) (xs:Nat->List Value) (n:Nat) (I1 I2 I3:World->(Nat->Nat × Nat)->Prop) (li:List LiI) (ρ:Nat->Nat × Nat) (w:World):Prop where
 row:w.heap[p]?=some (.cells (wCells vs n) 142 (0,0))
 rp:ρ p=(9,0)
 sl:∀ j,j < 8->Sl w ρ (j+10,0) (wty j) (vs j) (xs j)
 i1:I1 w ρ
 i2:I2 w ρ
 i3:I3 w ρ
 s1:Stable 1 I1
 s2:Stable 2 I2
 s3:Stable 3 I3
 each:∀ x ∈ li,LiItem w ρ x
 lo:∀ k,k < B->(ρ k).1=0
section
variable {B p:Nat} {vs:Nat->Value} {xs:Nat->List Value} {n:Nat} {I1 I2 I3:World->(Nat->Nat × Nat)->Prop} {li:List LiI} {ρ ρ':Nat->Nat × Nat} {w w':World} {S:Nat->Prop}
theorem WIn.lt (h:WIn B p vs xs n I1 I2 I3 li ρ w):p < w.heap.size:=(Array.getElem?_eq_some_iff.1 h.row).1
theorem WIn.le (h:WIn B p vs xs n I1 I2 I3 li ρ w):B<=p:=Nat.le_of_not_lt fun hlt=>by
 have h1:=h.lo p hlt
 rw [h.rp] at h1
 cases h1
theorem WIn.below (h:WIn B p vs xs n I1 I2 I3 li ρ w) (hk:Hw.Kept S w w') (hS:∀ k,k < w.heap.size->S k->(ρ k).1 ≠ 0):Below B w w':=
 hk.below (fun k hk s=>Nat.le_of_not_lt fun hlt=>hS k hk s (h.lo k hlt)) (Nat.le_of_lt (Nat.lt_of_le_of_lt h.le h.lt))
theorem WIn.lo' (h:WIn B p vs xs n I1 I2 I3 li ρ w) (ag:∀ k,k < w.heap.size->ρ' k=ρ k):∀ k,k < B->(ρ' k).1=0:=fun k hk=>by
 rw [ag k (by have:=h.le;have:=h.lt;omega)]
 exact h.lo k hk
def Free (ρ:Nat->Nat × Nat) (li:List LiI) (k:Nat):Prop:=(ρ k).1=0∨((ρ k).1=5/\∀ x ∈ li,x.v.ownBlock ≠ some k)
theorem Free.ne {k:Nat} (h:Free ρ li k):(ρ k).1 ≠ 1/\(ρ k).1 ≠ 2/\(ρ k).1 ≠ 3/\(ρ k).1 < 9:=by
 rcases h with h | ⟨h,_⟩<;>omega
theorem role_ne {a:Nat × Nat} {c d:Nat} (h:a.1 < c):a ≠ (c,d):=fun e=>by rw [e] at h;exact Nat.lt_irrefl _ h
theorem WIn.next (h:WIn B p vs xs n I1 I2 I3 li ρ w) (hk:Hw.Kept S w w') (ag:∀ k,k < w.heap.size->ρ' k=ρ k) (hS:∀ k,k < w.heap.size->S k->Free ρ li k):WIn B p vs xs n I1 I2 I3 li ρ' w' where
 row:=(hk.block p h.lt (fun s=>by have:=(hS p h.lt s).ne;rw [h.rp] at this;exact absurd this.2.2.2 (by decide))).trans h.row
 rp:=(ag p h.lt).trans h.rp
 sl j hj:=(h.sl j hj).keep hk ag (fun k hk s=>role_ne (by have:=(hS k hk s).ne;omega))
 i1:=h.s1 S w w' ρ ρ' h.i1 hk ag (fun k hk s=>(hS k hk s).ne.1)
 i2:=h.s2 S w w' ρ ρ' h.i2 hk ag (fun k hk s=>(hS k hk s).ne.2.1)
 i3:=h.s3 S w w' ρ ρ' h.i3 hk ag (fun k hk s=>(hS k hk s).ne.2.2.1)
 s1:=h.s1
 s2:=h.s2
 s3:=h.s3
 each x hx:=(h.each x hx).keep hk ag (fun k hk s e=>by
  rcases hS k hk s with h0 | ⟨_,h5⟩
  ·have:=(h.each x hx).role k e
   omega
  ·exact h5 x hx e)
 lo:=h.lo' ag
theorem WIn.next0 (h:WIn B p vs xs n I1 I2 I3 li ρ w) (hb:Below w.heap.size w w'):WIn B p vs xs n I1 I2 I3 li ρ w':=
 h.next (S:=fun _=>False) (Hw.Kept.of_below hb) (fun _ _=>rfl) (fun _ _ f=>f.elim)
theorem WIn.set1 {J:World->(Nat->Nat × Nat)->Prop} (h:WIn B p vs xs n I1 I2 I3 li ρ w) (hk:Hw.Kept S w w') (ag:∀ k,k < w.heap.size->ρ' k=ρ k) (hS:∀ k,k < w.heap.size->S k->(ρ k).1=1) (hJ:J w' ρ') (sJ:Stable 1 J):WIn B p vs xs n J I2 I3 li ρ' w' where
 row:=(hk.block p h.lt (fun s=>by have:=hS p h.lt s;rw [h.rp] at this;cases this)).trans h.row
 rp:=(ag p h.lt).trans h.rp
 sl j hj:=(h.sl j hj).keep hk ag (fun k hk s=>role_ne (by have:=hS k hk s;omega))
 i1:=hJ
 i2:=h.s2 S w w' ρ ρ' h.i2 hk ag (fun k hk s=>by rw [hS k hk s];decide)
 i3:=h.s3 S w w' ρ ρ' h.i3 hk ag (fun k hk s=>by rw [hS k hk s];decide)
 s1:=sJ
 s2:=h.s2
 s3:=h.s3
 each x hx:=(h.each x hx).keep hk ag (fun k hk s e=>by have h1:=(h.each x hx).role k e;rw [hS k hk s] at h1;cases h1)
 lo:=h.lo' ag
theorem WIn.set2 {J:World->(Nat->Nat × Nat)->Prop} (h:WIn B p vs xs n I1 I2 I3 li ρ w) (hk:Hw.Kept S w w') (ag:∀ k,k < w.heap.size->ρ' k=ρ k) (hS:∀ k,k < w.heap.size->S k->(ρ k).1=2) (hJ:J w' ρ') (sJ:Stable 2 J):WIn B p vs xs n I1 J I3 li ρ' w' where
 row:=(hk.block p h.lt (fun s=>by have:=hS p h.lt s;rw [h.rp] at this;cases this)).trans h.row
 rp:=(ag p h.lt).trans h.rp
 sl j hj:=(h.sl j hj).keep hk ag (fun k hk s=>role_ne (by have:=hS k hk s;omega))
 i1:=h.s1 S w w' ρ ρ' h.i1 hk ag (fun k hk s=>by rw [hS k hk s];decide)
 i2:=hJ
 i3:=h.s3 S w w' ρ ρ' h.i3 hk ag (fun k hk s=>by rw [hS k hk s];decide)
 s1:=h.s1
 s2:=sJ
 s3:=h.s3
 each x hx:=(h.each x hx).keep hk ag (fun k hk s e=>by have h1:=(h.each x hx).role k e;rw [hS k hk s] at h1;cases h1)
 lo:=h.lo' ag
theorem WIn.set3 {J:World->(Nat->Nat × Nat)->Prop} (h:WIn B p vs xs n I1 I2 I3 li ρ w) (hk:Hw.Kept S w w') (ag:∀ k,k < w.heap.size->ρ' k=ρ k) (hS:∀ k,k < w.heap.size->S k->(ρ k).1=3) (hJ:J w' ρ') (sJ:Stable 3 J):WIn B p vs xs n I1 I2 J li ρ' w' where
 row:=(hk.block p h.lt (fun s=>by have:=hS p h.lt s;rw [h.rp] at this;cases this)).trans h.row
 rp:=(ag p h.lt).trans h.rp
 sl j hj:=(h.sl j hj).keep hk ag (fun k hk s=>role_ne (by have:=hS k hk s;omega))
 i1:=h.s1 S w w' ρ ρ' h.i1 hk ag (fun k hk s=>by rw [hS k hk s];decide)
 i2:=h.s2 S w w' ρ ρ' h.i2 hk ag (fun k hk s=>by rw [hS k hk s];decide)
 i3:=hJ
 s1:=h.s1
 s2:=h.s2
 s3:=sJ
 each x hx:=(h.each x hx).keep hk ag (fun k hk s e=>by have h1:=(h.each x hx).role k e;rw [hS k hk s] at h1;cases h1)
 lo:=h.lo' ag
theorem WIn.last {m:Nat} (h:WIn B p vs xs n I1 I2 I3 li ρ w) (P:Hw.Put w p 142 (wCells vs m) w'):WIn B p vs xs m I1 I2 I3 li ρ w' where
 row:=P.row
 rp:=h.rp
 sl j hj:=(h.sl j hj).keep P.kept (fun _ _=>rfl) (fun k _ s e=>by subst s;rw [h.rp] at e;have:=congrArg Prod.fst e;dsimp only at this;omega)
 i1:=h.s1 _ w w' ρ ρ h.i1 P.kept (fun _ _=>rfl) (fun k _ s=>by subst s;rw [h.rp];decide)
 i2:=h.s2 _ w w' ρ ρ h.i2 P.kept (fun _ _=>rfl) (fun k _ s=>by subst s;rw [h.rp];decide)
 i3:=h.s3 _ w w' ρ ρ h.i3 P.kept (fun _ _=>rfl) (fun k _ s=>by subst s;rw [h.rp];decide)
 s1:=h.s1
 s2:=h.s2
 s3:=h.s3
 each x hx:=(h.each x hx).keep P.kept (fun _ _=>rfl) (fun k _ s e=>by subst s;have:=(h.each x hx).role _ e;rw [h.rp] at this;cases this)
 lo:=h.lo
theorem WIn.app {o:Obj} {w5 w6:World} {j:Nat} (hj:j < 8) {v:Value} {x:Value} (h:WIn B p vs xs n I1 I2 I3 li ρ w) (hown:w5.ownsRow 0 (wty j) 1 v ((xs j).length+1) (xs j ++ [x])) (hg:(w.alloc o).grownBy w5 (vs j).ownBlock)
  (hat:v.ownBlock=(vs j).ownBlock∨v.ownBlock=some (w.alloc o).heap.size) (P:Hw.Put w5 p 142 (wCells (up vs j v) n) w6) :
  WIn B p (up vs j v) (up xs j (xs j ++ [x])) n I1 I2 I3 li (ext ρ w.heap.size (j+10,0)) w6/\Below B w w6:=by
 have hk1:Hw.Kept (fun k=>(vs j).ownBlock=some k) w w5:=((Hw.Kept.refl _ _).alloc o).trans ((Hw.Kept.of_grown hg).mono (T:=fun k=>(vs j).ownBlock=some k) (fun _ _ e=>e.symm)) (fun _ _ e=>e)
 have hk:Hw.Kept (fun k=>k=p∨(vs j).ownBlock=some k) w w6:=(hk1.mono (fun _ _ e=>.inr e)).trans P.kept (fun _ _ e=>.inl e)
 have hr:∀ k,k < w.heap.size->(k=p∨(vs j).ownBlock=some k)->ρ k=(9,0)∨ρ k=(j+10,0):=fun k _ e=>by
  rcases e with e | e
  ·subst e;exact .inl h.rp
  ·exact .inr ((h.sl j hj).role k e)
 have h9:∀ k,k < w.heap.size->(k=p∨(vs j).ownBlock=some k)->9<=(ρ k).1:=fun k hk e=>by
  rcases hr k hk e with e | e<;>rw [e]
  ·exact Nat.le_refl _
  ·show 9<=j+10
   omega
 have ag:∀ k,k < w.heap.size->ext ρ w.heap.size (j+10,0) k=ρ k:=fun k hk=>ext_lt hk
 refine ⟨⟨P.row,(ag p h.lt).trans h.rp,fun i hi=>?_,h.s1 _ w w6 ρ _ h.i1 hk ag (fun k hk s e=>by have:=h9 k hk s;omega),h.s2 _ w w6 ρ _ h.i2 hk ag (fun k hk s e=>by have:=h9 k hk s;omega),h.s3 _ w w6 ρ _ h.i3 hk ag (fun k hk s e=>by have:=h9 k hk s;omega),h.s1,h.s2,h.s3,fun y hy=>(h.each y hy).keep hk ag (fun k hk s e=>by have:=h9 k hk s;have:=(h.each y hy).role k e;omega),h.lo' ag⟩,h.below hk (fun k hk s e=>by have:=h9 k hk s;omega)⟩
 by_cases hij:i=j
 ·subst hij
  rw [up_at,up_at]
  have hvp:∀ k,v.ownBlock=some k->k ≠ p:=fun k e e2=>by
   subst e2
   rcases hat with e3 | e3
   ·rw [e3] at e
    have:=(h.sl i hi).role k e
    rw [h.rp] at this
    have:=congrArg Prod.fst this
    dsimp only at this
    omega
   ·rw [e3] at e
    have:=h.lt
    simp at e
    omega
  refine ⟨?_,fun k e=>?_⟩
  ·have:=Hw.ownsRow_keptS hown P.kept (fun k e s=>hvp k e s)
   simpa using this
  ·rcases hat with e3 | e3
   ·rw [e3] at e
    rw [ag k (own_lt (h.sl i hi).own e)]
    exact (h.sl i hi).role k e
   ·rw [e3] at e
    exact ext_ge (by simp at e;omega)
 ·rw [up_ne _ _ hij,up_ne _ _ hij]
  exact (h.sl i hi).keep hk ag (fun k hk s e=>by
   rcases hr k hk s with e2 | e2<;>rw [e2] at e<;>have e:=congrArg Prod.fst e<;>dsimp only at e<;>omega)
theorem WIn.appL {o:Obj} {w5:World} {l v:Value} {k:Nat} {m:List UInt8} (h:WIn B p vs xs n I1 I2 I3 li ρ w) (hl:LiItem w ρ ⟨l,k,m⟩) (hle:∀ y ∈ li,∀ b,y.v.ownBlock=some b->l.ownBlock=some b->y.n<=k)
  (hown:w5.ownsRow 0 9 1 v (k+1) (List.replicate k (strV m) ++ [strV m])) (hg:(w.alloc o).grownBy w5 l.ownBlock) (hat:v.ownBlock=l.ownBlock∨v.ownBlock=some (w.alloc o).heap.size) (hold:Hw.Older 9 l k (w.alloc o) w5) :
  WIn B p vs xs n I1 I2 I3 li (ext ρ w.heap.size (5,0)) w5/\LiItem w5 (ext ρ w.heap.size (5,0)) ⟨v,k+1,m⟩/\(∀ y ∈ li,∀ b,y.v.ownBlock=some b->v.ownBlock=some b->y.n<=k+1)/\Below B w w5:=by
 have hk:Hw.Kept (fun k=>l.ownBlock=some k) w w5:=((Hw.Kept.refl _ _).alloc o).trans ((Hw.Kept.of_grown hg).mono (T:=fun k=>l.ownBlock=some k) (fun _ _ e=>e.symm)) (fun _ _ e=>e)
 have ag:∀ k,k < w.heap.size->ext ρ w.heap.size (5,0) k=ρ k:=fun k hk=>ext_lt hk
 have h5:∀ k,k < w.heap.size->l.ownBlock=some k->(ρ k).1=5:=fun k _ e=>hl.role k e
 refine ⟨⟨(hk.block p h.lt (fun s=>by have:=h5 p h.lt s;rw [h.rp] at this;cases this)).trans h.row,(ag p h.lt).trans h.rp,fun j hj=>(h.sl j hj).keep hk ag (fun k hk s=>role_ne (by have:=h5 k hk s;omega)),
  h.s1 _ w w5 ρ _ h.i1 hk ag (fun k hk s e=>by have:=h5 k hk s;omega),h.s2 _ w w5 ρ _ h.i2 hk ag (fun k hk s e=>by have:=h5 k hk s;omega),h.s3 _ w w5 ρ _ h.i3 hk ag (fun k hk s e=>by have:=h5 k hk s;omega),h.s1,h.s2,h.s3,fun y hy=>?_,h.lo' ag⟩,⟨?_,fun b e=>?_⟩,fun y hy b e1 e2=>?_,h.below hk (fun k hk s e=>by have:=h5 k hk s;omega)⟩
 ·refine ⟨hold _ _ _ (Hw.ownsRow_keptS (S:=fun _=>False) (h.each y hy).own (Hw.Kept.of_below ((Below.refl _ _).alloc (Nat.le_refl _) o)) (fun _ _ f=>f)) (fun b e1 e2=>hle y hy b e1 e2),fun b e=>?_⟩
  rw [ag b (own_lt (h.each y hy).own e)]
  exact (h.each y hy).role b e
 ·rw [List.replicate_succ']
  exact hown
 ·rcases hat with e3 | e3
  ·rw [e3] at e
   rw [ag b (own_lt hl.own e)]
   exact hl.role b e
  ·rw [e3] at e
   rw [ext_ge (by simp at e;omega)]
 ·rcases hat with e3 | e3
  ·rw [e3] at e2
   exact Nat.le_succ_of_le (hle y hy b e1 e2)
  ·rw [e3] at e2
   have:=own_lt (h.each y hy).own e1
   simp at e2
   omega
theorem WIn.add {x:LiI} (h:WIn B p vs xs n I1 I2 I3 li ρ w) (hx:LiItem w ρ x):WIn B p vs xs n I1 I2 I3 (li ++ [x]) ρ w:=
 ⟨h.row,h.rp,h.sl,h.i1,h.i2,h.i3,h.s1,h.s2,h.s3,fun y hy=>by
  rcases List.mem_append.1 hy with hy | hy
  ·exact h.each y hy
  ·simp at hy;subst hy;exact hx,h.lo⟩
theorem WIn.cell (h:WIn B p vs xs n I1 I2 I3 li ρ w) {j:Nat} (hj:j < 8):w.cell? ⟨p,j,none⟩=some (vs j):=by
 simp [World.cell?,h.row,wCells_get vs n hj]
theorem WIn.cell8 (h:WIn B p vs xs n I1 I2 I3 li ρ w):w.cell? ⟨p,8,none⟩=some (.int .i64 n):=by
 simp [World.cell?,h.row,wCells]
theorem WIn.own (h:WIn B p vs xs n I1 I2 I3 li ρ w) {j:Nat} (hj:j < 8):w.cell? ⟨p,j,none⟩=some (vs j)/\w.ownsRow 0 (wty j) 1 (vs j) (xs j).length (xs j) /\
  ∀ (o:Obj) (v:Value) (w5:World) (x:Value),w5.ownsRow 0 (wty j) 1 v ((xs j).length+1) (xs j ++ [x])->(w.alloc o).grownBy w5 (vs j).ownBlock->(v.ownBlock=(vs j).ownBlock∨v.ownBlock=some (w.alloc o).heap.size) ->
   ∃ old,w5.heap[p]?=some (.cells old 142 (0,0))/\old.size=9/\∀ w6,Hw.Put w5 p 142 (old.setIfInBounds j v) w6->WIn B p (up vs j v) (up xs j (xs j ++ [x])) n I1 I2 I3 li (ext ρ w.heap.size (j+10,0)) w6/\Below B w w6:=by
 refine ⟨h.cell hj,(h.sl j hj).own,fun o v w5 x hown hg hat=>⟨wCells vs n,?_,rfl,fun w6 P=>?_⟩⟩
 ·refine (hg.block p (by have:=h.lt;simp;omega) (fun e=>?_)).trans ((heap_alloc_old w o h.lt).trans h.row)
  have:=(h.sl j hj).role p e.symm
  rw [h.rp] at this
  have:=congrArg Prod.fst this
  dsimp only at this
  omega
 ·rw [wCells_up _ _ _ hj] at P
  exact h.app hj hown hg hat P
end
end Go.Proofs.YtdlhbmncbmconaaGreatDoor
namespace Go.Proofs.YtdlhbmncbmconaaGreatDoor
open Go.RowKit Go.Sort
attribute [local go_sem] alloc_drewN setCell_drewN
theorem own_at {w:World} {base e n:Nat} {v:Value} {xs:List Value} (h:w.ownsRow base e 1 v n xs) {j:Nat} {u:Value} (hj:xs[j]?=some u):∃ g cap,v=.slice (some ⟨g,0,none⟩) n cap/\w.cell? ⟨g,j,none⟩=some u:=by
 have hl:xs.length=n:=by simpa using h.1
 have hlt:=(List.getElem?_eq_some_iff.1 hj).1
 rcases h.2 with ⟨_,h0⟩ | ⟨g,cap,cur,hv,_⟩
 ·omega
 ·refine ⟨g,cap,hv,?_⟩
  have h1:=h.cells (g:=g) (by rw [hv];rfl) j u hj
  rw [show (⟨g,0,none⟩:Addr).add j=⟨g,j,none⟩ by simp [Addr.add];exact fun e=>e.symm] at h1
  exact h1
theorem own_form1 {w:World} {base e n size:Nat} {v:Value} {xs:List Value} (h:w.ownsRow base e size v n xs):∃ a cap,v=.slice a n cap:=by
 rcases h.2 with ⟨h0,h1⟩ | ⟨g,cap,cur,h1,_⟩
 ·exact ⟨none,0,by rw [h0,h1]⟩
 ·exact ⟨_,_,h1⟩
theorem own_most {w:World} {base e n:Nat} {v:Value} {xs:List Value} (h:w.ownsRow base e 1 v n xs):n<=9223372036854775807:=by
 rcases h.2 with ⟨h0,h1⟩ | ⟨g,cap,cur,h1,_,_,h2,h3,_⟩
 ·omega
 ·unfold maxLen at h3;omega
set_option maxRecDepth 20000 in
set_option maxHeartbeats 4000000 in
theorem kept_any {B p:Nat} {vs:Nat->Value} {xs:Nat->List Value} {n:Nat} {I1 I2 I3:World->(Nat->Nat × Nat)->Prop} {li:List LiI} {ρ:Nat->Nat × Nat} {w:World} (h:WIn B p vs xs n I1 I2 I3 li ρ w) (h6:xs 6=li.map (·.v)) (h7:xs 7=li.map fun x=>strV x.m) :
  Calls Tryz.prog 42 #[.pointer (some ⟨p,0,none⟩)] w fun e w'=>e=.returned (.bool true)/\Below w.heap.size w w':=by
 have c6:=h.cell (j:=6) (by omega)
 have c7:=h.cell (j:=7) (by omega)
 have o6:w.ownsRow 0 42 1 (vs 6) li.length (li.map (·.v)):=by
  have:=(h.sl 6 (by omega)).own
  rw [h6] at this
  simpa [wty] using this
 have o7:w.ownsRow 0 9 1 (vs 7) li.length (li.map fun x=>strV x.m):=by
  have:=(h.sl 7 (by omega)).own
  rw [h7] at this
  simpa [wty] using this
 have H6:=show Hid _ from o6
 have H7:=show Hid _ from o7
 clear o6 o7
 have HE:Hid (∀ x ∈ li,w.ownsRow 0 9 1 x.v x.n (List.replicate x.n (strV x.m))):=fun x hx=>(h.each x hx).own
 have hps:=h.lt
 have hmost:=own_most H6.out
 obtain ⟨a6,cap6,hv6⟩:=own_form1 H6.out
 rw [hv6] at c6 H6
 clear h6 h7 h hv6
 generalize vs 7=v7 at c7 H7
 go_enter Tryz.func42,Tryz.ntmps42
 go_wp2
 go_loopw [3,4] (fun s3 _ wr=>∃ i:Nat,i<=li.length/\s3=.int .i64 i/\Below w.heap.size w wr) (fun s3 _ _=>li.length - (intOf s3).toNat)
 case atStart=>exact ⟨0,Nat.zero_le _,rfl,Below.refl _ _⟩
 case round=>
  obtain ⟨i,hi,rfl,hb⟩:=hrel
  have HB:Hid (Below w.heap.size w wr):=hb
  have d6:wr.cell? ⟨p,6,none⟩=some (.slice a6 li.length cap6):=(hb.cell (p:=⟨p,6,none⟩) hps).trans c6
  clear hb
  by_cases hlt:i < li.length
  case neg=>
   have hii:¬ (i:Int) < (li.length:Int):=by omega
   go_wp2
   go_ret
   exact ⟨rfl,HB.out⟩
  have hii:(i:Int) < (li.length:Int):=by omega
  obtain ⟨x,hx⟩:∃ x,li[i]?=some x:=⟨_,List.getElem?_eq_getElem hlt⟩
  obtain ⟨g6,cp6,hv6,e6⟩:=own_at (j:=i) (u:=x.v) H6.out (by simp [hx])
  obtain ⟨g7,cp7,hv7,e7⟩:=own_at (j:=i) (u:=strV x.m) H7.out (by simp [hx])
  have hxo:=HE.out x (List.mem_of_getElem? hx)
  have HX:=show Hid _ from hxo
  obtain ⟨xv,xn,xm⟩:=x
  dsimp only at e6 e7 HX hxo
  obtain ⟨ax,capx,rfl⟩:=own_form1 hxo
  have hmx:=own_most hxo
  clear hxo hx
  cases hv6
  subst hv7
  go_wp2
  go_loopw [4] (fun s4 wq=>∃ k:Nat,k<=xn/\s4=.int .i64 k/\Below w.heap.size w wq) (fun s4 _=>xn - (intOf s4).toNat)
  case atStart=>exact ⟨0,Nat.zero_le _,rfl,HB.out⟩
  case round=>
   clear d6 HB
   obtain ⟨k,hk,rfl,hb⟩:=hrel
   have HB:Hid (Below w.heap.size w wr):=hb
   have d6:wr.cell? ⟨p,6,none⟩=some (.slice (some ⟨g6,0,none⟩) li.length cap6):=(hb.cell (p:=⟨p,6,none⟩) hps).trans c6
   have d7:wr.cell? ⟨p,7,none⟩=some (.slice (some ⟨g7,0,none⟩) li.length cp7):=(hb.cell (p:=⟨p,7,none⟩) hps).trans c7
   have q6:wr.cell? ⟨g6,i,none⟩=some (.slice ax xn capx):=(hb.cell (p:=⟨g6,i,none⟩) (block_lt_of_cell e6)).trans e6
   have q7:wr.cell? ⟨g7,i,none⟩=some (.string ⟨xm.toArray⟩):=(hb.cell (p:=⟨g7,i,none⟩) (block_lt_of_cell e7)).trans e7
   by_cases hkl:k < xn
   case neg=>
    have hki:¬ (k:Int) < (xn:Int):=by omega
    clear hb
    go_wp2
    go_roundw
    case rel=>exact ⟨i+1,by omega,int_eq (by simp),HB.out⟩
    case measure=>simp [intOf];omega
   have hki:(k:Int) < (xn:Int):=by omega
   obtain ⟨gx,cpx,hvx,ex⟩:=own_at (j:=k) (u:=strV xm) HX.out (by simp [hkl])
   cases hvx
   have qx:wr.cell? ⟨gx,k,none⟩=some (.string ⟨xm.toArray⟩):=(hb.cell (p:=⟨gx,k,none⟩) (block_lt_of_cell ex)).trans ex
   clear hb ex
   go_wp2_with fail
   go_quiet (fail)
   go_wp2
   go_roundw
   case rel=>exact ⟨k+1,by omega,int_eq (by simp),Below.next HB.out (Nat.le_refl _) (drew_below ⟨_,rfl⟩)⟩
   case measure=>simp [intOf];omega
def mark (n:Nat):List UInt8:=[109,105,110,101] ++ List.replicate n 33
theorem mark_next (n:Nat):mark n ++ [33]=mark (n+1):=by
 unfold mark
 rw [List.append_assoc,<-List.replicate_succ']
theorem mark_len (n:Nat):(mark n).length=n+4:=by simp [mark]
def KI (B p:Nat) (xs0:Nat->List Value) (n:Nat) (I1 I2 I3:World->(Nat->Nat × Nat)->Prop) (w0:World) (m:List UInt8) (L:Nat) (l:Value) (k:Nat) (w:World):Prop:=
 ∃ vs xs li ρ,WIn B p vs xs n I1 I2 I3 li ρ w/\xs 6=li.map (·.v)/\(xs 7=li.map fun x=>strV x.m)/\(∀ j,j < 6->xs j=xs0 j)/\li.length=L/\LiItem w ρ ⟨l,k,m⟩/\(∀ y ∈ li,∀ b,y.v.ownBlock=some b->l.ownBlock=some b->y.n<=k)/\Below B w0 w
def K6 (B p:Nat) (xs0:Nat->List Value) (n:Nat) (I1 I2 I3:World->(Nat->Nat × Nat)->Prop) (w0:World) (m:List UInt8) (L:Nat) (l:Value) (k:Nat) (w:World):Prop:=
 ∃ vs xs li ρ,WIn B p vs xs n I1 I2 I3 li ρ w/\(xs 6=li.map (·.v) ++ [l])/\(xs 7=li.map fun x=>strV x.m)/\(∀ j,j < 6->xs j=xs0 j)/\li.length=L/\LiItem w ρ ⟨l,k,m⟩/\(∀ y ∈ li,∀ b,y.v.ownBlock=some b->l.ownBlock=some b->y.n<=k)/\Below B w0 w
section
variable {B p:Nat} {xs0:Nat->List Value} {n:Nat} {I1 I2 I3:World->(Nat->Nat × Nat)->Prop} {w0:World} {m:List UInt8} {L:Nat} {l:Value} {k:Nat} {w:World}
theorem LiItem.app {vs:Nat->Value} {xs:Nat->List Value} {li:List LiI} {ρ:Nat->Nat × Nat} {x:LiI} {j:Nat} {o:Obj} {w5 w6:World} {cs:Array Value} (hj:j < 8) (h:WIn B p vs xs n I1 I2 I3 li ρ w) (hx:LiItem w ρ x) (hg:(w.alloc o).grownBy w5 (vs j).ownBlock) (P:Hw.Put w5 p 142 cs w6):LiItem w6 (ext ρ w.heap.size (j+10,0)) x:=by
 have hk1:Hw.Kept (fun k=>(vs j).ownBlock=some k) w w5:=((Hw.Kept.refl _ _).alloc o).trans ((Hw.Kept.of_grown hg).mono (T:=fun k=>(vs j).ownBlock=some k) (fun _ _ e=>e.symm)) (fun _ _ e=>e)
 have hk:Hw.Kept (fun k=>k=p∨(vs j).ownBlock=some k) w w6:=(hk1.mono (fun _ _ e=>.inr e)).trans P.kept (fun _ _ e=>.inl e)
 refine hx.keep hk (fun k hk=>ext_lt hk) (fun b _ s e=>?_)
 have h5:=hx.role b e
 rcases s with s | s
 ·subst s
  rw [h.rp] at h5
  cases h5
 ·rw [(h.sl j hj).role b s] at h5
  dsimp only at h5
  omega
theorem KI.own6 (h:KI B p xs0 n I1 I2 I3 w0 m L l k w):∃ v6 xs6,w.cell? ⟨p,6,none⟩=some v6/\w.ownsRow 0 42 1 v6 L xs6 /\
  ∀ (o:Obj) (v:Value) (w5:World),w5.ownsRow 0 42 1 v (L+1) (xs6 ++ [l])->(w.alloc o).grownBy w5 v6.ownBlock->(v.ownBlock=v6.ownBlock∨v.ownBlock=some (w.alloc o).heap.size) ->
   ∃ old,w5.heap[p]?=some (.cells old 142 (0,0))/\old.size=9/\∀ w6,Hw.Put w5 p 142 (old.setIfInBounds 6 v) w6->K6 B p xs0 n I1 I2 I3 w0 m L l k w6:=by
 obtain ⟨vs,xs,li,ρ,hI,h6,h7,h0,hL,hl,hle,hb⟩:=h
 obtain ⟨c,ow,hc⟩:=hI.own (j:=6) (by omega)
 have hlen:(xs 6).length=L:=by rw [h6,List.length_map,hL]
 refine ⟨vs 6,xs 6,c,by rw [hlen] at ow;exact ow,fun o v w5 h1 h2 h3=>?_⟩
 obtain ⟨old,r1,r2,r3⟩:=hc o v w5 l (by rw [hlen];exact h1) h2 h3
 refine ⟨old,r1,r2,fun w6 P=>?_⟩
 obtain ⟨q1,q2⟩:=r3 w6 P
 exact ⟨_,_,li,_,q1,by rw [up_at,h6],by rw [up_ne _ _ (by decide),h7],fun j hj=>by rw [up_ne _ _ (by omega),h0 j hj],hL,LiItem.app (by omega) hI hl h2 P,hle,hb.trans q2⟩
theorem K6.own7 (h:K6 B p xs0 n I1 I2 I3 w0 m L l k w):∃ v7 xs7,w.cell? ⟨p,7,none⟩=some v7/\w.ownsRow 0 9 1 v7 L xs7 /\
  ∀ (o:Obj) (v:Value) (w5:World),w5.ownsRow 0 9 1 v (L+1) (xs7 ++ [strV m])->(w.alloc o).grownBy w5 v7.ownBlock->(v.ownBlock=v7.ownBlock∨v.ownBlock=some (w.alloc o).heap.size) ->
   ∃ old,w5.heap[p]?=some (.cells old 142 (0,0))/\old.size=9/\∀ w6,Hw.Put w5 p 142 (old.setIfInBounds 7 v) w6->KI B p xs0 n I1 I2 I3 w0 m (L+1) l k w6:=by
 obtain ⟨vs,xs,li,ρ,hI,h6,h7,h0,hL,hl,hle,hb⟩:=h
 obtain ⟨c,ow,hc⟩:=hI.own (j:=7) (by omega)
 have hlen:(xs 7).length=L:=by rw [h7,List.length_map,hL]
 refine ⟨vs 7,xs 7,c,by rw [hlen] at ow;exact ow,fun o v w5 h1 h2 h3=>?_⟩
 obtain ⟨old,r1,r2,r3⟩:=hc o v w5 (strV m) (by rw [hlen];exact h1) h2 h3
 refine ⟨old,r1,r2,fun w6 P=>?_⟩
 obtain ⟨q1,q2⟩:=r3 w6 P
 have hl':=LiItem.app (j:=7) (by omega) hI hl h2 P
 refine ⟨_,_,li ++ [⟨l,k,m⟩],_,q1.add hl',by rw [up_ne _ _ (by decide),h6];simp,by rw [up_at,h7];simp,fun j hj=>by rw [up_ne _ _ (by omega),h0 j hj],by simp [hL],hl',fun y hy b e1 e2=>?_,hb.trans q2⟩
 rcases List.mem_append.1 hy with hy | hy
 ·exact hle y hy b e1 e2
 ·simp at hy
  subst hy
  exact Nat.le_refl _
theorem KI.more (h:KI B p xs0 n I1 I2 I3 w0 m L l k w):w.ownsRow 0 9 1 l k (List.replicate k (strV m)) /\
  ∀ (o:Obj) (v:Value) (w5:World),w5.ownsRow 0 9 1 v (k+1) (List.replicate k (strV m) ++ [strV m])->(w.alloc o).grownBy w5 l.ownBlock->(v.ownBlock=l.ownBlock∨v.ownBlock=some (w.alloc o).heap.size)->Hw.Older 9 l k (w.alloc o) w5->KI B p xs0 n I1 I2 I3 w0 m L v (k+1) w5:=by
 obtain ⟨vs,xs,li,ρ,hI,h6,h7,h0,hL,hl,hle,hb⟩:=h
 refine ⟨hl.own,fun o v w5 h1 h2 h3 h4=>?_⟩
 obtain ⟨q1,q2,q3,q4⟩:=hI.appL hl hle h1 h2 h3 h4
 exact ⟨vs,xs,li,_,q1,h6,h7,h0,hL,q2,q3,hb.trans q4⟩
end
theorem linfo_strs:(Tryz.prog.info? 42).map (fun i=>(i.zero,i.size,i.bytes))=some (some (.slice none 0 0),1,24):=by kernel_rfl
theorem lsize_lists:(Tryz.prog.info? 140).map (·.size)=some 1:=by kernel_rfl
theorem lsize_marks:(Tryz.prog.info? 42).map (·.size)=some 1:=by kernel_rfl
theorem lsize_int:(Tryz.prog.info? 3).map (·.size)=some 1:=by kernel_rfl
set_option maxRecDepth 20000 in
set_option maxHeartbeats 8000000 in
theorem keep_any {B p:Nat} {vs:Nat->Value} {xs:Nat->List Value} {n:Nat} {I1 I2 I3:World->(Nat->Nat × Nat)->Prop} {li:List LiI} {ρ:Nat->Nat × Nat} {w:World} (h:WIn B p vs xs n I1 I2 I3 li ρ w) (h6:xs 6=li.map (·.v)) (h7:xs 7=li.map fun x=>strV x.m)
  (l:Value) (k:Nat) (ys:List Value) (hown:w.ownsRow 0 9 1 l k ys) (hrole:∀ b,l.ownBlock=some b->(ρ b).1=5/\∀ x ∈ li,x.v.ownBlock ≠ some b) (hn:n<=1000000000) (hk:k<=1000000000) (hli:li.length<=1000000000000) :
  Calls Tryz.prog 117 #[.pointer (some ⟨p,0,none⟩),l] w fun e w'=>(∃ u,e=.returned u)/\∃ v,KI B p xs (n+1) I1 I2 I3 w (mark (n+1)) (li.length+9) v (k+8) w':=by
 obtain ⟨i6,hi6,hz60,hz61,hz62⟩:=info_parts linfo_strs
 obtain ⟨i7,hi7,hz70,hz71,hz72⟩:=info_parts info_str
 have c8:=h.cell8
 have HW:=show Hid _ from h
 have ROW:Hid (w.heap[p]?=some (.cells (wCells vs n) 142 (0,0))):=h.row
 obtain ⟨al,cl,rfl⟩:=own_form1 hown
 have HO:=show Hid _ from hown
 have HRo:=show Hid _ from hrole
 have H6:=show Hid _ from h6
 have H7:=show Hid _ from h7
 obtain ⟨M,hM⟩:∃ M,mark (n+1)=M:=⟨_,rfl⟩
 have HM:=show Hid _ from hM
 rw [hM]
 clear h hown hrole h6 h7 hM
 generalize hLL:li.length=LL at hli
 have HLL:=show Hid _ from hLL
 clear hLL
 go_enter Tryz.func117,Tryz.ntmps117
 go_wp2_with (refine Hw.wpList_store_fieldP rfl _ _ _ rfl rfl p 8 (.int .i64 ((n:Int)+1)) rfl rfl _ _ (wCells vs (n+1)) ROW.out lsize_int (by simp [wCells]) rfl rfl ?_;intro w2 p2;have P2:Hid (Hw.Put _ _ _ _ w2):=p2;clear p2)
 have HW2:Hid (WIn B p vs xs (n+1) I1 I2 I3 li ρ w2):=HW.out.last P2.out
 have d8:w2.cell? ⟨p,8,none⟩=some (.int .i64 ((n:Int)+1)):=HW2.out.cell8
 have HB2:Hid (Below B w w2):=P2.out.below HW.out.le
 have HO2:Hid (w2.ownsRow 0 9 1 (.slice al k cl) k ys):=Hw.ownsRow_keptS HO.out P2.out.kept (fun b e s=>by
  have:=(HRo.out b e).1
  rw [s,HW.out.rp] at this
  cases this)
 clear c8 HW ROW HO P2
 go_loopw [4,5] (fun s4 s5 wr=>∃ i:Nat,i<=n+1/\s5=.int .i64 i/\s4=.string ⟨(mark i).toArray⟩/\wr=w2) (fun _ s5 _=>n+1 - (intOf s5).toNat)
 case atStart=>exact ⟨0,Nat.zero_le _,rfl,rfl,rfl⟩
 case round=>
  obtain ⟨i,hi,rfl,rfl,hw1⟩:=hrel
  have hw1:=hw1.symm
  subst hw1
  by_cases hlt:i < n+1
  ·have hii:(i:Int) < (n:Int)+1:=by omega
   have HMn:=show Hid _ from mark_next i
   have hml:=mark_len i
   generalize mark i=mi at HMn hml
   have hlim:¬ 9223372036854775807 < mi.length+1:=by omega
   clear hml
   go_wp2
   go_roundw
   case rel=>exact ⟨i+1,by omega,int_eq (by simp),by rw [<-HMn.out,<-app_mk],by first | rfl | trivial⟩
   case measure=>simp [intOf];omega
  have hii:¬ (i:Int) < (n:Int)+1:=by omega
  have hie:i=n+1:=by omega
  subst hie
  have HMe:=HM.out
  rw [HMe]
  clear HMe hi hlt
  go_wp2
  go_loopw [6] (fun s6 wr=>∃ i:Nat,i<=k/\s6=.int .i64 i/\wr.ownsRow 0 9 1 (.slice al k cl) k (List.replicate i (strV M) ++ ys.drop i)/\Hw.Kept (fun b=>(Value.slice al k cl).ownBlock=some b) w2 wr) (fun s6 _=>k - (intOf s6).toNat)
  case atStart=>exact ⟨0,Nat.zero_le _,rfl,by simpa using HO2.out,Hw.Kept.refl _ _⟩
  case round=>
   clear d8
   obtain ⟨i,hi,rfl,ho,hkp⟩:=hrel
   have HOr:=show Hid _ from ho
   have HKr:=show Hid _ from hkp
   clear ho hkp
   by_cases hlt:i < k
   ·have hii:(i:Int) < (k:Int):=by omega
    have hyl:Hid (ys.length=k):=show _=_ by simpa using HO2.out.1
    obtain ⟨g,cap,cur,hv,hg,hs,hset⟩:=Hw.ownsRow_set HOr.out hlt
    cases hv
    have HG:=show Hid _ from hg
    have HS:=show Hid _ from hset
    clear hg hset
    go_wp2_with (refine Hw.wpList_store_fieldP rfl _ _ _ rfl rfl g i (.string ⟨M.toArray⟩) rfl rfl _ _ _ HG.out size_str hs rfl rfl ?_;intro w3 p3;have P3:Hid (Hw.Put _ _ _ _ w3):=p3;clear p3)
    go_roundw
    case rel=>exact ⟨i+1,by omega,int_eq (by simp),by rw [<-Hw.set_next hlt hyl.out];exact HS.out _ _ P3.out,HKr.out.trans P3.out.kept (fun b _ e=>by rw [e];rfl)⟩
    case measure=>simp [intOf];omega
   have hii:¬ (i:Int) < (k:Int):=by omega
   have hie:i=k:=by omega
   subst hie
   have HKI:Hid (KI B p xs (n+1) I1 I2 I3 w M LL (.slice al i cl) i wr):=⟨vs,xs,li,ρ,HW2.out.next HKr.out (fun _ _=>rfl) (fun b _ s=>.inr (HRo.out b s)),H6.out,H7.out,fun _ _=>rfl,HLL.out,⟨by
    have h1:=HOr.out
    have h2:ys.length=i:=by simpa using HO2.out.1
    rw [List.drop_of_length_le (by omega),List.append_nil] at h1
    exact h1,fun b e=>(HRo.out b e).1⟩,fun y hy b e1 e2=>absurd e1 ((HRo.out b e2).2 y hy),HB2.out.trans (HW2.out.below HKr.out (fun b _ s e=>by have:=(HRo.out b s).1;omega))⟩
   clear HKr HOr HO2 HB2 HW2 hi hlt H6 H7 HLL HRo HM
   obtain ⟨v6,xs6,c6,o6,hk6⟩:=HKI.out.own6
   have O6:Hid (World.ownsRow _ 0 42 1 v6 _ xs6):=o6
   have HK6:=show Hid _ from hk6
   clear o6 hk6
   obtain ⟨a6,cap6,rfl⟩:=own_form1 O6.out
   go_wp2_with (first
     | (at_builtin;refine Hw.wpList_append_item rfl _ _ 140 rfl 42 i6 (.slice none 0 0) 24 Tryz.underlying140 hi6 hz60 hz61 hz62 rfl _ _ xs6 rfl (O6.out.alloc _) ⟨_,0,none⟩ _ rfl (cell_one_new _ _ _) rfl (by unfold maxLen;omega) (by omega) ?_;intro v5 w5 hown5 hg5 hat5 _;obtain ⟨old5,hrow5,hsz5,hn5⟩:=HK6.out _ _ _ hown5 hg5 hat5;have HR5:=show Hid _ from hrow5;have HN5:=show Hid _ from hn5;have HS5:=show Hid _ from hsz5;obtain ⟨a5,cap5,rfl⟩:=own_form1 hown5;clear hown5 hg5 hat5 hrow5 hn5 hsz5)
     | (refine Hw.wpList_store_fieldP rfl _ _ _ rfl rfl p 6 (.slice a5 _ cap5) rfl rfl _ _ _ HR5.out lsize_lists (by rw [HS5.out];decide) rfl rfl ?_;intro w6 p6;have HKJ:Hid (K6 B p xs (n+1) I1 I2 I3 w M _ _ _ w6):=HN5.out _ p6;clear p6 c6;obtain ⟨v7,xs7,c7,o7,hk7⟩:=HKJ.out.own7;have O7:Hid (World.ownsRow _ 0 9 1 v7 _ xs7):=o7;have HK7:=show Hid _ from hk7;clear o7 hk7;obtain ⟨a7,cap7,rfl⟩:=own_form1 O7.out)
     | (at_builtin;refine Hw.wpList_append_item rfl _ _ 42 rfl 9 i7 (.string ByteArray.empty) 16 Tryz.underlying42 hi7 hz70 hz71 hz72 rfl _ _ xs7 rfl (O7.out.alloc _) ⟨_,0,none⟩ (.string ⟨M.toArray⟩) rfl (cell_one_new _ _ _) rfl (by unfold maxLen;omega) (by omega) ?_;intro v8 w8 hown8 hg8 hat8 _;obtain ⟨old8,hrow8,hsz8,hn8⟩:=HK7.out _ _ _ hown8 hg8 hat8;have HR8:=show Hid _ from hrow8;have HN8:=show Hid _ from hn8;have HS8:=show Hid _ from hsz8;obtain ⟨a8,cap8,rfl⟩:=own_form1 hown8;clear hown8 hg8 hat8 hrow8 hn8 hsz8)
     | (refine Hw.wpList_store_fieldP rfl _ _ _ rfl rfl p 7 (.slice a8 _ cap8) rfl rfl _ _ _ HR8.out lsize_marks (by rw [HS8.out];decide) rfl rfl ?_;intro w9 p9;have HKK:Hid (KI B p xs (n+1) I1 I2 I3 w M _ _ _ w9):=HN8.out _ p9;clear p9 c7))
   go_loopw [1,7,8] (fun s1 s7 _ wr=>∃ (j:Nat) (v1:Value),j<=8/\s7=.int .i64 j/\s1=v1/\KI B p xs (n+1) I1 I2 I3 w M (LL+1+j) v1 (i+j) wr) (fun _ s7 _ _=>8 - (intOf s7).toNat)
   case atStart=>exact ⟨0,_,Nat.zero_le _,rfl,rfl,HKK.out⟩
   case round=>
    clear HKI HKJ HKK O6 O7 HK6 HK7 HR5 HN5 HS5 HR8 HN8 HS8
    obtain ⟨j,v1,hj,rfl,hs1,hki⟩:=hrel
    have hs1:=hs1.symm
    subst hs1
    have HKI0:Hid (KI B p xs (n+1) I1 I2 I3 w M (LL+1+j) v1 (i+j) wr):=hki
    clear hki
    by_cases hlt:j < 8
    case neg=>
     have hje:j=8:=by omega
     subst hje
     go_wp2
     refine bodyPost_end (results_none rfl _ _ _) rfl ?_
     exact ⟨⟨_,rfl⟩,v1,HKI0.out⟩
    have hjj:(j:Int) < 8:=by omega
    obtain ⟨ol,hmore⟩:=HKI0.out.more
    have OL:Hid (World.ownsRow _ 0 9 1 v1 (i+j) (List.replicate (i+j) (strV M))):=ol
    have HMO:=show Hid _ from hmore
    clear ol hmore HKI0
    obtain ⟨a1,cap1,rfl⟩:=own_form1 OL.out
    go_wp2_with (first
     | (at_builtin;refine Hw.wpList_append_item rfl _ _ 42 rfl 9 i7 (.string ByteArray.empty) 16 Tryz.underlying42 hi7 hz70 hz71 hz72 rfl _ _ (List.replicate (i+j) (strV M)) rfl (OL.out.alloc _) ⟨_,0,none⟩ (.string ⟨M.toArray⟩) rfl (cell_one_new _ _ _) rfl (by unfold maxLen;omega) (by omega) ?_;intro v3 w3 hown3 hg3 hat3 hold3;have HKI:Hid (KI B p xs (n+1) I1 I2 I3 w M (LL+1+j) v3 (i+j+1) w3):=HMO.out _ _ _ hown3 hg3 hat3 hold3;obtain ⟨a3,cap3,rfl⟩:=own_form1 hown3;clear hown3 hg3 hat3 hold3 HMO OL;obtain ⟨v6,xs6,c6,o6,hk6⟩:=HKI.out.own6;have O6:Hid (World.ownsRow _ 0 42 1 v6 _ xs6):=o6;have HK6:=show Hid _ from hk6;clear o6 hk6;obtain ⟨a6,cap6,rfl⟩:=own_form1 O6.out)
     | (at_builtin;refine Hw.wpList_append_item rfl _ _ 140 rfl 42 i6 (.slice none 0 0) 24 Tryz.underlying140 hi6 hz60 hz61 hz62 rfl _ _ xs6 rfl (O6.out.alloc _) ⟨_,0,none⟩ _ rfl (cell_one_new _ _ _) rfl (by unfold maxLen;omega) (by omega) ?_;intro v5 w5 hown5 hg5 hat5 _;obtain ⟨old5,hrow5,hsz5,hn5⟩:=HK6.out _ _ _ hown5 hg5 hat5;have HR5:=show Hid _ from hrow5;have HN5:=show Hid _ from hn5;have HS5:=show Hid _ from hsz5;obtain ⟨a5,cap5,rfl⟩:=own_form1 hown5;clear hown5 hg5 hat5 hrow5 hn5 hsz5)
     | (refine Hw.wpList_store_fieldP rfl _ _ _ rfl rfl p 6 (.slice a5 _ cap5) rfl rfl _ _ _ HR5.out lsize_lists (by rw [HS5.out];decide) rfl rfl ?_;intro w6 p6;have HKJ:Hid (K6 B p xs (n+1) I1 I2 I3 w M _ _ _ w6):=HN5.out _ p6;clear p6 c6;obtain ⟨v7,xs7,c7,o7,hk7⟩:=HKJ.out.own7;have O7:Hid (World.ownsRow _ 0 9 1 v7 _ xs7):=o7;have HK7:=show Hid _ from hk7;clear o7 hk7;obtain ⟨a7,cap7,rfl⟩:=own_form1 O7.out)
     | (at_builtin;refine Hw.wpList_append_item rfl _ _ 42 rfl 9 i7 (.string ByteArray.empty) 16 Tryz.underlying42 hi7 hz70 hz71 hz72 rfl _ _ xs7 rfl (O7.out.alloc _) ⟨_,0,none⟩ (.string ⟨M.toArray⟩) rfl (cell_one_new _ _ _) rfl (by unfold maxLen;omega) (by omega) ?_;intro v8 w8 hown8 hg8 hat8 _;obtain ⟨old8,hrow8,hsz8,hn8⟩:=HK7.out _ _ _ hown8 hg8 hat8;have HR8:=show Hid _ from hrow8;have HN8:=show Hid _ from hn8;have HS8:=show Hid _ from hsz8;obtain ⟨a8,cap8,rfl⟩:=own_form1 hown8;clear hown8 hg8 hat8 hrow8 hn8 hsz8)
     | (refine Hw.wpList_store_fieldP rfl _ _ _ rfl rfl p 7 (.slice a8 _ cap8) rfl rfl _ _ _ HR8.out lsize_marks (by rw [HS8.out];decide) rfl rfl ?_;intro w9 p9;have HKK:Hid (KI B p xs (n+1) I1 I2 I3 w M _ _ _ w9):=HN8.out _ p9;clear p9 c7))
    go_roundw
    case rel=>exact ⟨j+1,_,by omega,int_eq (by simp),rfl,HKK.out⟩
    case measure=>simp [intOf];omega
end Go.Proofs.YtdlhbmncbmconaaGreatDoor

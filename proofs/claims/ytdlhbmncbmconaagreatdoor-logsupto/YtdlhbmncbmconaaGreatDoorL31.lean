/- Pressed by program out of Ef. -/
import Derived.Test.YtdlhbmncbmconaaGreatDoorL30
namespace Go.Proofs.YtdlhbmncbmconaaGreatDoor
open Go.RowKit Go.Sort
attribute [local go_sem] app_mk rcut rbyte
theorem info_int2:(Tryz.prog.info? 3).map (fun i=>(i.zero,i.size,i.bytes))=some (some (.int .i64 0),1,8):=by kernel_rfl
theorem size_rrule:(Tryz.prog.info? 222).map (·.size)=some 4:=by kernel_rfl
theorem size_bool0:(Tryz.prog.info? 4).map (·.size)=some 1:=by kernel_rfl
theorem size_ints:(Tryz.prog.info? 44).map (·.size)=some 1:=by kernel_rfl
def rrCells (v:Value) (lo hi:Int) (k:Bool):Array Value:=#[v,.int .i64 lo,.int .i64 hi,.bool k]
def natV (f:Nat):Value:=.int .i64 (f:Int)
structure RuI (w wr:World) (v:Value) (F:List Nat) (lo hi:Int) (kp:Bool):Prop where
 z:wr.heap[w.heap.size]?=some (.cells (rrCells (.slice none 0 0) 0 0 false) 222 (0,0))
 r:wr.heap[w.heap.size+1]?=some (.cells (rrCells v lo hi kp) 222 (0,0))
 own:wr.ownsRow (w.heap.size+2) 3 1 v F.length (F.map natV)
 bel:Below w.heap.size w wr
theorem RuI.size {w wr:World} {v:Value} {F:List Nat} {lo hi:Int} {kp:Bool} (h:RuI w wr v F lo hi kp):w.heap.size+2<=wr.heap.size:=by
 have:=(Array.getElem?_eq_some_iff.1 h.r).1
 omega
theorem RuI.next {w wr w':World} {v:Value} {F:List Nat} {lo hi:Int} {kp:Bool} (h:RuI w wr v F lo hi kp) (hb:Below wr.heap.size wr w'):RuI w w' v F lo hi kp:=
 ⟨(hb.block _ (by have:=h.size;omega)).trans h.z,(hb.block _ (by have:=h.size;omega)).trans h.r,Hw.ownsRow_keptS (S:=fun _=>False) h.own (Hw.Kept.of_below hb) (fun _ _ e=>e),Below.next h.bel (Nat.le_refl _) hb⟩
theorem RuI.put {w wr w':World} {v:Value} {F:List Nat} {lo hi lo' hi':Int} {kp kp':Bool} (h:RuI w wr v F lo hi kp) (p:Hw.Put wr (w.heap.size+1) 222 (rrCells v lo' hi' kp') w'):RuI w w' v F lo' hi' kp':=
 ⟨(p.other _ (by omega)).trans h.z,p.row,Hw.ownsRow_keptS h.own p.kept (fun k e hk=>by have:=h.own.lt k e;omega),h.bel.trans (p.below (by omega))⟩
theorem RuI.grow {w wr w5 w6:World} {v v':Value} {F:List Nat} {f:Nat} {lo hi:Int} {kp:Bool} {o:Obj} (h:RuI w wr v F lo hi kp) (hown:w5.ownsRow (w.heap.size+2) 3 1 v' (F.length+1) (F.map natV ++ [natV f])) (hg:(wr.alloc o).grownBy w5 v.ownBlock) (p:Hw.Put w5 (w.heap.size+1) 222 (rrCells v' lo hi kp) w6):RuI w w6 v' (F ++ [f]) lo hi kp:=by
 have hs:=h.size
 have hz:w5.heap[w.heap.size]?=some (.cells (rrCells (.slice none 0 0) 0 0 false) 222 (0,0)):=(hg.block _ (by simp;omega) (fun e=>by have:=h.own.lt _ e.symm;omega)).trans ((heap_alloc_old _ _ (by omega)).trans h.z)
 refine ⟨(p.other _ (by omega)).trans hz,p.row,?_,?_⟩
 ·rw [List.map_append,List.length_append]
  exact Hw.ownsRow_keptS hown p.kept (fun k e hk=>by have:=hown.lt k e;omega)
 ·exact ((h.bel.alloc h.bel.size _).grown hg (by simp;omega) (fun q hq=>by have:=h.own.lt q hq;omega)).trans (p.below (by omega))
theorem grow_row {w wr w5:World} {v:Value} {F:List Nat} {lo hi:Int} {kp:Bool} {o:Obj} (h:RuI w wr v F lo hi kp) (hg:(wr.alloc o).grownBy w5 v.ownBlock):w5.heap[w.heap.size+1]?=some (.cells (rrCells v lo hi kp) 222 (0,0)):=by
 have hs:=h.size
 exact (hg.block _ (by simp;omega) (fun e=>by have:=h.own.lt _ e.symm;omega)).trans ((heap_alloc_old _ _ (by omega)).trans h.r)
def strN:Value->Nat
 | .string s=>s.size
 | _=>0
def boolN:Value->Nat
 | .bool true=>1
 | _=>0
theorem results_row2 {P:Program} {fn:Func} {p a:Tmp} {ty:TypeId} (h:fn.results=#[.cell p ty,.tmp a]) (tmps:Array Value) (w:World) (g:Nat) (t:TypeId) (cs:Array Value) (fr:Nat × Nat) (d:TypeDesc)
  (hp:tmps.getD p undef=.pointer (some ⟨g,0,none⟩)) (hg:w.heap[g]?=some (.cells cs t fr))
  (hu:P.underlying ty=some d) (hd:(match d with | .struct _ | .array _ _=>true | _=>false)=true) (hi:(P.info? ty).map (·.size)=some cs.size) :
  (results fn tmps).run P w=.ok (.tuple #[.agg cs,tmps.getD a undef]) w:=by
 have hl:=run_loadVar_row (P:=P) w g t ty cs fr d hg hu hd hi
 have hp':tmps[p]?.getD undef=.pointer (some ⟨g,0,none⟩):=by simpa using hp
 simp [results,h,hp',asAddr,hl]
def RulePost (R:Option Hm.Rl) (w:World) (e:Ending) (w':World):Prop:=∃ (v:Value) (q:Hm.RR) (ok:Bool),e=.returned (.tuple #[.agg (rrCells v q.lo q.hi q.keep),.bool ok])/\v.oneCell'=true /\
 (∀ r,R=some r->ok=true/\Hm.Alike r q/\w'.ownsRow (w.heap.size+2) 3 1 v q.facs.length (q.facs.map natV))/\(R=none->ok=false)/\Below w.heap.size w w'
theorem four_sets4 {w2:World} {g:Nat} {old:Array Value} {t:TypeId} (h:w2.heap[g]?=some (.cells old t (0,0))) (i j k m:Nat) (u v x y:Value) :
  Hw.Put w2 g t ((((old.setIfInBounds i u).setIfInBounds j v).setIfInBounds k x).setIfInBounds m y) ((((w2.setCell ⟨g,i,none⟩ u).setCell ⟨g,j,none⟩ v).setCell ⟨g,k,none⟩ x).setCell ⟨g,m,none⟩ y).drew:=by
 rw [setCell_eq_setRow w2 g i old t (0,0) u h]
 have p1:=Hw.put_setRow h (old.setIfInBounds i u)
 rw [setCell_eq_setRow _ g j _ t (0,0) v p1.row]
 have p2:=p1.trans (Hw.put_setRow p1.row ((old.setIfInBounds i u).setIfInBounds j v))
 rw [setCell_eq_setRow _ g k _ t (0,0) x p2.row]
 have p3:=p2.trans (Hw.put_setRow p2.row (((old.setIfInBounds i u).setIfInBounds j v).setIfInBounds k x))
 rw [setCell_eq_setRow _ g m _ t (0,0) y p3.row]
 have p4:=p3.trans (Hw.put_setRow p3.row ((((old.setIfInBounds i u).setIfInBounds j v).setIfInBounds k x).setIfInBounds m y))
 exact ⟨p4.row,p4.other,p4.size,p4.os,p4.tape,p4.output⟩
theorem not61 {g:List UInt8} (h:∀ x,¬ g=61 :: x):g=[]∨∃ c t,g=c :: t/\¬ c.toNat=61:=by
 cases g with
 | nil=>exact .inl rfl
 | cons c t=>exact .inr ⟨c,t,rfl,fun e=>h t (by rw [show c=61 from UInt8.toNat_inj.1 e])⟩
theorem rule_begin (w:World):RuI w ((w.alloc (.cells (rrCells (.slice none 0 0) 0 0 false) 222)).alloc (.cells (rrCells (.slice none 0 0) 0 0 false) 222)) (.slice none 0 0) [] 0 0 false:=
 ⟨(heap_alloc_old _ _ (by simp)).trans (heap_alloc_new _ _),alloc2_new _ _ _,World.ownsRow_nil _ _ _ _,((Below.refl _ _).alloc (Nat.le_refl _) _).alloc (by simp) _⟩
theorem rule_ok {w w6 w8:World} {v:Value} {F:List Nat} {lo hi:Int} {kp:Bool} {R:Option Hm.Rl} {cs:Array Value} (h:∃ r,R=some r/\Hm.Alike r ⟨F,lo,hi,kp⟩) (hI:RuI w w6 v F lo hi kp) (p:Hw.Put w6 w.heap.size 222 cs w8) :
  ∀ r,R=some r->true=true/\Hm.Alike r ⟨F,lo,hi,kp⟩/\w8.ownsRow (w.heap.size+2) 3 1 v (Hm.RR.mk F lo hi kp).facs.length ((Hm.RR.mk F lo hi kp).facs.map natV):=by
 intro r hr
 obtain ⟨r0,h1,h2⟩:=h
 rw [h1] at hr
 cases hr
 exact ⟨rfl,h2,Hw.ownsRow_keptS hI.own p.kept (fun k e hk=>by have:=hI.own.lt k e;omega)⟩
theorem rule_nn {F:List Nat} {lo hi:Int} {kp b:Bool} {R:Option Hm.Rl} (h:∃ r,R=some r/\Hm.Alike r ⟨F,lo,hi,kp⟩):R=none->true=b:=by
 intro hr
 obtain ⟨r0,h1,_⟩:=h
 rw [h1] at hr
 cases hr
set_option maxRecDepth 20000 in
set_option maxHeartbeats 20000000 in
theorem rrule_any (l:List UInt8) (hl:l.length<=1000000) (w:World):Calls Tryz.prog 152 #[.string ⟨l.toArray⟩] w fun e w'=>RulePost (Hm.readRule l) w e w':=by
 have FB:Hid (∀ w,Calls Tryz.prog 151 #[.string ⟨l.toArray⟩,.int .u8 32] w fun e w'=>e=.returned (.int .i64 (Hm.rfind 32 l))/\w'=w):=fun w=>rfind_any l (by omega) 32 w
 have FD:Hid (∀ w,Calls Tryz.prog 151 #[.string ⟨l.toArray⟩,.int .u8 46] w fun e w'=>e=.returned (.int .i64 (Hm.rfind 46 l))/\w'=w):=fun w=>rfind_any l (by omega) 46 w
 have hnb:=@Hm.rule_none_blank l
 have hnd:=@Hm.rule_none_dot l
 have hpp:=@Hm.rule_parts l
 have hbc:Hm.rfind 32 l=-1∨∃ b:Nat,Hm.rfind 32 l=b:=by
  rcases Hm.rfind_cut (c:=32) (l:=l) with ⟨h,_⟩ | ⟨i,h,_⟩
  ·exact .inl h
  ·exact .inr ⟨i,h⟩
 have hdc:Hm.rfind 46 l=-1∨∃ d:Nat,Hm.rfind 46 l=d/\d < l.length:=by
  rcases Hm.rfind_cut (c:=46) (l:=l) with ⟨h,_⟩ | ⟨i,h,h2,_⟩
  ·exact .inl h
  ·exact .inr ⟨i,h,h2⟩
 generalize Hm.rfind 32 l=B at FB hnb hnd hpp hbc
 generalize Hm.rfind 46 l=D at FD hnd hpp hdc
 obtain ⟨R,hR⟩:∃ R,Hm.readRule l=R:=⟨_,rfl⟩
 rw [hR] at hnb ⊢
 have hnd:∀ {b:Nat},B=b->D=-1∨(b:Int) < D->R=none:=fun h1 h2=>by rw [<-hR];exact hnd h1 h2
 have HI0:Hid _:=rule_begin w
 obtain ⟨W,hW⟩:∃ W,(w.alloc (.cells (rrCells (.slice none 0 0) 0 0 false) 222)).alloc (.cells (rrCells (.slice none 0 0) 0 0 false) 222)=W:=⟨_,rfl⟩
 rw [hW] at HI0
 unfold rrCells at hW
 rcases hbc with hB | ⟨b,hB⟩
 ·have HNONE:Hid (R=none):=hnb hB
  subst hB
  clear hnd hpp hdc hR hnb
  go_enter Tryz.func152,Tryz.ntmps152
  go_wp2_with fail
  refine (FB.out _).mono ?_
  rintro e w1 ⟨rfl,hw1⟩
  have hw1:=hw1.symm
  subst hw1
  go_wp2_with fail
  refine (FD.out _).mono ?_
  rintro e w1 ⟨rfl,hw1⟩
  have hw1:=hw1.symm
  subst hw1
  try rw [hW]
  go_wp2_with (first
   | (refine wpList_load_row rfl _ _ rfl (w.heap.size+1) rfl _ _ _ _ HI0.out.r Tryz.underlying222 rfl size_rrule ?_)
   | (refine Hw.wpList_store_rowP rfl _ _ _ rfl rfl w.heap.size _ rfl rfl _ _ HI0.out.z size_rrule rfl rfl ?_;intro w8 p8;have P8:Hid (Hw.Put _ _ _ _ w8):=p8;clear p8))
  exact bodyPost_ret (results_row2 Tryz.results152 _ _ _ _ _ _ _ rfl P8.out.row Tryz.underlying222 rfl size_rrule) rfl (by unfold RulePost;exact ⟨.slice none 0 0,⟨[],0,0,false⟩,false,rfl,rfl,(fun r hr=>by rw [HNONE.out] at hr;cases hr),(fun _=>rfl),HI0.out.bel.trans (P8.out.below (Nat.le_refl _))⟩)
 rcases (by
  rcases hdc with h | ⟨d,h,h2⟩
  ·exact .inl (.inl h)
  ·by_cases h3:b < d
   ·exact .inl (.inr ⟨d,h,h3⟩)
   ·exact .inr ⟨d,h,by omega⟩:(D=-1∨∃ d:Nat,D=d/\b < d)∨∃ d:Nat,D=d/\d<=b) with hD | ⟨d,hD,hdb⟩
 ·have HNONE:Hid (R=none):=hnd hB (by
   rcases hD with h | ⟨d,h,h2⟩
   ·exact .inl h
   ·exact .inr (by omega))
  subst hB
  have b0:¬ (b:Int) < 0:=by omega
  clear hnd hpp hdc hR hnb
  rcases hD with h | ⟨d,h,h2⟩
  ·subst h
   go_enter Tryz.func152,Tryz.ntmps152
   go_wp2_with fail
   refine (FB.out _).mono ?_
   rintro e w1 ⟨rfl,hw1⟩
   have hw1:=hw1.symm
   subst hw1
   go_wp2_with fail
   refine (FD.out _).mono ?_
   rintro e w1 ⟨rfl,hw1⟩
   have hw1:=hw1.symm
   subst hw1
   try rw [hW]
   go_wp2_with (first
    | (refine wpList_load_row rfl _ _ rfl (w.heap.size+1) rfl _ _ _ _ HI0.out.r Tryz.underlying222 rfl size_rrule ?_)
    | (refine Hw.wpList_store_rowP rfl _ _ _ rfl rfl w.heap.size _ rfl rfl _ _ HI0.out.z size_rrule rfl rfl ?_;intro w8 p8;have P8:Hid (Hw.Put _ _ _ _ w8):=p8;clear p8))
   exact bodyPost_ret (results_row2 Tryz.results152 _ _ _ _ _ _ _ rfl P8.out.row Tryz.underlying222 rfl size_rrule) rfl (by unfold RulePost;exact ⟨.slice none 0 0,⟨[],0,0,false⟩,false,rfl,rfl,(fun r hr=>by rw [HNONE.out] at hr;cases hr),(fun _=>rfl),HI0.out.bel.trans (P8.out.below (Nat.le_refl _))⟩)
  ·subst h
   have d0:¬ (d:Int) < 0:=by omega
   have db:(b:Int) < (d:Int):=by omega
   go_enter Tryz.func152,Tryz.ntmps152
   go_wp2_with fail
   refine (FB.out _).mono ?_
   rintro e w1 ⟨rfl,hw1⟩
   have hw1:=hw1.symm
   subst hw1
   go_wp2_with fail
   refine (FD.out _).mono ?_
   rintro e w1 ⟨rfl,hw1⟩
   have hw1:=hw1.symm
   subst hw1
   try rw [hW]
   go_wp2_with (first
    | (refine wpList_load_row rfl _ _ rfl (w.heap.size+1) rfl _ _ _ _ HI0.out.r Tryz.underlying222 rfl size_rrule ?_)
    | (refine Hw.wpList_store_rowP rfl _ _ _ rfl rfl w.heap.size _ rfl rfl _ _ HI0.out.z size_rrule rfl rfl ?_;intro w8 p8;have P8:Hid (Hw.Put _ _ _ _ w8):=p8;clear p8))
   exact bodyPost_ret (results_row2 Tryz.results152 _ _ _ _ _ _ _ rfl P8.out.row Tryz.underlying222 rfl size_rrule) rfl (by unfold RulePost;exact ⟨.slice none 0 0,⟨[],0,0,false⟩,false,rfl,rfl,(fun r hr=>by rw [HNONE.out] at hr;cases hr),(fun _=>rfl),HI0.out.bel.trans (P8.out.below (Nat.le_refl _))⟩)
 obtain ⟨hdb2,hbl,hRR⟩:=hpp hB hD hdb
 rw [hR] at hRR
 subst hB hD
 have b0:¬ (b:Int) < 0:=by omega
 have d0:¬ (d:Int) < 0:=by omega
 have db:¬ (b:Int) < (d:Int):=by omega
 clear hnd hpp hdc hnb hR hdb
 have bl1:(b:Int)+1<=(l.length:Int):=by omega
 have bt1:((b:Int)+1).toNat=b+1:=by omega
 have dl1:(d:Int)<=(l.length:Int):=by omega
 obtain ⟨kw,hkw⟩:∃ k,l.drop (b+1)=k:=⟨_,rfl⟩
 have hkt:(l.drop (b+1)).take (l.length - (b+1))=kw:=by rw [hkw];exact List.take_of_length_le (by rw [<-hkw,List.length_drop];omega)
 rw [hkw] at hRR
 by_cases hbad:¬ kw=Hm.kKeep/\¬ kw=Hm.kDrop
 ·have HNONE:Hid (R=none):=hRR.trans (Hm.rule_word hbad.1 hbad.2)
  have k1:(kw == [107,101,101,112])=false:=beq_eq_false_iff_ne.2 hbad.1
  have k2:(kw == [100,114,111,112])=false:=beq_eq_false_iff_ne.2 hbad.2
  clear hRR hbad hkw
  go_enter Tryz.func152,Tryz.ntmps152
  go_wp2_with fail
  refine (FB.out _).mono ?_
  rintro e w1 ⟨rfl,hw1⟩
  have hw1:=hw1.symm
  subst hw1
  go_wp2_with fail
  refine (FD.out _).mono ?_
  rintro e w1 ⟨rfl,hw1⟩
  have hw1:=hw1.symm
  subst hw1
  try rw [hW]
  go_wp2_with (first
   | (refine wpList_load_row rfl _ _ rfl (w.heap.size+1) rfl _ _ _ _ HI0.out.r Tryz.underlying222 rfl size_rrule ?_)
   | (refine Hw.wpList_store_rowP rfl _ _ _ rfl rfl w.heap.size _ rfl rfl _ _ HI0.out.z size_rrule rfl rfl ?_;intro w8 p8;have P8:Hid (Hw.Put _ _ _ _ w8):=p8;clear p8))
  exact bodyPost_ret (results_row2 Tryz.results152 _ _ _ _ _ _ _ rfl P8.out.row Tryz.underlying222 rfl size_rrule) rfl (by unfold RulePost;exact ⟨.slice none 0 0,⟨[],0,0,false⟩,false,rfl,rfl,(fun r hr=>by rw [HNONE.out] at hr;cases hr),(fun _=>rfl),HI0.out.bel.trans (P8.out.below (Nat.le_refl _))⟩)
 have hkd:kw=Hm.kKeep∨kw=Hm.kDrop:=by
  by_cases h:kw=Hm.kKeep
  ·exact .inl h
  ·exact .inr (Classical.byContradiction fun h2=>hbad ⟨h,h2⟩)
 obtain ⟨kb,hkb⟩:∃ b,(kw == [107,101,101,112])=b:=⟨_,rfl⟩
 have HKD:Hid (kw=Hm.kKeep∨kw=Hm.kDrop):=hkd
 have HKB:Hid (decide (kw=Hm.kKeep)=kb):=by
  show _=_
  rw [<-hkb]
  show decide (kw=Hm.kKeep)=(kw == Hm.kKeep)
  cases h:(kw == Hm.kKeep) with
  | true=>exact decide_eq_true (beq_iff_eq.1 h)
  | false=>exact decide_eq_false (beq_eq_false_iff_ne.1 h)
 have hkb2:kb=false->(kw == [100,114,111,112])=true:=fun h=>by
  rw [h] at hkb
  exact beq_iff_eq.2 (hkd.resolve_left (beq_eq_false_iff_ne.1 hkb))
 clear hbad hkd
 obtain ⟨nm,hnm⟩:∃ n,l.take d=n:=⟨_,rfl⟩
 obtain ⟨g,hg⟩:∃ g,(l.drop (d+1)).take (b - (d+1))=g:=⟨_,rfl⟩
 have hnml:nm.length<=1000000:=by rw [<-hnm,List.length_take];omega
 have hgl:g.length<=1000000:=by rw [<-hg,List.length_take,List.length_drop];omega
 rw [hnm,hg] at hRR
 have HRR:Hid (R=Hm.ruleOf (Hm.facBits nm) (Hm.sevBits g) kw):=hRR
 clear hRR hkw
 obtain ⟨i0,hi,hz0,hz1,hz2'⟩:=info_parts info_int2
 go_enter Tryz.func152,Tryz.ntmps152
 go_wp2_with fail
 refine (FB.out _).mono ?_
 rintro e w1 ⟨rfl,hw1⟩
 have hw1:=hw1.symm
 subst hw1
 go_wp2_with fail
 refine (FD.out _).mono ?_
 rintro e w1 ⟨rfl,hw1⟩
 have hw1:=hw1.symm
 subst hw1
 try rw [hW]
 clear hW
 go_upto_region 7 with fail
 go_cut [40] (fun s40 wc=>s40=.bool false/\wc=W)
 case first=>
  cases kb with
  | true=>
   go_wp2
   go_meet
   case rel=>exact ⟨rfl,rfl⟩
  | false=>
   have hk2:=hkb2 rfl
   go_wp2
   go_meet
   case rel=>exact ⟨rfl,rfl⟩
 case rest=>
  obtain ⟨rfl,hwc⟩:=hcut
  have hwc:=hwc.symm
  subst hwc
  clear FB FD hkb2
  obtain ⟨st,hst⟩:∃ b,(nm == [42])=b:=⟨_,rfl⟩
  go_upto_if 49 with (first
   | (refine Hw.wpList_store_fieldP rfl _ _ _ rfl rfl (w.heap.size+1) 3 _ rfl rfl _ _ (rrCells (.slice none 0 0) 0 0 kb) HI0.out.r size_bool0 (by simp [rrCells]) rfl rfl ?_;intro w2 p2;have P2:Hid (Hw.Put W _ _ _ w2):=p2;clear p2)
   | fail)
  have HI2:Hid (RuI w w2 (.slice none 0 0) [] 0 0 kb):=HI0.out.put P2.out
  clear P2 HI0 hkb
  go_cut [8] (fun _ wc=>∃ v F,RuI w wc v F 0 0 kb/\Hm.FcOk nm F)
  case first=>
   cases st with
   | true=>
    have hnm42:nm=[42]:=beq_iff_eq.1 hst
    have HNM:=show Hid _ from hnm42
    clear hnm42
    go_wp2
    go_loopw [9] (fun s9 wq=>∃ (k:Nat) (v:Value) (F:List Nat),k<=24/\s9=.int .i64 k/\F=List.range k/\RuI w wq v F 0 0 kb) (fun s9 _=>24 - (intOf s9).toNat)
    case atStart=>exact ⟨0,_,[],by omega,rfl,rfl,HI2.out⟩
    case round=>
     obtain ⟨k,v,F,hk,rfl,hF,hI⟩:=hrel
     have hFl:F.length<=24:=by rw [hF,List.length_range];exact hk
     have HF0:=show Hid _ from hF
     clear hF
     have HI:Hid (RuI w wr v F 0 0 kb):=hI
     have c0:wr.cell? ⟨w.heap.size+1,0,none⟩=some v:=cell_of_row _ _ _ _ _ _ hI.r
     clear hI HI2
     by_cases hlt:k < 24
     case neg=>
      have hki:¬ (k:Int) < 24:=by omega
      have hk24:k=24:=by omega
      have HF:Hid (Hm.FcOk nm F):=by rw [HNM.out];exact Hm.fcok_star (by rw [HF0.out,hk24])
      clear hk24
      go_wp2
      go_meet
      case rel=>exact ⟨v,F,HI.out,HF.out⟩
     have hki:(k:Int) < 24:=by omega
     obtain ⟨va,vc,rfl⟩:=own_form HI.out.own
     go_wp2_with (first
      | (at_builtin;refine wpList_append_own _ rfl _ _ 44 rfl (w.heap.size+2) 3 i0 (.int .i64 0) 1 8 Tryz.underlying44 hi hz0 hz1 hz2' rfl (by decide) _ _ _ rfl (HI.out.own.alloc _) ⟨wr.heap.size,0,none⟩ 1 1 [.int .i64 (k:Int)] rfl rfl (cell_one_new _ _ _) (fun x hx=>by simp at hx;subst hx;rfl) (by unfold maxLen;omega) (by omega) (by have:=HI.out.size;simp;omega) ?_;intro v' w5 hown' hgrow hnil;obtain ⟨va2,vc2,rfl⟩:=own_form hown';have HO5:=show Hid _ from hown';have HG5:=show Hid _ from hgrow;clear hown' hgrow hnil)
      | (refine Hw.wpList_store_fieldP rfl _ _ _ rfl rfl (w.heap.size+1) 0 _ rfl rfl _ _ (rrCells _ 0 0 kb) (grow_row HI.out HG5.out) size_ints (by simp [rrCells]) rfl rfl ?_;intro w6 p6;have P6:Hid (Hw.Put w5 _ _ _ w6):=p6;clear p6)
      | fail)
     have HI6:=show Hid (RuI w w6 _ (F ++ [k]) 0 0 kb) from HI.out.grow HO5.out HG5.out P6.out
     go_roundw
     case rel=>exact ⟨k+1,_,F ++ [k],by omega,int_eq (by simp),by rw [HF0.out,List.range_succ],HI6.out⟩
     case measure=>simp [intOf];omega
   | false=>
    have HNM:Hid (¬ nm=[42]):=beq_eq_false_iff_ne.1 hst
    have FC:Hid (∀ names:List UInt8,names.length<=1000000->∀ w,Calls Tryz.prog 151 #[.string ⟨names.toArray⟩,.int .u8 44] w fun e w'=>e=.returned (.int .i64 (Hm.rfind 44 names))/\w'=w):=fun names hn w=>rfind_any names (by omega) 44 w
    have FA:Hid (∀ (one:List UInt8) w,Calls Tryz.prog 188 #[.string ⟨one.toArray⟩] w fun e w'=>e=.returned (.int .i64 ((Hm.findFrom one Hm.facNames 0:Nat) - 1:Int))/\Below w.heap.size w w'):=rFacility_any
    go_wp2
    go_loopw [8,10,11,12,13] (fun s8 s10 _ _ _ wq=>∃ (names:List UInt8) (F:List Nat) (v:Value) (more:Bool),s8=.string ⟨names.toArray⟩/\s10=.bool more/\RuI w wq v F 0 0 kb/\(more=true->F.length+names.length<=1000000/\Hm.FcI nm names F)/\(more=false->¬ F=[]/\(∀ f ∈ F,f < 24)/\Hm.facFold (Hm.splitC 44 nm) 0=Hm.bitsOf F)) (fun s8 s10 _ _ _ _=>strN s8+boolN s10)
    case atStart=>exact ⟨nm,[],_,true,rfl,rfl,HI2.out,(fun _=>⟨by simpa using hnml,Hm.fc_start nm⟩),fun h=>by cases h⟩
    case round=>
     obtain ⟨names,F,v,more,rfl,rfl,hI,hT,hF⟩:=hrel
     have HI:Hid (RuI w wr v F 0 0 kb):=hI
     have c0:wr.cell? ⟨w.heap.size+1,0,none⟩=some v:=cell_of_row _ _ _ _ _ _ hI.r
     clear hI HI2 hst
     cases more with
     | false=>
      obtain ⟨h1,h2,h3⟩:=hF rfl
      have HF:Hid (Hm.FcOk nm F):=Hm.fcok_names HNM.out h2 h1 h3
      clear hT hF h1 h2 h3
      go_wp2
      go_meet
      case rel=>exact ⟨v,F,HI.out,HF.out⟩
     | true=>
      obtain ⟨hlen,hFc⟩:=hT rfl
      have HFC:Hid (Hm.FcI nm names F):=hFc
      clear hT hF hFc
      obtain ⟨va,vc,rfl⟩:=own_form HI.out.own
      have FCN:=show Hid _ from FC.out names (by omega)
      rcases Hm.rfind_cut (c:=44) (l:=names) with ⟨hr,hc⟩ | ⟨i,hr,hil,hc⟩
      ·rw [hr] at FCN
       have FAO:=show Hid _ from FA.out names
       have HBAD:Hid (Hm.findFrom names Hm.facNames 0=0->R=none):=fun h=>HRR.out.trans (Hm.rule_fac (Hm.fac_bad HNM.out (Hm.fc_bad_last HFC.out (by rw [hc]) (by rw [hc];exact h))))
       have HGO:Hid (∀ k,Hm.findFrom names Hm.facNames 0=k+1->(∀ f ∈ F ++ [k],f < 24)/\Hm.facFold (Hm.splitC 44 nm) 0=Hm.bitsOf (F ++ [k])):=fun k h=>by
        have:=Hm.fc_last HFC.out (by rw [hc]) (by rw [hc];dsimp only;omega)
        rw [hc] at this
        dsimp only at this
        rwa [show Hm.findFrom names Hm.facNames 0 - 1=k by omega] at this
       generalize Hm.findFrom names Hm.facNames 0=X at FAO HBAD HGO
       clear hr hc HFC
       cases X with
       | zero=>
        have HNONE:Hid (R=none):=HBAD.out rfl
        have hx:((0:Nat):Int) - 1=-1:=by omega
        rw [hx] at FAO
        clear hx
        go_wp2_with fail
        refine (FCN.out _).mono ?_
        rintro e w1 ⟨rfl,hw1⟩
        have hw1:=hw1.symm
        subst hw1
        go_wp2_with fail
        refine (FAO.out _).mono ?_
        rintro e w3 ⟨rfl,hb3⟩
        have HI3:=show Hid _ from HI.out.next hb3
        clear hb3 c0
        go_wp2_with (first
         | (refine wpList_load_row rfl _ _ rfl (w.heap.size+1) rfl _ _ _ _ HI3.out.r Tryz.underlying222 rfl size_rrule ?_)
         | (refine Hw.wpList_store_rowP rfl _ _ _ rfl rfl w.heap.size _ rfl rfl _ _ HI3.out.z size_rrule rfl rfl ?_;intro w8 p8;have P8:Hid (Hw.Put _ _ _ _ w8):=p8;clear p8))
        exact bodyPost_ret (results_row2 Tryz.results152 _ _ _ _ _ _ _ rfl P8.out.row Tryz.underlying222 rfl size_rrule) rfl (by unfold RulePost;exact ⟨_,⟨[],0,0,kb⟩,false,rfl,rfl,(fun r hr=>by rw [HNONE.out] at hr;cases hr),(fun _=>rfl),HI3.out.bel.trans (P8.out.below (Nat.le_refl _))⟩)
       | succ k=>
        have hx:((k+1:Nat):Int) - 1=(k:Int):=by omega
        rw [hx] at FAO
        have k0:¬ (k:Int) < 0:=by omega
        have HGO2:=show Hid _ from HGO.out k rfl
        clear hx HGO HBAD
        go_wp2_with fail
        refine (FCN.out _).mono ?_
        rintro e w1 ⟨rfl,hw1⟩
        have hw1:=hw1.symm
        subst hw1
        go_wp2_with fail
        refine (FAO.out _).mono ?_
        rintro e w3 ⟨rfl,hb3⟩
        have HI3:=show Hid _ from HI.out.next hb3
        have c3:w3.cell? ⟨w.heap.size+1,0,none⟩=some _:=cell_of_row _ _ _ _ _ _ HI3.out.r
        clear hb3 c0 HI
        have HI:=HI3
        clear HI3
        go_wp2_with (first
         | (at_builtin;refine wpList_append_own _ rfl _ _ 44 rfl (w.heap.size+2) 3 i0 (.int .i64 0) 1 8 Tryz.underlying44 hi hz0 hz1 hz2' rfl (by decide) _ _ _ rfl (HI.out.own.alloc _) ⟨w3.heap.size,0,none⟩ 1 1 [.int .i64 (k:Int)] rfl rfl (cell_one_new _ _ _) (fun x hx=>by simp at hx;subst hx;rfl) (by unfold maxLen;omega) (by omega) (by have:=HI.out.size;simp;omega) ?_;intro v' w5 hown' hgrow hnil;obtain ⟨va2,vc2,rfl⟩:=own_form hown';have HO5:=show Hid _ from hown';have HG5:=show Hid _ from hgrow;clear hown' hgrow hnil)
         | (refine Hw.wpList_store_fieldP rfl _ _ _ rfl rfl (w.heap.size+1) 0 _ rfl rfl _ _ (rrCells _ 0 0 kb) (grow_row HI.out HG5.out) size_ints (by simp [rrCells]) rfl rfl ?_;intro w6 p6;have P6:Hid (Hw.Put w5 _ _ _ w6):=p6;clear p6)
         | fail)
        have HI6:=show Hid (RuI w w6 _ (F ++ [k]) 0 0 kb) from HI.out.grow HO5.out HG5.out P6.out
        go_roundw
        case rel=>exact ⟨names,F ++ [k],_,false,rfl,rfl,HI6.out,(fun h=>by cases h),fun _=>⟨by simp,HGO2.out⟩⟩
        case measure=>simp [strN,boolN]
      ·rw [hr] at FCN
       have FAO:=show Hid _ from FA.out (names.take i)
       have HBAD:Hid (Hm.findFrom (names.take i) Hm.facNames 0=0->R=none):=fun h=>HRR.out.trans (Hm.rule_fac (Hm.fac_bad HNM.out (Hm.fc_bad_more HFC.out (by rw [hc]) (by rw [hc];exact h))))
       have HGO:Hid (∀ k,Hm.findFrom (names.take i) Hm.facNames 0=k+1->Hm.FcI nm (names.drop (i+1)) (F ++ [k])):=fun k h=>by
        have:=Hm.fc_more HFC.out (by rw [hc]) (by rw [hc];dsimp only;omega)
        rw [hc] at this
        dsimp only at this
        rwa [show Hm.findFrom (names.take i) Hm.facNames 0 - 1=k by omega] at this
       generalize Hm.findFrom (names.take i) Hm.facNames 0=X at FAO HBAD HGO
       clear hr hc HFC
       have i0':(0:Int)<=(i:Int):=by omega
       have i1:(i:Int)<=(names.length:Int):=by omega
       have i2:(i:Int)+1<=(names.length:Int):=by omega
       have i3:((i:Int)+1).toNat=i+1:=by omega
       obtain ⟨nx,hnx⟩:∃ n,names.drop (i+1)=n:=⟨_,rfl⟩
       have hnxl:nx.length+i+1=names.length:=by rw [<-hnx,List.length_drop];omega
       have hnt:(names.drop (i+1)).take (names.length - (i+1))=nx:=by rw [hnx];exact List.take_of_length_le (by rw [<-hnx,List.length_drop];omega)
       rw [hnx] at HGO
       clear hnx
       cases X with
       | zero=>
        have HNONE:Hid (R=none):=HBAD.out rfl
        have hx:((0:Nat):Int) - 1=-1:=by omega
        rw [hx] at FAO
        clear hx
        go_wp2_with fail
        refine (FCN.out _).mono ?_
        rintro e w1 ⟨rfl,hw1⟩
        have hw1:=hw1.symm
        subst hw1
        go_wp2_with fail
        refine (FAO.out _).mono ?_
        rintro e w3 ⟨rfl,hb3⟩
        have HI3:=show Hid _ from HI.out.next hb3
        clear hb3 c0
        go_wp2_with (first
         | (refine wpList_load_row rfl _ _ rfl (w.heap.size+1) rfl _ _ _ _ HI3.out.r Tryz.underlying222 rfl size_rrule ?_)
         | (refine Hw.wpList_store_rowP rfl _ _ _ rfl rfl w.heap.size _ rfl rfl _ _ HI3.out.z size_rrule rfl rfl ?_;intro w8 p8;have P8:Hid (Hw.Put _ _ _ _ w8):=p8;clear p8))
        exact bodyPost_ret (results_row2 Tryz.results152 _ _ _ _ _ _ _ rfl P8.out.row Tryz.underlying222 rfl size_rrule) rfl (by unfold RulePost;exact ⟨_,⟨[],0,0,kb⟩,false,rfl,rfl,(fun r hr=>by rw [HNONE.out] at hr;cases hr),(fun _=>rfl),HI3.out.bel.trans (P8.out.below (Nat.le_refl _))⟩)
       | succ k=>
        have hx:((k+1:Nat):Int) - 1=(k:Int):=by omega
        rw [hx] at FAO
        have k0:¬ (k:Int) < 0:=by omega
        have HGO2:=show Hid _ from HGO.out k rfl
        clear hx HGO HBAD
        go_wp2_with fail
        refine (FCN.out _).mono ?_
        rintro e w1 ⟨rfl,hw1⟩
        have hw1:=hw1.symm
        subst hw1
        go_wp2_with fail
        refine (FAO.out _).mono ?_
        rintro e w3 ⟨rfl,hb3⟩
        have HI3:=show Hid _ from HI.out.next hb3
        have c3:w3.cell? ⟨w.heap.size+1,0,none⟩=some _:=cell_of_row _ _ _ _ _ _ HI3.out.r
        clear hb3 c0 HI
        have HI:=HI3
        clear HI3
        go_wp2_with (first
         | (at_builtin;refine wpList_append_own _ rfl _ _ 44 rfl (w.heap.size+2) 3 i0 (.int .i64 0) 1 8 Tryz.underlying44 hi hz0 hz1 hz2' rfl (by decide) _ _ _ rfl (HI.out.own.alloc _) ⟨w3.heap.size,0,none⟩ 1 1 [.int .i64 (k:Int)] rfl rfl (cell_one_new _ _ _) (fun x hx=>by simp at hx;subst hx;rfl) (by unfold maxLen;omega) (by omega) (by have:=HI.out.size;simp;omega) ?_;intro v' w5 hown' hgrow hnil;obtain ⟨va2,vc2,rfl⟩:=own_form hown';have HO5:=show Hid _ from hown';have HG5:=show Hid _ from hgrow;clear hown' hgrow hnil)
         | (refine Hw.wpList_store_fieldP rfl _ _ _ rfl rfl (w.heap.size+1) 0 _ rfl rfl _ _ (rrCells _ 0 0 kb) (grow_row HI.out HG5.out) size_ints (by simp [rrCells]) rfl rfl ?_;intro w6 p6;have P6:Hid (Hw.Put w5 _ _ _ w6):=p6;clear p6)
         | fail)
        have HI6:=show Hid (RuI w w6 _ (F ++ [k]) 0 0 kb) from HI.out.grow HO5.out HG5.out P6.out
        go_roundw
        case rel=>exact ⟨nx,F ++ [k],_,true,rfl,rfl,HI6.out,(fun _=>⟨by simp;omega,HGO2.out⟩),fun h=>by cases h⟩
        case measure=>simp [strN,boolN,ByteArray.size];omega
  case rest=>
   obtain ⟨v,F,hI,hFo⟩:=hcut
   have HI:Hid (RuI w wc v F 0 0 kb):=hI
   have HFO:Hid (Hm.FcOk nm F):=hFo
   clear hI hFo HI2 hst
   obtain ⟨va,vc,rfl⟩:=own_form HI.out.own
   have t1:((d:Int)+1).toNat=d+1:=by omega
   have t2:(d:Int)+1<=(b:Int):=by omega
   have t3:(b:Int)<=(l.length:Int):=by omega
   have HSOME:Hid (∀ lo hi,Hm.SvOk g lo hi->∃ r,R=some r/\Hm.Alike r ⟨F,lo,hi,kb⟩):=fun lo hi h=>by
    obtain ⟨r,h1,h2⟩:=Hm.rule_some HFO.out h HKD.out
    rw [HKB.out] at h2
    exact ⟨r,HRR.out.trans h1,h2⟩
   have HNO:Hid (Hm.sevBits g=0->R=none):=fun h=>HRR.out.trans (Hm.rule_sev h)
   clear HRR HFO HKD HKB
   by_cases g42:g=[42]
   ·have HS:Hid (∃ r,R=some r/\Hm.Alike r ⟨F,0,7,kb⟩):=HSOME.out 0 7 (by rw [g42];exact Hm.svok_star)
    have gb:(g == [42])=true:=beq_iff_eq.2 g42
    clear g42 HSOME HNO
    go_wp2_with (first
     | (refine Hw.wpList_store_fieldP rfl _ _ _ rfl rfl (w.heap.size+1) 2 _ rfl rfl _ _ (rrCells _ 0 7 kb) HI.out.r size_int (by simp [rrCells]) rfl rfl ?_;intro w6 p6;have P6:Hid (Hw.Put wc _ _ _ w6):=p6;clear p6)
     | (refine wpList_load_row rfl _ _ rfl (w.heap.size+1) rfl _ _ _ _ P6.out.row Tryz.underlying222 rfl size_rrule ?_)
     | (refine Hw.wpList_store_rowP rfl _ _ _ rfl rfl w.heap.size _ rfl rfl _ _ (HI.out.put P6.out).z size_rrule rfl rfl ?_;intro w8 p8;have P8:Hid (Hw.Put _ _ _ _ w8):=p8;clear p8))
    have hI6:=HI.out.put P6.out
    exact bodyPost_ret (results_row2 Tryz.results152 _ _ _ _ _ _ _ rfl P8.out.row Tryz.underlying222 rfl size_rrule) rfl (by unfold RulePost;exact ⟨.slice va F.length vc,⟨F,0,7,kb⟩,true,rfl,rfl,rule_ok HS.out hI6 P8.out,rule_nn HS.out,hI6.bel.trans (P8.out.below (Nat.le_refl _))⟩)
   have gb:(g == [42])=false:=beq_eq_false_iff_ne.2 g42
   by_cases hx:∃ x,g=61 :: x
   ·obtain ⟨x,rfl⟩:=hx
    have SV:Hid (∀ w,Calls Tryz.prog 189 #[.string ⟨x.toArray⟩] w fun e w'=>e=.returned (.int .i64 ((Hm.findFrom x Hm.severityNames 0:Nat) - 1:Int))/\Below w.heap.size w w'):=rSeverity_any x
    have HS:Hid (∀ k,Hm.findFrom x Hm.severityNames 0=k+1->∃ r,R=some r/\Hm.Alike r ⟨F,(k:Int),(k:Int),kb⟩):=fun k h=>HSOME.out k k (Hm.svok_one h)
    have HN:Hid (Hm.findFrom x Hm.severityNames 0=0->R=none):=fun h=>HNO.out (by rw [Hm.sev_one,if_pos h])
    clear HSOME HNO g42
    obtain ⟨Z,hZ⟩:∃ Z:Int,((Hm.findFrom x Hm.severityNames 0:Nat) - 1:Int)=Z:=⟨_,rfl⟩
    rw [hZ] at SV
    have gx:((61 :: x:List UInt8) == [])=false:=rfl
    have gl:(1:Int)<=(x.length:Int)+1:=by omega
    go_wp2_with fail
    refine (SV.out _).mono ?_
    rintro e w3 ⟨rfl,hb3⟩
    have HI3:=show Hid _ from HI.out.next hb3
    clear hb3
    go_wp2_with (first
     | (refine Hw.wpList_store_fieldP rfl _ _ _ rfl rfl (w.heap.size+1) 1 _ rfl rfl _ _ (rrCells _ Z 0 kb) HI3.out.r size_int (by simp [rrCells]) rfl rfl ?_;intro w6 p6;have P6:Hid (Hw.Put w3 _ _ _ w6):=p6;clear p6;have c6:w6.cell? ⟨w.heap.size+1,1,none⟩=some (.int .i64 Z):=cell_of_row _ _ _ _ _ _ P6.out.row)
     | (refine Hw.wpList_store_fieldP rfl _ _ _ rfl rfl (w.heap.size+1) 2 _ rfl rfl _ _ (rrCells _ Z Z kb) P6.out.row size_int (by simp [rrCells]) rfl rfl ?_;intro w7 p7;have P7:Hid (Hw.Put w6 _ _ _ w7):=p7;clear p7)
     | fail)
    have HI7:=show Hid _ from (HI3.out.put P6.out).put P7.out
    clear P6 P7 c6 HI3 HI
    have hrz:=HI7.out.z
    have hrr:=HI7.out.r
    unfold rrCells at hrz hrr
    have a0:w7.cell? ⟨w.heap.size+1,0,none⟩=some (.slice va F.length vc):=cell_of_row _ _ _ _ _ _ hrr
    have b0:w7.cell? ⟨w.heap.size,0,none⟩=some (.slice none 0 0):=cell_of_row _ _ _ _ _ _ hrz
    have a1:w7.cell? ⟨w.heap.size+1,1,none⟩=some (.int .i64 Z):=cell_of_row _ _ _ _ _ _ hrr
    have b1:w7.cell? ⟨w.heap.size,1,none⟩=some (.int .i64 0):=cell_of_row _ _ _ _ _ _ hrz
    have a2:w7.cell? ⟨w.heap.size+1,2,none⟩=some (.int .i64 Z):=cell_of_row _ _ _ _ _ _ hrr
    have b2:w7.cell? ⟨w.heap.size,2,none⟩=some (.int .i64 0):=cell_of_row _ _ _ _ _ _ hrz
    have a3:w7.cell? ⟨w.heap.size+1,3,none⟩=some (.bool kb):=cell_of_row _ _ _ _ _ _ hrr
    have b3:w7.cell? ⟨w.heap.size,3,none⟩=some (.bool false):=cell_of_row _ _ _ _ _ _ hrz
    have fz:∀ k,w7.frozen? ⟨w.heap.size,k,none⟩=false:=fun k=>frozen_of_row _ _ _ _ _ hrz
    have hne:¬ w.heap.size+1=w.heap.size:=by omega
    have hne2:¬ w.heap.size=w.heap.size+1:=by omega
    clear hrz hrr
    go_region
    have p8:=four_sets4 HI7.out.z 0 1 2 3 (.slice va F.length vc) (.int .i64 Z) (.int .i64 Z) (.bool kb)
    generalize ((((w7.setCell ⟨w.heap.size,0,none⟩ (.slice va F.length vc)).setCell ⟨w.heap.size,1,none⟩ (.int .i64 Z)).setCell ⟨w.heap.size,2,none⟩ (.int .i64 Z)).setCell ⟨w.heap.size,3,none⟩ (.bool kb)).drew=w8 at p8 ⊢
    have P8:Hid (Hw.Put w7 w.heap.size 222 (rrCells (.slice va F.length vc) Z Z kb) w8):=p8
    clear p8 a0 a1 a2 a3 b0 b1 b2 b3 fz
    go_wp2
    refine bodyPost_ret (results_row2 Tryz.results152 _ _ _ _ _ _ _ rfl P8.out.row Tryz.underlying222 rfl size_rrule) rfl ?_
    unfold RulePost
    cases hX:Hm.findFrom x Hm.severityNames 0 with
    | zero=>
     have hR0:=HN.out hX
     have hz:Z=-1:=by rw [<-hZ,hX];rfl
     subst hz
     exact ⟨_,⟨F,-1,-1,kb⟩,false,rfl,rfl,(fun r hr=>by rw [hR0] at hr;cases hr),(fun _=>rfl),HI7.out.bel.trans (P8.out.below (Nat.le_refl _))⟩
    | succ k=>
     have hz:Z=(k:Int):=by rw [<-hZ,hX];omega
     subst hz
     have hd:decide ((0:Int)<=(k:Int))=true:=decide_eq_true (by omega)
     exact ⟨_,⟨F,(k:Int),(k:Int),kb⟩,true,congrArg (fun z=>Ending.returned (Value.tuple #[_,.bool z])) hd,rfl,rule_ok (HS.out k hX) HI7.out P8.out,rule_nn (HS.out k hX),HI7.out.bel.trans (P8.out.below (Nat.le_refl _))⟩
   ·have hxx:∀ x,¬ g=61 :: x:=fun x h=>hx ⟨x,h⟩
    have SV:Hid (∀ w,Calls Tryz.prog 189 #[.string ⟨g.toArray⟩] w fun e w'=>e=.returned (.int .i64 ((Hm.findFrom g Hm.severityNames 0:Nat) - 1:Int))/\Below w.heap.size w w'):=rSeverity_any g
    have HS:Hid (∀ k,Hm.findFrom g Hm.severityNames 0=k+1->∃ r,R=some r/\Hm.Alike r ⟨F,0,(k:Int),kb⟩):=fun k h=>HSOME.out 0 k (Hm.svok_up g42 hxx h)
    have HN:Hid (Hm.findFrom g Hm.severityNames 0=0->R=none):=fun h=>HNO.out (by rw [Hm.sev_up g42 hxx,if_pos h])
    clear HSOME HNO g42 hx
    obtain ⟨Z,hZ⟩:∃ Z:Int,((Hm.findFrom g Hm.severityNames 0:Nat) - 1:Int)=Z:=⟨_,rfl⟩
    rw [hZ] at SV
    go_upto_region 32 with fail
    go_cut [100] (fun s100 wd=>s100=.bool false/\wd=wc)
    case first=>
     have hcs:=not61 hxx
     clear hxx HS HN SV hZ
     rcases hcs with h | ⟨c,tl,h,hc⟩
     ·have hgb:(g == [])=true:=by rw [h];rfl
      clear h
      go_wp2
      go_meet
      case rel=>exact ⟨rfl,rfl⟩
     ·have hgb:(g == [])=false:=by rw [h];rfl
      have hg0:0 < g.length:=by rw [h];simp
      have hgc:((g[0].toNat:Int) == 61)=false:=by
       have:g[0]=c:=by simp [h]
       rw [this]
       exact beq_eq_false_iff_ne.2 (by omega)
      have hgi:(0:Int) < (g.length:Int):=by omega
      clear h hc
      go_wp2
      go_meet
      case rel=>exact ⟨rfl,rfl⟩
    case rest=>
     obtain ⟨rfl,hwc⟩:=hcut
     have hwc:=hwc.symm
     subst hwc
     clear hxx
     go_wp2_with fail
     refine (SV.out _).mono ?_
     rintro e w3 ⟨rfl,hb3⟩
     have HI3:=show Hid _ from HI.out.next hb3
     clear hb3
     go_wp2_with (first
      | (refine Hw.wpList_store_fieldP rfl _ _ _ rfl rfl (w.heap.size+1) 2 _ rfl rfl _ _ (rrCells _ 0 Z kb) HI3.out.r size_int (by simp [rrCells]) rfl rfl ?_;intro w7 p7;have P7:Hid (Hw.Put w3 _ _ _ w7):=p7;clear p7)
      | fail)
     have HI7:=show Hid _ from HI3.out.put P7.out
     clear P7 HI3 HI
     have hrz:=HI7.out.z
     have hrr:=HI7.out.r
     unfold rrCells at hrz hrr
     have a0:w7.cell? ⟨w.heap.size+1,0,none⟩=some (.slice va F.length vc):=cell_of_row _ _ _ _ _ _ hrr
     have b0:w7.cell? ⟨w.heap.size,0,none⟩=some (.slice none 0 0):=cell_of_row _ _ _ _ _ _ hrz
     have a1:w7.cell? ⟨w.heap.size+1,1,none⟩=some (.int .i64 0):=cell_of_row _ _ _ _ _ _ hrr
     have b1:w7.cell? ⟨w.heap.size,1,none⟩=some (.int .i64 0):=cell_of_row _ _ _ _ _ _ hrz
     have a2:w7.cell? ⟨w.heap.size+1,2,none⟩=some (.int .i64 Z):=cell_of_row _ _ _ _ _ _ hrr
     have b2:w7.cell? ⟨w.heap.size,2,none⟩=some (.int .i64 0):=cell_of_row _ _ _ _ _ _ hrz
     have a3:w7.cell? ⟨w.heap.size+1,3,none⟩=some (.bool kb):=cell_of_row _ _ _ _ _ _ hrr
     have b3:w7.cell? ⟨w.heap.size,3,none⟩=some (.bool false):=cell_of_row _ _ _ _ _ _ hrz
     have fz:∀ k,w7.frozen? ⟨w.heap.size,k,none⟩=false:=fun k=>frozen_of_row _ _ _ _ _ hrz
     have hne:¬ w.heap.size+1=w.heap.size:=by omega
     have hne2:¬ w.heap.size=w.heap.size+1:=by omega
     clear hrz hrr
     go_region
     have p8:=four_sets4 HI7.out.z 0 1 2 3 (.slice va F.length vc) (.int .i64 0) (.int .i64 Z) (.bool kb)
     generalize ((((w7.setCell ⟨w.heap.size,0,none⟩ (.slice va F.length vc)).setCell ⟨w.heap.size,1,none⟩ (.int .i64 0)).setCell ⟨w.heap.size,2,none⟩ (.int .i64 Z)).setCell ⟨w.heap.size,3,none⟩ (.bool kb)).drew=w8 at p8 ⊢
     have P8:Hid (Hw.Put w7 w.heap.size 222 (rrCells (.slice va F.length vc) 0 Z kb) w8):=p8
     clear p8 a0 a1 a2 a3 b0 b1 b2 b3 fz
     go_wp2
     refine bodyPost_ret (results_row2 Tryz.results152 _ _ _ _ _ _ _ rfl P8.out.row Tryz.underlying222 rfl size_rrule) rfl ?_
     unfold RulePost
     cases hX:Hm.findFrom g Hm.severityNames 0 with
     | zero=>
      have hR0:=HN.out hX
      have hz:Z=-1:=by rw [<-hZ,hX];rfl
      subst hz
      exact ⟨_,⟨F,0,-1,kb⟩,false,rfl,rfl,(fun r hr=>by rw [hR0] at hr;cases hr),(fun _=>rfl),HI7.out.bel.trans (P8.out.below (Nat.le_refl _))⟩
     | succ k=>
      have hz:Z=(k:Int):=by rw [<-hZ,hX];omega
      subst hz
      have hd:decide ((0:Int)<=(k:Int))=true:=decide_eq_true (by omega)
      exact ⟨_,⟨F,0,(k:Int),kb⟩,true,congrArg (fun z=>Ending.returned (Value.tuple #[_,.bool z])) hd,rfl,rule_ok (HS.out k hX) HI7.out P8.out,rule_nn (HS.out k hX),HI7.out.bel.trans (P8.out.below (Nat.le_refl _))⟩
end Go.Proofs.YtdlhbmncbmconaaGreatDoor

/- Pressed by program out of Fa Fb. -/
import Derived.Test.YtdlhbmncbmconaaGreatDoorL12
import Derived.Test.YtdlhbmncbmconaaGreatDoorL09
import Derived.Test.YtdlhbmncbmconaaGreatDoorL01
import Derived.Test.YtdlhbmncbmconaaGreatDoorL02
namespace Go.Proofs.YtdlhbmncbmconaaGreatDoor
open Go.RowKit Go.Sort
attribute [local go_sem] app_mk rcut rbyte
theorem three_back (w:World) (x y z:UInt8) (t u v:Int) (ht:t=x.toNat) (hu:u=y.toNat) (hv:v=z.toNat) :
  (convert 72 9 (.slice (some ⟨w.heap.size,0,none⟩) 3 3)).run Tryz.prog (w.alloc (.cells #[.int .u8 t,.int .u8 u,.int .u8 v] 5))=.ok (.string ⟨[x,y,z].toArray⟩) (w.alloc (.cells #[.int .u8 t,.int .u8 u,.int .u8 v] 5)):=by
 subst ht hu hv
 exact run_convert_bytes_back _ 72 9 5 ⟨w.heap.size,0,none⟩ 3 [x,y,z] Tryz.underlying72 Tryz.underlying5 Tryz.underlying9 (fun j hj=>by
  rcases (by simp at hj;omega:j=0∨j=1∨j=2) with h | h | h<;>subst h<;>simp [Addr.add])
theorem two_backl (w:World) (x y:UInt8) (u v:Int) (hu:u=x.toNat) (hv:v=y.toNat) :
  (convert 72 9 (.slice (some ⟨w.heap.size,0,none⟩) 2 2)).run Tryz.prog (w.alloc (.cells #[.int .u8 u,.int .u8 v] 5))=.ok (.string ⟨[x,y].toArray⟩) (w.alloc (.cells #[.int .u8 u,.int .u8 v] 5)):=two_back w x y u v hu hv
set_option maxRecDepth 20000 in
set_option maxHeartbeats 2000000 in
theorem rRecord_any (k:UInt8) (l:List UInt8) (hl:l.length < 65536) (w:World) :
  Calls Tryz.prog 153 #[.int .u8 k.toNat,.string ⟨l.toArray⟩] w fun e w'=>e=.returned (.string ⟨(Hm.writeRec k l).toArray⟩)/\Below w.heap.size w w':=by
 have hlim:¬ 9223372036854775807 < 3+l.length:=by omega
 have hback:=three_back w k (UInt8.ofNat (l.length / 256)) (UInt8.ofNat l.length) (k.toNat:Int) ((l.length:Int) / 256 % 256) ((l.length:Int) % 256) rfl (by simp) (by simp)
 have hback2:=three_back w k (UInt8.ofNat (l.length / 256)) (UInt8.ofNat l.length) (k.toNat:Int) ((l.length:Int) / 256) ((l.length:Int) % 256) rfl (by simp;omega) (by simp)
 obtain ⟨S,hS⟩:∃ S,k :: UInt8.ofNat (l.length / 256) :: UInt8.ofNat l.length :: l=S:=⟨_,rfl⟩
 have HS:Hid (Hm.aheadRec k l=S):=show _=_ by rw [<-hS];rfl
 have hSl:S.length=l.length+3:=by rw [<-hS];simp
 have HSl:Hid (S.length=l.length+3):=hSl
 clear hSl
 go_enter Tryz.func153,Tryz.ntmps153
 go_wp2
 generalize hW:w.alloc _=W
 have HB:Hid (Below w.heap.size w W):=show Below _ _ _ by rw [<-hW];exact (Below.refl _ _).alloc (Nat.le_refl _) _
 clear hW hback hback2 hS
 go_loopw [6,7,8] (fun av bv ix wr=>∃ k a b:Nat,k<=S.length/\ix=.int .i64 k/\av=.int .i64 a/\bv=.int .i64 b/\a < 251/\b < 251/\Hm.sums 1 0 S=Hm.sums a b (S.drop k)/\wr=W) (fun _ _ ix _=>S.length - (intOf ix).toNat)
 case atStart=>exact ⟨0,1,0,by omega,rfl,rfl,rfl,by omega,by omega,rfl,rfl⟩
 case round=>
  obtain ⟨j,a,b,hk,rfl,rfl,rfl,ha,hb,hv,hw1⟩:=hrel
  have hw1:=hw1.symm
  subst hw1
  have HV:Hid (Hm.sums 1 0 S=Hm.sums a b (S.drop j)):=hv
  clear hv
  have hSm:S.length<=70000:=by have:=HSl.out;omega
  by_cases hlt:j < S.length
  ·have hki:(j:Int) < (S.length:Int):=by omega
   rw [List.drop_eq_getElem_cons hlt,Hm.sums] at HV
   have hc:S[j].toNat < 256:=UInt8.toNat_lt _
   go_wp2
   go_roundw
   case rel=>exact ⟨j+1,(a+S[j].toNat) % 251,(b+(a+S[j].toNat) % 251) % 251,by omega,int_eq (by simp),int_eq (by simp),int_eq (by simp),Nat.mod_lt _ (by decide),Nat.mod_lt _ (by decide),HV.out,by first | rfl | trivial⟩
   case measure=>simp [intOf];omega
  ·have hki:¬ (j:Int) < (S.length:Int):=by omega
   rw [List.drop_of_length_le (by omega),Hm.sums] at HV
   have hback:=two_backl W (UInt8.ofNat a) (UInt8.ofNat b) ((a:Int) % 256) ((b:Int) % 256) (by simp) (by simp)
   have hback2:=two_backl W (UInt8.ofNat a) (UInt8.ofNat b) (a:Int) (b:Int) (by simp;omega) (by simp;omega)
   have hlim:¬ 9223372036854775807 < S.length+2:=by omega
   go_wp2
   go_ret
   refine ⟨?_,HB.out.alloc HB.out.size _⟩
   unfold Hm.writeRec Hm.check
   rw [HS.out,HV.out]
   rfl
end Go.Proofs.YtdlhbmncbmconaaGreatDoor
namespace Go.Hm
theorem again_of {l:List UInt8} {y z:Int} (hz:isYear z=true) (h:line (read l y).1=(l,0)):(read l z).2.1=0/\line (read l z).1=(l,0):=by
 have h2:(line (read l y).1).2=0:=by rw [h]
 have h1:(line (read l y).1).1=l:=by rw [h]
 have hr:=read_line h2 hz
 rw [h1] at hr
 rw [hr]
 exact ⟨rfl,h⟩
theorem again_yes {l:List UInt8} (h:again l=true):(read l 2000).2.1=0/\line (read l 2000).1=(l,0):=by
 unfold again at h
 rw [Bool.and_eq_true_iff] at h
 exact again_of (by decide) (of_decide_eq_true h.2)
theorem again_no {l:List UInt8} (h:again l=false):¬ ((read l 2000).2.1=0/\line (read l 2000).1=(l,0)):=fun hc=>by
 obtain ⟨h1,h2⟩:=again_of (z:=1) (by decide) hc.2
 unfold again at h
 rw [decide_eq_true h1,decide_eq_true h2] at h
 cases h
theorem again_long {l:List UInt8} (h:200 < l.length):again l=false:=by
 unfold again read
 rw [if_pos h]
 rfl
theorem twoB_numB (a b:UInt8):twoB (numB [a,b])=[a,b]:=by
 have ha:a.toNat < 256:=UInt8.toNat_lt _
 have hb:b.toNat < 256:=UInt8.toNat_lt _
 have h:numB [a,b]=256 * a.toNat+b.toNat:=rfl
 rw [h]
 unfold twoB
 congr 1
 ·rw [show (256 * a.toNat+b.toNat) / 256=a.toNat by omega]
  simp
 ·congr 1
  apply UInt8.toNat_inj.1
  simp
end Go.Hm
namespace Go.Proofs.YtdlhbmncbmconaaGreatDoor
open Go.RowKit Go.Sort
def rlgV (g:Hm.Lg) (lv:Value):Array Value:=#[.int .i64 g.room,.string ⟨g.records.toArray⟩,lv,.int .i64 g.had]
structure RLogAt (w:World) (q:Nat) (g:Hm.Lg) (ls:List (List UInt8)) (lv:Value):Prop where
 row:w.heap[q]?=some (.cells (rlgV g lv) 190 (0,0))
 own:w.ownsRow 0 9 1 lv ls.length (ls.map strV)
 wai:ls.drop g.had=g.waiting
 len:ls.length=g.messages
structure StepR (q:Nat) (lv:Value) (w:World) (lv':Value) (w':World):Prop where
 kept:Hw.Kept (fun k=>k=q∨lv.ownBlock=some k) w w'
 lies:∀ k,lv'.ownBlock=some k->lv.ownBlock=some k∨w.heap.size<=k
theorem StepR.refl {q:Nat} {lv:Value} {w:World}:StepR q lv w lv w:=⟨Hw.Kept.refl _ _,fun _ e=>.inl e⟩
theorem StepR.next {q:Nat} {lv lv':Value} {a b c:World} (h:StepR q lv a lv' b) (k:Below b.heap.size b c):StepR q lv a lv' c:=⟨h.kept.next k,h.lies⟩
theorem StepR.trans {q:Nat} {v v' v'':Value} {a b c:World} (h:StepR q v a v' b) (k:StepR q v' b v'' c):StepR q v a v'' c where
 kept:=h.kept.trans k.kept (fun i hi e=>by
  rcases e with e | e
  ·exact .inl e
  ·rcases h.lies i e with e | e
   ·exact .inr e
   ·omega)
 lies i e:=by
  rcases k.lies i e with e | e
  ·exact h.lies i e
  ·exact .inr (Nat.le_trans h.kept.size e)
theorem StepR.of_put {q:Nat} {v:Value} {t:TypeId} {cs:Array Value} {a b:World} (P:Hw.Put a q t cs b):StepR q v a v b:=⟨P.kept.mono (fun _ _ e=>.inl e),fun _ e=>.inl e⟩
theorem RLogAt.ne {w:World} {q:Nat} {g:Hm.Lg} {ls:List (List UInt8)} {lv:Value} (h:RLogAt w q g ls lv):lv.ownBlock ≠ some q:=fun e=>by
 obtain ⟨cur,hc⟩:=Hw.ownsRow_cells h.own e
 exact ne_types hc h.row (by decide) rfl
theorem RLogAt.next {w w':World} {q:Nat} {g:Hm.Lg} {ls:List (List UInt8)} {lv:Value} (h:RLogAt w q g ls lv) (hb:Below w.heap.size w w'):RLogAt w' q g ls lv:=
 ⟨(hb.block _ (Array.getElem?_eq_some_iff.1 h.row).1).trans h.row,Hw.ownsRow_keptS (S:=fun _=>False) h.own (Hw.Kept.of_below hb) (fun _ _ f=>f),h.wai,h.len⟩
theorem RLogAt.cells {w:World} {q:Nat} {g:Hm.Lg} {ls:List (List UInt8)} {lv:Value} (h:RLogAt w q g ls lv) :
  w.cell? ⟨q,0,none⟩=some (.int .i64 g.room)/\w.cell? ⟨q,1,none⟩=some (.string ⟨g.records.toArray⟩)/\w.cell? ⟨q,2,none⟩=some lv/\w.cell? ⟨q,3,none⟩=some (.int .i64 g.had):=by
 have hr:=h.row
 unfold rlgV at hr
 refine ⟨?_,?_,?_,?_⟩<;>simp [World.cell?,hr]
theorem RLogAt.line {w w5 w6:World} {q:Nat} {g:Hm.Lg} {ls:List (List UInt8)} {lv lv':Value} {x:List UInt8} {o:Obj} (h:RLogAt w q g ls lv) (hown:w5.ownsRow 0 9 1 lv' (ls.length+1) (ls.map strV ++ [strV x])) (hg:(w.alloc o).grownBy w5 lv.ownBlock) (hat:lv'.ownBlock=lv.ownBlock∨lv'.ownBlock=some (w.alloc o).heap.size)
  (P:Hw.Put w5 q 190 (rlgV g lv') w6):RLogAt w6 q ⟨g.room,g.records,g.had,g.waiting ++ [x]⟩ (ls ++ [x]) lv'/\StepR q lv w lv' w6:=by
 have hq:q < w.heap.size:=(Array.getElem?_eq_some_iff.1 h.row).1
 have hne:lv'.ownBlock ≠ some q:=by
  rcases hat with e | e
  ·rw [e];exact h.ne
  ·rw [e];simp;omega
 refine ⟨⟨P.row,?_,?_,?_⟩,?_,?_⟩
 ·have:=Hw.ownsRow_keptS hown P.kept (fun k e s=>hne (by rw [e,s]))
  simpa using this
 ·show (ls ++ [x]).drop g.had=g.waiting ++ [x]
  have hl:g.had<=ls.length:=by rw [h.len];exact Nat.le_add_right _ _
  rw [List.drop_append_of_le_length hl,h.wai]
 ·have:=h.len
  simp [Hm.Lg.messages] at this ⊢
  omega
 ·have k1:Hw.Kept (fun k=>k=q∨lv.ownBlock=some k) w (w.alloc o):=(Hw.Kept.refl _ _).alloc o
  exact (k1.trans (Hw.Kept.of_grown hg) (fun i _ e=>.inr e.symm)).trans P.kept (fun i _ e=>.inl e)
 ·intro k e
  rcases hat with h | h
  ·exact .inl (by rw [<-h];exact e)
  ·rw [h] at e;cases e;simp
theorem RLogAt.row5 {w w5:World} {q:Nat} {g:Hm.Lg} {ls:List (List UInt8)} {lv:Value} {o:Obj} (h:RLogAt w q g ls lv) (hg:(w.alloc o).grownBy w5 lv.ownBlock):w5.heap[q]?=some (.cells (rlgV g lv) 190 (0,0)):=by
 have hq:q < w.heap.size:=(Array.getElem?_eq_some_iff.1 h.row).1
 exact (hg.block q (by simp;omega) (fun e=>h.ne e.symm)).trans ((heap_alloc_old w o hq).trans h.row)
theorem RLogAt.had {w w6:World} {q:Nat} {g:Hm.Lg} {ls:List (List UInt8)} {lv:Value} {n:Nat} (h:RLogAt w q g ls lv) (h1:g.had<=n) (h2:n<=g.messages) (P:Hw.Put w q 190 (rlgV ⟨g.room,g.records,n,g.waiting.drop (n - g.had)⟩ lv) w6):RLogAt w6 q ⟨g.room,g.records,n,g.waiting.drop (n - g.had)⟩ ls lv:=by
 refine ⟨P.row,Hw.ownsRow_keptS h.own P.kept (fun k e s=>h.ne (by rw [e,s])),?_,?_⟩
 ·show ls.drop n=g.waiting.drop (n - g.had)
  rw [<-h.wai,List.drop_drop]
  congr 1
  omega
 ·have:=h.len
  simp only [Hm.Lg.messages,List.length_drop] at this h2 ⊢
  omega
theorem RLogAt.text {w w6:World} {q:Nat} {g:Hm.Lg} {ls:List (List UInt8)} {lv:Value} {r:List UInt8} (h:RLogAt w q g ls lv) (P:Hw.Put w q 190 (rlgV ⟨g.room,r,g.had,g.waiting⟩ lv) w6):RLogAt w6 q ⟨g.room,r,g.had,g.waiting⟩ ls lv:=
 ⟨P.row,Hw.ownsRow_keptS h.own P.kept (fun k e s=>h.ne (by rw [e,s])),h.wai,h.len⟩
end Go.Proofs.YtdlhbmncbmconaaGreatDoor

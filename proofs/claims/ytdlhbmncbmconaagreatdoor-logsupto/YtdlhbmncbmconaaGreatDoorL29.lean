/- Pressed by program out of Cs. -/
import Derived.Test.YtdlhbmncbmconaaGreatDoorL28
namespace Go.Hm
def lineK (D time:List UInt8) (ws:List (List UInt8)) (k:Nat):List UInt8:=[60] ++ D ++ [62,49,32] ++ told time ++ ((ws.take k).map fun x=>32 :: told x).flatten
theorem lineK_next {D time:List UInt8} {ws:List (List UInt8)} {k:Nat} {x:List UInt8} (h:ws[k]?=some x):lineK D time ws (k+1)=lineK D time ws k ++ [32] ++ told x:=by
 unfold lineK
 rw [List.take_add_one,h]
 simp
theorem line_join (m:Msg):lineK (Lib.decDigits (8 * m.fac+m.sev).toNat) m.time [m.host,m.app,m.proc,m.id] 4 ++ [32] ++ told m.data ++ (if m.text=[] then [] else [32] ++ m.text)=Lib.join (partsOf m) [32]:=by
 unfold partsOf lineK
 have one:∀ a:List UInt8,Lib.join [a] [32]=a:=fun a=>by simp [Lib.join,List.intercalate,List.intersperse]
 by_cases h:m.text=[]
 ·rw [if_pos h,if_pos h]
  simp only [List.map_cons,List.map_nil,List.append_nil]
  simp only [List.cons_append,List.nil_append,join_cons2,one]
  simp
 ·rw [if_neg h,if_neg h]
  simp only [List.map_cons,List.map_nil]
  simp only [List.cons_append,List.nil_append,join_cons2,one]
  simp
theorem line_fault {m:Msg} {e:Nat} (h:fault m=e) (h0:¬ e=0):line m=([],e):=by
 subst h
 unfold line
 rw [if_pos h0]
theorem fault_src {m:Msg} (h:isSource m.fac m.sev=false):fault m=2:=by unfold fault;rw [if_pos h]
theorem fault_time {m:Msg} (h:¬ isSource m.fac m.sev=false) (ht:¬ m.time=[]/\isTime m.time=false):fault m=3:=by unfold fault;rw [if_neg h,if_pos ht]
theorem fault_word {m:Msg} (h:¬ isSource m.fac m.sev=false) (ht:¬ (¬ m.time=[]/\isTime m.time=false)) {e:Nat} (hw:wordsFault kinds [m.host,m.app,m.proc,m.id]=some e):fault m=e:=by unfold fault;rw [if_neg h,if_neg ht,hw]
theorem fault_rest {m:Msg} (h:¬ isSource m.fac m.sev=false) (ht:¬ (¬ m.time=[]/\isTime m.time=false)) (hw:wordsFault kinds [m.host,m.app,m.proc,m.id]=none):fault m=if ¬ m.data=[]/\isData m.data=false then 8 else if plain m.text=false then 9 else 0:=by unfold fault;rw [if_neg h,if_neg ht,hw]
theorem rdata_ne (d:List UInt8):¬ rdata d=d.length ↔ (¬ d=[]/\isData d=false):=by
 rw [rdata_all]
 constructor
 ·intro h
  exact ⟨fun e=>h (.inl e),by cases hd:isData d with | false=>rfl | true=>exact absurd (.inr hd) h⟩
 ·rintro ⟨h1,h2⟩ (h | h)
  ·exact h1 h
  ·rw [h2] at h;cases h
theorem line_rest {m:Msg} (h:fault m=0):line m=if 200 < (Lib.join (partsOf m) [32]).length then ([],1) else (Lib.join (partsOf m) [32],0):=by
 unfold line
 rw [if_neg (by simp [h])]
 have:=join_length (60 :: Lib.decDigits (8 * m.fac+m.sev).toNat ++ [62,49]) ([m.time,m.host,m.app,m.proc,m.id,m.data].map told ++ if m.text=[] then [] else [m.text])
 have e:partsOf m=(60 :: Lib.decDigits (8 * m.fac+m.sev).toNat ++ [62,49]) :: ([m.time,m.host,m.app,m.proc,m.id,m.data].map told ++ if m.text=[] then [] else [m.text]):=rfl
 rw [<-e] at this
 rw [<-this]
 by_cases h2:200 < (Lib.join (partsOf m) [32]).length
 ·rw [if_pos h2,if_pos (by omega)]
 ·rw [if_neg h2,if_neg (by omega)]
theorem line_cases {m:Msg} (h:¬ isSource m.fac m.sev=false) (ht:¬ (¬ m.time=[]/\isTime m.time=false)) :
  (∀ e,¬ e=0->wordsFault kinds [m.host,m.app,m.proc,m.id]=some e->line m=([],e)) /\
  (wordsFault kinds [m.host,m.app,m.proc,m.id]=none->¬ rdata m.data=m.data.length->line m=([],8)) /\
  (wordsFault kinds [m.host,m.app,m.proc,m.id]=none->rdata m.data=m.data.length->plain m.text=false->line m=([],9)) /\
  (wordsFault kinds [m.host,m.app,m.proc,m.id]=none->rdata m.data=m.data.length->plain m.text=true ->
   line m=if 200 < (lineK (Lib.decDigits (8 * m.fac+m.sev).toNat) m.time [m.host,m.app,m.proc,m.id] 4 ++ [32] ++ told m.data ++ (if m.text=[] then [] else [32] ++ m.text)).length then ([],1)
    else (lineK (Lib.decDigits (8 * m.fac+m.sev).toNat) m.time [m.host,m.app,m.proc,m.id] 4 ++ [32] ++ told m.data ++ (if m.text=[] then [] else [32] ++ m.text),0)):=by
 refine ⟨fun e h0 hw=>line_fault (fault_word h ht hw) h0,fun hw hd=>?_,fun hw hd hp=>?_,fun hw hd hp=>?_⟩
 ·exact line_fault ((fault_rest h ht hw).trans (if_pos ((rdata_ne _).1 hd))) (by decide)
 ·exact line_fault ((fault_rest h ht hw).trans ((if_neg (fun q=>(rdata_ne _).2 q hd)).trans (if_pos hp))) (by decide)
 ·rw [line_join]
  exact line_rest ((fault_rest h ht hw).trans ((if_neg (fun q=>(rdata_ne _).2 q hd)).trans (if_neg (by rw [hp];decide))))
theorem told_le (x:List UInt8):(told x).length<=x.length+1:=by
 unfold told
 split<;>simp
theorem dd_small {n:Nat} (h:n < 1000):(Lib.decDigits n).length<=3:=by
 by_cases h1:n < 10
 ·rw [dd1 h1];simp
 ·rw [dd2 h1,List.length_append]
  have:=dd_len2 (n:=n / 10) (by omega)
  simp;omega
end Go.Hm
namespace Go.Proofs.YtdlhbmncbmconaaGreatDoor
open Go.RowKit Go.Sort
attribute [local go_sem] app_mk rcut rbyte
set_option maxRecDepth 20000 in
set_option maxHeartbeats 4000000 in
theorem rline_src (m:Hm.Msg) (w:World) (h:Hm.isSource m.fac m.sev=false) :
  Calls Tryz.prog 113 #[.agg (msgCells m)] w fun e w'=>e=.returned (.tuple #[.string ⟨#[]⟩,.int .i64 2])/\Below w.heap.size w w':=by
 obtain ⟨f,s,t,h1,h2,h3,h4,d,x⟩:=m
 unfold msgCells
 dsimp only at h ⊢
 rcases (by
  unfold Hm.isSource at h
  simp at h
  omega:f < 0∨(0<=f/\23 < f)∨(0<=f/\f<=23/\s < 0)∨(0<=f/\f<=23/\0<=s/\7 < s)) with k | ⟨k0,k⟩ | ⟨k0,k1,k⟩ | ⟨k0,k1,k2,k⟩
 ·clear h
  go_enter Tryz.func113,Tryz.ntmps113
  go_wp2
  go_ret2
  exact ⟨rfl,(Below.refl _ _).alloc (Nat.le_refl _) _⟩
 ·have k0':¬ f < 0:=by omega
  clear h k0
  go_enter Tryz.func113,Tryz.ntmps113
  go_wp2
  go_ret2
  exact ⟨rfl,(Below.refl _ _).alloc (Nat.le_refl _) _⟩
 ·have k0':¬ f < 0:=by omega
  have k1':¬ 23 < f:=by omega
  clear h k0 k1
  go_enter Tryz.func113,Tryz.ntmps113
  go_wp2
  go_ret2
  exact ⟨rfl,(Below.refl _ _).alloc (Nat.le_refl _) _⟩
 ·have k0':¬ f < 0:=by omega
  have k1':¬ 23 < f:=by omega
  have k2':¬ s < 0:=by omega
  clear h k0 k1 k2
  go_enter Tryz.func113,Tryz.ntmps113
  go_wp2
  go_ret2
  exact ⟨rfl,(Below.refl _ _).alloc (Nat.le_refl _) _⟩
theorem plain_cells {w:World} {g:Nat} {a0 a1 a2 a7 a8:Value} {b0 b1 b2 b3:List UInt8} {t:TypeId} {fr:Nat × Nat} (h:w.heap[g]?=some (.cells #[a0,a1,a2,.string ⟨b0.toArray⟩,.string ⟨b1.toArray⟩,.string ⟨b2.toArray⟩,.string ⟨b3.toArray⟩,a7,a8] t fr)) (k:Nat) (x:List UInt8) (hk:[b0,b1,b2,b3][k]?=some x) :
  w.cell? ⟨g,3+k,none⟩=some (.string ⟨x.toArray⟩):=by
 have hk4:k < 4:=(List.getElem?_eq_some_iff.1 hk).1
 rcases (by omega:k=0∨k=1∨k=2∨k=3) with e | e | e | e<;>subst e<;>cases hk<;>exact cell_of_row _ _ _ _ _ _ h
set_option maxRecDepth 20000 in
set_option maxHeartbeats 4000000 in
theorem rline_time (m:Hm.Msg) (w:World) (lt:m.time.length<=4000000000) (h:¬ Hm.isSource m.fac m.sev=false) (ht:¬ m.time=[]/\Hm.isTime m.time=false) :
  Calls Tryz.prog 113 #[.agg (msgCells m)] w fun e w'=>e=.returned (.tuple #[.string ⟨#[]⟩,.int .i64 3])/\Below w.heap.size w w':=by
 obtain ⟨f,s,t,h1,h2,h3,h4,d,x⟩:=m
 unfold msgCells
 dsimp only at h ht lt ⊢
 have hsrc:¬ f < 0/\¬ 23 < f/\¬ s < 0/\¬ 7 < s:=by
  unfold Hm.isSource at h
  simp at h
  omega
 obtain ⟨k0,k1,k2,k3⟩:=hsrc
 clear h
 have TI:Hid (∀ w,Calls Tryz.prog 159 #[.string ⟨t.toArray⟩] w fun e w'=>e=.returned (strOpt (Hm.readTime t))/\w'=w):=fun w=>by
  have:=rTime_any t (by omega) w
  rwa [Hm.rtime_eq] at this
 obtain ⟨ht1,ht2⟩:=ht
 have htb:(t == [])=false:=beq_eq_false_iff_ne.2 ht1
 unfold Hm.isTime at ht2
 clear ht1
 cases hr:Hm.readTime t with
 | none=>
  rw [hr] at TI
  unfold strOpt at TI
  clear hr ht2
  go_enter Tryz.func113,Tryz.ntmps113
  go_wp2_with fail
  refine (TI.out _).mono ?_
  rintro e w1 ⟨rfl,hw1⟩
  have hw1:=hw1.symm
  subst hw1
  go_wp2
  go_ret2
  exact ⟨rfl,(Below.refl _ _).alloc (Nat.le_refl _) _⟩
 | some t2=>
  rw [hr] at TI ht2
  have hne:(t2 == t)=false:=by simpa using ht2
  unfold strOpt at TI
  clear hr ht2
  go_enter Tryz.func113,Tryz.ntmps113
  go_wp2_with fail
  refine (TI.out _).mono ?_
  rintro e w1 ⟨rfl,hw1⟩
  have hw1:=hw1.symm
  subst hw1
  go_wp2
  go_ret2
  exact ⟨rfl,(Below.refl _ _).alloc (Nat.le_refl _) _⟩
set_option maxRecDepth 20000 in
set_option maxHeartbeats 4000000 in
theorem rline_rest (m:Hm.Msg) (w:World) (lt:m.time.length<=4000000000) (lh:m.host.length<=4000000000) (la:m.app.length<=4000000000) (lp:m.proc.length<=4000000000) (li:m.id.length<=4000000000) (ld:m.data.length<=4000000000) (lx:m.text.length<=4000000000)
  (h:¬ Hm.isSource m.fac m.sev=false) (ht:¬ (¬ m.time=[]/\Hm.isTime m.time=false)) :
  Calls Tryz.prog 113 #[.agg (msgCells m)] w fun e w'=>e=.returned (.tuple #[.string ⟨(Hm.line m).1.toArray⟩,.int .i64 (Hm.line m).2])/\Below w.heap.size w w':=by
 have hlc:=Hm.line_cases h ht
 obtain ⟨V,hV⟩:∃ V,Hm.line m=V:=⟨_,rfl⟩
 rw [hV] at hlc ⊢
 clear hV
 obtain ⟨f,s,t,h1,h2,h3,h4,d,x⟩:=m
 unfold msgCells
 dsimp only at h ht lt lh la lp li ld lx hlc ⊢
 have hsrc:¬ f < 0/\¬ 23 < f/\¬ s < 0/\¬ 7 < s:=by
  unfold Hm.isSource at h
  simp at h
  omega
 obtain ⟨k0,k1,k2,k3⟩:=hsrc
 clear h
 have TI:Hid (∀ w,Calls Tryz.prog 159 #[.string ⟨t.toArray⟩] w fun e w'=>e=.returned (strOpt (Hm.readTime t))/\w'=w):=fun w=>by
  have:=rTime_any t (by omega) w
  rwa [Hm.rtime_eq] at this
 have DE:Hid (∀ w,Calls Tryz.prog 160 #[.int .i64 (8 * f+s)] w fun e w'=>e=.returned (.string ⟨(Lib.decDigits (8 * f+s).toNat).toArray⟩)/\w'=w):=fun w=>by
  have:=rdecimal_any (8 * f+s).toNat (by omega) w
  rwa [show (((8 * f+s).toNat:Nat):Int)=8 * f+s by omega] at this
 have hD:=Hm.dd_small (n:=(8 * f+s).toNat) (by omega)
 generalize Lib.decDigits (8 * f+s).toNat=D at hlc DE hD
 obtain ⟨T,ok,htv,hjoin⟩:∃ T ok,strOpt (Hm.readTime t)=.tuple #[.string ⟨T.toArray⟩,.bool ok]/\(t=[]∨(ok=true/\T=t)):=by
  cases hr:Hm.readTime t with
  | none=>
   refine ⟨[],false,rfl,.inl (Classical.byContradiction fun h0=>ht ⟨h0,by unfold Hm.isTime;rw [hr];rfl⟩)⟩
  | some t2=>
   refine ⟨t2,true,rfl,?_⟩
   by_cases h0:t=[]
   ·exact .inl h0
   ·refine .inr ⟨rfl,?_⟩
    have:Hm.isTime t=true:=by
     cases hq:Hm.isTime t with
     | true=>rfl
     | false=>exact absurd ⟨h0,hq⟩ ht
    unfold Hm.isTime at this
    rw [hr] at this
    simpa using this
 rw [htv] at TI
 clear htv ht
 obtain ⟨ws,hws⟩:∃ ws,[h1,h2,h3,h4]=ws:=⟨_,rfl⟩
 have hwl:ws.length=4:=by rw [<-hws];rfl
 have hwle:∀ x ∈ ws,x.length<=4000000000:=by rw [<-hws];intro y hy;simp at hy;rcases hy with rfl | rfl | rfl | rfl<;>assumption
 rw [hws] at hlc
 have HWSE:=show Hid _ from hws
 clear hws
 -- TAIL
 have ON:Hid (∀ (y:List UInt8) w,Calls Tryz.prog 161 #[.string ⟨y.toArray⟩] w fun e w'=>e=.returned (.string ⟨(Hm.told y).toArray⟩)/\w'=w):=rorNone_any
 have htl:=Hm.told_le t
 have HLK:Hid (∀ k x,ws[k]?=some x->Hm.lineK D t ws (k+1)=Hm.lineK D t ws k ++ [32] ++ Hm.told x):=fun k x h=>Hm.lineK_next h
 have HL0:Hid (Hm.lineK D t ws 0=[60] ++ D ++ [62,49,32] ++ Hm.told t):=by show _=_;simp [Hm.lineK]
 have HWS:Hid (∀ k,k < 4->Hm.wordsFault (Hm.kinds.drop k) (ws.drop k)=if ¬ ws.getD k []=[]/\Hm.word (ws.getD k []) (Hm.kinds.getD k (0,0)).1=false then some (Hm.kinds.getD k (0,0)).2 else Hm.wordsFault (Hm.kinds.drop (k+1)) (ws.drop (k+1))):=fun k hk=>Hm.wordsFault_step hk hwl
 have HWE:Hid (Hm.wordsFault (Hm.kinds.drop 4) (ws.drop 4)=none):=by
  show _=_
  rw [show Hm.kinds.drop 4=[] from rfl]
  simp [Hm.wordsFault]
 obtain ⟨hl1,hl2,hl3,hl4⟩:=hlc
 have HW0:Hid (∀ e,¬ e=0->Hm.wordsFault Hm.kinds ws=some e->V=([],e)):=hl1
 have HF8:Hid (Hm.wordsFault Hm.kinds ws=none->¬ Hm.rdata d=d.length->V=([],8)):=hl2
 have HF9:Hid (Hm.wordsFault Hm.kinds ws=none->Hm.rdata d=d.length->Hm.plain x=false->V=([],9)):=hl3
 have HFL:Hid (Hm.wordsFault Hm.kinds ws=none->Hm.rdata d=d.length->Hm.plain x=true->V=if 200 < (Hm.lineK D t ws 4 ++ [32] ++ Hm.told d ++ (if x=[] then [] else [32] ++ x)).length then ([],1) else (Hm.lineK D t ws 4 ++ [32] ++ Hm.told d ++ (if x=[] then [] else [32] ++ x),0)):=hl4
 have HWLE:=show Hid _ from hwle
 clear hl1 hl2 hl3 hl4 hwle
 go_enter Tryz.func113,Tryz.ntmps113
 go_wp2_with fail
 refine (TI.out _).mono ?_
 rintro e w1 ⟨rfl,hw1⟩
 have hw1:=hw1.symm
 subst hw1
 obtain ⟨W,hW⟩:∃ W,w.alloc (.cells #[.int .i64 f,.int .i64 s,.string ⟨t.toArray⟩,.string ⟨h1.toArray⟩,.string ⟨h2.toArray⟩,.string ⟨h3.toArray⟩,.string ⟨h4.toArray⟩,.string ⟨d.toArray⟩,.string ⟨x.toArray⟩] 80)=W:=⟨_,rfl⟩
 have HB1:Hid (Below w.heap.size w W):=hW ▸ (Below.refl _ _).alloc (Nat.le_refl _) _
 have hr1:W.heap[w.heap.size]?=some (.cells #[.int .i64 f,.int .i64 s,.string ⟨t.toArray⟩,.string ⟨h1.toArray⟩,.string ⟨h2.toArray⟩,.string ⟨h3.toArray⟩,.string ⟨h4.toArray⟩,.string ⟨d.toArray⟩,.string ⟨x.toArray⟩] 80 (0,0)):=hW ▸ heap_alloc_new _ _
 have HPC:Hid (∀ k x,ws[k]?=some x->W.cell? ⟨w.heap.size,3+k,none⟩=some (.string ⟨x.toArray⟩)):=fun k x h=>plain_cells hr1 k x (by rw [HWSE.out];exact h)
 have HR1:=show Hid _ from hr1
 have c0:W.cell? ⟨w.heap.size,0,none⟩=some (.int .i64 f):=cell_of_row _ _ _ _ _ _ hr1
 have c1:W.cell? ⟨w.heap.size,1,none⟩=some (.int .i64 s):=cell_of_row _ _ _ _ _ _ hr1
 have c2:W.cell? ⟨w.heap.size,2,none⟩=some (.string ⟨t.toArray⟩):=cell_of_row _ _ _ _ _ _ hr1
 rw [hW]
 clear hW hr1
 go_upto_region 4 with fail
 go_cut [47] (fun s47 wc=>s47=.bool false/\wc=W)
 case first=>
  rcases hjoin with h0 | ⟨rfl,rfl⟩
  ·have hb:(t == [])=true:=by rw [h0];rfl
   clear h0
   go_wp2
   go_meet
   case rel=>exact ⟨rfl,rfl⟩
  ·obtain ⟨bt,hbt⟩:∃ b,(T == [])=b:=⟨_,rfl⟩
   cases bt with
   | true=>
    go_wp2
    go_meet
    case rel=>exact ⟨rfl,rfl⟩
   | false=>
    go_wp2
    go_meet
    case rel=>exact ⟨rfl,rfl⟩
 case rest=>
  obtain ⟨rfl,hwc⟩:=hcut
  have hwc:=hwc.symm
  subst hwc
  clear hjoin TI
  have ONt:=show Hid _ from ON.out t
  generalize Hm.told t=tt at ONt htl HL0
  have r1:¬ 9223372036854775807 < 1+D.length:=by omega
  have r2:¬ 9223372036854775807 < 1+D.length+3:=by omega
  have r3:¬ 9223372036854775807 < 1+D.length+3+tt.length:=by omega
  go_wp2_with fail
  go_quiet (first | (go_at_call 160;exact Calls.quiet_of_same (DE.out _)) | (go_at_call 161;exact Calls.quiet_of_same (ONt.out _)))
  go_wp2
  go_loopw [6,7,8] (fun s6 s7 _ wr=>∃ (k:Nat) (L:List UInt8),k<=4/\s7=.int .i64 k/\s6=.string ⟨L.toArray⟩/\L=Hm.lineK D t ws k/\L.length<=4000000010 * (k+1)/\Hm.wordsFault Hm.kinds ws=Hm.wordsFault (Hm.kinds.drop k) (ws.drop k)/\wr.heap[w.heap.size]?=some (.cells #[.int .i64 f,.int .i64 s,.string ⟨t.toArray⟩,.string ⟨h1.toArray⟩,.string ⟨h2.toArray⟩,.string ⟨h3.toArray⟩,.string ⟨h4.toArray⟩,.string ⟨d.toArray⟩,.string ⟨x.toArray⟩] 80 (0,0))/\Below w.heap.size w wr) (fun _ s7 _ _=>4 - (intOf s7).toNat)
  case atStart=>exact ⟨0,_,by omega,rfl,rfl,by rw [HL0.out];simp,by simp;omega,rfl,((drew_below ⟨nq,rfl⟩).block _ (Array.getElem?_eq_some_iff.1 HR1.out).1).trans HR1.out,Below.next HB1.out (Nat.le_refl _) (drew_below ⟨nq,rfl⟩)⟩
  case round=>
   clear r1 r2 r3 HL0 ONt DE hD htl c0 c1 c2
   obtain ⟨k,L,hk4,rfl,rfl,hL,hLl,hwf,hrw,hbw⟩:=hrel
   have HRW:=show Hid _ from hrw
   have HB:=show Hid _ from hbw
   have HPK:=show Hid _ from fun k x (h:ws[k]?=some x)=>plain_cells hrw k x (by rw [HWSE.out];exact h)
   clear hrw hbw HR1 HB1
   have HL:=show Hid _ from hL
   have HWF:=show Hid _ from hwf
   clear hL hwf
   by_cases hk:k < 4
   case neg=>
    have h4:k=4:=by omega
    have HN:Hid (Hm.wordsFault Hm.kinds ws=none):=by
     show _=_
     rw [HWF.out,h4]
     exact HWE.out
    have HL4:Hid (L=Hm.lineK D t ws 4):=by
     show _=_
     rw [HL.out,h4]
    have hki:¬ (k:Int) < 4:=by omega
    have F8:=show Hid _ from HF8.out HN.out
    have F9:=show Hid _ from HF9.out HN.out
    have FL:=show Hid _ from HFL.out HN.out
    rw [<-HL4.out] at FL
    clear h4 hk HL HWF HWE HWS HW0 HF8 HF9 HFL HN HL4 HLK HPK
    have DA:Hid (∀ w,Calls Tryz.prog 164 #[.string ⟨d.toArray⟩] w fun e w'=>e=.returned (.int .i64 (Hm.rdata d))/\Below w.heap.size w w'):=fun w=>rData_any d ld w
    have CL:Hid (∀ w,Calls Tryz.prog 157 #[.string ⟨x.toArray⟩] w fun e w'=>e=.returned (.bool (Hm.plain x))/\w'=w):=fun w=>rClean_any x (by omega) w
    have ONd:=show Hid _ from ON.out d
    have htd:=Hm.told_le d
    generalize Hm.told d=td at ONd htd FL
    generalize Hm.rdata d=rd at DA F8 F9 FL
    generalize Hm.plain x=pl at CL F9 FL
    have c7:wr.cell? ⟨w.heap.size,7,none⟩=some (.string ⟨d.toArray⟩):=cell_of_row _ _ _ _ _ _ HRW.out
    go_wp2_with fail
    refine (DA.out _).mono ?_
    rintro e w5 ⟨rfl,hb5⟩
    have hr5:w5.heap[w.heap.size]?=some (.cells #[.int .i64 f,.int .i64 s,.string ⟨t.toArray⟩,.string ⟨h1.toArray⟩,.string ⟨h2.toArray⟩,.string ⟨h3.toArray⟩,.string ⟨h4.toArray⟩,.string ⟨d.toArray⟩,.string ⟨x.toArray⟩] 80 (0,0)):=(hb5.block _ (Array.getElem?_eq_some_iff.1 HRW.out).1).trans HRW.out
    have HB5:Hid (Below w.heap.size w w5):=Below.next HB.out (Nat.le_refl _) hb5
    have d7:w5.cell? ⟨w.heap.size,7,none⟩=some (.string ⟨d.toArray⟩):=cell_of_row _ _ _ _ _ _ hr5
    have d8:w5.cell? ⟨w.heap.size,8,none⟩=some (.string ⟨x.toArray⟩):=cell_of_row _ _ _ _ _ _ hr5
    clear hb5 hr5 c7
    by_cases hrd:rd=d.length
    case neg=>
     have HE:Hid (V=([],8)):=F8.out hrd
     have hb:((rd:Int) != (d.length:Int))=true:=by simp;omega
     clear hrd
     go_wp2
     go_ret2
     exact ⟨by rw [HE.out];rfl,HB5.out⟩
    have hb:((rd:Int) != (d.length:Int))=false:=by simp;omega
    have G9:=show Hid _ from F9.out hrd
    have GL:=show Hid _ from FL.out hrd
    clear hrd F8 F9 FL
    go_wp2_with fail
    refine (CL.out _).mono ?_
    rintro e w1 ⟨rfl,hw1⟩
    have hw1:=hw1.symm
    subst hw1
    cases pl with
    | false=>
     have HE:Hid (V=([],9)):=G9.out rfl
     go_wp2
     go_ret2
     exact ⟨by rw [HE.out];rfl,HB5.out⟩
    | true=>
     have HE:=show Hid _ from GL.out rfl
     clear G9 GL
     have r1:¬ 9223372036854775807 < L.length+1:=by omega
     have r2:¬ 9223372036854775807 < L.length+1+td.length:=by omega
     have r2':¬ 9223372036854775807 < L.length+(1+td.length):=by omega
     have r2'':¬ 9223372036854775807 < L.length+(td.length+1):=by omega
     go_wp2_with fail
     refine (ONd.out _).mono ?_
     rintro e w1 ⟨rfl,hw1⟩
     have hw1:=hw1.symm
     subst hw1
     obtain ⟨S,hS⟩:∃ S,L ++ [32] ++ td ++ (if x=[] then [] else [32] ++ x)=S:=⟨_,rfl⟩
     rw [hS] at HE
     have hSl:S.length<=100000000000:=by
      rw [<-hS]
      split<;>simp<;>omega
     obtain ⟨bx,hbx⟩:∃ b,(x == [])=b:=⟨_,rfl⟩
     go_upto_if 112 with fail
     go_cut [6] (fun s6 wc=>s6=.string ⟨S.toArray⟩/\wc=w5)
     case first=>
      cases bx with
      | true=>
       have hx0:x=[]:=beq_iff_eq.1 hbx
       have hS2:L ++ 32 :: td=S:=by rw [<-hS,if_pos hx0];simp
       clear hx0 hS
       go_wp2
       go_meet
       case rel=>exact ⟨by rw [<-hS2],rfl⟩
      | false=>
       have hx0:¬ x=[]:=beq_eq_false_iff_ne.1 hbx
       have HS2:Hid (L ++ 32 :: (td ++ 32 :: x)=S):=by show _=_;rw [<-hS,if_neg hx0];simp
       clear hx0 hS
       have r3:¬ 9223372036854775807 < L.length+(td.length+1)+1:=by omega
       have r4:¬ 9223372036854775807 < L.length+(td.length+1+1):=by omega
       have r5:¬ 9223372036854775807 < L.length+(td.length+1)+1+x.length:=by omega
       have r6:¬ 9223372036854775807 < L.length+(td.length+(x.length+1)+1):=by omega
       have r7:¬ 9223372036854775807 < L.length+(td.length+1+1)+x.length:=by omega
       go_wp2
       go_meet
       case rel=>exact ⟨by rw [<-HS2.out],rfl⟩
     case rest=>
      obtain ⟨rfl,hwc⟩:=hcut
      have hwc:=hwc.symm
      subst hwc
      clear hbx hS r1 r2 r2' r2''
      by_cases hgt:200 < S.length
      ·have hgi:(200:Int) < (S.length:Int):=by omega
       rw [if_pos hgt] at HE
       clear hgt
       go_wp2
       go_ret2
       exact ⟨by rw [HE.out];rfl,HB5.out⟩
      ·have hgi:¬ (200:Int) < (S.length:Int):=by omega
       rw [if_neg hgt] at HE
       clear hgt
       go_wp2
       go_ret2
       exact ⟨by rw [HE.out];rfl,HB5.out⟩
   have hki:(k:Int) < 4:=by omega
   obtain ⟨y,hy⟩:∃ y,ws[k]?=some y:=⟨_,List.getElem?_eq_getElem (by omega)⟩
   have hyg:ws.getD k []=y:=by rw [List.getD_eq_getElem?_getD,hy];rfl
   have hyl:=HWLE.out y (List.mem_of_getElem? hy)
   have hpc:=HPK.out k y hy
   obtain ⟨hk2,hk1,hk0⟩:=kinds_two hk
   have HS:=show Hid _ from HWS.out k hk
   rw [hyg,hk2] at HS
   have HLN:=show Hid _ from HLK.out k y hy
   rw [<-HL.out] at HLN
   have MO:Hid (∀ w,Calls Tryz.prog 163 #[.int .i64 (k:Nat)] w fun e w'=>e=.returned (.int .i64 ((Hm.kinds.getD k (0,0)).1:Nat))/\w'=w):=fun w=>by
    have:=rmost_any k hk w
    rwa [<-hk1] at this
   have IP:Hid (∀ w,Calls Tryz.prog 162 #[.string ⟨y.toArray⟩,.int .i64 ((Hm.kinds.getD k (0,0)).1:Nat)] w fun e w'=>e=.returned (.bool (Hm.word y (Hm.kinds.getD k (0,0)).1))/\w'=w):=fun w=>rIsPlain_any y (by omega) _ hk0 w
   generalize Hm.word y (Hm.kinds.getD k (0,0)).1=wd at HS IP
   generalize (Hm.kinds.getD k (0,0)).1=K at MO IP
   clear hk1 hk2 hk0 hyg hy HWS HLK HPK HWE HF8 HF9 HFL
   have ONy:=show Hid _ from ON.out y
   have hty:=Hm.told_le y
   generalize Hm.told y=ty at ONy hty HLN
   by_cases hbad:¬ y=[]/\wd=false
   ·obtain ⟨hb1,rfl⟩:=hbad
    have HE:Hid (V=([],4+k)):=HW0.out _ (by omega) (HWF.out.trans (HS.out.trans (if_pos ⟨hb1,rfl⟩)))
    have hyb:(y == [])=false:=beq_eq_false_iff_ne.2 hb1
    clear hb1 HS HW0
    go_wp2_with fail
    go_quiet (first | (go_at_call 163;exact Calls.quiet_of_same (MO.out _)) | (go_at_call 162;exact Calls.quiet_of_same (IP.out _)))
    go_wp2
    go_ret2
    exact ⟨by rw [HE.out];exact congrArg (fun z=>Ending.returned (Value.tuple #[.string ⟨#[]⟩,.int .i64 z])) (by show _=((4+k:Nat):Int);omega),Below.next HB.out (Nat.le_refl _) (drew_below ⟨_,rfl⟩)⟩
   have HWN:Hid (Hm.wordsFault Hm.kinds ws=Hm.wordsFault (Hm.kinds.drop (k+1)) (ws.drop (k+1))):=HWF.out.trans (HS.out.trans (if_neg hbad))
   clear HS HW0 HWF
   go_wp2_with fail
   go_quiet (first | (go_at_call 163;exact Calls.quiet_of_same (MO.out _)) | (go_at_call 162;exact Calls.quiet_of_same (IP.out _)))
   go_upto_region 11 with fail
   go_cut [80] (fun s80 wc=>s80=.bool false/\∃ n,wc=wr.drewN n)
   case first=>
    cases wd with
    | true=>
     go_wp2
     go_meet
     case rel=>exact ⟨rfl,_,rfl⟩
    | false=>
     have hy0:y=[]:=Classical.byContradiction fun h=>hbad ⟨h,rfl⟩
     have hyb:(y == [])=true:=by rw [hy0];rfl
     clear hbad hy0
     go_wp2
     go_meet
     case rel=>exact ⟨rfl,_,rfl⟩
   case rest=>
    obtain ⟨rfl,n2,hwc⟩:=hcut
    subst hwc
    clear hbad MO IP
    have r1:¬ 9223372036854775807 < L.length+1:=by omega
    have r2:¬ 9223372036854775807 < L.length+1+ty.length:=by omega
    have r2':¬ 9223372036854775807 < L.length+(1+ty.length):=by omega
    have r2'':¬ 9223372036854775807 < L.length+(ty.length+1):=by omega
    go_wp2_with fail
    refine (ONy.out _).mono ?_
    rintro e w1 ⟨rfl,hw1⟩
    have hw1:=hw1.symm
    subst hw1
    go_wp2
    go_roundw
    case rel=>exact ⟨k+1,_,by omega,int_eq (by simp),rfl,by rw [HLN.out];simp,by simp;omega,HWN.out,((drew_below ⟨n2,rfl⟩).block _ (Array.getElem?_eq_some_iff.1 HRW.out).1).trans HRW.out,Below.next HB.out (Nat.le_refl _) (drew_below ⟨n2,rfl⟩)⟩
    case measure=>simp [intOf];omega
theorem rLine_any (m:Hm.Msg) (w:World) (lt:m.time.length<=4000000000) (lh:m.host.length<=4000000000) (la:m.app.length<=4000000000) (lp:m.proc.length<=4000000000) (li:m.id.length<=4000000000) (ld:m.data.length<=4000000000) (lx:m.text.length<=4000000000) :
  Calls Tryz.prog 113 #[.agg (msgCells m)] w fun e w'=>e=.returned (.tuple #[.string ⟨(Hm.line m).1.toArray⟩,.int .i64 (Hm.line m).2])/\Below w.heap.size w w':=by
 by_cases h:Hm.isSource m.fac m.sev=false
 ·rw [Hm.line_fault (Hm.fault_src h) (by decide)]
  exact rline_src m w h
 by_cases ht:¬ m.time=[]/\Hm.isTime m.time=false
 ·rw [Hm.line_fault (Hm.fault_time h ht) (by decide)]
  exact rline_time m w lt h ht
 exact rline_rest m w lt lh la lp li ld lx h ht
end Go.Proofs.YtdlhbmncbmconaaGreatDoor

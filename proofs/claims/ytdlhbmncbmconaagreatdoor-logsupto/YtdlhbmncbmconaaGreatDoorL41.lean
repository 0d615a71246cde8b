/- Pressed by program out of Ff Fg. -/
import Derived.Test.YtdlhbmncbmconaaGreatDoorL40
namespace Go.Proofs.YtdlhbmncbmconaaGreatDoor
open Go.RowKit Go.Sort
attribute [local go_sem] alloc_drewN setCell_drewN app_mk rcut rbyte rfew_no rfew_no2
theorem rmany_yes {q:Nat} (h:Hid (65534 < q)):((65535:Int)<=(q:Int))=True:=by
 have:=h.out
 simp
 omega
theorem rmany_yes2 {q:Nat} (h:Hid (65534 < q)):(65535<=q)=True:=by
 have:=h.out
 simp
 omega
attribute [local go_sem] rmany_yes rmany_yes2
set_option maxRecDepth 20000 in
set_option maxHeartbeats 4000000 in
theorem rPut_many (q:Nat) (m:Hm.Msg) (g:Hm.Lg) (ls:List (List UInt8)) (lv:Value) (w:World) (hr:RLogAt w q g ls lv) (h:(Hm.line m).2=0) (lt:m.time.length<=4000000000) (lh:m.host.length<=4000000000) (la:m.app.length<=4000000000) (lp:m.proc.length<=4000000000) (li:m.id.length<=4000000000) (ld:m.data.length<=4000000000) (lx:m.text.length<=4000000000)
  (hlen:ls.length<=1000000) (hroom:g.room<=g.waiting.length∨65535<=g.messages) :
  Calls Tryz.prog 119 #[.pointer (some ⟨q,0,none⟩),.agg (msgCells m)] w fun e w'=>e=.returned (.tuple #[.int .i64 0,.int .i64 12])/\Below w.heap.size w w':=by
 have hml:=hr.len
 have LN:Hid (∀ w,Calls Tryz.prog 113 #[.agg (msgCells m)] w fun e w'=>e=.returned (.tuple #[.string ⟨(Hm.line m).1.toArray⟩,.int .i64 0])/\Below w.heap.size w w'):=fun w=>by
  have:=rLine_any m w lt lh la lp li ld lx
  rw [h] at this
  exact this
 generalize (Hm.line m).1=S at LN
 have HR:Hid (RLogAt w q g ls lv):=hr
 have hwl:ls.length=g.had+g.waiting.length:=by rw [hml];rfl
 have d4:IntKind.i64.wrap ((ls.length:Int) - (g.had:Int))=(g.waiting.length:Int):=by rw [IntKind.wrap_i64];omega
 by_cases hc:g.room<=g.waiting.length
 ·have d1:(g.room:Int)<=(g.waiting.length:Int):=by omega
  clear h lt lh la lp li ld lx hr hml hwl hroom hlen
  go_enter Tryz.func119,Tryz.ntmps119
  go_wp2_with (first
   | (refine wpList_load_row rfl _ _ rfl w.heap.size rfl _ _ _ _ (heap_alloc_new _ _) Tryz.underlying80 rfl size_rmsg ?_)
   | fail)
  refine (LN.out _).mono ?_
  rintro e w1 ⟨rfl,hb1⟩
  have HB1:Hid (Below w.heap.size w w1):=((Below.refl _ _).alloc (Nat.le_refl _) _).trans (hb1.mono (by simp))
  have HR1:Hid (RLogAt w1 q g ls lv):=HR.out.next HB1.out
  clear hb1
  obtain ⟨c0,c1,c2,c3⟩:=HR1.out.cells
  obtain ⟨al,cl,rfl⟩:=own_form HR1.out.own
  go_wp2_with fail
  go_quiet (fail)
  go_wp2
  go_ret2
  exact ⟨rfl,Below.next HB1.out (Nat.le_refl _) (drew_below ⟨_,rfl⟩)⟩
 ·have d1:¬ (g.room:Int)<=(g.waiting.length:Int):=by omega
  have HM:Hid (65534 < ls.length):=show _ < _ by omega
  clear h lt lh la lp li ld lx hr hml hwl hroom hlen
  go_enter Tryz.func119,Tryz.ntmps119
  go_wp2_with (first
   | (refine wpList_load_row rfl _ _ rfl w.heap.size rfl _ _ _ _ (heap_alloc_new _ _) Tryz.underlying80 rfl size_rmsg ?_)
   | fail)
  refine (LN.out _).mono ?_
  rintro e w1 ⟨rfl,hb1⟩
  have HB1:Hid (Below w.heap.size w w1):=((Below.refl _ _).alloc (Nat.le_refl _) _).trans (hb1.mono (by simp))
  have HR1:Hid (RLogAt w1 q g ls lv):=HR.out.next HB1.out
  clear hb1
  obtain ⟨c0,c1,c2,c3⟩:=HR1.out.cells
  obtain ⟨al,cl,rfl⟩:=own_form HR1.out.own
  go_wp2_with fail
  go_quiet (fail)
  go_wp2
  go_ret2
  exact ⟨rfl,Below.next HB1.out (Nat.le_refl _) (drew_below ⟨_,rfl⟩)⟩
theorem rPut_any (q:Nat) (m:Hm.Msg) (g:Hm.Lg) (ls:List (List UInt8)) (lv:Value) (w:World) (hr:RLogAt w q g ls lv) (lt:m.time.length<=4000000000) (lh:m.host.length<=4000000000) (la:m.app.length<=4000000000) (lp:m.proc.length<=4000000000) (li:m.id.length<=4000000000) (ld:m.data.length<=4000000000) (lx:m.text.length<=4000000000)
  (hrec:g.records.length<=1000000000000) (hlen:ls.length<=1000000) :
  Calls Tryz.prog 119 #[.pointer (some ⟨q,0,none⟩),.agg (msgCells m)] w fun e w'=>e=.returned (.tuple #[.int .i64 (g.put m).2.1,.int .i64 (g.put m).2.2])/\∃ ls' lv',RLogAt w' q (g.put m).1 ls' lv'/\StepR q lv w lv' w':=by
 unfold Hm.Lg.put
 by_cases h:(Hm.line m).2=0
 ·rw [if_neg (by simp [h])]
  by_cases hroom:g.room<=g.waiting.length∨65535<=g.messages
  ·rw [if_pos hroom]
   refine (rPut_many q m g ls lv w hr h lt lh la lp li ld lx hlen hroom).mono ?_
   rintro e w' ⟨rfl,hb⟩
   exact ⟨rfl,ls,lv,hr.next hb,StepR.refl.next hb⟩
  ·rw [if_neg hroom]
   exact rPut_good q m g ls lv w hr h lt lh la lp li ld lx hrec (by omega) (by omega)
 ·rw [if_pos h]
  refine (rPut_bad q m w h lt lh la lp li ld lx).mono ?_
  rintro e w' ⟨rfl,hb⟩
  exact ⟨rfl,ls,lv,hr.next hb,StepR.refl.next hb⟩
set_option maxRecDepth 20000 in
set_option maxHeartbeats 4000000 in
theorem rAck_any (q:Nat) (n:Int) (g:Hm.Lg) (ls:List (List UInt8)) (lv:Value) (w:World) (hr:RLogAt w q g ls lv) (hrec:g.records.length<=1000000000000) (hlen:ls.length<=65535) :
  Calls Tryz.prog 120 #[.pointer (some ⟨q,0,none⟩),.int .i64 n] w fun e w'=>e=.returned (.int .i64 (g.ack n).2)/\RLogAt w' q (g.ack n).1 ls lv/\StepR q lv w lv w':=by
 have hml:=hr.len
 have HR:Hid (RLogAt w q g ls lv):=hr
 obtain ⟨c0,c1,c2,c3⟩:=hr.cells
 obtain ⟨al,cl,rfl⟩:=own_form hr.own
 unfold Hm.Lg.ack
 by_cases h1:n<=(g.had:Int)
 ·rw [if_pos (.inl h1)]
  clear hr hml hrec hlen
  go_enter Tryz.func120,Tryz.ntmps120
  go_wp2
  go_ret
  exact ⟨rfl,HR.out,StepR.refl⟩
 ·by_cases h2:(ls.length:Int) < n
  ·rw [if_pos (.inr (by rw [<-hml];exact h2))]
   clear hr hml hrec hlen
   go_enter Tryz.func120,Tryz.ntmps120
   go_wp2
   go_ret
   exact ⟨rfl,HR.out,StepR.refl⟩
  ·rw [if_neg (by rintro (h | h);exact h1 h;exact h2 (by rw [hml];exact h))]
   obtain ⟨N,rfl⟩:∃ N:Nat,n=N:=⟨n.toNat,by omega⟩
   have hN:N < 65536:=by omega
   have hnb:Hm.numB [UInt8.ofNat (N / 256),UInt8.ofNat N]=N:=by
    have:=Hm.numB_two hN []
    rw [List.append_nil] at this
    exact this
   have AD:Hid (∀ w,RLogAt w q g ls (.slice al ls.length cl)->Calls Tryz.prog 154 #[.pointer (some ⟨q,0,none⟩),.int .u8 65,.string ⟨[UInt8.ofNat (N / 256),UInt8.ofNat N].toArray⟩] w fun e w'=>e=.returned (.bool true)/\RLogAt w' q (g.ackTo N) ls (.slice al ls.length cl)/\StepR q (.slice al ls.length cl) w (.slice al ls.length cl) w'):=fun w hr=>by
    have:=radd_ack q (UInt8.ofNat (N / 256)) (UInt8.ofNat N) g ls _ w hr (by rw [hnb];omega) (by rw [hnb];omega) hrec
    rw [hnb] at this
    exact this
   have hback:=two_backl w (UInt8.ofNat (N / 256)) (UInt8.ofNat N) ((N:Int) / 256 % 256) ((N:Int) % 256) (by simp) (by simp)
   have hback2:=two_backl w (UInt8.ofNat (N / 256)) (UInt8.ofNat N) ((N:Int) / 256) ((N:Int) % 256) (by simp;omega) (by simp)
   have hNl:N<=70000:=by omega
   clear hr hml hrec hlen hnb hN
   go_enter Tryz.func120,Tryz.ntmps120
   go_wp2_with fail
   have HB:Hid (Below w.heap.size w (w.alloc (.cells #[.int .u8 ((N:Int) / 256),.int .u8 ((N:Int) % 256)] 5))):=(Below.refl _ _).alloc (Nat.le_refl _) _
   refine (AD.out _ (HR.out.next ((Below.refl _ _).alloc (Nat.le_refl _) _))).mono ?_
   rintro e w2 ⟨rfl,hr2,hs2⟩
   have HR2:Hid (RLogAt w2 q (g.ackTo N) ls (.slice al ls.length cl)):=hr2
   have HS2:Hid (StepR q (.slice al ls.length cl) w (.slice al ls.length cl) w2):=(StepR.refl.next ((Below.refl _ _).alloc (Nat.le_refl _) _)).trans hs2
   clear hr2 hs2
   go_wp2
   go_ret
   exact ⟨rfl,HR2.out,HS2.out⟩
attribute [local go_sem high] run_cut_l
set_option maxRecDepth 20000 in
theorem rWaiting_any (q:Nat) (g:Hm.Lg) (ls:List (List UInt8)) (lv:Value) (w:World) (hr:RLogAt w q g ls lv) :
  Calls Tryz.prog 121 #[.pointer (some ⟨q,0,none⟩)] w fun e w'=>∃ v,e=.returned v/\Hw.ownsFrom w' 0 9 v (g.waiting.map strV)/\Below w.heap.size w w':=by
 have hml:=hr.len
 have HR:Hid (RLogAt w q g ls lv):=hr
 obtain ⟨c0,c1,c2,c3⟩:=hr.cells
 obtain ⟨al,cl,rfl⟩:=own_form hr.own
 have hh:g.had<=ls.length:=by rw [hml];exact Nat.le_add_right _ _
 have hhi:(g.had:Int)<=(ls.length:Int):=by omega
 clear hr hml
 go_enter Tryz.func121,Tryz.ntmps121
 go_wp2_with fail
 go_quiet (fail)
 go_wp2
 go_ret
 refine ⟨_,rfl,?_,drew_below ⟨_,rfl⟩⟩
 have h1:=ownsFrom_cut (Hw.ownsFrom_row (HR.out.drewN nq).own) (lo:=g.had) (hi:=ls.length) hh (by simp)
 rw [<-HR.out.wai]
 have h2:((ls.map strV).drop g.had).take (ls.length - g.had)=(ls.drop g.had).map strV:=by
  rw [List.take_of_length_le (by simp),List.map_drop]
 rw [h2] at h1
 exact h1
end Go.Proofs.YtdlhbmncbmconaaGreatDoor
namespace Go.Hm
theorem recsF_more:∀ (f1 f2:Nat) (l:List UInt8),l.length < f1->l.length < f2->recsF f1 l=recsF f2 l
 | 0,_,l,h,_=>by omega
 | _+1,0,l,_,h=>by omega
 | f1+1,f2+1,l,h1,h2=>by
  unfold recsF
  cases hr:readRec l with
  | none=>rfl
  | some x=>
   obtain ⟨k,bs,n⟩:=x
   have hn:5<=n/\n<=l.length:=by
    unfold readRec at hr
    split at hr
    ·cases hr
    ·split at hr
     ·cases hr
     ·split at hr
      ·cases hr
      ·have h4:=congrArg (fun x=>x.2.2) (Option.some.inj hr)
       dsimp only at h4
       omega
   dsimp only
   rw [recsF_more f1 f2 (l.drop n) (by simp;omega) (by simp;omega)]
theorem recs_none {l:List UInt8} (h:readRec l=none):recs l=[]:=by
 unfold recs recsF
 rw [h]
theorem recs_some {l:List UInt8} {k:UInt8} {bs:List UInt8} {n:Nat} (h:readRec l=some (k,bs,n)) (hn:5<=n/\n<=l.length):recs l=(k,bs) :: recs (l.drop n):=by
 show recsF (l.length+1) l=_
 unfold recsF
 rw [h]
 dsimp only
 congr 1
 exact recsF_more _ _ _ (by simp;omega) (by simp)
theorem rec_take {l:List UInt8} (h3:3<=l.length):l.take (3+numB (l.drop 1))=aheadRec (l.getD 0 0) ((l.drop 3).take (numB (l.drop 1))) ↔ numB (l.drop 1)+3<=l.length:=by
 match l,h3 with
 | a :: b :: c :: t,_=>
  have hnum:numB ((a :: b :: c :: t).drop 1)=256 * b.toNat+c.toNat:=rfl
  rw [hnum]
  have hb:b.toNat < 256:=UInt8.toNat_lt _
  have hc:c.toNat < 256:=UInt8.toNat_lt _
  generalize hN:256 * b.toNat+c.toNat=N
  have e1:(a :: b :: c :: t).take (3+N)=a :: b :: c :: t.take N:=by
   rw [Nat.add_comm];rfl
  have e2:(a :: b :: c :: t).drop 3=t:=rfl
  have e3:(a :: b :: c :: t).getD 0 0=a:=rfl
  rw [e1,e2,e3]
  unfold aheadRec twoB
  constructor
  ·intro h
   simp only [List.cons.injEq,List.cons_append,List.nil_append,true_and] at h
   have h1:=h.1
   have h2:=h.2.1
   have hl:(t.take N).length=min N t.length:=List.length_take
   have hb2:b.toNat=(t.take N).length / 256 % 256:=by rw [h1];simp
   have hc2:c.toNat=(t.take N).length % 256:=by rw [h2];simp
   rw [hl] at hb2 hc2
   simp only [List.length_cons]
   have:min N t.length<=65535:=by omega
   have:N=min N t.length:=by omega
   omega
  ·intro h
   simp only [List.length_cons] at h
   have hl:(t.take N).length=N:=by rw [List.length_take];omega
   simp only [List.cons.injEq,List.cons_append,List.nil_append,true_and,and_true]
   rw [hl,<-hN]
   exact ⟨by apply UInt8.toNat_inj.1;simp;omega,by apply UInt8.toNat_inj.1;simp⟩
theorem rrec_yes {l:List UInt8} {N:Nat} (hN:numB (l.drop 1)=N) (h:N+5<=l.length) (he:writeRec (l.getD 0 0) ((l.drop 3).take N)=l.take (N+5)):readRec l=some (l.getD 0 0,(l.drop 3).take N,N+5):=by
 have ht:=(rec_take (l:=l) (by omega)).2 (by omega)
 rw [hN] at ht
 unfold readRec
 rw [hN,if_neg (by omega),if_neg (by omega),if_neg ?_]
 ·congr 3;omega
 ·intro hne
  apply hne
  rw [ht]
  unfold writeRec at he
  have h1:(l.take (N+5)).drop (3+N)=check (aheadRec (l.getD 0 0) ((l.drop 3).take N)):=by
   rw [<-he,List.drop_append_of_le_length (by rw [aheadRec_length];simp;omega),List.drop_of_length_le (by rw [aheadRec_length];simp;omega),List.nil_append]
  rw [<-h1,List.drop_take]
  congr 1
  omega
theorem rrec_no {l:List UInt8} {N:Nat} (hN:numB (l.drop 1)=N) (h:N+5<=l.length) (he:¬ writeRec (l.getD 0 0) ((l.drop 3).take N)=l.take (N+5)):readRec l=none:=by
 have ht:=(rec_take (l:=l) (by omega)).2 (by omega)
 rw [hN] at ht
 unfold readRec
 rw [hN,if_neg (by omega),if_neg (by omega),if_pos ?_]
 intro h1
 apply he
 unfold writeRec
 rw [<-ht,<-h1,show N+5=3+N+2 by omega]
 exact (List.take_add).symm
theorem rrec_short {l:List UInt8} (h:l.length < 5∨l.length < numB (l.drop 1)+5):readRec l=none:=by
 unfold readRec
 by_cases h1:l.length < 3
 ·rw [if_pos h1]
 ·rw [if_neg h1,if_pos (by omega)]
end Go.Hm

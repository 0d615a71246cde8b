/- Pressed by program out of Fh. -/
import Derived.Test.YtdlhbmncbmconaaGreatDoorL41
import Derived.Deep.RegionHeld
namespace Go.Hm
theorem backs_none {g:Lg} {l:List UInt8} (h:readRec l=none):g.backs (recs l)=g:=by
 rw [recs_none h];rfl
theorem backs_no {g:Lg} {l bs:List UInt8} {k:UInt8} {n:Nat} (h:readRec l=some (k,bs,n)) (hn:5<=n/\n<=l.length) (hb:(g.back (k,bs)).2=false):g.backs (recs l)=g:=by
 rw [recs_some h hn]
 show (if (g.back (k,bs)).2=true then _ else g)=g
 rw [if_neg (by rw [hb];decide)]
theorem backs_yes {g:Lg} {l bs:List UInt8} {k:UInt8} {n:Nat} (h:readRec l=some (k,bs,n)) (hn:5<=n/\n<=l.length) (hb:(g.back (k,bs)).2=true):g.backs (recs l)=(g.back (k,bs)).1.backs (recs (l.drop n)):=by
 rw [recs_some h hn]
 show (if (g.back (k,bs)).2=true then _ else g)=_
 rw [if_pos hb]
theorem back_grows (g:Lg) (k:UInt8) (bs:List UInt8):(g.back (k,bs)).1.records.length<=g.records.length+bs.length+7/\(g.back (k,bs)).1.messages<=g.messages+1/\(g.back (k,bs)).1.room=g.room:=by
 unfold Lg.back
 split
 ·split
  ·simp [Lg.add,Lg.messages,writeRec_length];omega
  ·simp;omega
 ·split
  ·split
   ·next h=>
    unfold Lg.ack at h ⊢
    split
    ·simp;omega
    ·next hno=>
     simp [Lg.ackTo,Lg.messages,writeRec_length,twoB_length] at hno ⊢
     omega
   ·simp;omega
  ·simp;omega
theorem back_few {g:Lg} {k:UInt8} {bs:List UInt8} (h:g.messages<=65535):(g.back (k,bs)).1.messages<=65535:=by
 unfold Lg.back
 split
 ·split
  ·next hc=>simp [Lg.add,Lg.messages] at hc ⊢;omega
  ·exact h
 ·split
  ·split
   ·unfold Lg.ack
    split
    ·exact h
    ·next hno=>
     simp [Lg.ackTo,Lg.messages] at hno h ⊢
     omega
   ·exact h
  ·exact h
theorem back_same {g:Lg} {r:UInt8 × List UInt8} (h:(g.back r).2=false):(g.back r).1=g:=by
 unfold Lg.back at h ⊢
 split
 ·next h1=>
  rw [if_pos h1] at h
  split
  ·next h2=>rw [if_pos h2] at h;cases h
  ·rfl
 ·next h1=>
  rw [if_neg h1] at h
  split
  ·next h2=>
   rw [if_pos h2] at h
   split
   ·next h3=>rw [if_pos h3] at h;cases h
   ·rfl
  ·rfl
theorem num_at {s:List UInt8} {i:Nat} (h:i+5<=s.length):numB ((s.drop i).drop 1)=256 * (s[i+1]'(by omega)).toNat+(s[i+2]'(by omega)).toNat:=by
 unfold numB
 rw [List.drop_drop]
 simp [List.getD,List.getElem?_drop,show i+1 < s.length by omega,show i+1+1 < s.length by omega]
theorem first_at {s:List UInt8} {i:Nat} (h:i < s.length):(s.drop i).getD 0 0=s[i]:=by
 simp [List.getD,List.getElem?_drop,h]
end Go.Hm
namespace Go.Proofs.YtdlhbmncbmconaaGreatDoor
open Go.RowKit Go.Sort
attribute [local go_sem] alloc_drewN setCell_drewN app_mk rcut rbyte
theorem rOpen_no (s:List UInt8) (room:Int) (h:room < 1∨8 < room) (w:World):Calls Tryz.prog 109 #[.string ⟨s.toArray⟩,.int .i64 room] w fun e w'=>e=.returned (.tuple #[.pointer none,.int .i64 10])/\w'=w:=by
 by_cases h1:room < 1
 ·clear h
  go_enter Tryz.func109,Tryz.ntmps109
  go_wp2
  go_ret2
  exact ⟨rfl,rfl⟩
 ·have h2:8 < room:=by omega
  clear h
  go_enter Tryz.func109,Tryz.ntmps109
  go_wp2
  go_ret2
  exact ⟨rfl,rfl⟩
structure ROI (s:List UInt8) (room q:Nat) (w:World) (i:Nat) (g:Hm.Lg) (ls:List (List UInt8)) (lv:Value) (wr:World):Prop where
 le:i<=s.length
 eq:Hm.opens s room=g.backs (Hm.recs (s.drop i))
 at_:RLogAt wr q g ls lv
 own:∀ b,lv.ownBlock=some b->q<=b
 bel:Below q w wr
 recl:g.records.length<=3 * i
 few:g.messages<=65535
set_option maxRecDepth 20000 in
set_option maxHeartbeats 8000000 in
theorem rOpen_any (s:List UInt8) (hs:s.length<=100000000) (room:Nat) (h1:1<=room) (h2:room<=8) (w:World) :
  Calls Tryz.prog 109 #[.string ⟨s.toArray⟩,.int .i64 room] w fun e w'=>e=.returned (.tuple #[.pointer (some ⟨w.heap.size,0,none⟩),.int .i64 0])/\∃ ls lv,RLogAt w' w.heap.size (Hm.opens s room) ls lv/\(∀ b,lv.ownBlock=some b->w.heap.size<=b)/\Below w.heap.size w w':=by
 have r1:¬ (room:Int) < 1:=by omega
 have r2:¬ 8 < (room:Int):=by omega
 obtain ⟨OP,hOP⟩:∃ OP,Hm.opens s room=OP:=⟨_,rfl⟩
 rw [hOP]
 have HOP:Hid (Hm.opens s room=OP):=hOP
 clear hOP h1 h2
 go_enter Tryz.func109,Tryz.ntmps109
 go_wp2
 generalize hW:w.alloc _=W
 have HS:Hid (ROI s room w.heap.size w 0 (Hm.Lg.fresh room) [] (.slice none 0 0) W):=show ROI _ _ _ _ _ _ _ _ _ by
  rw [<-hW]
  exact ⟨Nat.zero_le _,rfl,⟨heap_alloc_new _ _,World.ownsRow_nil _ _ _ _,rfl,rfl⟩,fun b e=>(by cases e),(Below.refl _ _).alloc (Nat.le_refl _) _,Nat.le_refl _,by simp [Hm.Lg.fresh,Hm.Lg.messages]⟩
 clear hW
 go_loopw [7,8,9,10] (fun s7 _ _ _ wr=>∃ i g ls lv,s7=.int .i64 (i:Nat)/\ROI s room w.heap.size w i g ls lv wr) (fun s7 _ _ _ _=>s.length - (intOf s7).toNat)
 case atStart=>exact ⟨0,_,_,_,rfl,HS.out⟩
 case round=>
  clear HS
  obtain ⟨i,g,ls,lv,rfl,hr⟩:=hrel
  have HR:Hid (ROI s room w.heap.size w i g ls lv wr):=hr
  have hile:=hr.le
  clear hr
  by_cases hlt:i+5<=s.length
  case neg=>
   have hki:¬ (i:Int)+5<=(s.length:Int):=by omega
   go_wp2
   go_ret2
   refine ⟨rfl,ls,lv,?_,HR.out.own,HR.out.bel⟩
   rw [<-HOP.out,HR.out.eq,Hm.backs_none (Hm.rrec_short (.inl (by simp;omega)))]
   exact HR.out.at_
  have hki:(i:Int)+5<=(s.length:Int):=by omega
  have hn:=Hm.num_at hlt
  have hf:=Hm.first_at (s:=s) (i:=i) (by omega)
  have b1:(s[i+1]'(by omega)).toNat < 256:=UInt8.toNat_lt _
  have b2:(s[i+2]'(by omega)).toNat < 256:=UInt8.toNat_lt _
  obtain ⟨w1',w2',hN',hNl⟩:=numB_facts (s[i+1]'(by omega)) (s[i+2]'(by omega))
  have hNe:Hm.numB [s[i+1]'(by omega),s[i+2]'(by omega)]=Hm.numB ((s.drop i).drop 1):=by rw [hn];rfl
  rw [hNe] at hN' hNl
  clear hNe hn
  obtain ⟨N,hNN⟩:∃ N,Hm.numB ((s.drop i).drop 1)=N:=⟨_,rfl⟩
  rw [hNN] at hN' hNl
  have HN:Hid (Hm.numB ((s.drop i).drop 1)=N):=hNN
  clear hNN
  have q1:IntKind.i64.wrap ((i:Int)+1)=((i+1:Nat):Int):=by rw [IntKind.wrap_i64];omega
  have q2:IntKind.i64.wrap ((i:Int)+2)=((i+2:Nat):Int):=by rw [IntKind.wrap_i64];omega
  have p1:((i+1:Nat):Int) < (s.length:Int):=by omega
  have p2:((i+2:Nat):Int) < (s.length:Int):=by omega
  have p5:(i:Int)+1 < (s.length:Int):=by omega
  have p6:(i:Int)+2 < (s.length:Int):=by omega
  have t1:((i:Int)+1).toNat=i+1:=by omega
  have t2:((i:Int)+2).toNat=i+2:=by omega
  have z1:(0:Int)<=(i:Int)+1:=by omega
  have z2:(0:Int)<=(i:Int)+2:=by omega
  have p3:i+1 < s.length:=by omega
  have p4:i+2 < s.length:=by omega
  go_wp2_with fail
  go_quiet (fail)
  clear q1 q2 hN'
  by_cases hfit:i+N+5<=s.length
  case neg=>
   have hfi:(s.length:Int) < (i:Int)+(N:Int)+5:=by omega
   go_wp2
   go_ret2
   refine ⟨rfl,ls,lv,?_,HR.out.own,Below.next HR.out.bel (Nat.le_refl _) (drew_below ⟨_,rfl⟩)⟩
   rw [<-HOP.out,HR.out.eq,Hm.backs_none (Hm.rrec_short (.inr (by rw [HN.out];simp;omega)))]
   exact HR.out.at_.drewN _
  have hfi:¬ (s.length:Int) < (i:Int)+(N:Int)+5:=by omega
  have f1:(i:Int)+3<=(i:Int)+3+(N:Int):=by omega
  have f2:(i:Int)+3+(N:Int)<=(s.length:Int):=by omega
  have f3:(i:Int)<=(i:Int)+(N:Int)+5:=by omega
  have f4:(i:Int)+(N:Int)+5<=(s.length:Int):=by omega
  have t3:((i:Int)+3).toNat=i+3:=by omega
  have t4:((i:Int)+3+(N:Int)).toNat=i+3+N:=by omega
  have t5:((i:Int)+(N:Int)+5).toNat=i+N+5:=by omega
  have u3:i+3+N - (i+3)=N:=by omega
  have u4:i+N+5 - i=N+5:=by omega
  have z3:(0:Int)<=(i:Int)+3:=by omega
  have p7:i < s.length:=by omega
  have p8:(i:Int) < (s.length:Int):=by omega
  obtain ⟨K0,hK0⟩:∃ K0,s[i]=K0:=⟨_,rfl⟩
  obtain ⟨BS,hBS⟩:∃ BS,(s.drop (i+3)).take N=BS:=⟨_,rfl⟩
  obtain ⟨W5,hW5⟩:∃ W5,(s.drop i).take (N+5)=W5:=⟨_,rfl⟩
  have hBl:Hid (BS.length=N):=show _=_ by rw [<-hBS];simp;omega
  have g1:Hid ((s.drop i).getD 0 0=K0):=show _=_ by rw [<-hK0];exact hf
  have g2:Hid (((s.drop i).drop 3).take N=BS):=show _=_ by rw [<-hBS,List.drop_drop]
  have HW5:Hid ((s.drop i).take (N+5)=W5):=hW5
  have REC:Hid (∀ w,Calls Tryz.prog 153 #[.int .u8 K0.toNat,.string ⟨BS.toArray⟩] w fun e w'=>e=.returned (.string ⟨(Hm.writeRec K0 BS).toArray⟩)/\Below w.heap.size w w'):=fun w=>rRecord_any K0 BS (by have:=hBl.out;omega) w
  have AD:Hid (∀ w,RLogAt w _ g ls lv->Calls Tryz.prog 154 #[.pointer (some ⟨_,0,none⟩),.int .u8 K0.toNat,.string ⟨BS.toArray⟩] w fun e w'=>e=.returned (.bool (g.back (K0,BS)).2)/\∃ ls' lv',RLogAt w' _ (g.back (K0,BS)).1 ls' lv'/\StepR _ lv w lv' w'):=fun w' hr=>radd_any w.heap.size K0 BS g ls lv w' hr (by have:=hBl.out;omega) (by have:=hr.len;have:=HR.out.few;omega) (by have:=HR.out.recl;omega)
  have v1:IntKind.i64.wrap ((i:Int)+(N:Int))=(i:Int)+(N:Int):=by rw [IntKind.wrap_i64];omega
  have v2:IntKind.i64.wrap ((i:Int)+(N:Int)+5)=(i:Int)+(N:Int)+5:=by rw [IntKind.wrap_i64];omega
  have z4:(0:Int)<=(i:Int)+(N:Int)+5:=by omega
  clear hf
  by_cases heq:Hm.writeRec K0 BS=W5
  case neg=>
   have heb:(Hm.writeRec K0 BS == W5)=false:=beq_eq_false_iff_ne.2 heq
   have HRN:Hid (Hm.readRec (s.drop i)=none):=Hm.rrec_no (N:=N) HN.out (by simp;omega) (by rw [g1.out,g2.out,HW5.out];exact heq)
   go_wp2_with fail
   go_region_held (fun _=>True) (trivial) (first | (go_at_call 153;refine (REC.out _).mono ?_;rintro e w1 ⟨rfl,hb1⟩;have HB1:Hid (Below wr.heap.size wr w1):=Below.next (drew_below ⟨_,rfl⟩) (Nat.le_refl _) hb1;clear hb1))
   go_wp2
   go_ret2
   refine ⟨rfl,ls,lv,?_,HR.out.own,Below.next HR.out.bel (Nat.le_refl _) HB1.out⟩
   rw [<-HOP.out,HR.out.eq,Hm.backs_none HRN.out]
   exact HR.out.at_.next HB1.out
  have heb:(Hm.writeRec K0 BS == W5)=true:=beq_iff_eq.2 heq
  have HRY:Hid (Hm.readRec (s.drop i)=some (K0,BS,N+5)):=by
   have:=Hm.rrec_yes (l:=s.drop i) (N:=N) HN.out (by simp;omega) (by rw [g1.out,g2.out,HW5.out];exact heq)
   rw [g1.out,g2.out] at this
   exact this
  clear heq
  go_wp2_with fail
  go_region_held (fun _=>True) (trivial) (first | (go_at_call 153;refine (REC.out _).mono ?_;rintro e w1 ⟨rfl,hb1⟩;have HB1:Hid (Below wr.heap.size wr w1):=Below.next (drew_below ⟨_,rfl⟩) (Nat.le_refl _) hb1;clear hb1))
  go_wp2_with fail
  refine (AD.out _ (HR.out.at_.next HB1.out)).mono ?_
  rintro e w2 ⟨rfl,ls2,lv2,hr2,hs2⟩
  have hqz:=HR.out.bel.size
  have HB2:Hid (Below w.heap.size w w2):=(Below.next HR.out.bel (Nat.le_refl _) HB1.out).trans (hs2.kept.below (B:=w.heap.size) (fun k _ e=>by
   rcases e with e | e
   ·omega
   ·exact HR.out.own k e) (by have:=HB1.out.size;omega))
  have HO2:Hid (∀ b,lv2.ownBlock=some b->w.heap.size<=b):=fun b e=>by
   rcases hs2.lies b e with e | e
   ·exact HR.out.own b e
   ·have:=HB1.out.size;omega
  have HR2:Hid (RLogAt w2 w.heap.size (g.back (K0,BS)).1 ls2 lv2):=hr2
  clear hr2 hs2
  have hNn:Hid (5<=N+5/\N+5<=(s.drop i).length):=show _/\_ by simp;omega
  cases hb:(g.back (K0,BS)).2 with
  | false=>
   have HE:Hid ((g.back (K0,BS)).1=OP):=show _=_ by
    rw [<-HOP.out,HR.out.eq,Hm.backs_no HRY.out hNn.out hb]
    exact Hm.back_same hb
   rw [HE.out] at HR2
   clear hb
   go_wp2
   go_ret2
   exact ⟨rfl,ls2,lv2,HR2.out,HO2.out,HB2.out⟩
  | true=>
   have HI:Hid (ROI s room w.heap.size w (i+N+5) (g.back (K0,BS)).1 ls2 lv2 w2):=⟨by omega,by
     rw [HR.out.eq,Hm.backs_yes HRY.out hNn.out hb,List.drop_drop]
     rfl,HR2.out,HO2.out,HB2.out,by
     have h1:=(Hm.back_grows g K0 BS).1
     have h2:=HR.out.recl
     have h3:=hBl.out
     omega,Hm.back_few HR.out.few⟩
   clear hb
   go_wp2
   go_roundw
   case rel=>exact ⟨i+N+5,_,_,_,int_eq (by simp),HI.out⟩
   case measure=>simp [intOf];omega
end Go.Proofs.YtdlhbmncbmconaaGreatDoor

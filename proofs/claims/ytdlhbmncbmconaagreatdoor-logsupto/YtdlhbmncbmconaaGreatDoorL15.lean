/- Pressed by program out of Bn Bo. -/
import Derived.Test.YtdlhbmncbmconaaGreatDoorL14
import Derived.Test.YtdlhbmncbmconaaGreatDoorL01
namespace Go.Proofs.YtdlhbmncbmconaaGreatDoor
open Go.RowKit Go.Sort
attribute [local go_sem] alloc_drewN setCell_drewN
set_option maxRecDepth 20000 in
theorem Ack_in (p:Nat) (g:Hm.Lg) (rv wv:Value) (w:World) (h:LogIn w p g rv wv) (hg:LgSmall g) (n:Int) (n0:-9223372036854775808<=n) (n1:n<=9223372036854775807) :
  Calls Tryz.prog 64 #[.pointer (some ⟨p,0,none⟩),.int .i64 n] w fun e w'=>e=.returned (.int .i64 (g.ack n).2)/\∃ rv' wv',LogIn w' p (g.ack n).1 rv' wv'/\StepL p rv wv w rv' wv' w':=by
 obtain ⟨hg1,hg2,hg3,hg4⟩:=hg
 obtain ⟨c0,c1,c2,c3⟩:=h.cells
 have HH:Hid (LogIn w p g rv wv):=h
 clear h
 have HM:Hid (Calls Tryz.prog 75 #[.pointer (some ⟨p,0,none⟩)] w fun e w'=>e=.returned (.int .i64 g.messages)/\∃ n,w'=w.drewN n):=messages_in p g rv wv w HH.out (by omega) (by omega)
 unfold Hm.Lg.ack
 by_cases h0:n<=g.had
 ·rw [if_pos (.inl h0)]
  go_enter Tryz.func64,Tryz.ntmps64
  go_wp2
  go_ret
  exact ⟨rfl,_,_,HH.out,StepL.refl⟩
 ·by_cases h1:(g.messages:Int) < n
  ·rw [if_pos (.inr h1)]
   go_enter Tryz.func64,Tryz.ntmps64
   go_wp2_with fail
   refine HM.out.mono ?_
   rintro e w4 ⟨rfl,hw4⟩
   have hb4:=drew_below hw4
   go_wp2
   go_ret
   exact ⟨rfl,_,_,HH.out.below hb4,StepL.refl.next hb4⟩
  ·rw [if_neg (by omega)]
   obtain ⟨k,rfl⟩:∃ k:Nat,n=k:=⟨n.toNat,by omega⟩
   have hmm:g.messages=g.had+g.waiting.length:=rfl
   have hw0:∃ gb o cap,wv=.slice (some ⟨gb,o,none⟩) g.waiting.length cap:=by
    rcases HH.out.wai with ⟨_,hn⟩ | ⟨gb,o,cap,cur,hv,_⟩
    ·have hz:g.waiting=[]:=by simpa using hn
     rw [hz] at hmm
     simp at hmm
     omega
    ·exact ⟨gb,o,cap,by rw [hv,List.length_map]⟩
   obtain ⟨gb,o,cap,rfl⟩:=hw0
   have AA:Hid (∀ w',LogIn w' p g rv (.slice (some ⟨gb,o,none⟩) g.waiting.length cap)->Calls Tryz.prog 102 #[.pointer (some ⟨p,0,none⟩),.int .i64 (k:Int)] w' fun e w''=>(∃ u,e=.returned u)/\∃ rv' wv',LogIn w'' p (g.ackTo k) rv' wv'/\StepL p rv (.slice (some ⟨gb,o,none⟩) g.waiting.length cap) w' rv' wv' w''):=fun w' h'=>addAck_in p g rv gb o cap g.waiting.length w' h' k (k - g.had) (by omega) (by omega) (by omega) (by omega) (by omega) (by omega)
   show Calls _ _ _ _ fun e w'=>e=.returned (.int .i64 ((0:Nat):Int))/\∃ rv' wv',LogIn w' p (g.ackTo (k:Int).toNat) rv' wv'/\_
   rw [Int.toNat_natCast]
   clear hmm
   go_enter Tryz.func64,Tryz.ntmps64
   go_wp2_with fail
   refine HM.out.mono ?_
   rintro e w4 ⟨rfl,hw4⟩
   have HB4:=show Hid _ from drew_below hw4
   clear hw4
   go_wp2_with fail
   refine (AA.out _ (HH.out.below HB4.out)).mono ?_
   rintro e w5 ⟨⟨u,rfl⟩,rv',wv',h5,s5⟩
   go_wp2
   go_ret
   exact ⟨rfl,_,_,h5,(StepL.refl.next HB4.out).trans s5⟩
theorem Waiting_in (p:Nat) (g:Hm.Lg) (rv wv:Value) (w:World) (h:LogIn w p g rv wv) (hg2:g.waiting.length<=900000) :
  Calls Tryz.prog 36 #[.pointer (some ⟨p,0,none⟩)] w fun e w'=>∃ v,e=.returned v/\w'.ownsRow w.heap.size 9 1 v g.waiting.length (g.waiting.map strV)/\Below w.heap.size w w':=by
 obtain ⟨c0,c1,c2,c3⟩:=h.cells
 rcases h.wai with ⟨rfl,hn⟩ | ⟨gb,o,cap,cur,rfl,hb,hgb,h1,h2,h3,h4⟩
 ·have he:g.waiting=[]:=by simpa using hn
  have CN:Hid (∀ w,Calls Tryz.prog 65 #[.slice none 0 0] w fun e w'=>e=.returned (.slice none 0 0)/\w'=w):=fun w=>Tryz.slices_Clone_string_nil 0 0 w
  rw [he]
  clear h hn he
  go_enter Tryz.func36,Tryz.ntmps36
  go_wp2_with fail
  refine (CN.out _).mono ?_
  rintro e w1 ⟨rfl,rfl⟩
  go_wp2
  go_ret
  exact ⟨_,rfl,World.ownsRow_nil _ _ _ _,Below.refl _ _⟩
 ·have hl:(g.waiting.map strV).length=g.waiting.length:=List.length_map _
  have CS:=Tryz.slices_Clone_string gb o g.waiting.length cap (g.waiting.map fun l=>(⟨l.toArray⟩:ByteArray)) w (by simp) (by omega) (fun j hj=>by
   rw [List.length_map] at hj
   have hx:(g.waiting.map strV)[j]?=some (strV g.waiting[j]):=by simp [hj]
   have:=Hw.drop_take_get h4 hx
   have e2:(g.waiting.map fun l=>(⟨l.toArray⟩:ByteArray)).getD j ByteArray.empty=⟨g.waiting[j].toArray⟩:=by simp [List.getD_eq_getElem?_getD,hj]
   rw [e2]
   simp [World.cell?,hgb]
   simpa [strV] using this)
  have ez:((g.waiting.map fun l=>(⟨l.toArray⟩:ByteArray)).take g.waiting.length).map Value.string=g.waiting.map strV:=by
   rw [List.take_of_length_le (by simp),List.map_map]
   rfl
  rw [ez] at CS
  have HC:Hid (Calls Tryz.prog 65 #[.slice (some ⟨gb,o,none⟩) g.waiting.length cap] w fun e w'=>∃ v',e=.returned v'/\w'.ownsRow w.heap.size 9 1 v' g.waiting.length (g.waiting.map strV)/\v' ≠ .slice none 0 0/\Below w.heap.size w w'):=CS
  rw [hl] at c3
  clear h CS h1 h4 h3 hgb
  go_enter Tryz.func36,Tryz.ntmps36
  go_wp2_with fail
  refine HC.out.mono ?_
  rintro e w1 ⟨v',rfl,ho,_,hb1⟩
  go_wp2
  go_ret
  exact ⟨_,rfl,ho,hb1⟩
end Go.Proofs.YtdlhbmncbmconaaGreatDoor
namespace Go.Proofs.YtdlhbmncbmconaaGreatDoor
open Go.RowKit Go.Sort
attribute [local go_sem] alloc_drewN setCell_drewN
theorem few_no {q:Nat} (h:Hid (q < 65535)):((65535:Int)<=(q:Int))=False:=by
 have:=h.out
 simp
 omega
theorem few_yes {q:Nat} (h:Hid (q < 65535)):((q:Int) < 65535)=True:=by
 have:=h.out
 simp
 omega
attribute [local go_sem] few_no few_yes
set_option maxRecDepth 20000 in
theorem lineAgain_any (l:List UInt8) (hl:l.length<=3000000000) (w:World) (hT:Tabs w) :
  Calls Tryz.prog 100 #[.string ⟨l.toArray⟩] w fun e w'=>∃ x:List UInt8,e=.returned (.tuple #[.string ⟨x.toArray⟩,.bool (Hm.again l)])/\(Hm.again l=true->x=l)/\Below w.heap.size w w':=by
 have RD:Hid (∀ w,Tabs w->Calls Tryz.prog 21 #[.string ⟨l.toArray⟩,.int .i64 1] w fun e w'=>e=.returned (.tuple #[.agg (msgCells (Hm.read l 1).1),.int .i64 (Hm.read l 1).2.1,.int .i64 (Hm.read l 1).2.2])/\Below w.heap.size w w'):=fun w hT=>by
  have:=Read_any ⟨l.toArray⟩ 1 w hT (by show l.toArray.size<=_;rw [List.size_toArray];omega)
  rw [show (⟨l.toArray⟩:ByteArray).data.toList=l by simp] at this
  exact this
 by_cases he:(Hm.read l 1).2.1=0
 ·have hsm:=Hm.read_small l 1
  have hag:Hm.again l=decide (Hm.line (Hm.read l 1).1=(l,0)):=by unfold Hm.again;rw [he];rfl
  rw [hag]
  rw [he] at RD
  generalize (Hm.read l 1).2.2=at_ at RD
  generalize (Hm.read l 1).1=m at RD hsm ⊢
  obtain ⟨s1,s2,s3,s4,s5,s6,s7⟩:=hsm
  have LN:Hid (∀ w,Tabs w->Calls Tryz.prog 20 #[.agg (msgCells m)] w fun r w'=>r=.returned (.tuple #[.string ⟨(Hm.line m).1.toArray⟩,.int .i64 (Hm.line m).2])/\Below w.heap.size w w'):=fun w hT=>Line_any m w hT (by omega) (by omega) (by omega) (by omega) (by omega) (by omega) (by omega)
  generalize hr:Hm.line m=r at LN
  obtain ⟨x,er⟩:=r
  dsimp only at LN
  have hx:decide ((x,er)=(l,0))=(decide (er=0) && decide (x=l)):=by
   rw [Bool.eq_iff_iff];simp [Prod.ext_iff,and_comm]
  rw [hx]
  clear hag hx hr s1 s2 s3 s4 s5 s6 s7
  obtain ⟨mf,ms,mt,mh,ma,mp,mi,md,mx⟩:=m
  unfold msgCells at RD LN
  dsimp only at RD LN
  have HT0:Hid (Tabs w):=hT
  clear hT
  by_cases h0:er=0
  ·have f1:((er:Int) == 0)=true:=by simp [h0]
   have hd:decide (er=0)=true:=by simp [h0]
   rw [hd]
   clear h0 hd
   by_cases hxl:x=l
   ·have f2:(x == l)=true:=by simp [hxl]
    have hd2:decide (x=l)=true:=by simp [hxl]
    have HXL:Hid (x=l):=hxl
    rw [hd2]
    clear hd2 hxl
    go_enter Tryz.func100,Tryz.ntmps100
    go_wp2_with fail
    refine (RD.out _ HT0.out).mono ?_
    rintro e w1 ⟨rfl,hb1⟩
    have HT1:Hid (Tabs _):=HT0.out.next hb1
    have HB1:Hid (Below w.heap.size w w1):=hb1
    clear hb1
    go_wp2_with fail
    refine (LN.out _ (HT1.out.alloc _)).mono ?_
    rintro e w2 ⟨rfl,hb2⟩
    have HB2:Hid (Below w.heap.size w w2):=Below.next (HB1.out.alloc HB1.out.size _) (Nat.le_refl _) hb2
    clear hb2
    go_wp2
    refine bodyPost_ret (results_tmp2 rfl _ _ _) rfl ?_
    exact ⟨x,rfl,fun _=>HXL.out,HB2.out⟩
   ·have f2:(x == l)=false:=by simp [hxl]
    have hd2:decide (x=l)=false:=by simp [hxl]
    rw [hd2]
    clear hd2 hxl
    go_enter Tryz.func100,Tryz.ntmps100
    go_wp2_with fail
    refine (RD.out _ HT0.out).mono ?_
    rintro e w1 ⟨rfl,hb1⟩
    have HT1:Hid (Tabs _):=HT0.out.next hb1
    have HB1:Hid (Below w.heap.size w w1):=hb1
    clear hb1
    go_wp2_with fail
    refine (LN.out _ (HT1.out.alloc _)).mono ?_
    rintro e w2 ⟨rfl,hb2⟩
    have HB2:Hid (Below w.heap.size w w2):=Below.next (HB1.out.alloc HB1.out.size _) (Nat.le_refl _) hb2
    clear hb2
    go_wp2
    refine bodyPost_ret (results_tmp2 rfl _ _ _) rfl ?_
    exact ⟨x,rfl,(fun e=>by simp at e),HB2.out⟩
  ·have f1:((er:Int) == 0)=false:=by simp;omega
   have hd:decide (er=0)=false:=by simp [h0]
   rw [hd]
   clear h0 hd
   go_enter Tryz.func100,Tryz.ntmps100
   go_wp2_with fail
   refine (RD.out _ HT0.out).mono ?_
   rintro e w1 ⟨rfl,hb1⟩
   have HT1:Hid (Tabs _):=HT0.out.next hb1
   have HB1:Hid (Below w.heap.size w w1):=hb1
   clear hb1
   go_wp2_with fail
   refine (LN.out _ (HT1.out.alloc _)).mono ?_
   rintro e w2 ⟨rfl,hb2⟩
   have HB2:Hid (Below w.heap.size w w2):=Below.next (HB1.out.alloc HB1.out.size _) (Nat.le_refl _) hb2
   clear hb2
   go_wp2
   refine bodyPost_ret (results_tmp2 rfl _ _ _) rfl ?_
   exact ⟨x,rfl,(fun e=>by simp at e),HB2.out⟩
 ·have hag:Hm.again l=false:=by unfold Hm.again;rw [decide_eq_false he];rfl
  rw [hag]
  have f1:(((Hm.read l 1).2.1:Int) == 0)=false:=by simp;omega
  generalize (Hm.read l 1).2.1=er at RD f1
  generalize (Hm.read l 1).2.2=at_ at RD
  generalize (Hm.read l 1).1=m at RD
  obtain ⟨mf,ms,mt,mh,ma,mp,mi,md,mx⟩:=m
  unfold msgCells at RD
  dsimp only at RD
  clear he hag
  go_enter Tryz.func100,Tryz.ntmps100
  go_wp2_with fail
  refine (RD.out _ hT).mono ?_
  rintro e w1 ⟨rfl,hb1⟩
  have HB1:Hid (Below w.heap.size w w1):=hb1
  clear hb1
  go_wp2
  refine bodyPost_ret (results_tmp2 rfl _ _ _) rfl ?_
  exact ⟨[],rfl,(fun e=>by simp at e),HB1.out.alloc HB1.out.size _⟩
def LgFine (g:Hm.Lg):Prop:=g.records.length<=800000000000/\g.waiting.length<=65535/\g.had<=65535/\g.room<=1000
set_option maxRecDepth 20000 in
theorem takeBack_in (p:Nat) (g:Hm.Lg) (rv wv:Value) (w:World) (hT:Tabs w) (h:LogIn w p g rv wv) (hg:LgFine g) (k:UInt8) (l:List UInt8) (hl:l.length<=65535) :
  Calls Tryz.prog 63 #[.pointer (some ⟨p,0,none⟩),.agg #[.int .u8 k.toNat,.string ⟨l.toArray⟩]] w fun e w'=>e=.returned (.bool (g.back (k,l)).2)/\∃ rv' wv',LogIn w' p (g.back (k,l)).1 rv' wv'/\StepL p rv wv w rv' wv' w':=by
 obtain ⟨hg1,hg2,hg3,hg4⟩:=hg
 have HH:Hid (LogIn w p g rv wv):=h
 have HT0:Hid (Tabs w):=hT
 clear h hT
 unfold Hm.Lg.back
 dsimp only
 by_cases hk:k=80
 ·rw [if_pos hk]
  have f0:((k.toNat:Int) == 80)=true:=by rw [hk];rfl
  have LA:Hid (∀ w,Tabs w->Calls Tryz.prog 100 #[.string ⟨l.toArray⟩] w fun e w'=>∃ x:List UInt8,e=.returned (.tuple #[.string ⟨x.toArray⟩,.bool (Hm.again l)])/\(Hm.again l=true->x=l)/\Below w.heap.size w w'):=fun w hT=>lineAgain_any l (by omega) w hT
  clear hk
  cases ha:Hm.again l with
  | false=>
   rw [ha] at LA
   rw [if_neg (by simp)]
   go_enter Tryz.func63,Tryz.ntmps63
   go_wp2_with fail
   refine (LA.out _ (HT0.out.alloc _)).mono ?_
   rintro e w1 ⟨x,rfl,_,hb1⟩
   have HB1:Hid (Below w.heap.size w w1):=Below.next ((Below.refl _ _).alloc (Nat.le_refl _) _) (Nat.le_refl _) hb1
   clear hb1
   go_wp2
   go_ret
   exact ⟨rfl,_,_,HH.out.below HB1.out,StepL.refl.next HB1.out⟩
  | true=>
   have LA:Hid (∀ w,Tabs w->Calls Tryz.prog 100 #[.string ⟨l.toArray⟩] w fun e w'=>e=.returned (.tuple #[.string ⟨l.toArray⟩,.bool true])/\Below w.heap.size w w'):=fun w hT=>(LA.out w hT).mono fun e w' ⟨x,h1,h2,h3⟩=>by
    obtain rfl:=h2 ha
    rw [ha] at h1
    exact ⟨h1,h3⟩
   have hal:l.length<=200:=by
    unfold Hm.again at ha
    simp only [Bool.and_eq_true,decide_eq_true_eq] at ha
    have:=Hm.line_lenL (m:=(Hm.read l 1).1) (by rw [ha.2])
    rw [ha.2] at this
    exact this
   by_cases hm:g.messages < 65535
   ·rw [if_pos ⟨rfl,hm⟩]
    have HMB:Hid (g.messages < 65535):=hm
    clear hm ha
    go_enter Tryz.func63,Tryz.ntmps63
    go_wp2_with fail
    refine (LA.out _ (HT0.out.alloc _)).mono ?_
    rintro e w1 ⟨rfl,hb1⟩
    have HB1:Hid (Below w.heap.size w w1):=Below.next ((Below.refl _ _).alloc (Nat.le_refl _) _) (Nat.le_refl _) hb1
    have HH1:Hid (LogIn w1 p g rv wv):=HH.out.below HB1.out
    clear hb1
    go_wp2_with fail
    refine (messages_in p g rv wv w1 HH1.out (by omega) (by omega)).mono ?_
    rintro e w2 ⟨rfl,hw2⟩
    have HB2:=show Hid _ from drew_below hw2
    have HH2:Hid (LogIn w2 p g rv wv):=HH1.out.below HB2.out
    clear hw2
    go_wp2_with fail
    refine (addMessage_in p g rv wv w2 HH2.out _ (by omega) (by omega) (by omega)).mono ?_
    rintro e w3 ⟨⟨u,rfl⟩,rv3,wv3,hl3,hs3⟩
    go_wp2
    go_ret
    exact ⟨rfl,_,_,hl3,((StepL.refl.next HB1.out).next HB2.out).trans hs3⟩
   ·rw [if_neg (fun e=>hm e.2)]
    have HMB:(65535:Int)<=(g.messages:Int):=by omega
    clear hm ha
    go_enter Tryz.func63,Tryz.ntmps63
    go_wp2_with fail
    refine (LA.out _ (HT0.out.alloc _)).mono ?_
    rintro e w1 ⟨rfl,hb1⟩
    have HB1:Hid (Below w.heap.size w w1):=Below.next ((Below.refl _ _).alloc (Nat.le_refl _) _) (Nat.le_refl _) hb1
    have HH1:Hid (LogIn w1 p g rv wv):=HH.out.below HB1.out
    clear hb1
    go_wp2_with fail
    refine (messages_in p g rv wv w1 HH1.out (by omega) (by omega)).mono ?_
    rintro e w2 ⟨rfl,hw2⟩
    have HB2:=show Hid _ from drew_below hw2
    have HH2:Hid (LogIn w2 p g rv wv):=HH1.out.below HB2.out
    clear hw2
    go_wp2
    go_ret
    exact ⟨rfl,_,_,HH2.out,(StepL.refl.next HB1.out).next HB2.out⟩
 ·rw [if_neg hk]
  have f0:((k.toNat:Int) == 80)=false:=by
   simp
   intro e
   exact hk (UInt8.toNat_inj.1 (show k.toNat=80 by omega))
  clear hk
  by_cases hk2:k=65
  ·rw [if_pos hk2]
   have f1:((k.toNat:Int) == 65)=true:=by rw [hk2];rfl
   clear hk2
   by_cases h2:l.length=2
   ·obtain ⟨a,b,rfl⟩:∃ a b,l=[a,b]:=by
     match l,h2 with
     | [a,b],_=>exact ⟨a,b,rfl⟩
    have NO:Hid (∀ w,Calls Tryz.prog 101 #[.string ⟨[a,b].toArray⟩] w fun e w'=>e=.returned (.int .i64 (Hm.numB [a,b]))/\∃ n,w'=w.drewN n):=fun w=>by
     have:=numberOf_two ⟨#[a,b]⟩ rfl w
     exact this
    have hnb:=Hm.numB_lt [a,b]
    generalize Hm.numB [a,b]=n at NO hnb
    have AK:Hid (∀ w',LogIn w' p g rv wv->Calls Tryz.prog 64 #[.pointer (some ⟨p,0,none⟩),.int .i64 (n:Int)] w' fun e w''=>e=.returned (.int .i64 (g.ack n).2)/\∃ rv' wv',LogIn w'' p (g.ack n).1 rv' wv'/\StepL p rv wv w' rv' wv' w''):=fun w' h'=>Ack_in p g rv wv w' h' ⟨by omega,by omega,by omega,by omega⟩ n (by omega) (by omega)
    have hcase:(g.ack (n:Int)).2=0∨((g.ack (n:Int)).2=10/\(g.ack (n:Int)).1=g):=by
     unfold Hm.Lg.ack
     split
     ·exact .inr ⟨rfl,rfl⟩
     ·exact .inl rfl
    clear h2 hl hnb
    rcases hcase with hc | ⟨hc,hc2⟩
    ·rw [if_pos ⟨rfl,hc⟩]
     rw [hc] at AK
     clear hc
     go_enter Tryz.func63,Tryz.ntmps63
     go_wp2_with fail
     refine (NO.out _).mono ?_
     rintro e w1 ⟨rfl,hw1⟩
     have HB1:Hid (Below w.heap.size w w1):=Below.next ((Below.refl _ _).alloc (Nat.le_refl _) _) (Nat.le_refl _) (drew_below hw1)
     clear hw1
     go_wp2_with fail
     refine (AK.out _ (HH.out.below HB1.out)).mono ?_
     rintro e w3 ⟨rfl,rv3,wv3,hl3,hs3⟩
     go_wp2
     go_ret
     exact ⟨rfl,_,_,hl3,(StepL.refl.next HB1.out).trans hs3⟩
    ·rw [if_neg (by rw [hc];simp)]
     rw [hc,hc2] at AK
     clear hc hc2
     go_enter Tryz.func63,Tryz.ntmps63
     go_wp2_with fail
     refine (NO.out _).mono ?_
     rintro e w1 ⟨rfl,hw1⟩
     have HB1:Hid (Below w.heap.size w w1):=Below.next ((Below.refl _ _).alloc (Nat.le_refl _) _) (Nat.le_refl _) (drew_below hw1)
     clear hw1
     go_wp2_with fail
     refine (AK.out _ (HH.out.below HB1.out)).mono ?_
     rintro e w3 ⟨rfl,rv3,wv3,hl3,hs3⟩
     go_wp2
     go_ret
     exact ⟨rfl,_,_,hl3,(StepL.refl.next HB1.out).trans hs3⟩
   ·rw [if_neg (fun e=>h2 e.1)]
    have f2:((l.length:Int) == 2)=false:=by simp;omega
    clear h2
    go_enter Tryz.func63,Tryz.ntmps63
    go_wp2
    go_ret
    exact ⟨rfl,_,_,HH.out.below ((Below.refl _ _).alloc (Nat.le_refl _) _),StepL.refl.next ((Below.refl _ _).alloc (Nat.le_refl _) _)⟩
  ·rw [if_neg hk2]
   have f1:((k.toNat:Int) == 65)=false:=by
    simp
    intro e
    exact hk2 (UInt8.toNat_inj.1 (show k.toNat=65 by omega))
   clear hk2
   go_enter Tryz.func63,Tryz.ntmps63
   go_wp2
   go_ret
   exact ⟨rfl,_,_,HH.out.below ((Below.refl _ _).alloc (Nat.le_refl _) _),StepL.refl.next ((Below.refl _ _).alloc (Nat.le_refl _) _)⟩
end Go.Proofs.YtdlhbmncbmconaaGreatDoor

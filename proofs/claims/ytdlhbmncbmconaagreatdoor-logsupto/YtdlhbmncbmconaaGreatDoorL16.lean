/- Pressed by program out of Bp Br. -/
import Derived.Test.YtdlhbmncbmconaaGreatDoorL12
import Derived.Test.YtdlhbmncbmconaaGreatDoorL01
import Derived.Test.YtdlhbmncbmconaaGreatDoorL15
import Derived.RangeFuncNested
namespace Go.Hm
def goes:Lg->List Rec->Option Lg
 | g,[]=>some g
 | g,r :: rs=>if (g.back r).2=true then goes (g.back r).1 rs else none
theorem goes_snoc:∀ (rs:List Rec) (g g2:Lg) (r:Rec),goes g rs=some g2->goes g (rs ++ [r])=if (g2.back r).2=true then some (g2.back r).1 else none
 | [],g,g2,r,h=>by cases h;rfl
 | x :: rs,g,g2,r,h=>by
  unfold goes at h
  split at h
  ·next hx=>
   show (if (g.back x).2=true then goes (g.back x).1 (rs ++ [r]) else none)=_
   rw [if_pos hx]
   exact goes_snoc rs _ _ r h
  ·cases h
theorem goes_backs:∀ (rs:List Rec) (g g2:Lg) (more:List Rec),goes g rs=some g2->g.backs (rs ++ more)=g2.backs more
 | [],g,g2,more,h=>by cases h;rfl
 | x :: rs,g,g2,more,h=>by
  unfold goes at h
  split at h
  ·next hx=>
   show (if (g.back x).2=true then (g.back x).1.backs (rs ++ more) else g)=_
   rw [if_pos hx]
   exact goes_backs rs _ _ more h
  ·cases h
theorem back_no {g:Lg} {r:Rec} (h:¬ (g.back r).2=true):(g.back r).1=g:=by
 unfold Lg.back at h ⊢
 split
 ·next h1=>
  rw [if_pos h1] at h
  split
  ·next h2=>rw [if_pos h2] at h;exact absurd rfl h
  ·rfl
 ·next h1=>
  rw [if_neg h1] at h
  split
  ·next h2=>
   rw [if_pos h2] at h
   split
   ·next h3=>rw [if_pos h3] at h;exact absurd rfl h
   ·rfl
  ·rfl
structure Fine (g:Lg) (room:Nat) (rs:List Rec):Prop where
 room:g.room=room
 text:g.records=flatR rs
 most:g.messages<=65535
theorem fine_fresh (room:Nat):Fine (Lg.fresh room) room []:=⟨rfl,rfl,by simp [Lg.fresh,Lg.messages]⟩
theorem fine_back {g:Lg} {room:Nat} {rs:List Rec} {r:Rec} (h:Fine g room rs) (hb:(g.back r).2=true) (hs:r.2.length < 65536):Fine (g.back r).1 room (rs ++ [r]) where
 room:=by
  rw [<-h.room]
  unfold Lg.back at hb ⊢
  repeat' split
  all_goals first | rfl | (unfold Lg.ack;split<;>rfl)
 text:=by rw [back_text hb hs,h.text,flatR_append];simp [flatR]
 most:=by
  have hm:=h.most
  unfold Lg.back at hb ⊢
  split
  ·next h1=>
   rw [if_pos h1] at hb
   split
   ·next h2=>simp only [Lg.add,Lg.messages,List.length_append,List.length_cons,List.length_nil] at h2 ⊢;omega
   ·exact hm
  ·split
   ·split
    ·next h3=>
     have h4:=h3.2
     unfold Lg.ack at h4 ⊢
     split
     ·exact hm
     ·next h5=>
      simp only [Lg.ackTo,Lg.messages,List.length_drop,Int.toNat_natCast] at h5 hm ⊢
      omega
    ·exact hm
   ·exact hm
end Go.Hm
namespace Go.Proofs.YtdlhbmncbmconaaGreatDoor
open Go.RowKit Go.Shelf Go.Sort
attribute [local go_sem] Oper.semAt_some
abbrev RecS:={ r:Hm.Rec // r.2.length < 65536 }
def encRec (x:RecS):Array Value:=#[.agg #[.int .u8 x.1.1.toNat,.string ⟨x.1.2.toArray⟩]]
theorem ex_drop (r:List UInt8) (n:Nat):(⟨r.toArray⟩:ByteArray).extract n r.length=⟨(r.drop n).toArray⟩:=by
 apply ByteArray.ext
 simp
 rw [List.take_of_length_le (by simp)]
def TrueK (_ _:World):Prop:=True
set_option maxRecDepth 100000 in
set_option maxHeartbeats 1000000 in
theorem records1_in (n:Nat) (hn:2<=n) (l Bt:Nat) (s:ByteArray) (hs:s.size<=3000000000) (xs:List RecS) (hxs:xs.map (·.1)=Hm.recs s.data.toList) (J Jx:List RecS->World->Prop)
  (hA:∀ pre A B,J pre A->Below A.heap.size A B->J pre B)
  (hY:∀ pre x W,J pre W->pre.length < xs.length->YieldAt Fence.wide (n - 1) Tryz.prog l (encRec x) W fun e W'=>
   (e=.returned (.bool true)/\J (pre ++ [x]) W'/\TrueK W W')∨(e=.returned (.bool false)/\Jx (pre ++ [x]) W'))
  (W:World) (hBt:W.cell? ⟨Bt,0,none⟩=some (.string s)) (h0:J [] W) :
  CallsIn Fence.wide n Tryz.prog 98 #[.func (.yield l) #[] #[],.pointer (some ⟨Bt,0,none⟩)] W fun e W'=>(∃ v,e=.returned v) /\
   ((∃ ys,ys=xs/\J ys W')∨(∃ pre,pre <+: xs/\Jx pre W')):=by
 obtain ⟨r0,rfl⟩:∃ r0:List UInt8,s=⟨r0.toArray⟩:=⟨s.data.toList,by cases s;simp⟩
 have hxs':xs.map (·.1)=Hm.recsF (r0.length+1) r0:=by rw [hxs];simp [Hm.recs]
 have hs':r0.length<=3000000000:=by simpa [ByteArray.size] using hs
 clear hxs hs
 refine callsIn_of_wp Tryz.func98 rfl trivial ?_ rfl
 simp only [Tryz.ntmps98,List.size_toArray,List.length_cons,List.length_nil,Nat.reduceAdd,Nat.reduceSub,Array.replicate_succ,Array.replicate_zero,List.push_toArray,List.append_toArray,List.nil_append,List.cons_append]
 gi_wp2
 gi_loopw [3] (fun rest wr=>∃ (pre more:List RecS) (r:List UInt8) (f:Nat),rest=.string ⟨r.toArray⟩/\r.length < f/\r.length<=3000000000/\xs=pre ++ more/\more.map (·.1)=Hm.recsF f r/\J pre wr) (fun rest _=>strLen rest)
 case atStart=>exact ⟨[],xs,r0,r0.length+1,rfl,by omega,hs',rfl,hxs',h0⟩
 case round=>
  obtain ⟨pre,more,r,f,rfl,hf,hr3,hx,hm,hJs⟩:=hrel
  have HR:Hid (∀ w,Calls Tryz.prog 99 #[.string ⟨r.toArray⟩] w fun e w'=>e=.returned (.tuple #[.agg (recV (Hm.readRec r)),.int .i64 (recN (Hm.readRec r))])/\Below w.heap.size w w'):=fun w=>by
   have:=readRecord_any ⟨r.toArray⟩ (by show r.toArray.size<=_;rw [List.size_toArray];omega) w
   rwa [show (⟨r.toArray⟩:ByteArray).data.toList=r by simp] at this
  obtain ⟨f',rfl⟩:∃ f',f=f'+1:=⟨f - 1,by omega⟩
  have HX:Hid (xs=pre ++ more):=hx
  have HA:Hid (∀ pre A B,J pre A->Below A.heap.size A B->J pre B):=hA
  have HJ:=show Hid _ from hJs
  unfold Hm.recsF at hm
  cases hq:Hm.readRec r with
  | none=>
   rw [hq] at HR hm
   have HM:Hid (more=[]):=List.map_eq_nil_iff.1 hm
   simp only [recV,recN] at HR
   clear hm hq hx hJs
   gi_wp2_with fail
   refine ⟨trivial,fun _=>by omega,?_⟩
   refine (callsIn_wide.2 (HR.out _)).mono ?_
   rintro z w' ⟨rfl,hb⟩
   have HB:Hid (Below wr.heap.size wr w'):=hb
   clear hb
   gi_wp2
   refine ⟨fun _ h=>(by cases h),?_⟩
   gi_wp2
   refine bodyPost_ret (results_none rfl _ _ _) rfl ?_
   exact ⟨⟨_,rfl⟩,.inl ⟨pre,by rw [HX.out,HM.out,List.append_nil],HA.out _ _ _ HJ.out (HB.out.alloc HB.out.size _)⟩⟩
  | some q=>
   obtain ⟨k,bs,len⟩:=q
   rw [hq] at HR hm
   obtain ⟨hlen,hbl,t,ht⟩:=Hm.readRec_some hq
   have hlr:len<=r.length:=by
    rw [ht,List.length_append,Hm.writeRec_length];omega
   have hlp:0 < len:=by omega
   have b0:((len:Int) == 0)=false:=beq_eq_false_iff_ne.2 (by omega)
   dsimp only at hm
   obtain ⟨x,more',hmx,hx1,hm2⟩:∃ x more',more=x :: more'/\x.1=(k,bs)/\more'.map (·.1)=Hm.recsF f' (r.drop len):=by
    cases more with
    | nil=>simp at hm
    | cons x more'=>
     rw [List.map_cons,List.cons.injEq] at hm
     exact ⟨x,more',rfl,hm.1,hm.2⟩
   have HM:Hid (more=x :: more'):=hmx
   have HM2:Hid (more'.map (·.1)=Hm.recsF f' (r.drop len)):=hm2
   simp only [recV,recN] at HR
   have hY':=fun W hJ=>hY pre x W hJ (by rw [hx,hmx];simp)
   have HY:=show Hid _ from hY'
   clear hm hq hx hJs hY' ht hlen hbl hmx hm2
   gi_wp2_with fail
   refine ⟨trivial,fun _=>by omega,?_⟩
   refine (callsIn_wide.2 (HR.out _)).mono ?_
   rintro z w' ⟨rfl,hb⟩
   have HB:Hid (Below wr.heap.size wr w'):=hb
   clear hb
   have hJ1:J pre (w'.alloc (.cells #[.int .u8 k.toNat,.string ⟨bs.toArray⟩] 121)):=HA.out _ _ _ HJ.out (HB.out.alloc HB.out.size _)
   obtain ⟨fn,tmps,assign,body,hy,hR⟩:=HY.out _ hJ1
   unfold encRec at hy
   rw [hx1] at hy
   dsimp only at hy
   clear hJ1
   gi_wp2
   refine ⟨fun _=>by omega,hR.mono ?_⟩
   rintro z W3 (⟨rfl,hJ3,_⟩ | ⟨rfl,hJx3⟩)
   ·gi_wp2
    go_roundw
    case rel=>exact ⟨pre ++ [x],more',r.drop len,f',by rw [<-ex_drop],by rw [List.length_drop];omega,by rw [List.length_drop];omega,by rw [HX.out,HM.out];simp,HM2.out,hJ3⟩
    case measure=>rw [ex_drop];simp [strLen,ByteArray.size];omega
   ·gi_wp2
    refine bodyPost_ret (results_none rfl _ _ _) rfl ?_
    exact ⟨⟨_,rfl⟩,.inr ⟨pre ++ [x],⟨more',by rw [HX.out,HM.out];simp⟩,hJx3⟩⟩
end Go.Proofs.YtdlhbmncbmconaaGreatDoor
namespace Go.Hm
theorem flatR_long:∀ rs:List Rec,5 * rs.length<=(flatR rs).length
 | []=>by simp
 | r :: rs=>by
  have:=flatR_long rs
  rw [flatR_cons,List.length_append,recB_length,List.length_cons]
  omega
theorem flatR_short:∀ rs:List Rec,SmallR rs->(flatR rs).length<=65541 * rs.length
 | [],_=>by simp [flatR_nil]
 | r :: rs,h=>by
  have:=flatR_short rs (fun q hq=>h q (by simp [hq]))
  have:=h r (by simp)
  rw [flatR_cons,List.length_append,recB_length,List.length_cons]
  omega
end Go.Hm
namespace Go.Proofs.YtdlhbmncbmconaaGreatDoor
open Go.RowKit Go.Shelf Go.Sort
attribute [local go_sem] Oper.semAt_some
def OpenI (w:World) (p room:Nat) (pre:List RecS) (W:World):Prop:=
 ∃ g rv wv,Hm.goes (Hm.Lg.fresh room) (pre.map (·.1))=some g/\Hm.Fine g room (pre.map (·.1))/\LogIn W p g rv wv/\(∀ k,rv.ownBlock=some k->p<=k)/\(∀ k,wv.ownBlock=some k->p<=k)/\W.heap[p+1]?=some (.cells #[.pointer (some ⟨p,0,none⟩)] 63 (0,0))/\Below p w W
def OpenX (w:World) (p room:Nat) (c:Code) (pre:List RecS) (W:World):Prop:=
 c=.exit 0/\∃ g rv wv pre' x,pre=pre' ++ [x]/\Hm.goes (Hm.Lg.fresh room) (pre'.map (·.1))=some g/\¬ (g.back x.1).2=true/\LogIn W p g rv wv/\(∀ k,rv.ownBlock=some k->p<=k)/\(∀ k,wv.ownBlock=some k->p<=k)/\W.heap[p+1]?=some (.cells #[.pointer (some ⟨p,0,none⟩)] 63 (0,0))/\Below p w W
theorem kept_row {W W':World} {row:Option Nat} (h:W.grownBy W' row):Hw.Kept (fun k=>some k=row) W W':=Hw.Kept.of_grown h
theorem LogIn.grown {W W':World} {p:Nat} {g:Hm.Lg} {rv wv:Value} {row:Option Nat} (h:LogIn W p g rv wv) (hg:W.grownBy W' row) (hr:∀ r,row=some r->∃ o:Obj,W.heap[r]?=some o/\o.isCells=false):LogIn W' p g rv wv:=by
 have no:∀ k cs t fr,W.heap[k]?=some (.cells cs t fr)->¬ some k=row:=fun k cs t fr hk e=>by
  obtain ⟨o,ho,hc⟩:=hr k e.symm
  rw [hk] at ho
  cases ho
  cases hc
 refine h.keep (kept_row hg) (no _ _ _ _ h.row) (fun k e=>?_) (fun k e=>?_)
 ·obtain ⟨cur,hc⟩:=Hw.ownsRow_cells h.recs e
  exact no _ _ _ _ hc
 ·obtain ⟨_,cur,hc⟩:=Hw.ownsFrom_cells h.wai e
  exact no _ _ _ _ hc
theorem row_kept {W W':World} {row:Option Nat} {k:Nat} {cs:Array Value} {t:TypeId} {fr:Nat × Nat} (h:W.heap[k]?=some (.cells cs t fr)) (hg:W.grownBy W' row) (hr:∀ r,row=some r->∃ o:Obj,W.heap[r]?=some o/\o.isCells=false):W'.heap[k]?=some (.cells cs t fr):=
 (hg.block k (Array.getElem?_eq_some_iff.1 h).1 (fun e=>by
  obtain ⟨o,ho,hc⟩:=hr k e.symm
  rw [h] at ho
  cases ho
  cases hc)).trans h
theorem subs:∀ {l:List Hm.Rec},(∀ r ∈ l,r.2.length < 65536)->∃ xs:List RecS,xs.map (·.1)=l
 | [],_=>⟨[],rfl⟩
 | r :: l,h=>by
  obtain ⟨xs,e⟩:=subs (l:=l) (fun q hq=>h q (by simp [hq]))
  exact ⟨⟨r,h r (by simp)⟩ :: xs,by rw [List.map_cons,e]⟩
theorem StepL.var {p:Nat} {rv wv rv' wv':Value} {g:Hm.Lg} {W W':World} {k:Nat} {cs:Array Value} (h:LogIn W p g rv wv) (hs:StepL p rv wv W rv' wv' W') (hk:W.heap[k]?=some (.cells cs 63 (0,0))):W'.heap[k]?=some (.cells cs 63 (0,0)):=
 (hs.kept.block k (Array.getElem?_eq_some_iff.1 hk).1 (fun e=>by
  rcases e with e | e | e
  ·exact ne_types hk h.row (by decide) e
  ·obtain ⟨cur,hc⟩:=Hw.ownsRow_cells h.recs e
   exact ne_types hk hc (by decide) rfl
  ·obtain ⟨_,cur,hc⟩:=Hw.ownsFrom_cells h.wai e
   exact ne_types hk hc (by decide) rfl)).trans hk
theorem below_grown {w W W':World} {p:Nat} {row:Option Nat} (h:Below p w W) (hg:W.grownBy W' row) (hr:∀ r,row=some r->p<=r) (hp:p<=W.heap.size):Below p w W':=
 h.trans ((kept_row hg).below (fun k _ e=>hr k e.symm) hp)
theorem own_OpenI (w:World) (p room B:Nat) (hB:p<=B):OwnFrom B (OpenI w p room):=fun _ _ _ _ ⟨g,rv,wv,h1,h2,h3,h4,h5,h6,h7⟩ hg hr=>
 ⟨g,rv,wv,h1,h2,h3.grown hg (fun r e=>(hr r e).2),h4,h5,row_kept h6 hg (fun r e=>(hr r e).2),below_grown h7 hg (fun r e=>Nat.le_trans hB (hr r e).1) (Nat.le_of_lt (Array.getElem?_eq_some_iff.1 h3.row).1)⟩
theorem own_OpenX (w:World) (p room B:Nat) (hB:p<=B) (c:Code):OwnFrom B (OpenX w p room c):=fun _ _ _ _ ⟨hc,g,rv,wv,pre',x,h0,h1,h2,h3,h4,h5,h6,h7⟩ hg hr=>
 ⟨hc,g,rv,wv,pre',x,h0,h1,h2,h3.grown hg (fun r e=>(hr r e).2),h4,h5,row_kept h6 hg (fun r e=>(hr r e).2),below_grown h7 hg (fun r e=>Nat.le_trans hB (hr r e).1) (Nat.le_of_lt (Array.getElem?_eq_some_iff.1 h3.row).1)⟩
theorem grown_of_below {A B:World} (h:Below A.heap.size A B):A.grownBy B none:=⟨h.os,h.tape,h.output,h.size,fun k hk _=>h.block k hk⟩
theorem StepL.keeps {p:Nat} {rv wv rv' wv':Value} {g:Hm.Lg} {W W':World} (h:LogIn W p g rv wv) (hs:StepL p rv wv W rv' wv' W') (B:Nat):KeepsFrom B W W':=
 ⟨hs.kept.size,fun k o _ hk ho=>(hs.kept.block k (Array.getElem?_eq_some_iff.1 hk).1 (fun e=>by
  rcases e with rfl | e | e
  ·rw [h.row] at hk;cases hk;cases ho
  ·obtain ⟨cur,hc⟩:=Hw.ownsRow_cells h.recs e
   rw [hc] at hk;cases hk;cases ho
  ·obtain ⟨_,cur,hc⟩:=Hw.ownsFrom_cells h.wai e
   rw [hc] at hk;cases hk;cases ho)).trans hk⟩
theorem OpenI.step {w W W':World} {p room:Nat} {pre:List RecS} {x:RecS} {g:Hm.Lg} {rv wv rv' wv':Value} (h1:Hm.goes (Hm.Lg.fresh room) (pre.map (·.1))=some g) (h2:Hm.Fine g room (pre.map (·.1))) (h3:LogIn W p g rv wv) (h4:∀ k,rv.ownBlock=some k->p<=k) (h5:∀ k,wv.ownBlock=some k->p<=k)
  (h7:Below p w W) (hb:(g.back x.1).2=true) (hl:LogIn W' p (g.back x.1).1 rv' wv') (hs:StepL p rv wv W rv' wv' W') (h8:W'.heap[p+1]?=some (.cells #[.pointer (some ⟨p,0,none⟩)] 63 (0,0))):OpenI w p room (pre ++ [x]) W':=by
 have hp:p < W.heap.size:=(Array.getElem?_eq_some_iff.1 h3.row).1
 refine ⟨(g.back x.1).1,rv',wv',?_,?_,hl,?_,?_,h8,?_⟩
 ·rw [List.map_append,List.map_cons,List.map_nil,Hm.goes_snoc _ _ _ x.1 h1,if_pos hb]
 ·rw [List.map_append,List.map_cons,List.map_nil]
  exact Hm.fine_back h2 hb x.2
 ·intro k e
  rcases hs.lr k e with e | e
  ·exact h4 k e
  ·omega
 ·intro k e
  rcases hs.lw k e with e | e
  ·exact h5 k e
  ·omega
 ·exact h7.trans (hs.kept.below (fun k _ e=>by
   rcases e with rfl | e | e
   ·exact Nat.le_refl _
   ·exact h4 k e
   ·exact h5 k e) (by omega))
def tmpsO (s:ByteArray) (room p B:Nat) (x:RecS):Array Value:=#[.string s,.int .i64 room,undef,undef,.pointer none,.int .i64 0,.pointer (some ⟨p+1,0,none⟩),.pointer (some ⟨B,0,none⟩),.int .i64 room,.bool false,.bool false,.int .i64 room,.bool false,.bool false,.int .i64 room,
 .agg #[.int .i64 room,.slice none 0 0,.int .i64 0,.slice none 0 0],.pointer (some ⟨p,0,none⟩),.string s,.func (.func 98) #[] #[.pointer (some ⟨p+1+1,0,none⟩)],.agg #[.int .u8 x.1.1.toNat,.string ⟨x.1.2.toArray⟩],undef,undef,undef,undef,undef]
def OpenA (s:ByteArray) (room p:Nat) (x:RecS) (a':Act) (W:World):Prop:=∃ B,a'={ tmps:=tmpsO s room p B x,defers:=[] }/\W.heap[B]?=some (.cells #[.int .u8 x.1.1.toNat,.string ⟨x.1.2.toArray⟩] 121 (0,0))
theorem own_OpenA (s:ByteArray) (room p:Nat) (x:RecS) (a':Act) (B:Nat):OwnFrom B (fun (_:Unit) W=>OpenA s room p x a' W):=fun _ _ _ _ ⟨b,h1,h2⟩ hg hr=>
 ⟨b,h1,(hg.block b (Array.getElem?_eq_some_iff.1 h2).1 (fun e=>by
  obtain ⟨_,o,ho,hc⟩:=hr b e.symm
  rw [h2] at ho
  cases ho
  cases hc)).trans h2⟩
set_option maxRecDepth 100000 in
set_option maxHeartbeats 2000000 in
theorem open_log (s:ByteArray) (hs:s.size<=1100000) (room:Nat) (h1:1<=room) (h2:room<=8) (w:World) (hT:Tabs w) :
  CallsIn Fence.wide 4 Tryz.prog 34 #[.string s,.int .i64 room] w fun e w'=>∃ p rv wv,e=.returned (.tuple #[.pointer (some ⟨p,0,none⟩),.int .i64 0])/\w.heap.size<=p/\LogIn w' p (Hm.opens s.data.toList room) rv wv/\Below w.heap.size w w'/\(∀ k,rv.ownBlock=some k->p<=k)/\(∀ k,wv.ownBlock=some k->p<=k):=by
 have hw:11<=w.heap.size:=hT.size
 have i1:¬ (room:Int) < 1:=by omega
 have i2:¬ 8 < (room:Int):=by omega
 refine callsIn_of_wp_marks Tryz.func34 rfl trivial ?_ rfl
 simp only [Tryz.ntmps34,List.size_toArray,List.length_cons,List.length_nil,Nat.reduceAdd,Nat.reduceSub,Array.replicate_succ,Array.replicate_zero,List.push_toArray,List.append_toArray,List.nil_append,List.cons_append]
 gi_wp2_with fail
 refine ⟨trivial,?_⟩
 refine (callsIn_wide.2 (recordsIn_any _ _)).mono ?_
 rintro e w' ⟨rfl,rfl⟩
 gi_wp2_with fail
 obtain ⟨W0,hW0⟩:∃ W0,(((w.alloc (.cells #[.int .i64 room,.slice none 0 0,.int .i64 0,.slice none 0 0] 116)).alloc (.cells #[.pointer (some ⟨w.heap.size,0,none⟩)] 63)).alloc (.cells #[.string s] 9))=W0:=⟨_,rfl⟩
 have hz:W0.heap.size=w.heap.size+3:=by subst hW0;simp
 have hB0:Below w.heap.size w W0:=by
  rw [<-hW0]
  exact (((Below.refl _ w).alloc (Nat.le_refl _) _).alloc (by simp) _).alloc (by simp;omega) _
 have r0:W0.heap[w.heap.size]?=some (.cells #[.int .i64 room,.slice none 0 0,.int .i64 0,.slice none 0 0] 116 (0,0)):=by
  rw [<-hW0]
  exact (heap_alloc_old _ _ (by simp;omega)).trans ((heap_alloc_old _ _ (by simp)).trans (heap_alloc_new _ _))
 have r1:W0.heap[w.heap.size+1]?=some (.cells #[.pointer (some ⟨w.heap.size,0,none⟩)] 63 (0,0)):=by
  rw [<-hW0]
  refine (heap_alloc_old _ _ (by simp)).trans ?_
  have:=heap_alloc_new (w.alloc (.cells #[.int .i64 room,.slice none 0 0,.int .i64 0,.slice none 0 0] 116)) (.cells #[.pointer (some ⟨w.heap.size,0,none⟩)] 63)
  rwa [World.size_alloc] at this
 have r2:W0.cell? ⟨w.heap.size+1+1,0,none⟩=some (.string s):=by subst hW0;go_simp
 rw [hW0]
 clear hW0
 have hsm:=(Hm.recs_text (s.data.toList.length+1) s.data.toList).1
 have htx:=(Hm.recs_text (s.data.toList.length+1) s.data.toList).2
 have hst:(Hm.flatR (Hm.recs s.data.toList)).length<=1100000:=by
  obtain ⟨t,ht⟩:=htx
  have:=congrArg List.length ht
  rw [List.length_append] at this
  have e:s.data.toList.length=s.size:=by rw [Hm.len]
  unfold Hm.recs
  omega
 obtain ⟨xs,hxs⟩:∃ xs:List RecS,xs.map (·.1)=Hm.recs s.data.toList:=subs hsm
 have hop:Hm.opens s.data.toList room=(Hm.Lg.fresh room).backs (xs.map (·.1)):=by rw [hxs];rfl
 rw [<-hxs] at hst
 have hseq:SeqStopsK Fence.wide (4 - 1) Tryz.prog 98 #[.pointer (some ⟨w.heap.size+1+1,0,none⟩)] encRec TrueK (fun ys=>ys=xs) (fun pre=>pre <+: xs) xs.length W0:=fun l J Jx W hW hJ _ hY h0=>
  records1_in (4 - 1) (by omega) l (w.heap.size+1+1) s (by omega) xs hxs J Jx (fun pre A B hj hb=>hJ pre A B none hj (grown_of_below hb) (fun r e=>by cases e)) hY W ((hW.cell (p:=⟨w.heap.size+1+1,0,none⟩) (by show w.heap.size+1+1 < _;omega)).trans r2) h0
 refine wpIn_rangeFunc_ownH rfl (by omega) (gf:=98) (lb:=#[.pointer (some ⟨w.heap.size+1+1,0,none⟩)]) rfl trivial (enters_of Tryz.func98 (by kernel_rfl) rfl) hseq (fun _ _=>trivial) (fun _ _ _ _ _ _ _ _=>trivial) (Below.refl _ _) (fun _=>rfl)
  (OpenI w w.heap.size room) (OpenX w w.heap.size room) (own_OpenI w _ room _ (by omega)) (fun c=>own_OpenX w _ room _ (by omega) c) ?start (OpenA s room w.heap.size) (fun x a'=>own_OpenA s room _ x a' _) ?assign ?body ?done ?stop
 case start=>
  exact ⟨Hm.Lg.fresh room,.slice none 0 0,.slice none 0 0,rfl,Hm.fine_fresh room,⟨r0,World.ownsRow_nil _ _ _ _,Hw.ownsFrom_nil _ _ _,hw⟩,(fun k e=>by cases e),(fun k e=>by cases e),r1,hB0⟩
 case assign=>
  intro l pre x W K hI hK
  unfold encRec
  gi_wp2
  exact hK _ _ ⟨by simp,fun k o _ hk _=>(heap_alloc_old _ _ (Array.getElem?_eq_some_iff.1 hk).1).trans hk⟩ trivial (own_OpenI w _ room w.heap.size (Nat.le_refl _) pre W _ none hI (grown_of_below ((Below.refl _ _).alloc (Nat.le_refl _) _)) (fun r e=>by cases e)) ⟨W.heap.size,rfl,heap_alloc_new _ _⟩
 case body=>
  intro l pre x a' W hl hL hI hA hlt
  obtain ⟨g,rv,wv,g1,g2,g3,g4,g5,g6,g7⟩:=hI
  obtain ⟨B,rfl,hrow⟩:=hA
  unfold tmpsO
  have k6:W.cell? ⟨w.heap.size+1,0,none⟩=some (.pointer (some ⟨w.heap.size,0,none⟩)):=by simp [World.cell?,g6]
  have k0:W.cell? ⟨B,0,none⟩=some (.int .u8 x.1.1.toNat):=by simp [World.cell?,hrow]
  have k1:W.cell? ⟨B,1,none⟩=some (.string ⟨x.1.2.toArray⟩):=by simp [World.cell?,hrow]
  have hpl:pre.length<=220000:=by
   have:=Hm.flatR_long (xs.map (·.1))
   rw [List.length_map] at this
   omega
  have hrl:g.records.length<=800000000000:=by
   rw [g2.text]
   have:=Hm.flatR_short (pre.map (·.1)) (fun q hq=>by
    obtain ⟨y,_,rfl⟩:=List.mem_map.1 hq
    exact y.2)
   rw [List.length_map] at this
   omega
  have hgf:LgFine g:=by
   have h8:=g2.most
   have h9:=g2.room
   unfold Hm.Lg.messages at h8
   exact ⟨hrl,by omega,by omega,by omega⟩
  have TB:=takeBack_in w.heap.size g rv wv W (hT.next g7) g3 hgf x.1.1 x.1.2 (by have:=x.2;omega)
  have HTB:Hid (Calls Tryz.prog 63 #[.pointer (some ⟨w.heap.size,0,none⟩),.agg #[.int .u8 x.1.1.toNat,.string ⟨x.1.2.toArray⟩]] W fun e w'=>e=.returned (.bool (g.back x.1).2)/\∃ rv' wv',LogIn w' w.heap.size (g.back x.1).1 rv' wv'/\StepL w.heap.size rv wv W rv' wv' w'):=TB
  clear TB hrl hpl hgf
  by_cases hb:(g.back x.1).2=true
  ·rw [hb] at HTB
   gi_wp2_with fail
   refine ⟨trivial,?_⟩
   refine CallsIn.mono (show CallsIn (Fence.wide.inRound l) 1 _ _ _ _ _ from callsIn_wide.2 HTB.out) ?_
   rintro e W3 ⟨rfl,rv3,wv3,hl3,hs3⟩
   gi_wp2
   exact ⟨StepL.keeps g3 hs3 _,trivial,OpenI.step g1 g2 g3 g4 g5 g7 hb hl3 hs3 (StepL.var g3 hs3 g6)⟩
  ·have hb':(g.back x.1).2=false:=by simpa using hb
   rw [hb'] at HTB
   gi_wp2_with fail
   refine ⟨trivial,?_⟩
   refine CallsIn.mono (show CallsIn (Fence.wide.inRound l) 1 _ _ _ _ _ from callsIn_wide.2 HTB.out) ?_
   rintro e W3 ⟨rfl,rv3,wv3,hl3,hs3⟩
   gi_wp2
   rw [Hm.back_no hb] at hl3
   have hp:w.heap.size < W.heap.size:=(Array.getElem?_eq_some_iff.1 g3.row).1
   refine ⟨StepL.keeps g3 hs3 _,rfl,g,rv3,wv3,pre,x,rfl,g1,hb,hl3,(fun k e=>by rcases hs3.lr k e with e | e;exact g4 k e;omega),(fun k e=>by rcases hs3.lw k e with e | e;exact g5 k e;omega),StepL.var g3 hs3 g6,?_⟩
   exact g7.trans (hs3.kept.below (fun k _ e=>by
    rcases e with rfl | e | e
    ·exact Nat.le_refl _
    ·exact g4 k e
    ·exact g5 k e) (by omega))
 case done=>
  rintro D ys W hD rfl ⟨g,rv,wv,g1,g2,g3,g4,g5,g6,g7⟩ hK
  have hg:Hm.opens s.data.toList room=g:=by
   have:=Hm.goes_backs _ _ _ [] g1
   rw [List.append_nil] at this
   rw [hop,this]
   rfl
  have HGE:Hid (Hm.opens s.data.toList room=g):=hg
  have k1:W.cell? ⟨w.heap.size+1,0,none⟩=some (.pointer (some ⟨w.heap.size,0,none⟩)):=by simp [World.cell?,g6]
  clear hg hop hst hseq
  gi_wp2
  have hk1:Hw.Kept (fun k=>k=D) W (W.putObj D (.deferred none)):=kept_putObj _
  have hDn:∀ k cs t fr,W.heap[k]?=some (.cells cs t fr)->¬ k=D:=fun k cs t fr hk e=>by
   rw [e,hK] at hk
   cases hk
  have hb2:Below w.heap.size w (W.putObj D (.deferred none)):=g7.trans (hk1.below (fun k _ e=>by omega) (Nat.le_of_lt (Array.getElem?_eq_some_iff.1 g3.row).1))
  refine ⟨by simp,.inl ⟨_,_,rfl,run_takeDeferred hK,?_⟩⟩
  refine ⟨.tuple #[.pointer (some ⟨w.heap.size,0,none⟩),.int .i64 0],by simp [results,Tryz.results34,go_sem],?_⟩
  exact ⟨w.heap.size,rv,wv,rfl,Nat.le_refl _,(by rw [HGE.out];exact g3.keep hk1 (hDn _ _ _ _ g3.row) (fun k e=>by obtain ⟨cur,hc⟩:=Hw.ownsRow_cells g3.recs e;exact hDn _ _ _ _ hc) (fun k e=>by obtain ⟨_,cur,hc⟩:=Hw.ownsFrom_cells g3.wai e;exact hDn _ _ _ _ hc)),hb2,g4,g5⟩
 case stop=>
  rintro D c pre W hD ⟨more,hpre⟩ ⟨rfl,g,rv,wv,pre',x,rfl,g1,g2,g3,g4,g5,g6,g7⟩ hK
  have hg:Hm.opens s.data.toList room=g:=by
   have:=Hm.goes_backs _ _ _ (x.1 :: more.map (·.1)) g1
   rw [hop,<-hpre,List.map_append,List.map_append,List.append_assoc]
   refine this.trans ?_
   unfold Hm.Lg.backs
   rw [if_neg g2]
  have HGE:Hid (Hm.opens s.data.toList room=g):=hg
  have k1:W.cell? ⟨w.heap.size+1,0,none⟩=some (.pointer (some ⟨w.heap.size,0,none⟩)):=by simp [World.cell?,g6]
  clear hg hop hst hseq
  gi_wp2
  have hk1:Hw.Kept (fun k=>k=D) W (W.putObj D (.deferred none)):=kept_putObj _
  have hDn:∀ k cs t fr,W.heap[k]?=some (.cells cs t fr)->¬ k=D:=fun k cs t fr hk e=>by
   rw [e,hK] at hk
   cases hk
  have hb2:Below w.heap.size w (W.putObj D (.deferred none)):=g7.trans (hk1.below (fun k _ e=>by omega) (Nat.le_of_lt (Array.getElem?_eq_some_iff.1 g3.row).1))
  refine ⟨by simp,.inl ⟨_,_,rfl,run_takeDeferred hK,?_⟩⟩
  refine ⟨.tuple #[.pointer (some ⟨w.heap.size,0,none⟩),.int .i64 0],by simp [results,Tryz.results34,go_sem],?_⟩
  exact ⟨w.heap.size,rv,wv,rfl,Nat.le_refl _,(by rw [HGE.out];exact g3.keep hk1 (hDn _ _ _ _ g3.row) (fun k e=>by obtain ⟨cur,hc⟩:=Hw.ownsRow_cells g3.recs e;exact hDn _ _ _ _ hc) (fun k e=>by obtain ⟨_,cur,hc⟩:=Hw.ownsFrom_cells g3.wai e;exact hDn _ _ _ _ hc)),hb2,g4,g5⟩
theorem Open_own (s:ByteArray) (hs:s.size<=1100000) (room:Nat) (h1:1<=room) (h2:room<=8) (w:World) (hT:Tabs w) :
  Calls Tryz.prog 34 #[.string s,.int .i64 room] w fun e w'=>∃ p rv wv,e=.returned (.tuple #[.pointer (some ⟨p,0,none⟩),.int .i64 0])/\w.heap.size<=p/\LogIn w' p (Hm.opens s.data.toList room) rv wv/\Below w.heap.size w w'/\(∀ k,rv.ownBlock=some k->p<=k)/\(∀ k,wv.ownBlock=some k->p<=k):=callsIn_wide.1 (open_log s hs room h1 h2 w hT)
end Go.Proofs.YtdlhbmncbmconaaGreatDoor

/- Pressed by program out of Bh Bi. -/
import Derived.Test.YtdlhbmncbmconaaGreatDoorL02
import Derived.Test.YtdlhbmncbmconaaGreatDoorL00
import Derived.Test.YtdlhbmncbmconaaGreatDoorL04
import Derived.Test.YtdlhbmncbmconaaGreatDoorL06
import Derived.Test.YtdlhbmncbmconaaGreatDoorL09
import Derived.Laws.IdiomStrings
import Derived.BigRegionIn
namespace Go.Proofs.YtdlhbmncbmconaaGreatDoor
open Go.RowKit
def FrV (f:Hm.Frs) (v:Value):Array Value:=#[.int .i64 f.bound,.int .i64 f.stage,.int .i64 f.head,.int .i64 f.number,v]
structure FramesAt (w:World) (p:Nat) (f:Hm.Frs) (v:Value):Prop where
 row:w.heap[p]?=some (.cells (FrV f v) 100 (0,0))
 own:w.ownsRow 11 5 1 v f.own.length (f.own.map fun b=>Value.int .u8 b.toNat)
 ne:v.ownBlock ≠ some p
 lo:11<=p
theorem own_slice {w:World} {base e n:Nat} {v:Value} {xs:List Value} (h:w.ownsRow base e 1 v n xs) (hn:0 < n) :
  ∃ g cap cur,v=.slice (some ⟨g,0,none⟩) n cap/\base<=g/\w.heap[g]?=some (.cells cur e (0,0))/\n<=cap/\cap<=maxLen/\cur.size=cap/\cur.toList.take n=xs:=by
 rcases h.2 with ⟨_,h0⟩ | ⟨g,cap,cur,h1,h2,h3,h4,h5,h6,h7⟩
 ·omega
 ·exact ⟨g,cap,cur,h1,h2,h3,h4,h5,by simpa using h6,by simpa using h7⟩
theorem own_string {w:World} {base g cap:Nat} {l:List UInt8} (h:w.ownsRow base 5 1 (.slice (some ⟨g,0,none⟩) l.length cap) l.length (l.map fun b=>Value.int .u8 b.toNat)) :
  (convert 72 9 (.slice (some ⟨g,0,none⟩) l.length cap)).run Tryz.prog w=.ok (.string ⟨l.toArray⟩) w:=
 run_convert_bytes_back w 72 9 5 ⟨g,0,none⟩ cap l Tryz.underlying72 Tryz.underlying5 Tryz.underlying9 (fun j hj=>h.cells rfl j _ (by simp [hj]))
end Go.Proofs.YtdlhbmncbmconaaGreatDoor
namespace Go.Proofs.YtdlhbmncbmconaaGreatDoor
open Go.RowKit
theorem size_bytes:(Tryz.prog.info? 72).map (·.size)=some 1:=by kernel_rfl
end Go.Proofs.YtdlhbmncbmconaaGreatDoor
namespace Go.Proofs.YtdlhbmncbmconaaGreatDoor
open Go.RowKit Go.Sort
theorem info_u8:(Tryz.prog.info? 5).map (fun i=>(i.zero,i.size,i.bytes))=some (some (.int .u8 0),1,1):=by kernel_rfl
theorem own_form {w:World} {base e n:Nat} {v:Value} {xs:List Value} (h:w.ownsRow base e 1 v n xs):∃ a cap,v=.slice a n cap:=by
 rcases h.2 with ⟨h0,h1⟩ | ⟨g,cap,cur,h1,_⟩
 ·exact ⟨none,0,by rw [h0,h1]⟩
 ·exact ⟨_,_,h1⟩
end Go.Proofs.YtdlhbmncbmconaaGreatDoor
namespace Go.Proofs.YtdlhbmncbmconaaGreatDoor
open Go.RowKit Go.Shelf Go.Sort
attribute [local go_sem] Oper.semAt_some
theorem ne_types {w:World} {a b:Nat} {c c':Array Value} {t t':TypeId} {fr fr':Nat × Nat} (h:w.heap[a]?=some (.cells c t fr)) (h':w.heap[b]?=some (.cells c' t' fr')) (ht:t ≠ t'):a ≠ b:=by
 intro e
 subst e
 rw [h] at h'
 cases h'
 exact ht rfl
theorem kept_putObj {W:World} {l:Nat} (o':Obj):Hw.Kept (fun k=>k=l) W (W.putObj l o'):=
 (Hw.Kept.of_grown (grownBy_putObj' W l o')).mono (fun i _ e=>by cases e;rfl)
theorem put_setCell {w:World} {g i:Nat} {t:TypeId} {old:Array Value} (v:Value) (hg:w.heap[g]?=some (.cells old t (0,0))):Hw.Put w g t (old.setIfInBounds i v) (w.setCell ⟨g,i,none⟩ v):=by
 rw [setCell_eq_setRow w g i old t (0,0) v hg]
 exact Hw.put_setRow hg _
theorem own_base {w:World} {base base':Nat} {e:TypeId} {size:Nat} {v:Value} {n:Nat} {xs:List Value} (h:w.ownsRow base e size v n xs) (hb:base'<=base):w.ownsRow base' e size v n xs:=
 ⟨h.1,h.2.imp id (fun ⟨g,cap,cur,h1,h2,h3⟩=>⟨g,cap,cur,h1,Nat.le_trans hb h2,h3⟩)⟩
theorem FramesAt.keep {p:Nat} {f:Hm.Frs} {v:Value} {A B:World} {S:Nat->Prop} (h:FramesAt A p f v) (hk:Hw.Kept S A B) (h1:¬ S p) (h2:∀ k,v.ownBlock=some k->¬ S k):FramesAt B p f v:=
 ⟨(hk.block _ (Array.getElem?_eq_some_iff.1 h.row).1 h1).trans h.row,Hw.ownsRow_keptS h.own hk h2,h.ne,h.lo⟩
end Go.Proofs.YtdlhbmncbmconaaGreatDoor
namespace Go.Proofs.YtdlhbmncbmconaaGreatDoor
open Go.RowKit Go.Sort
attribute [local go_sem] alloc_drewN setCell_drewN
theorem NewFrames_any (n:Nat) (w:World) (hw:11<=w.heap.size) (h1:1<=n) (h2:n<=200) :
  Calls Tryz.prog 27 #[.int .i64 n] w fun e w'=>e=.returned (.tuple #[.pointer (some ⟨w.heap.size,0,none⟩),.int .i64 0])/\FramesAt w' w.heap.size (Hm.Frs.fresh n) (.slice none 0 0)/\Below w.heap.size w w':=by
 have i1:¬ (n:Int) < 1:=by omega
 have i2:¬ 200 < (n:Int):=by omega
 go_enter Tryz.func27,Tryz.ntmps27
 go_wp2
 refine bodyPost_ret (results_tmp2 rfl _ _ _) rfl ?_
 exact ⟨rfl,⟨heap_alloc_new _ _,World.ownsRow_nil _ _ _ _,by simp [Value.ownBlock],hw⟩,(Below.refl _ _).alloc (Nat.le_refl _) _⟩
end Go.Proofs.YtdlhbmncbmconaaGreatDoor
namespace Go.Proofs.YtdlhbmncbmconaaGreatDoor
open Go.RowKit Go.Sort
attribute [local go_sem] alloc_drewN setCell_drewN
def sevCells:Array Value:=(Hm.severityNames.map fun l=>Value.string ⟨l.toArray⟩).toArray
theorem size_sevs:(Tryz.prog.info? 243).map (·.size)=some 8:=by kernel_rfl
theorem index_sev (k:Nat) (hk:k < 8) (w:World):(Instr.index 243 (.agg sevCells) (.int .i64 k)).run Tryz.prog w=.ok (.string ⟨(Hm.severityNames.getD k []).toArray⟩) w:=by
 rcases (by omega:k=0∨k=1∨k=2∨k=3∨k=4∨k=5∨k=6∨k=7) with h | h | h | h | h | h | h | h<;>subst h<;>kernel_rfl
theorem severityNumber_any (s:ByteArray) (w:World) (hT:Tabs w) :
  Calls Tryz.prog 146 #[.string s] w fun e w'=>e=.returned (.tuple #[.int .i64 (Hm.findFrom s.data.toList Hm.severityNames 0 - 1:Nat),.bool (Hm.findFrom s.data.toList Hm.severityNames 0 != 0)])/\w'=w:=by
 obtain ⟨t,fr,hrow⟩:=hT.sn
 have HR:Hid (w.heap[4]?=some (.cells sevCells t fr)):=hrow
 clear hrow hT
 obtain ⟨C,hC⟩:∃ C,C=sevCells:=⟨_,rfl⟩
 have HI:Hid (∀ (k:Nat),k < 8->∀ w:World,(Instr.index 243 (.agg C) (.int .i64 k)).run Tryz.prog w=.ok (.string ⟨(Hm.severityNames.getD k []).toArray⟩) w):=by
  show ∀ (k:Nat),_
  rw [hC];exact index_sev
 have HC8:Hid (C.size=8):=by show _=_;rw [hC];rfl
 rw [<-hC] at HR
 clear hC
 go_enter Tryz.func146,Tryz.ntmps146
 go_wp2_with (refine wpList_load_row rfl _ _ rfl 4 rfl _ _ _ _ HR.out Tryz.underlying243 rfl (by rw [HC8.out];exact size_sevs) ?_)
 go_loopw [7] (fun i wr=>∃ k:Nat,k<=8/\i=.int .i64 k/\Hm.findFrom s.data.toList Hm.severityNames 0=Hm.findFrom s.data.toList (Hm.severityNames.drop k) k/\wr=w) (fun i _=>8 - (intOf i).toNat)
 case atStart=>exact ⟨0,by omega,rfl,rfl,rfl⟩
 case round=>
  obtain ⟨k,hk,rfl,hm,rfl⟩:=hrel
  have HM:Hid (Hm.findFrom s.data.toList Hm.severityNames 0=Hm.findFrom s.data.toList (Hm.severityNames.drop k) k):=hm
  clear hm
  by_cases hlt:k < 8
  ·have hix:=HI.out k hlt
   have hd:Hm.severityNames.drop k=Hm.severityNames.getD k [] :: Hm.severityNames.drop (k+1):=by
    rw [List.drop_eq_getElem_cons (by simpa [Hm.severityNames] using hlt),List.getD_eq_getElem?_getD,List.getElem?_eq_getElem (by simpa [Hm.severityNames] using hlt)]
    rfl
   obtain ⟨m,hmm⟩:∃ m,Hm.severityNames.getD k []=m:=⟨_,rfl⟩
   rw [hmm] at hix hd
   by_cases he:m=s.data.toList
   ·have HF:Hid (Hm.findFrom s.data.toList Hm.severityNames 0=k+1):=by show _=_;rw [HM.out,hd,Hm.findFrom,if_pos he]
    have bh:(m == s.toList)=true:=by rw [Lib.toList_data];simpa using he
    clear he hd hmm
    go_wp2
    go_ret2
    exact ⟨by rw [HF.out];rfl,rfl⟩
   ·have HF:Hid (Hm.findFrom s.data.toList Hm.severityNames 0=Hm.findFrom s.data.toList (Hm.severityNames.drop (k+1)) (k+1)):=by show _=_;rw [HM.out,hd,Hm.findFrom,if_neg he]
    have bh:(m == s.toList)=false:=by rw [Lib.toList_data];simpa using he
    clear he hd hmm
    go_wp2
    go_roundw
    case rel=>exact ⟨k+1,by omega,int_eq (by simp),HF.out,trivial⟩
    case measure=>simp [intOf];omega
  ·have HF:Hid (Hm.findFrom s.data.toList Hm.severityNames 0=0):=by
    show _=_
    rw [HM.out,List.drop_of_length_le (by simp [Hm.severityNames];omega),Hm.findFrom]
   go_wp2
   go_ret2
   exact ⟨by rw [HF.out];rfl,rfl⟩
end Go.Proofs.YtdlhbmncbmconaaGreatDoor
namespace Go.Hm
def facName (k:Nat):List UInt8:=if k < 16 then ownNames.getD k [] else [108,111,99,97,108] ++ Lib.decDigits (k - 16)
def facNames:List (List UInt8):=(List.range 24).map facName
end Go.Hm
namespace Go.Proofs.YtdlhbmncbmconaaGreatDoor
open Go.RowKit Go.Sort
attribute [local go_sem] alloc_drewN setCell_drewN
theorem own_cell {w:World} (hT:Tabs w) (k:Nat) (hk:k < 16):w.cell? ⟨8,k,none⟩=some (.string ⟨(Hm.ownNames.getD k []).toArray⟩):=by
 obtain ⟨t,fr,hrow⟩:=hT.on
 rcases (by omega:k=0∨k=1∨k=2∨k=3∨k=4∨k=5∨k=6∨k=7∨k=8∨k=9∨k=10∨k=11∨k=12∨k=13∨k=14∨k=15) with h | h | h | h | h | h | h | h | h | h | h | h | h | h | h | h<;>subst h<;>exact cell_of_row _ _ _ _ _ _ hrow
theorem facilityName_any (k:Nat) (hk:k < 24) (w:World) (hT:Tabs w) :
  Calls Tryz.prog 187 #[.int .i64 k] w fun e w'=>e=.returned (.string ⟨(Hm.facName k).toArray⟩)/\Below w.heap.size w w':=by
 by_cases h:k < 16
 ·have hc:=own_cell hT k h
  have HF:Hid (Hm.facName k=Hm.ownNames.getD k []):=by show _=_;unfold Hm.facName;rw [if_pos h]
  have hi:(k:Int) < 16:=by omega
  generalize Hm.ownNames.getD k []=N at hc HF
  clear h
  go_enter Tryz.func187,Tryz.ntmps187
  go_wp2
  go_ret
  exact ⟨by rw [HF.out];rfl,Below.refl _ _⟩
 ·have HF:Hid (Hm.facName k=[108,111,99,97,108] ++ Lib.decDigits (k - 16)):=by show _=_;unfold Hm.facName;rw [if_neg h]
  have hi:¬ (k:Int) < 16:=by omega
  have HI:Hid (∀ w,Tabs w->Calls Tryz.prog 48 #[.int .i64 ((k:Int) - 16)] w fun e w'=>e=.returned (.string ⟨(Lib.decDigits (k - 16)).toArray⟩)/\Below w.heap.size w w'):=fun w hT=>by
   have:=itoa_any ((k:Int) - 16) w (by omega) (by omega) hT
   rwa [show ((k:Int) - 16).toNat=k - 16 by omega] at this
  have hl:(Lib.decDigits (k - 16)).length<=3:=dd_len3 (by omega)
  generalize Lib.decDigits (k - 16)=D at HF HI hl
  clear h
  go_enter Tryz.func187,Tryz.ntmps187
  go_wp2_with fail
  refine (HI.out _ hT).mono ?_
  rintro e w1 ⟨rfl,hb⟩
  go_wp2
  go_ret
  refine ⟨?_,hb⟩
  rw [HF.out,<-app_mk]
  rfl
theorem fac_drop (k:Nat) (h:k < 24):Hm.facNames.drop k=Hm.facName k :: Hm.facNames.drop (k+1):=by
 have hl:k < Hm.facNames.length:=by unfold Hm.facNames;rw [List.length_map,List.length_range];exact h
 rw [List.drop_eq_getElem_cons hl]
 have he:Hm.facNames[k]'hl=Hm.facName ((List.range 24)[k]'(by simpa using h)):=List.getElem_map _
 rw [he,List.getElem_range]
theorem facilityNumber_any (s:ByteArray) (w:World) (hT:Tabs w) :
  Calls Tryz.prog 145 #[.string s] w fun e w'=>e=.returned (.tuple #[.int .i64 (Hm.findFrom s.data.toList Hm.facNames 0 - 1:Nat),.bool (Hm.findFrom s.data.toList Hm.facNames 0 != 0)])/\Below w.heap.size w w':=by
 go_enter Tryz.func145,Tryz.ntmps145
 go_wp2_with fail
 go_loopw [5] (fun i wr=>∃ k:Nat,k<=24/\i=.int .i64 k/\Hm.findFrom s.data.toList Hm.facNames 0=Hm.findFrom s.data.toList (Hm.facNames.drop k) k/\Below w.heap.size w wr) (fun i _=>24 - (intOf i).toNat)
 case atStart=>exact ⟨0,by omega,rfl,rfl,Below.refl _ _⟩
 case round=>
  obtain ⟨k,hk,rfl,hm,hBr⟩:=hrel
  have HM:Hid (Hm.findFrom s.data.toList Hm.facNames 0=Hm.findFrom s.data.toList (Hm.facNames.drop k) k):=hm
  have HB:Hid (Below w.heap.size w wr):=hBr
  clear hm hBr
  by_cases hlt:k < 24
  ·have hd:=fac_drop k hlt
   have HN:Hid (∀ w,Tabs w->Calls Tryz.prog 187 #[.int .i64 k] w fun e w'=>e=.returned (.string ⟨(Hm.facName k).toArray⟩)/\Below w.heap.size w w'):=fun w hT=>facilityName_any k hlt w hT
   generalize Hm.facName k=m at hd HN
   by_cases he:m=s.data.toList
   ·have HF:Hid (Hm.findFrom s.data.toList Hm.facNames 0=k+1):=by show _=_;rw [HM.out,hd,Hm.findFrom,if_pos he]
    have bh:(m == s.toList)=true:=by rw [Lib.toList_data];simpa using he
    clear he hd
    go_wp2_with fail
    refine (HN.out _ (hT.next HB.out)).mono ?_
    rintro e w1 ⟨rfl,hb⟩
    go_wp2
    go_ret2
    exact ⟨by rw [HF.out];rfl,Below.next HB.out (Nat.le_refl _) hb⟩
   ·have HF:Hid (Hm.findFrom s.data.toList Hm.facNames 0=Hm.findFrom s.data.toList (Hm.facNames.drop (k+1)) (k+1)):=by show _=_;rw [HM.out,hd,Hm.findFrom,if_neg he]
    have bh:(m == s.toList)=false:=by rw [Lib.toList_data];simpa using he
    clear he hd
    go_wp2_with fail
    refine (HN.out _ (hT.next HB.out)).mono ?_
    rintro e w1 ⟨rfl,hb⟩
    go_wp2
    go_roundw
    case rel=>exact ⟨k+1,by omega,int_eq (by simp),HF.out,Below.next HB.out (Nat.le_refl _) hb⟩
    case measure=>simp [intOf];omega
  ·have HF:Hid (Hm.findFrom s.data.toList Hm.facNames 0=0):=by
    show _=_
    rw [HM.out,List.drop_of_length_le (by unfold Hm.facNames;rw [List.length_map,List.length_range];omega),Hm.findFrom]
   go_wp2
   go_ret2
   exact ⟨by rw [HF.out];rfl,HB.out⟩
end Go.Proofs.YtdlhbmncbmconaaGreatDoor
namespace Go.Hm
theorem findFrom_most (l:List UInt8) (ns:List (List UInt8)) (k:Nat):findFrom l ns k<=k+ns.length:=by
 induction ns generalizing k with
 | nil=>exact Nat.zero_le _
 | cons m ms ih=>
  unfold findFrom
  split
  ·rw [List.length_cons];omega
  ·have:=ih (k+1)
   rw [List.length_cons];omega
def sevBits (l:List UInt8):Nat:=
 if l=[42] then 255 else
 if findFrom (Lib.trimPrefix l [61]) severityNames 0=0 then 0 else
 if Lib.hasPrefix l [61]=true then 2 ^ (findFrom (Lib.trimPrefix l [61]) severityNames 0 - 1) else 2 ^ findFrom (Lib.trimPrefix l [61]) severityNames 0 - 1
end Go.Hm
namespace Go.Proofs.YtdlhbmncbmconaaGreatDoor
open Go.RowKit Go.Sort
attribute [local go_sem] alloc_drewN setCell_drewN
theorem readSeverities_any (s:ByteArray) (w:World) (hT:Tabs w) :
  Calls Tryz.prog 97 #[.string s] w fun e w'=>e=.returned (.int .u32 (Hm.sevBits s.data.toList))/\w'=w:=by
 by_cases h0:s.data.toList=[42]
 ·have HF:Hid (Hm.sevBits s.data.toList=255):=by show _=_;unfold Hm.sevBits;rw [if_pos h0]
  have b0:s.toList=[42]:=by rw [Lib.toList_data];exact h0
  clear h0
  go_enter Tryz.func97,Tryz.ntmps97
  go_wp2
  go_ret
  exact ⟨by rw [HF.out];rfl,rfl⟩
 ·have b0:(s.toList == [42])=false:=by rw [Lib.toList_data];simpa using h0
  have b0':¬ s.toList=[42]:=by rw [Lib.toList_data];exact h0
  have HC:Hid (∀ w,Calls Tryz.prog 104 #[.string s,.string ⟨#[61]⟩] w fun e w'=>e=.returned (.tuple #[.string ⟨(Lib.trimPrefix s.data.toList [61]).toArray⟩,.bool (Lib.hasPrefix s.data.toList [61])])/\w'=w):=fun w=>Tryz.strings_CutPrefix s ⟨#[61]⟩ w
  have HN:Hid (∀ w,Tabs w->Calls Tryz.prog 146 #[.string ⟨(Lib.trimPrefix s.data.toList [61]).toArray⟩] w fun e w'=>e=.returned (.tuple #[.int .i64 (Hm.findFrom (Lib.trimPrefix s.data.toList [61]) Hm.severityNames 0 - 1:Nat),.bool (Hm.findFrom (Lib.trimPrefix s.data.toList [61]) Hm.severityNames 0 != 0)])/\w'=w):=fun w hT=>severityNumber_any ⟨_⟩ w hT
  have HF:Hid (Hm.sevBits s.data.toList=if Hm.findFrom (Lib.trimPrefix s.data.toList [61]) Hm.severityNames 0=0 then 0 else if Lib.hasPrefix s.data.toList [61]=true then 2 ^ (Hm.findFrom (Lib.trimPrefix s.data.toList [61]) Hm.severityNames 0 - 1) else 2 ^ Hm.findFrom (Lib.trimPrefix s.data.toList [61]) Hm.severityNames 0 - 1):=by
   show _=_
   rw [Hm.sevBits,if_neg h0]
  have hle:=Hm.findFrom_most (Lib.trimPrefix s.data.toList [61]) Hm.severityNames 0
  rw [show Hm.severityNames.length=8 from rfl] at hle
  generalize Hm.findFrom (Lib.trimPrefix s.data.toList [61]) Hm.severityNames 0=n at HN HF hle
  generalize Lib.trimPrefix s.data.toList [61]=nm at HC HN
  generalize Lib.hasPrefix s.data.toList [61]=al at HC HF
  clear h0
  rcases (by omega:n=0∨n=1∨n=2∨n=3∨n=4∨n=5∨n=6∨n=7∨n=8) with h | h | h | h | h | h | h | h | h<;>subst h<;>cases al<;>(
   go_enter Tryz.func97,Tryz.ntmps97
   go_wp2_with fail
   refine (HC.out _).mono ?_
   rintro e w1 ⟨rfl,rfl⟩
   go_wp2_with fail
   refine (HN.out _ hT).mono ?_
   rintro e w2 ⟨rfl,rfl⟩
   go_wp2
   go_ret
   exact ⟨by rw [HF.out];rfl,rfl⟩)
end Go.Proofs.YtdlhbmncbmconaaGreatDoor
namespace Go.Proofs.YtdlhbmncbmconaaGreatDoor
open Go.RowKit Go.Sort
attribute [local go_sem] alloc_drewN setCell_drewN
theorem wraps_u32 (n:Int) (h₀:0<=n) (h₁:n < 2 ^ 32):IntKind.u32.wrap n=n:=by rw [IntKind.wrap_u32];omega
end Go.Proofs.YtdlhbmncbmconaaGreatDoor
namespace Go.Hm
def facFold:List (List UInt8)->Nat->Nat
 | [],b=>b
 | n :: ns,b=>if findFrom n facNames 0=0 then 0 else facFold ns (b ||| 2 ^ (findFrom n facNames 0 - 1))
end Go.Hm
namespace Go.Proofs.YtdlhbmncbmconaaGreatDoor
open Go.RowKit Go.Sort
attribute [local go_sem] alloc_drewN setCell_drewN
def namesOf (s:ByteArray):List ByteArray:=Lib.splitB ⟨#[44]⟩ 0 (Lib.countB s ⟨#[44]⟩) s
theorem readFacilities_any (s:ByteArray) (w:World) (hT:Tabs w) (hs:s.size<=4000000000) (h0:¬ s.data.toList=[42]) (hl:(namesOf s).length=Lib.countB s ⟨#[44]⟩+1) (hn:(namesOf s).length<=4000000000) :
  Calls Tryz.prog 96 #[.string s] w fun e w'=>e=.returned (.int .u32 (Hm.facFold ((namesOf s).map (·.data.toList)) 0))/\Below w.heap.size w w':=by
 have b0:(s.toList == [42])=false:=by rw [Lib.toList_data];simpa using h0
 have b0':¬ s.toList=[42]:=by rw [Lib.toList_data];exact h0
 obtain ⟨ml,hml⟩:=hT.ml
 have HS:Hid (Calls Tryz.prog 144 #[.string s,.string ⟨#[44]⟩] w fun e w'=>
   e=.returned (.slice (some ⟨w.heap.size,0,none⟩) (namesOf s).length (namesOf s).length)/\w'=w.alloc (.cells ((namesOf s).map Value.string).toArray 9)):=by
  have:=Tryz.strings_Split s ⟨#[44]⟩ ml w (by omega) hml (by decide)
  rw [hl]
  exact this
 generalize namesOf s=L at HS hn ⊢
 clear h0 hl hml
 go_enter Tryz.func96,Tryz.ntmps96
 go_wp2_with fail
 refine HS.out.mono ?_
 rintro e w1 ⟨rfl,hw1⟩
 have r1:w1.heap[w.heap.size]?=some (.cells (L.map Value.string).toArray 9 (0,0)):=hw1 ▸ heap_alloc_new _ _
 have hb1:Below w.heap.size w w1:=hw1 ▸ (Below.refl _ _).alloc (Nat.le_refl _) _
 have HB1:Hid (Below w.heap.size w w1):=hb1
 have HR1:Hid (w1.heap[w.heap.size]?=some (.cells (L.map Value.string).toArray 9 (0,0))):=r1
 clear hw1 r1 hb1
 go_wp2_with fail
 go_loopw [3,13] (fun bv ix wr=>∃ k b:Nat,k<=L.length/\ix=.int .i64 k/\bv=.int .u32 b/\b < 4294967296/\Hm.facFold (L.map (·.data.toList)) 0=Hm.facFold ((L.drop k).map (·.data.toList)) b/\wr.heap[w.heap.size]?=some (.cells (L.map Value.string).toArray 9 (0,0))/\Below w.heap.size w wr) (fun _ ix _=>L.length - (intOf ix).toNat)
 case atStart=>exact ⟨0,0,by omega,rfl,rfl,by omega,rfl,HR1.out,HB1.out⟩
 case round=>
  obtain ⟨k,b,hk,rfl,rfl,hb,hv,q,hBr⟩:=hrel
  have HV:Hid (Hm.facFold (L.map (·.data.toList)) 0=Hm.facFold ((L.drop k).map (·.data.toList)) b):=hv
  have Q:Hid (wr.heap[w.heap.size]?=some (.cells (L.map Value.string).toArray 9 (0,0))):=q
  have HBr:Hid (Below w.heap.size w wr):=hBr
  have hz:w.heap.size < wr.heap.size:=(Array.getElem?_eq_some_iff.1 q).1
  clear hv q hBr
  by_cases hlt:k < L.length
  ·have hki:(k:Int) < (L.length:Int):=by omega
   have hd:=List.drop_eq_getElem_cons hlt
   have hc:wr.cell? ⟨w.heap.size,k,none⟩=some (.string L[k]):=by simp [World.cell?,Q.out,hlt]
   generalize L[k]=x at hd hc
   have HN:Hid (∀ w,Tabs w->Calls Tryz.prog 145 #[.string x] w fun e w'=>e=.returned (.tuple #[.int .i64 (Hm.findFrom x.data.toList Hm.facNames 0 - 1:Nat),.bool (Hm.findFrom x.data.toList Hm.facNames 0 != 0)])/\Below w.heap.size w w'):=fun w hT=>facilityNumber_any x w hT
   have hle:=Hm.findFrom_most x.data.toList Hm.facNames 0
   rw [show Hm.facNames.length=24 by unfold Hm.facNames;rw [List.length_map,List.length_range]] at hle
   have HV2:Hid (Hm.facFold (L.map (·.data.toList)) 0=if Hm.findFrom x.data.toList Hm.facNames 0=0 then 0 else Hm.facFold ((L.drop (k+1)).map (·.data.toList)) (b ||| 2 ^ (Hm.findFrom x.data.toList Hm.facNames 0 - 1))):=by
    show _=_
    rw [HV.out,hd,List.map_cons,Hm.facFold]
   clear hd
   generalize Hm.findFrom x.data.toList Hm.facNames 0=n at HN hle HV2
   by_cases hn0:n=0
   ·subst hn0
    go_wp2_with fail
    refine (HN.out _ (hT.next HBr.out)).mono ?_
    rintro e w3 ⟨rfl,hb3⟩
    go_wp2
    go_ret
    exact ⟨by rw [HV2.out];rfl,Below.next HBr.out (Nat.le_refl _) hb3⟩
   ·have hp:2 ^ (n - 1) < 4294967296:=Nat.lt_of_le_of_lt (Nat.pow_le_pow_right (by decide) (show n - 1<=23 by omega)) (by decide)
    have hor:=(bits_nat .u32 32 (by decide) wraps_u32 b (2 ^ (n - 1)) (by omega) (by omega)).2
    have hlt2:b ||| 2 ^ (n - 1) < 4294967296:=Nat.or_lt_two_pow (n:=32) hb hp
    rw [if_neg hn0] at HV2
    have bn:(n != 0)=true:=by simpa using hn0
    obtain ⟨m,rfl⟩:∃ m,n=m+1:=⟨n - 1,by omega⟩
    rw [Nat.add_sub_cancel] at HV2 hlt2 hor hp HN
    rw [bn] at HN
    clear hn0 bn
    go_wp2_with fail
    refine (HN.out _ (hT.next HBr.out)).mono ?_
    rintro e w3 ⟨rfl,hb3⟩
    go_wp2
    have e1:((2:Int) ^ m % 4294967296)=((2 ^ m:Nat):Int):=by
     have:((2:Int) ^ m)=((2 ^ m:Nat):Int):=by simp
     rw [this]
     generalize 2 ^ m=q at hp
     omega
    go_roundw
    case rel=>exact ⟨k+1,b ||| 2 ^ m,by omega,int_eq (by simp),int_eq (by rw [e1];exact hor),hlt2,HV2.out,(hb3.block _ hz).trans Q.out,Below.next HBr.out (Nat.le_refl _) hb3⟩
    case measure=>simp [intOf];omega
  ·have HV2:Hid (Hm.facFold (L.map (·.data.toList)) 0=b):=by
    show _=_
    rw [HV.out,List.drop_of_length_le (by omega)]
    rfl
   have hki:¬ (k:Int) < (L.length:Int):=by omega
   go_wp2
   go_ret
   exact ⟨by rw [HV2.out];rfl,HBr.out⟩
end Go.Proofs.YtdlhbmncbmconaaGreatDoor

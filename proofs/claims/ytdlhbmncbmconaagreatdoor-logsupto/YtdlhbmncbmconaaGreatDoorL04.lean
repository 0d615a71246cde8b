/- Pressed by program out of Ba. -/
import Derived.Test.YtdlhbmncbmconaaGreatDoorL00
import Derived.Test.YtdlhbmncbmconaaGreatDoorL03
import Derived.Test.YtdlhbmncbmconaaGreatDoorProg
import Derived.WalkKit
import Derived.WalkSpells
import Derived.WalkLawsBesides
import Derived.Shelf.Unicode.DecodeSlow
import Derived.Lib.LaidTab
import Derived.Deep.QuietTactic
import Derived.BigQuiet
namespace Go.Proofs.YtdlhbmncbmconaaGreatDoor
open Go.RowKit
theorem ret_bool {a b:Bool} (h:a=true ↔ b=true):Ending.returned (.bool a)=.returned (.bool b):=by rw [Bool.eq_iff_iff.2 h]
theorem ret_int {k:IntKind} {a b:Int} (h:a=b):Ending.returned (.int k a)=.returned (.int k b):=by rw [h]
theorem isDigit_any (c:UInt8) (w:World) :
  Calls Tryz.prog 84 #[.int .u8 c.toNat] w fun e w'=>e=.returned (.bool (Hm.dig c))/\w'=w:=by
 go_enter Tryz.func84,Tryz.ntmps84
 go_wp2
 all_goals go_ret
 all_goals refine ⟨ret_bool ?_,rfl⟩
 all_goals try simp [Hm.dig]
 all_goals try omega
theorem isLetter_any (c:UInt8) (w:World) :
  Calls Tryz.prog 179 #[.int .u8 c.toNat] w fun e w'=>e=.returned (.bool (Hm.letr c))/\w'=w:=by
 go_enter Tryz.func179,Tryz.ntmps179
 go_wp2
 all_goals go_ret
 all_goals refine ⟨ret_bool ?_,rfl⟩
 all_goals try simp [Hm.letr]
 all_goals try omega
theorem isVisible_any (c:UInt8) (w:World) :
  Calls Tryz.prog 124 #[.int .u8 c.toNat] w fun e w'=>e=.returned (.bool (Hm.vis c))/\w'=w:=by
 go_enter Tryz.func124,Tryz.ntmps124
 go_wp2
 all_goals go_ret
 all_goals refine ⟨ret_bool ?_,rfl⟩
 all_goals try simp [Hm.vis]
 all_goals try omega
theorem isEscaped_any (c:UInt8) (w:World) :
  Calls Tryz.prog 241 #[.int .u8 c.toNat] w fun e w'=>e=.returned (.bool (Hm.esc c))/\w'=w:=by
 go_enter Tryz.func241,Tryz.ntmps241
 go_wp2
 all_goals go_ret
 all_goals refine ⟨ret_bool ?_,rfl⟩
 all_goals try simp [Hm.esc]
 all_goals try omega
theorem isYear_any (y:Int) (w:World) :
  Calls Tryz.prog 51 #[.int .i64 y] w fun e w'=>e=.returned (.bool (Hm.isYear y))/\w'=w:=by
 go_enter Tryz.func51,Tryz.ntmps51
 go_wp2
 all_goals go_ret
 all_goals refine ⟨ret_bool ?_,rfl⟩
 all_goals try simp [Hm.isYear]
 all_goals try omega
theorem isSource_any (f s:Int) (w:World) :
  Calls Tryz.prog 60 #[.int .i64 f,.int .i64 s] w fun e w'=>e=.returned (.bool (Hm.isSource f s))/\w'=w:=by
 go_enter Tryz.func60,Tryz.ntmps60
 go_wp2
 all_goals go_ret
 all_goals refine ⟨ret_bool ?_,rfl⟩
 all_goals try simp [Hm.isSource]
 all_goals try omega
end Go.Proofs.YtdlhbmncbmconaaGreatDoor
namespace Go.Proofs.YtdlhbmncbmconaaGreatDoor
open Go.RowKit
def Blk (w:World) (b:Nat) (cs:Array Value):Prop:=∃ t fr,w.heap[b]?=some (.cells cs t fr)
theorem Blk.cell {w:World} {b:Nat} {cs:Array Value} (h:Blk w b cs) (i:Nat):w.cell? ⟨b,i,none⟩=cs[i]?:=by
 obtain ⟨t,fr,h⟩:=h
 simp [World.cell?,h]
theorem Blk.below {B b:Nat} {w w':World} {cs:Array Value} (h:Blk w b cs) (hb:Below B w w') (hlt:b < B):Blk w' b cs:=by
 obtain ⟨t,fr,h⟩:=h
 exact ⟨t,fr,(hb.block b hlt).trans h⟩
def wordKinds:Array Value:=#[.int .i64 32,.int .i64 4,.int .i64 16,.int .i64 5,.int .i64 16,.int .i64 6,.int .i64 12,.int .i64 7]
structure Tabs (w:World):Prop where
 size:11<=w.heap.size
 wk:Blk w 0 wordKinds
 ml:∃ m:Int,w.cell? ⟨3,0,none⟩=some (.int .i64 m)
 u8:Lib.Utf8Tabs 1 2 w
 p10:Lib.TabIs Tryz.prog w "internal/strconv.uint64pow10" .u64 Lib.pow10Tab
 sn:Blk w 4 (Hm.severityNames.map fun l=>Value.string ⟨l.toArray⟩).toArray
 md:Blk w 6 (Hm.monthDays.map fun z=>Value.int .i64 z).toArray
 mn:Blk w 7 (Hm.monthNames.map fun l=>Value.string ⟨l.toArray⟩).toArray
 on:Blk w 8 (Hm.ownNames.map fun l=>Value.string ⟨l.toArray⟩).toArray
theorem gPow:Tryz.prog.globalNamed "internal/strconv.uint64pow10"=some 5:=by kernel_rfl
theorem Tabs.below {B:Nat} {w w':World} (h:Tabs w) (hb:Below B w w') (hB:11<=B):Tabs w' where
 size:=Nat.le_trans h.size hb.size
 wk:=h.wk.below hb (by omega)
 ml:=by obtain ⟨m,hm⟩:=h.ml;exact ⟨m,(hb.cell (p:=⟨3,0,none⟩) (by show 3 < B;omega)).trans hm⟩
 u8:=⟨fun c hc=>(hb.cell (p:=⟨1,c,none⟩) (by show 1 < B;omega)).trans (h.u8.1 c hc),fun i hi=>
  ⟨(hb.cell (p:=⟨2,2 * i,none⟩) (by show 2 < B;omega)).trans (h.u8.2 i hi).1,(hb.cell (p:=⟨2,2 * i+1,none⟩) (by show 2 < B;omega)).trans (h.u8.2 i hi).2⟩⟩
 p10:=var?_below hb gPow (by omega) h.p10
 sn:=h.sn.below hb (by omega)
 md:=h.md.below hb (by omega)
 mn:=h.mn.below hb (by omega)
 on:=h.on.below hb (by omega)
theorem Tabs.next {w w':World} (h:Tabs w) (hb:Below w.heap.size w w'):Tabs w':=h.below hb h.size
theorem Tabs.drewN {w:World} (h:Tabs w) (n:Nat):Tabs (w.drewN n):=h.next (below_drewN (Below.refl _ _) n)
end Go.Proofs.YtdlhbmncbmconaaGreatDoor
namespace Go.Proofs.YtdlhbmncbmconaaGreatDoor
open Go.RowKit
theorem isNameByte_any (c:UInt8) (w:World) :
  Calls Tryz.prog 234 #[.int .u8 c.toNat] w fun e w'=>e=.returned (.bool (Hm.nmb c))/\w'=w:=by
 cases hv:Hm.vis c
 ·go_enter Tryz.func234,Tryz.ntmps234
  go_wp2_with (go_at_call 124;refine (isVisible_any _ _).mono ?_;rintro e w' ⟨rfl,rfl⟩)
  all_goals go_ret
  all_goals refine ⟨ret_bool ?_,rfl⟩
  all_goals simp_all [Hm.nmb]
 ·go_enter Tryz.func234,Tryz.ntmps234
  go_wp2_with (go_at_call 124;refine (isVisible_any _ _).mono ?_;rintro e w' ⟨rfl,rfl⟩)
  all_goals go_ret
  all_goals refine ⟨ret_bool ?_,rfl⟩
  all_goals try simp_all [Hm.nmb]
  all_goals try omega
theorem isTagByte_any (c:UInt8) (w:World) :
  Calls Tryz.prog 138 #[.int .u8 c.toNat] w fun e w'=>e=.returned (.bool (Hm.tgb c))/\w'=w:=by
 cases hv:Hm.letr c<;>cases hd:Hm.dig c
 all_goals
  go_enter Tryz.func138,Tryz.ntmps138
  go_wp2_with (first | (go_at_call 179;refine (isLetter_any _ _).mono ?_;rintro e w' ⟨rfl,rfl⟩) | (go_at_call 84;refine (isDigit_any _ _).mono ?_;rintro e w' ⟨rfl,rfl⟩))
  all_goals go_ret
  all_goals refine ⟨ret_bool ?_,rfl⟩
  all_goals try simp_all [Hm.tgb]
  all_goals try omega
theorem isLeap_any (y:Int) (w:World) (h0:0<=y) :
  Calls Tryz.prog 210 #[.int .i64 y] w fun e w'=>e=.returned (.bool (Hm.leap y))/\w'=w:=by
 go_enter Tryz.func210,Tryz.ntmps210
 go_wp2
 all_goals go_ret
 all_goals refine ⟨ret_bool ?_,rfl⟩
 all_goals simp_all [Hm.leap]
theorem daysOf_any (y m:Int) (w:World) (h0:0<=y) (h1:1<=m) (h2:m<=12) (hT:Tabs w) :
  Calls Tryz.prog 174 #[.int .i64 y,.int .i64 m] w fun e w'=>e=.returned (.int .i64 (Hm.daysOf y m))/\w'=w:=by
 have hc:w.cell? ⟨6,m.toNat - 1,none⟩=some (.int .i64 (Hm.monthDays.getD (m - 1).toNat 0)):=by
  rw [hT.md.cell,show (m - 1).toNat=m.toNat - 1 by omega]
  have:m.toNat - 1 < Hm.monthDays.length:=by simp [Hm.monthDays];omega
  simp [List.getD,this]
 have hc2:w.cell? ⟨6,1,none⟩=some (.int .i64 28):=by rw [hT.md.cell];rfl
 clear hT
 by_cases hm:m=2
 ·subst hm
  clear hc
  cases hl:Hm.leap y
  all_goals
   go_enter Tryz.func174,Tryz.ntmps174
   go_wp2_with (go_at_call 210;refine (isLeap_any _ _ h0).mono ?_;rintro e w' ⟨rfl,rfl⟩)
   go_ret
   exact ⟨ret_int (by simp [Hm.daysOf,hl,Hm.monthDays]),rfl⟩
 ·go_enter Tryz.func174,Tryz.ntmps174
  go_wp2_with (go_at_call 210;refine (isLeap_any _ _ h0).mono ?_;rintro e w' ⟨rfl,rfl⟩)
  go_ret
  exact ⟨ret_int (by simp [Hm.daysOf,hm]),rfl⟩
theorem countAhead_any (s:ByteArray) (b:Nat) (f:Nat) (p:UInt8->Bool) (w:World) (hs:s.size<=9223372036854775807)
  (he:∀ args w,(callFunc f args).run Tryz.prog w=.ok (.enter f args) w)
  (hf:∀ (u:UInt8) (w:World),Calls Tryz.prog f #[.int .u8 u.toNat] w fun e w'=>e=.returned (.bool (p u))/\w'=w) :
  Calls Tryz.prog 83 #[.string s,.int .i64 b,.func (.func f) #[] #[]] w fun e w'=>e=.returned (.int .i64 (Hm.ahead p b s.data.toList))/\w'=w:=by
 have HF:Hid (∀ (u:UInt8) (w:World),Calls Tryz.prog f #[.int .u8 u.toNat] w fun e w'=>e=.returned (.bool (p u))/\w'=w):=hf
 clear hf
 go_enter Tryz.func83,Tryz.ntmps83
 go_wp2
 go_loop [7] (fun i=>∃ k:Nat,k<=s.size/\k<=b/\i=.int .i64 k/\∀ c ∈ s.data.toList.take k,p c=true) (fun i=>s.size - (intOf i).toNat)
 case atStart=>exact ⟨0,Nat.zero_le _,Nat.zero_le _,rfl,by simp⟩
 case round=>
  obtain ⟨k,hk,hkb,rfl,hall⟩:=hrel
  have HA:Hid (∀ c ∈ s.data.toList.take k,p c=true):=hall
  clear hall
  have hsz:s.data.toList.length=s.size:=by simp
  have HS:Hid (s.data.toList.length=s.size):=hsz
  clear hsz
  by_cases hlt:k < s.size
  ·by_cases hb:k < b
   ·go_wp2_with fail
    refine (HF.out s[k] _).mono ?_
    rintro e w' ⟨rfl,rfl⟩
    cases hp:p s[k]
    ·go_wp2
     go_ret
     refine ⟨ret_int ?_,rfl⟩
     rw [Hm.ahead_eq p b _ k (by rw [HS.out];omega) hkb HA.out (.inr (.inr ⟨s[k],by rw [List.getElem?_eq_getElem (by rw [HS.out];exact hlt)];rfl,hp⟩))]
    ·go_wp2
     go_round
     case rel=>exact ⟨k+1,by omega,by omega,by go_num,by
      rw [Hm.take_snoc s k hlt]
      intro c hc
      rcases List.mem_append.1 hc with h | h
      ·exact HA.out c h
      ·rw [List.mem_singleton.1 h];exact hp⟩
     case measure=>simp [intOf];omega
   ·go_wp2
    go_ret
    refine ⟨ret_int ?_,rfl⟩
    rw [Hm.ahead_eq p b _ k (by rw [HS.out];omega) hkb HA.out (.inr (.inl (by omega)))]
  ·go_wp2
   go_ret
   refine ⟨ret_int ?_,rfl⟩
   rw [Hm.ahead_eq p b _ k (by rw [HS.out];omega) hkb HA.out (.inl (by rw [HS.out];omega))]
theorem enters_isDigit:∀ args w,(callFunc 84 args).run Tryz.prog w=.ok (.enter 84 args) w:=enters_of Tryz.func84 (by kernel_rfl) rfl
theorem enters_isVisible:∀ args w,(callFunc 124 args).run Tryz.prog w=.ok (.enter 124 args) w:=enters_of Tryz.func124 (by kernel_rfl) rfl
theorem enters_isNameByte:∀ args w,(callFunc 234 args).run Tryz.prog w=.ok (.enter 234 args) w:=enters_of Tryz.func234 (by kernel_rfl) rfl
theorem enters_isTagByte:∀ args w,(callFunc 138 args).run Tryz.prog w=.ok (.enter 138 args) w:=enters_of Tryz.func138 (by kernel_rfl) rfl
theorem count_digits (s:ByteArray) (b:Nat) (w:World) (hs:s.size<=9223372036854775807) :
  Calls Tryz.prog 83 #[.string s,.int .i64 b,.func (.func 84) #[] #[]] w fun e w'=>e=.returned (.int .i64 (Hm.ahead Hm.dig b s.data.toList))/\w'=w:=
 countAhead_any s b _ _ w hs enters_isDigit isDigit_any
theorem count_visible (s:ByteArray) (b:Nat) (w:World) (hs:s.size<=9223372036854775807) :
  Calls Tryz.prog 83 #[.string s,.int .i64 b,.func (.func 124) #[] #[]] w fun e w'=>e=.returned (.int .i64 (Hm.ahead Hm.vis b s.data.toList))/\w'=w:=
 countAhead_any s b _ _ w hs enters_isVisible isVisible_any
theorem count_names (s:ByteArray) (b:Nat) (w:World) (hs:s.size<=9223372036854775807) :
  Calls Tryz.prog 83 #[.string s,.int .i64 b,.func (.func 234) #[] #[]] w fun e w'=>e=.returned (.int .i64 (Hm.ahead Hm.nmb b s.data.toList))/\w'=w:=
 countAhead_any s b _ _ w hs enters_isNameByte isNameByte_any
theorem count_tags (s:ByteArray) (b:Nat) (w:World) (hs:s.size<=9223372036854775807) :
  Calls Tryz.prog 83 #[.string s,.int .i64 b,.func (.func 138) #[] #[]] w fun e w'=>e=.returned (.int .i64 (Hm.ahead Hm.tgb b s.data.toList))/\w'=w:=
 countAhead_any s b _ _ w hs enters_isTagByte isTagByte_any
end Go.Proofs.YtdlhbmncbmconaaGreatDoor
namespace Go.Proofs.YtdlhbmncbmconaaGreatDoor
open Go.RowKit
theorem int_eq {k:IntKind} {a b:Int} (h:a=b):Value.int k a=Value.int k b:=by rw [h]
theorem decimal_any (s:ByteArray) (w:World) (hs:s.size<=9) (hd:∀ c ∈ s.data.toList,Hm.dig c=true) :
  Calls Tryz.prog 85 #[.string s] w fun e w'=>e=.returned (.int .i64 (Hm.dec s.data.toList))/\w'=w:=by
 have HD:Hid (∀ c ∈ s.data.toList,Hm.dig c=true):=hd
 clear hd
 go_enter Tryz.func85,Tryz.ntmps85
 go_wp2
 go_loop [3,4,7] (fun n _ i=>∃ k:Nat,k<=s.size/\i=.int .i64 k/\n=.int .i64 (Hm.dec (s.data.toList.take k))) (fun _ _ i=>s.size - (intOf i).toNat)
 case atStart=>exact ⟨0,Nat.zero_le _,rfl,rfl⟩
 case round=>
  obtain ⟨k,hk,rfl,rfl⟩:=hrel
  by_cases hlt:k < s.size
  ·have hlen:(s.data.toList.take k).length=k:=by simp;omega
   have hb:=Hm.dec_lt (s.data.toList.take k) fun c hc=>HD.out c (List.mem_of_mem_take hc)
   rw [hlen] at hb
   have hp:10 ^ k<=10 ^ 9:=Nat.pow_le_pow_right (by omega) (by omega)
   have hb2:Hm.dec (s.data.toList.take k) < 1000000000:=by omega
   have HS:Hid (Hm.dec (s.data.toList.take (k+1))=10 * Hm.dec (s.data.toList.take k)+(s[k].toNat - 48)):=by
    show _=_
    rw [Hm.take_snoc s k hlt,Hm.dec_snoc]
   have hm:Hm.dig s[k]=true:=HD.out _ (by rw [show s[k]=s.data.toList[k]'(by rw [Hm.len];exact hlt) from rfl];exact List.getElem_mem _)
   unfold Hm.dig at hm
   simp only [Bool.and_eq_true,decide_eq_true_eq] at hm
   obtain ⟨hm1,hm2⟩:=hm
   clear hlen hb hp
   go_wp2
   go_round
   case rel=>exact ⟨k+1,by omega,by go_num,by rw [HS.out];exact int_eq (by omega)⟩
   case measure=>simp [intOf];omega
  ·go_wp2
   go_ret
   exact ⟨ret_int (by rw [List.take_of_length_le (by rw [Hm.len];omega)]),rfl⟩
theorem nameAhead_any (s:ByteArray) (w:World) (hs:s.size<=9223372036854775807) :
  Calls Tryz.prog 221 #[.string s] w fun e w'=>e=.returned (.int .i64 (Hm.nameLen s.data.toList))/\w'=w:=by
 go_enter Tryz.func221,Tryz.ntmps221
 go_wp2_with (go_at_call 83;refine (count_names s 12 _ hs).mono ?_;rintro e w' ⟨rfl,rfl⟩)
 go_ret
 exact ⟨rfl,rfl⟩
theorem isWord_any (s:ByteArray) (m:Nat) (w:World) (hs:s.size<=9223372036854775807) (_hm:m<=9223372036854775807) :
  Calls Tryz.prog 79 #[.string s,.int .i64 m] w fun e w'=>e=.returned (.bool (Hm.word s.data.toList m))/\w'=w:=by
 have HL:Hid (s.toList=s.data.toList):=Lib.toList_data s
 by_cases h1:s.toList=[]
 ·go_enter Tryz.func79,Tryz.ntmps79
  go_wp2
  go_ret
  exact ⟨by rw [Hm.word_empty m (HL.out ▸ h1)];rfl,rfl⟩
 ·by_cases h2:s.toList=[45]
  ·go_enter Tryz.func79,Tryz.ntmps79
   go_wp2
   go_ret
   exact ⟨by rw [Hm.word_dash m (HL.out ▸ h2)];rfl,rfl⟩
  ·by_cases h3:m < s.size
   ·go_enter Tryz.func79,Tryz.ntmps79
    go_wp2
    go_ret
    exact ⟨by rw [Hm.word_long m (by rw [Hm.len];exact h3)];rfl,rfl⟩
   ·have b1:s.toList.isEmpty=false:=by simpa using h1
    have b2:(s.toList == [45])=false:=by simpa using h2
    rw [HL.out] at h1 h2
    go_enter Tryz.func79,Tryz.ntmps79
    go_wp2_with (go_at_call 83;refine (count_visible s m _ hs).mono ?_;rintro e w' ⟨rfl,rfl⟩)
    go_ret
    refine ⟨ret_bool ?_,rfl⟩
    rw [Hm.word_rest m h1 h2 (by rw [Hm.len];omega),Hm.len]
    simp
    omega
theorem valueAhead_any (s:ByteArray) (w:World) (hs:s.size<=9223372036854775800) :
  Calls Tryz.prog 235 #[.string s] w fun e w'=>e=.returned (.tuple #[.int .i64 ((Hm.value s.data.toList).getD 0),.bool (Hm.value s.data.toList).isSome])/\w'=w:=by
 go_enter Tryz.func235,Tryz.ntmps235
 go_wp2
 go_loop [4] (fun i=>∃ k:Nat,k<=s.size/\i=.int .i64 k/\Hm.value s.data.toList=(Hm.value (s.data.toList.drop k)).map (·+k)) (fun i=>s.size - (intOf i).toNat)
 case atStart=>exact ⟨0,Nat.zero_le _,rfl,by simp⟩
 case round=>
  obtain ⟨k,hk,rfl,hv⟩:=hrel
  have HV:Hid (Hm.value s.data.toList=(Hm.value (s.data.toList.drop k)).map (·+k)):=hv
  clear hv
  by_cases hlt:k < s.size
  ·have HC:Hid (s.data.toList.drop k=s[k] :: s.data.toList.drop (k+1)):=Hm.drop_cons s k hlt
   by_cases h1:s[k].toNat=34
   ·have b1:((s[k].toNat:Int) == 34)=true:=beq_iff_eq.2 (by omega)
    have HF:Hid (Hm.value s.data.toList=some k):=by show _=_;rw [HV.out,HC.out,Hm.value_quote h1];simp
    clear h1
    go_wp2
    go_ret2
    exact ⟨by rw [HF.out];rfl,rfl⟩
   ·have b1:((s[k].toNat:Int) == 34)=false:=beq_eq_false_iff_ne.2 (by omega)
    by_cases h2:s[k].toNat=93
    ·have b2:((s[k].toNat:Int) == 93)=true:=beq_iff_eq.2 (by omega)
     have HF:Hid (Hm.value s.data.toList=none):=by show _=_;rw [HV.out,HC.out,Hm.value_shut h2];simp
     clear h1 h2
     go_wp2
     go_ret2
     exact ⟨by rw [HF.out];rfl,rfl⟩
    ·have b2:((s[k].toNat:Int) == 93)=false:=beq_eq_false_iff_ne.2 (by omega)
     by_cases h3:s[k].toNat=92
     ·have b3:((s[k].toNat:Int) == 92)=true:=beq_iff_eq.2 (by omega)
      by_cases h4:k+1 < s.size
      ·have HC2:Hid (s.data.toList.drop (k+1)=s[k+1] :: s.data.toList.drop (k+2)):=Hm.drop_cons s (k+1) h4
       cases h5:Hm.esc s[k+1]
       ·have HF:Hid (Hm.value s.data.toList=none):=by show _=_;rw [HV.out,HC.out,HC2.out,Hm.value_esc1 h3 h5];simp
        clear h1 h2 h3
        go_wp2_with (go_at_call 241;refine (isEscaped_any _ _).mono ?_;rintro e w' ⟨rfl,rfl⟩)
        go_ret2
        exact ⟨by rw [HF.out];rfl,rfl⟩
       ·have HF:Hid (Hm.value s.data.toList=(Hm.value (s.data.toList.drop (k+2))).map (·+(k+2))):=by
         show _=_
         rw [HV.out,HC.out,HC2.out,Hm.value_esc2 h3 h5,Option.map_map]
         congr 1
         funext x
         simp only [Function.comp]
         omega
        clear h1 h2 h3
        go_wp2_with (go_at_call 241;refine (isEscaped_any _ _).mono ?_;rintro e w' ⟨rfl,rfl⟩)
        go_round
        case rel=>exact ⟨k+2,by omega,int_eq (by omega),HF.out⟩
        case measure=>simp [intOf];omega
      ·have HF:Hid (Hm.value s.data.toList=none):=by
        show _=_
        rw [HV.out,HC.out,List.drop_of_length_le (by rw [Hm.len];omega),Hm.value_esc0 h3];simp
       clear h1 h2 h3
       go_wp2
       go_ret2
       exact ⟨by rw [HF.out];rfl,rfl⟩
     ·have b3:((s[k].toNat:Int) == 92)=false:=beq_eq_false_iff_ne.2 (by omega)
      have HF:Hid (Hm.value s.data.toList=(Hm.value (s.data.toList.drop (k+1))).map (·+(k+1))):=by
       show _=_
       rw [HV.out,HC.out,Hm.value_other h1 h2 h3,Option.map_map]
       congr 1
       funext x
       simp only [Function.comp]
       omega
      clear h1 h2 h3
      go_wp2
      go_round
      case rel=>exact ⟨k+1,by omega,int_eq (by omega),HF.out⟩
      case measure=>simp [intOf];omega
  ·have HF:Hid (Hm.value s.data.toList=none):=by
    show _=_
    rw [HV.out,List.drop_of_length_le (by rw [Hm.len];omega),Hm.value_nil];simp
   go_wp2
   go_ret2
   exact ⟨by rw [HF.out];rfl,rfl⟩
theorem pairAhead_any (s:ByteArray) (w:World) (hs:s.size<=9223372036854775700) :
  Calls Tryz.prog 222 #[.string s] w fun e w'=>e=.returned (.int .i64 (Hm.pair s.data.toList))/\w'=w:=by
 have hn:=Hm.nameLen_le s.data.toList
 rw [Hm.len] at hn
 obtain ⟨n,hnn⟩:∃ n,n=Hm.nameLen s.data.toList:=⟨_,rfl⟩
 have HN:Hid (n=Hm.nameLen s.data.toList):=hnn
 rw [<-hnn] at hn
 clear hnn
 by_cases h0:n=0
 ·have HF:Hid (Hm.pair s.data.toList=0):=by show _=_;unfold Hm.pair;rw [<-HN.out,if_pos (.inl h0)]
  go_enter Tryz.func222,Tryz.ntmps222
  go_wp2_with (go_at_call 221;refine (nameAhead_any _ _ (by omega)).mono ?_;rintro e w' ⟨rfl,rfl⟩;rw [<-HN.out])
  go_ret
  exact ⟨by rw [HF.out];rfl,rfl⟩
 ·have b0:((n:Int) == 0)=false:=beq_eq_false_iff_ne.2 (by omega)
  cases hp:Lib.hasPrefix (s.data.toList.drop n) [61,34]
  ·have HF:Hid (Hm.pair s.data.toList=0):=by show _=_;unfold Hm.pair;rw [<-HN.out,if_pos (.inr hp)]
   go_enter Tryz.func222,Tryz.ntmps222
   go_wp2_with (first | (go_at_call 221;refine (nameAhead_any _ _ (by omega)).mono ?_;rintro e w' ⟨rfl,rfl⟩;rw [<-HN.out]) | (go_at_call 53;refine (Tryz.strings_HasPrefix _ _ _).mono ?_;rintro e w' ⟨rfl,rfl⟩;rw [Hm.drop_ex,hp]))
   go_ret
   exact ⟨by rw [HF.out];rfl,rfl⟩
  ·have hl:=Hm.prefix_len hp
   simp only [List.length_drop,Hm.len,List.length_cons,List.length_nil] at hl
   cases hv:Hm.value (s.data.toList.drop (n+2)) with
   | none=>
    have HF:Hid (Hm.pair s.data.toList=0):=by
     show _=_
     unfold Hm.pair
     rw [<-HN.out,if_neg (by rintro (h | h);exact h0 h;rw [hp] at h;cases h),hv]
    have HV:Hid (Hm.value (s.data.toList.drop (n+2))=none):=hv
    clear hv
    go_enter Tryz.func222,Tryz.ntmps222
    go_wp2_with (first | (go_at_call 221;refine (nameAhead_any _ _ (by omega)).mono ?_;rintro e w' ⟨rfl,rfl⟩;rw [<-HN.out]) | (go_at_call 53;refine (Tryz.strings_HasPrefix _ _ _).mono ?_;rintro e w' ⟨rfl,rfl⟩;rw [Hm.drop_ex,hp]) | (go_at_call 235;refine (valueAhead_any _ _ (by simp;omega)).mono ?_;rintro e w' ⟨rfl,rfl⟩;rw [Hm.drop_ex,HV.out]))
    go_ret
    exact ⟨by rw [HF.out];rfl,rfl⟩
   | some v=>
    have hvl:=Hm.value_lt _ _ hv
    simp only [List.length_drop,Hm.len] at hvl
    have HF:Hid (Hm.pair s.data.toList=n+2+v+1):=by
     show _=_
     unfold Hm.pair
     rw [<-HN.out,if_neg (by rintro (h | h);exact h0 h;rw [hp] at h;cases h),hv]
    have HV:Hid (Hm.value (s.data.toList.drop (n+2))=some v):=hv
    clear hv
    go_enter Tryz.func222,Tryz.ntmps222
    go_wp2_with (first | (go_at_call 221;refine (nameAhead_any _ _ (by omega)).mono ?_;rintro e w' ⟨rfl,rfl⟩;rw [<-HN.out]) | (go_at_call 53;refine (Tryz.strings_HasPrefix _ _ _).mono ?_;rintro e w' ⟨rfl,rfl⟩;rw [Hm.drop_ex,hp]) | (go_at_call 235;refine (valueAhead_any _ _ (by simp;omega)).mono ?_;rintro e w' ⟨rfl,rfl⟩;rw [Hm.drop_ex,HV.out]))
    go_ret
    exact ⟨ret_int (by rw [HF.out];simp),rfl⟩
end Go.Proofs.YtdlhbmncbmconaaGreatDoor
namespace Go.Proofs.YtdlhbmncbmconaaGreatDoor
open Go.RowKit
theorem ret_str_int {a b:ByteArray} {k:IntKind} {c d:Int} (h:a=b) (h':c=d):Ending.returned (.tuple #[.string a,.int k c])=.returned (.tuple #[.string b,.int k d]):=by rw [h,h']
theorem elementAhead_any (s:ByteArray) (w:World) (hs:s.size<=9223372036854775700) :
  Calls Tryz.prog 200 #[.string s] w fun e w'=>e=.returned (.tuple #[.string ⟨(Hm.element s.data.toList).1.toArray⟩,.int .i64 (Hm.element s.data.toList).2])/\w'=w:=by
 cases hp:Lib.hasPrefix s.data.toList [91]
 ·have HF:Hid (Hm.element s.data.toList=([],0)):=by show _=_;unfold Hm.element;rw [if_pos hp]
  go_enter Tryz.func200,Tryz.ntmps200
  go_wp2_with (go_at_call 53;refine (Tryz.strings_HasPrefix _ _ _).mono ?_;rintro e w' ⟨rfl,rfl⟩;rw [hp])
  go_ret2
  exact ⟨by rw [HF.out];rfl,rfl⟩
 ·have hl1:=Hm.prefix_len hp
  simp only [Hm.len,List.length_cons,List.length_nil] at hl1
  have hn:=Hm.nameLen_le (s.data.toList.drop 1)
  rw [List.length_drop,Hm.len] at hn
  obtain ⟨n,hnn⟩:∃ n,n=Hm.nameLen (s.data.toList.drop 1):=⟨_,rfl⟩
  have HN:Hid (n=Hm.nameLen (s.data.toList.drop 1)):=hnn
  rw [<-hnn] at hn
  clear hnn
  by_cases h0:n=0
  ·have HF:Hid (Hm.element s.data.toList=([],0)):=by show _=_;unfold Hm.element;rw [if_neg (by simp [hp]),<-HN.out,if_pos h0]
   go_enter Tryz.func200,Tryz.ntmps200
   go_wp2_with (first | (go_at_call 53;refine (Tryz.strings_HasPrefix _ _ _).mono ?_;rintro e w' ⟨rfl,rfl⟩;rw [hp]) | (go_at_call 221;refine (nameAhead_any _ _ (by simp;omega)).mono ?_;rintro e w' ⟨rfl,rfl⟩;rw [Hm.drop_ex,<-HN.out]))
   go_ret2
   exact ⟨by rw [HF.out];rfl,rfl⟩
  ·have b0:((n:Int) == 0)=false:=beq_eq_false_iff_ne.2 (by omega)
   have HE:Hid (Hm.element s.data.toList=match Hm.pairs (s.size+1) (s.data.toList.drop (1+n)) with
     | none=>([],0)
     | some k=>if Lib.hasPrefix (s.data.toList.drop (1+n+k)) [93]=false then ([],0) else ((s.data.toList.drop 1).take n,1+n+k+1)):=by
    show _=_
    rw [Hm.element,if_neg (by simp [hp]),<-HN.out,if_neg h0,Hm.len]
    cases Hm.pairs (s.size+1) (List.drop (1+n) s.data.toList)<;>rfl
   go_enter Tryz.func200,Tryz.ntmps200
   go_wp2_with (first | (go_at_call 53;refine (Tryz.strings_HasPrefix _ _ _).mono ?_;rintro e w' ⟨rfl,rfl⟩;rw [hp]) | (go_at_call 221;refine (nameAhead_any _ _ (by simp;omega)).mono ?_;rintro e w' ⟨rfl,rfl⟩;rw [Hm.drop_ex,<-HN.out]))
   go_loop [5,6] (fun i _=>∃ k:Nat,1+n<=k/\k<=s.size/\i=.int .i64 k/\Hm.pairs (s.size+1) (s.data.toList.drop (1+n))=(Hm.pairs (s.size+1) (s.data.toList.drop k)).map (·+(k - (1+n)))) (fun i _=>s.size - (intOf i).toNat)
   case atStart=>exact ⟨1+n,by omega,by omega,int_eq (by omega),by simp⟩
   case round=>
    obtain ⟨k,hk1,hk,rfl,hpp⟩:=hrel
    have HP:Hid (Hm.pairs (s.size+1) (s.data.toList.drop (1+n))=(Hm.pairs (s.size+1) (s.data.toList.drop k)).map (·+(k - (1+n)))):=hpp
    clear hpp
    have HL:Hid ((s.data.toList.drop k).length < s.size+1):=by show _ < _;rw [List.length_drop,Hm.len];omega
    cases hq:Lib.hasPrefix (s.data.toList.drop k) [32]
    ·have HQ:Hid (Hm.pairs (s.size+1) (s.data.toList.drop (1+n))=some (k - (1+n))):=by show _=_;rw [HP.out,Hm.pairs_end HL.out hq];simp
     cases hr:Lib.hasPrefix (s.data.toList.drop k) [93]
     ·have HF:Hid (Hm.element s.data.toList=([],0)):=by
       show _=_
       rw [HE.out,HQ.out]
       simp only [show 1+n+(k - (1+n))=k by omega,hr,if_true]
      go_wp2_with fail
      refine (Tryz.strings_HasPrefix _ _ _).mono ?_
      rintro e w' ⟨rfl,rfl⟩
      rw [Hm.drop_ex,hq]
      go_wp2_with fail
      refine (Tryz.strings_HasPrefix _ _ _).mono ?_
      rintro e w' ⟨rfl,rfl⟩
      rw [Hm.drop_ex,hr]
      go_wp2
      go_ret2
      exact ⟨by rw [HF.out];rfl,rfl⟩
     ·have hl3:=Hm.prefix_len hr
      simp only [List.length_drop,Hm.len,List.length_cons,List.length_nil] at hl3
      have HF:Hid (Hm.element s.data.toList=((s.data.toList.drop 1).take n,k+1)):=by
       show _=_
       rw [HE.out,HQ.out]
       simp only [show 1+n+(k - (1+n))=k by omega,hr]
       simp
      go_wp2_with fail
      refine (Tryz.strings_HasPrefix _ _ _).mono ?_
      rintro e w' ⟨rfl,rfl⟩
      rw [Hm.drop_ex,hq]
      go_wp2_with fail
      refine (Tryz.strings_HasPrefix _ _ _).mono ?_
      rintro e w' ⟨rfl,rfl⟩
      rw [Hm.drop_ex,hr]
      go_wp2
      go_ret2
      refine ⟨?_,rfl⟩
      rw [HF.out]
      exact ret_str_int (by rw [Lib.extract_eq];simp) (by simp)
    ·have hl2:=Hm.prefix_len hq
     simp only [List.length_drop,Hm.len,List.length_cons,List.length_nil] at hl2
     have hple:=Hm.pair_le (s.data.toList.drop (k+1))
     rw [List.length_drop,Hm.len] at hple
     obtain ⟨p,hpe⟩:∃ p,p=Hm.pair (s.data.toList.drop (k+1)):=⟨_,rfl⟩
     have HPE:Hid (p=Hm.pair (s.data.toList.drop (k+1))):=hpe
     rw [<-hpe] at hple
     clear hpe
     have HD:Hid ((s.data.toList.drop k).drop 1=s.data.toList.drop (k+1)):=by show _=_;rw [List.drop_drop]
     by_cases hz:p=0
     ·have HF:Hid (Hm.element s.data.toList=([],0)):=by
       show _=_
       rw [HE.out,HP.out,Hm.pairs_bad HL.out hq (by rw [HD.out,<-HPE.out];exact hz)]
       rfl
      go_wp2_with fail
      refine (Tryz.strings_HasPrefix _ _ _).mono ?_
      rintro e w' ⟨rfl,rfl⟩
      rw [Hm.drop_ex,hq]
      go_wp2_with (go_at_call 222;refine (pairAhead_any _ _ (by simp;omega)).mono ?_;rintro e w' ⟨rfl,rfl⟩;rw [Hm.drop_ex,<-HPE.out])
      go_ret2
      exact ⟨by rw [HF.out];rfl,rfl⟩
     ·have bz:((p:Int) == 0)=false:=beq_eq_false_iff_ne.2 (by omega)
      have HF:Hid (Hm.pairs (s.size+1) (s.data.toList.drop (1+n))=(Hm.pairs (s.size+1) (s.data.toList.drop (k+1+p))).map (·+(k+1+p - (1+n)))):=by
       show _=_
       rw [HP.out,Hm.pairs_step HL.out hq (by rw [HD.out,<-HPE.out];exact hz),HD.out,<-HPE.out,List.drop_drop,Option.map_map]
       rw [show k+(1+p)=k+1+p by omega]
       congr 1
       funext x
       simp only [Function.comp]
       omega
      clear hz
      go_wp2_with fail
      refine (Tryz.strings_HasPrefix _ _ _).mono ?_
      rintro e w' ⟨rfl,rfl⟩
      rw [Hm.drop_ex,hq]
      go_wp2_with (go_at_call 222;refine (pairAhead_any _ _ (by simp;omega)).mono ?_;rintro e w' ⟨rfl,rfl⟩;rw [Hm.drop_ex,<-HPE.out])
      go_round
      case rel=>exact ⟨k+1+p,by omega,by omega,int_eq (by omega),HF.out⟩
      case measure=>simp [intOf];omega
end Go.Proofs.YtdlhbmncbmconaaGreatDoor

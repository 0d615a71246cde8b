/- Pressed by program out of Bj. -/
import Derived.Test.YtdlhbmncbmconaaGreatDoorL10
import Derived.Test.YtdlhbmncbmconaaGreatDoorL02
import Derived.Lib.SplitLaws
namespace Go.Hm
def splitC (c:UInt8):List UInt8->List (List UInt8)
 | []=>[[]]
 | x :: xs=>if x=c then [] :: splitC c xs else
  match splitC c xs with
  | []=>[[x]]
  | p :: ps=>(x :: p) :: ps
def onto (x:UInt8):List (List UInt8)->List (List UInt8)
 | []=>[[x]]
 | p :: ps=>(x :: p) :: ps
theorem splitC_cons (c x:UInt8) (xs:List UInt8):splitC c (x :: xs)=if x=c then [] :: splitC c xs else onto x (splitC c xs):=rfl
theorem cutB_cons (c a:UInt8) (t:List UInt8):cutB c (a :: t)=if a=c then ([],t,true) else (a :: (cutB c t).1,(cutB c t).2.1,(cutB c t).2.2):=rfl
theorem splitC_cut (c:UInt8):∀ l:List UInt8,splitC c l=if (cutB c l).2.2 then (cutB c l).1 :: splitC c (cutB c l).2.1 else [(cutB c l).1]
 | []=>rfl
 | a :: t=>by
  rw [splitC_cons,cutB_cons]
  by_cases h:a=c
  ·rw [if_pos h,if_pos h];rfl
  ·rw [if_neg h,if_neg h]
   have ih:=splitC_cut c t
   cases hb:(cutB c t).2.2
   ·rw [hb,if_neg (by simp)] at ih
    rw [ih];simp [onto]
   ·rw [hb,if_pos rfl] at ih
    rw [ih];simp [onto]
theorem splitK_eq (c:UInt8):∀ (k:Nat) (l:List UInt8),Lib.count l [c]=k->Lib.splitK [c] 0 k l=splitC c l
 | k,l,hk=>by
  rcases index_one c l with ⟨h0,hc⟩ | ⟨hm,hc⟩
  ·obtain ⟨i,hi⟩:∃ i:Nat,Lib.index l [c]=i:=⟨(Lib.index l [c]).toNat,by omega⟩
   have hh:=Lib.count_hit (s:=l) (sub:=[c]) (by simp) hi
   rw [splitC_cut,hc,hi]
   cases k with
   | zero=>omega
   | succ k=>
    have ih:=splitK_eq c k (l.drop (i+[c].length)) (by omega)
    have hne:¬ (Lib.index l [c] == -1)=true:=fun e=>by have:=beq_iff_eq.1 e;omega
    unfold Lib.splitK
    rw [if_neg hne,hi,show ((i:Int)).toNat=i from rfl,ih]
    simp
  ·rw [Lib.count_miss hm] at hk
   subst hk
   rw [splitC_cut,hc]
   rfl
def facBits (l:List UInt8):Nat:=if l=[42] then 16777215 else facFold (splitC 44 l) 0
end Go.Hm
namespace Go.Proofs.YtdlhbmncbmconaaGreatDoor
open Go.RowKit Go.Sort
attribute [local go_sem] alloc_drewN setCell_drewN
theorem readFacilities_all (s:ByteArray) (w:World) (hT:Tabs w) (hs:s.size<=3000000000) :
  Calls Tryz.prog 96 #[.string s] w fun e w'=>e=.returned (.int .u32 (Hm.facBits s.data.toList))/\Below w.heap.size w w':=by
 by_cases h0:s.data.toList=[42]
 ·have HF:Hid (Hm.facBits s.data.toList=16777215):=by show _=_;unfold Hm.facBits;rw [if_pos h0]
  have b0:s.toList=[42]:=by rw [Lib.toList_data];exact h0
  clear h0
  go_enter Tryz.func96,Tryz.ntmps96
  go_wp2
  go_ret
  exact ⟨by rw [HF.out];rfl,Below.refl _ _⟩
 ·have hl:(namesOf s).length=Lib.countB s ⟨#[44]⟩+1:=Lib.splitB_all ⟨#[44]⟩ (by decide) 0 _ s rfl
  have hc:Lib.countB s ⟨#[44]⟩<=s.data.toList.length+1:=Lib.count_le _ _
  have hz:s.data.toList.length=s.size:=by rw [Lib.size_eq]
  have h:=readFacilities_any s w hT (by omega) h0 hl (by omega)
  have e:Hm.facFold ((namesOf s).map (·.data.toList)) 0=Hm.facBits s.data.toList:=by
   unfold Hm.facBits namesOf
   rw [if_neg h0,Lib.splitB_data]
   exact congrArg (Hm.facFold · 0) (Hm.splitK_eq 44 _ _ rfl)
  rw [e] at h
  exact h
end Go.Proofs.YtdlhbmncbmconaaGreatDoor
namespace Go.Hm
theorem cutB_le (c:UInt8) (l:List UInt8):(cutB c l).1.length<=l.length/\(cutB c l).2.1.length<=l.length/\((cutB c l).2.2=true->(cutB c l).2.1.length < l.length):=by
 cases h:(cutB c l).2.2
 ·rw [cutB_none c l h];simp
 ·have:=congrArg List.length (cutB_some c l h)
  simp only [List.length_append,List.length_cons] at this
  omega
structure Rl where
 fac:Nat
 sev:Nat
 keep:Bool
def kKeep:List UInt8:=[107,101,101,112]
def kDrop:List UInt8:=[100,114,111,112]
def ruleOf (fb sb:Nat) (v:List UInt8):Option Rl:=
 if fb=0∨sb=0∨(¬ v=kKeep/\¬ v=kDrop) then none else some ⟨fb,sb,decide (v=kKeep)⟩
def readRule (l:List UInt8):Option Rl:=ruleOf (facBits (cutB 46 (cutB 32 l).1).1) (sevBits (cutB 46 (cutB 32 l).1).2.1) (cutB 32 l).2.1
def rulesFrom:Nat->Nat->List UInt8->List Rl->Except Nat (List Rl)
 | 0,n,_,_=>.error n
 | k+1,n,l,acc=>
  if l=[] then .ok acc else
  if n=12∨(cutB 10 l).2.2=false then .error n else
  match readRule (cutB 10 l).1 with
  | none=>.error n
  | some r=>rulesFrom k (n+1) (cutB 10 l).2.1 (acc ++ [r])
def newRules (l:List UInt8):Except Nat (List Rl):=rulesFrom (l.length+1) 0 l []
def Rl.fits (r:Rl) (f s:Nat):Bool:=r.fac.testBit f && r.sev.testBit s
theorem facFold_lt:∀ (ns:List (List UInt8)) (b:Nat),b < 16777216->facFold ns b < 16777216
 | [],b,h=>h
 | n :: ns,b,h=>by
  unfold facFold
  split
  ·decide
  ·refine facFold_lt ns _ (Nat.or_lt_two_pow (n:=24) h ?_)
   have:=findFrom_most n facNames 0
   rw [show facNames.length=24 by unfold facNames;rw [List.length_map,List.length_range]] at this
   exact Nat.pow_lt_pow_right (by decide) (by omega)
theorem facBits_lt (l:List UInt8):facBits l < 16777216:=by
 unfold facBits
 split
 ·decide
 ·exact facFold_lt _ _ (by decide)
theorem sevBits_lt (l:List UInt8):sevBits l < 256:=by
 unfold sevBits
 split
 ·decide
 ·have:=findFrom_most (Lib.trimPrefix l [61]) severityNames 0
  rw [show severityNames.length=8 from rfl] at this
  generalize findFrom (Lib.trimPrefix l [61]) severityNames 0=n at this
  split
  ·decide
  ·split
   ·exact Nat.lt_of_lt_of_le (Nat.pow_lt_pow_right (by decide) (show n - 1 < 8 by omega)) (Nat.le_refl _)
   ·have:2 ^ n<=2 ^ 8:=Nat.pow_le_pow_right (by decide) (by omega)
    have h2:0 < 2 ^ n:=Nat.pow_pos (by decide)
    omega
def Rl.small (r:Rl):Prop:=r.fac < 4294967296/\r.sev < 4294967296
theorem ruleOf_small {fb sb:Nat} {v:List UInt8} {r:Rl} (h1:fb < 4294967296) (h2:sb < 4294967296) (h:ruleOf fb sb v=some r):r.small:=by
 unfold ruleOf at h
 split at h
 ·cases h
 ·cases h;exact ⟨h1,h2⟩
theorem readRule_small {l:List UInt8} {r:Rl} (h:readRule l=some r):r.small:=
 ruleOf_small (Nat.lt_of_lt_of_le (facBits_lt _) (by decide)) (Nat.lt_of_lt_of_le (sevBits_lt _) (by decide)) h
theorem rulesFrom_small:∀ (k n:Nat) (l:List UInt8) (acc rs:List Rl),(∀ r ∈ acc,r.small)->rulesFrom k n l acc=.ok rs->∀ r ∈ rs,r.small
 | 0,n,l,acc,rs,_,h=>by cases h
 | k+1,n,l,acc,rs,ha,h=>by
  unfold rulesFrom at h
  split at h
  ·cases h;exact ha
  ·split at h
   ·cases h
   ·split at h
    ·cases h
    ·next r hr=>exact rulesFrom_small k _ _ _ rs (fun q hq=>(List.mem_append.1 hq).elim (ha q) (fun hq=>by simp at hq;subst hq;exact readRule_small hr)) h
theorem newRules_small {l:List UInt8} {rs:List Rl} (h:newRules l=.ok rs):∀ r ∈ rs,r.small:=rulesFrom_small _ _ _ _ _ (by simp) h
end Go.Hm
namespace Go.Proofs.YtdlhbmncbmconaaGreatDoor
open Go.RowKit Go.Sort
attribute [local go_sem] alloc_drewN setCell_drewN
theorem cut_at (c:UInt8) (s:ByteArray) (w:World) (hT:Tabs w) (hs:s.size<=4000000000) :
  Calls Tryz.prog 58 #[.string s,.string ⟨#[c]⟩] w fun e w'=>e=.returned (.tuple #[.string ⟨(Hm.cutB c s.data.toList).1.toArray⟩,.string ⟨(Hm.cutB c s.data.toList).2.1.toArray⟩,.bool (Hm.cutB c s.data.toList).2.2])/\∃ n,w'=w.drewN n:=by
 obtain ⟨m,hm⟩:=hT.ml
 have hc:=Tryz.strings_Cut s ⟨#[c]⟩ m w (by omega) hm
 change Calls Tryz.prog 58 _ _ (fun e w'=>e=.returned (.tuple #[.string ⟨(Lib.cut s.data.toList [c]).1.toArray⟩,.string ⟨(Lib.cut s.data.toList [c]).2.1.toArray⟩,.bool (Lib.cut s.data.toList [c]).2.2])/\∃ n,w'=w.drewN n) at hc
 rwa [Hm.cut_eq] at hc
def rlV (r:Option Hm.Rl):Value:=match r with
 | some r=>.agg #[.int .u32 r.fac,.int .u32 r.sev,.bool r.keep]
 | none=>.agg #[.int .u32 0,.int .u32 0,.bool false]
theorem size_rule:(Tryz.prog.info? 111).map (·.size)=some 3:=by kernel_rfl
set_option maxRecDepth 20000 in
set_option maxHeartbeats 2000000 in
theorem readRule_any (s:ByteArray) (w:World) (hT:Tabs w) (hs:s.size<=3000000000) :
  Calls Tryz.prog 59 #[.string s] w fun e w'=>e=.returned (.tuple #[rlV (Hm.readRule s.data.toList),.bool (Hm.readRule s.data.toList).isSome])/\Below w.heap.size w w':=by
 unfold Hm.readRule
 have hl1:=Hm.cutB_le 32 s.data.toList
 have HC1:Hid (∀ w,Tabs w->Calls Tryz.prog 58 #[.string s,.string ⟨#[32]⟩] w fun e w'=>e=.returned (.tuple #[.string ⟨(Hm.cutB 32 s.data.toList).1.toArray⟩,.string ⟨(Hm.cutB 32 s.data.toList).2.1.toArray⟩,.bool (Hm.cutB 32 s.data.toList).2.2])/\∃ n,w'=w.drewN n):=fun w hT=>cut_at 32 s w hT (by omega)
 obtain ⟨⟨sel,ver,b1⟩,h1⟩:∃ r,Hm.cutB 32 s.data.toList=r:=⟨_,rfl⟩
 rw [h1] at HC1 hl1 ⊢
 clear h1
 dsimp only at HC1 hl1 ⊢
 rw [Hm.len] at hl1
 have hl2:=Hm.cutB_le 46 sel
 have HC2:Hid (∀ w,Tabs w->Calls Tryz.prog 58 #[.string ⟨sel.toArray⟩,.string ⟨#[46]⟩] w fun e w'=>e=.returned (.tuple #[.string ⟨(Hm.cutB 46 sel).1.toArray⟩,.string ⟨(Hm.cutB 46 sel).2.1.toArray⟩,.bool (Hm.cutB 46 sel).2.2])/\∃ n,w'=w.drewN n):=fun w hT=>cut_at 46 ⟨sel.toArray⟩ w hT (by show sel.toArray.size<=_;simp;omega)
 obtain ⟨⟨fr,gr,b2⟩,h2⟩:∃ r,Hm.cutB 46 sel=r:=⟨_,rfl⟩
 rw [h2] at HC2 hl2 ⊢
 clear h2
 dsimp only at HC2 hl2 ⊢
 have HR:Hid (∀ w,Tabs w->Calls Tryz.prog 96 #[.string ⟨fr.toArray⟩] w fun e w'=>e=.returned (.int .u32 (Hm.facBits fr))/\Below w.heap.size w w'):=fun w hT=>readFacilities_all ⟨fr.toArray⟩ w hT (by show fr.toArray.size<=_;simp;omega)
 have HS:Hid (∀ w,Tabs w->Calls Tryz.prog 97 #[.string ⟨gr.toArray⟩] w fun e w'=>e=.returned (.int .u32 (Hm.sevBits gr))/\w'=w):=fun w hT=>readSeverities_any ⟨gr.toArray⟩ w hT
 have hb1:=Hm.facBits_lt fr
 have hb2:=Hm.sevBits_lt gr
 generalize Hm.facBits fr=fb at HR hb1 ⊢
 generalize Hm.sevBits gr=sb at HS hb2 ⊢
 clear hl1 hl2
 by_cases hf0:fb=0
 ·have HF:Hid (Hm.ruleOf fb sb ver=none):=by show _=_;unfold Hm.ruleOf;rw [if_pos (.inl hf0)]
  have f1:((fb:Int) == 0)=true:=by rw [hf0];rfl
  have f2:(fb:Int)=0:=by omega
  clear hf0
  obtain ⟨wA,hwA⟩:∃ wA,w.alloc (.cells #[.int .u32 0,.int .u32 0,.bool false] 111)=wA:=⟨_,rfl⟩
  have HBA:Hid (Below w.heap.size w wA):=by rw [<-hwA];exact (Below.refl _ _).alloc (Nat.le_refl _) _
  have HRA:Hid (wA.heap[w.heap.size]?=some (.cells #[.int .u32 0,.int .u32 0,.bool false] 111 (0,0))):=by rw [<-hwA];exact heap_alloc_new _ _
  go_enter Tryz.func59,Tryz.ntmps59
  go_wp2_with fail
  clear hwA
  refine (HC1.out _ (hT.next HBA.out)).mono ?_
  rintro e w1 ⟨rfl,hw1⟩
  have HB1:Hid (Below w.heap.size w w1):=Below.next HBA.out (Nat.le_refl _) (drew_below hw1)
  have HR1:Hid (w1.heap[w.heap.size]?=some (.cells #[.int .u32 0,.int .u32 0,.bool false] 111 (0,0))):=by obtain ⟨q,rfl⟩:=hw1;exact HRA.out
  clear hw1
  go_wp2_with fail
  refine (HC2.out _ (hT.next HB1.out)).mono ?_
  rintro e w2 ⟨rfl,hw2⟩
  have HB2:Hid (Below w.heap.size w w2):=Below.next HB1.out (Nat.le_refl _) (drew_below hw2)
  have HR2:Hid (w2.heap[w.heap.size]?=some (.cells #[.int .u32 0,.int .u32 0,.bool false] 111 (0,0))):=by obtain ⟨q,rfl⟩:=hw2;exact HR1.out
  clear hw2
  go_wp2_with fail
  refine (HR.out _ (hT.next HB2.out)).mono ?_
  rintro e w3 ⟨rfl,hb3⟩
  have hlt2:w.heap.size < w2.heap.size:=(Array.getElem?_eq_some_iff.1 HR2.out).1
  have HR3:Hid (w3.heap[w.heap.size]?=some (.cells #[.int .u32 0,.int .u32 0,.bool false] 111 (0,0))):=(hb3.block _ hlt2).trans HR2.out
  have HB3:Hid (Below w.heap.size w w3):=Below.next HB2.out (Nat.le_refl _) hb3
  have hlt3:w.heap.size < w3.heap.size:=(Array.getElem?_eq_some_iff.1 HR3.out).1
  clear hb3
  go_wp2_with fail
  refine (HS.out _ (hT.next HB3.out)).mono ?_
  rintro e w4 ⟨rfl,rfl⟩
  go_wp2_with (refine Hw.wpList_store_rowP rfl _ _ _ rfl rfl w.heap.size #[.int .u32 0,.int .u32 0,.bool false] rfl rfl _ _ ((heap_alloc_old _ _ hlt3).trans HR3.out) size_rule rfl rfl ?_;intro w5 p5;have P5:Hid (Hw.Put _ _ _ _ w5):=p5;clear p5)
  refine bodyPost_ret (Hw.results_row2 Tryz.results59 _ _ _ _ _ _ _ rfl P5.out.row Tryz.underlying111 rfl size_rule) rfl ⟨?_,(HB3.out.alloc (Nat.le_of_lt hlt3) _).trans (P5.out.below (Nat.le_refl _))⟩
  rw [HF.out];rfl
 by_cases hs0:sb=0
 ·have HF:Hid (Hm.ruleOf fb sb ver=none):=by show _=_;unfold Hm.ruleOf;rw [if_pos (.inr (.inl hs0))]
  have f1:((fb:Int) == 0)=false:=beq_eq_false_iff_ne.2 (by omega)
  have f2:¬ (fb:Int)=0:=by omega
  have f3:((sb:Int) == 0)=true:=by rw [hs0];rfl
  have f4:(sb:Int)=0:=by omega
  clear hs0 hf0
  obtain ⟨wA,hwA⟩:∃ wA,w.alloc (.cells #[.int .u32 0,.int .u32 0,.bool false] 111)=wA:=⟨_,rfl⟩
  have HBA:Hid (Below w.heap.size w wA):=by rw [<-hwA];exact (Below.refl _ _).alloc (Nat.le_refl _) _
  have HRA:Hid (wA.heap[w.heap.size]?=some (.cells #[.int .u32 0,.int .u32 0,.bool false] 111 (0,0))):=by rw [<-hwA];exact heap_alloc_new _ _
  go_enter Tryz.func59,Tryz.ntmps59
  go_wp2_with fail
  clear hwA
  refine (HC1.out _ (hT.next HBA.out)).mono ?_
  rintro e w1 ⟨rfl,hw1⟩
  have HB1:Hid (Below w.heap.size w w1):=Below.next HBA.out (Nat.le_refl _) (drew_below hw1)
  have HR1:Hid (w1.heap[w.heap.size]?=some (.cells #[.int .u32 0,.int .u32 0,.bool false] 111 (0,0))):=by obtain ⟨q,rfl⟩:=hw1;exact HRA.out
  clear hw1
  go_wp2_with fail
  refine (HC2.out _ (hT.next HB1.out)).mono ?_
  rintro e w2 ⟨rfl,hw2⟩
  have HB2:Hid (Below w.heap.size w w2):=Below.next HB1.out (Nat.le_refl _) (drew_below hw2)
  have HR2:Hid (w2.heap[w.heap.size]?=some (.cells #[.int .u32 0,.int .u32 0,.bool false] 111 (0,0))):=by obtain ⟨q,rfl⟩:=hw2;exact HR1.out
  clear hw2
  go_wp2_with fail
  refine (HR.out _ (hT.next HB2.out)).mono ?_
  rintro e w3 ⟨rfl,hb3⟩
  have hlt2:w.heap.size < w2.heap.size:=(Array.getElem?_eq_some_iff.1 HR2.out).1
  have HR3:Hid (w3.heap[w.heap.size]?=some (.cells #[.int .u32 0,.int .u32 0,.bool false] 111 (0,0))):=(hb3.block _ hlt2).trans HR2.out
  have HB3:Hid (Below w.heap.size w w3):=Below.next HB2.out (Nat.le_refl _) hb3
  have hlt3:w.heap.size < w3.heap.size:=(Array.getElem?_eq_some_iff.1 HR3.out).1
  clear hb3
  go_wp2_with fail
  refine (HS.out _ (hT.next HB3.out)).mono ?_
  rintro e w4 ⟨rfl,rfl⟩
  go_wp2_with (refine Hw.wpList_store_rowP rfl _ _ _ rfl rfl w.heap.size #[.int .u32 0,.int .u32 0,.bool false] rfl rfl _ _ ((heap_alloc_old _ _ hlt3).trans HR3.out) size_rule rfl rfl ?_;intro w5 p5;have P5:Hid (Hw.Put _ _ _ _ w5):=p5;clear p5)
  refine bodyPost_ret (Hw.results_row2 Tryz.results59 _ _ _ _ _ _ _ rfl P5.out.row Tryz.underlying111 rfl size_rule) rfl ⟨?_,(HB3.out.alloc (Nat.le_of_lt hlt3) _).trans (P5.out.below (Nat.le_refl _))⟩
  rw [HF.out];rfl
 by_cases hv:ver=[107,101,101,112]
 ·have HF:Hid (Hm.ruleOf fb sb ver=some ⟨fb,sb,true⟩):=by show _=_;unfold Hm.ruleOf Hm.kKeep;rw [if_neg (by rintro (h | h | ⟨h,_⟩);exact hf0 h;exact hs0 h;exact h hv),decide_eq_true hv]
  have f1:((fb:Int) == 0)=false:=beq_eq_false_iff_ne.2 (by omega)
  have f2:¬ (fb:Int)=0:=by omega
  have f3:((sb:Int) == 0)=false:=beq_eq_false_iff_ne.2 (by omega)
  have f4:¬ (sb:Int)=0:=by omega
  clear hs0 hf0
  subst hv
  obtain ⟨wA,hwA⟩:∃ wA,w.alloc (.cells #[.int .u32 0,.int .u32 0,.bool false] 111)=wA:=⟨_,rfl⟩
  have HBA:Hid (Below w.heap.size w wA):=by rw [<-hwA];exact (Below.refl _ _).alloc (Nat.le_refl _) _
  have HRA:Hid (wA.heap[w.heap.size]?=some (.cells #[.int .u32 0,.int .u32 0,.bool false] 111 (0,0))):=by rw [<-hwA];exact heap_alloc_new _ _
  go_enter Tryz.func59,Tryz.ntmps59
  go_wp2_with fail
  clear hwA
  refine (HC1.out _ (hT.next HBA.out)).mono ?_
  rintro e w1 ⟨rfl,hw1⟩
  have HB1:Hid (Below w.heap.size w w1):=Below.next HBA.out (Nat.le_refl _) (drew_below hw1)
  have HR1:Hid (w1.heap[w.heap.size]?=some (.cells #[.int .u32 0,.int .u32 0,.bool false] 111 (0,0))):=by obtain ⟨q,rfl⟩:=hw1;exact HRA.out
  clear hw1
  go_wp2_with fail
  refine (HC2.out _ (hT.next HB1.out)).mono ?_
  rintro e w2 ⟨rfl,hw2⟩
  have HB2:Hid (Below w.heap.size w w2):=Below.next HB1.out (Nat.le_refl _) (drew_below hw2)
  have HR2:Hid (w2.heap[w.heap.size]?=some (.cells #[.int .u32 0,.int .u32 0,.bool false] 111 (0,0))):=by obtain ⟨q,rfl⟩:=hw2;exact HR1.out
  clear hw2
  go_wp2_with fail
  refine (HR.out _ (hT.next HB2.out)).mono ?_
  rintro e w3 ⟨rfl,hb3⟩
  have hlt2:w.heap.size < w2.heap.size:=(Array.getElem?_eq_some_iff.1 HR2.out).1
  have HR3:Hid (w3.heap[w.heap.size]?=some (.cells #[.int .u32 0,.int .u32 0,.bool false] 111 (0,0))):=(hb3.block _ hlt2).trans HR2.out
  have HB3:Hid (Below w.heap.size w w3):=Below.next HB2.out (Nat.le_refl _) hb3
  have hlt3:w.heap.size < w3.heap.size:=(Array.getElem?_eq_some_iff.1 HR3.out).1
  clear hb3
  go_wp2_with fail
  refine (HS.out _ (hT.next HB3.out)).mono ?_
  rintro e w4 ⟨rfl,rfl⟩
  go_wp2_with (refine Hw.wpList_store_rowP rfl _ _ _ rfl rfl w.heap.size #[.int .u32 fb,.int .u32 sb,.bool true] rfl rfl _ _ ((heap_alloc_old _ _ hlt3).trans HR3.out) size_rule rfl rfl ?_;intro w5 p5;have P5:Hid (Hw.Put _ _ _ _ w5):=p5;clear p5)
  refine bodyPost_ret (Hw.results_row2 Tryz.results59 _ _ _ _ _ _ _ rfl P5.out.row Tryz.underlying111 rfl size_rule) rfl ⟨?_,(HB3.out.alloc (Nat.le_of_lt hlt3) _).trans (P5.out.below (Nat.le_refl _))⟩
  rw [HF.out];rfl
 have f5:(ver == [107,101,101,112])=false:=beq_eq_false_iff_ne.2 hv
 by_cases hd:ver=[100,114,111,112]
 ·have HF:Hid (Hm.ruleOf fb sb ver=some ⟨fb,sb,false⟩):=by show _=_;unfold Hm.ruleOf Hm.kKeep Hm.kDrop;rw [if_neg (by rintro (h | h | ⟨_,h⟩);exact hf0 h;exact hs0 h;exact h hd),decide_eq_false hv]
  have f1:((fb:Int) == 0)=false:=beq_eq_false_iff_ne.2 (by omega)
  have f2:¬ (fb:Int)=0:=by omega
  have f3:((sb:Int) == 0)=false:=beq_eq_false_iff_ne.2 (by omega)
  have f4:¬ (sb:Int)=0:=by omega
  clear hs0 hf0 f5 hv
  subst hd
  obtain ⟨wA,hwA⟩:∃ wA,w.alloc (.cells #[.int .u32 0,.int .u32 0,.bool false] 111)=wA:=⟨_,rfl⟩
  have HBA:Hid (Below w.heap.size w wA):=by rw [<-hwA];exact (Below.refl _ _).alloc (Nat.le_refl _) _
  have HRA:Hid (wA.heap[w.heap.size]?=some (.cells #[.int .u32 0,.int .u32 0,.bool false] 111 (0,0))):=by rw [<-hwA];exact heap_alloc_new _ _
  go_enter Tryz.func59,Tryz.ntmps59
  go_wp2_with fail
  clear hwA
  refine (HC1.out _ (hT.next HBA.out)).mono ?_
  rintro e w1 ⟨rfl,hw1⟩
  have HB1:Hid (Below w.heap.size w w1):=Below.next HBA.out (Nat.le_refl _) (drew_below hw1)
  have HR1:Hid (w1.heap[w.heap.size]?=some (.cells #[.int .u32 0,.int .u32 0,.bool false] 111 (0,0))):=by obtain ⟨q,rfl⟩:=hw1;exact HRA.out
  clear hw1
  go_wp2_with fail
  refine (HC2.out _ (hT.next HB1.out)).mono ?_
  rintro e w2 ⟨rfl,hw2⟩
  have HB2:Hid (Below w.heap.size w w2):=Below.next HB1.out (Nat.le_refl _) (drew_below hw2)
  have HR2:Hid (w2.heap[w.heap.size]?=some (.cells #[.int .u32 0,.int .u32 0,.bool false] 111 (0,0))):=by obtain ⟨q,rfl⟩:=hw2;exact HR1.out
  clear hw2
  go_wp2_with fail
  refine (HR.out _ (hT.next HB2.out)).mono ?_
  rintro e w3 ⟨rfl,hb3⟩
  have hlt2:w.heap.size < w2.heap.size:=(Array.getElem?_eq_some_iff.1 HR2.out).1
  have HR3:Hid (w3.heap[w.heap.size]?=some (.cells #[.int .u32 0,.int .u32 0,.bool false] 111 (0,0))):=(hb3.block _ hlt2).trans HR2.out
  have HB3:Hid (Below w.heap.size w w3):=Below.next HB2.out (Nat.le_refl _) hb3
  have hlt3:w.heap.size < w3.heap.size:=(Array.getElem?_eq_some_iff.1 HR3.out).1
  clear hb3
  go_wp2_with fail
  refine (HS.out _ (hT.next HB3.out)).mono ?_
  rintro e w4 ⟨rfl,rfl⟩
  go_wp2_with (refine Hw.wpList_store_rowP rfl _ _ _ rfl rfl w.heap.size #[.int .u32 fb,.int .u32 sb,.bool false] rfl rfl _ _ ((heap_alloc_old _ _ hlt3).trans HR3.out) size_rule rfl rfl ?_;intro w5 p5;have P5:Hid (Hw.Put _ _ _ _ w5):=p5;clear p5)
  refine bodyPost_ret (Hw.results_row2 Tryz.results59 _ _ _ _ _ _ _ rfl P5.out.row Tryz.underlying111 rfl size_rule) rfl ⟨?_,(HB3.out.alloc (Nat.le_of_lt hlt3) _).trans (P5.out.below (Nat.le_refl _))⟩
  rw [HF.out];rfl
 ·have HF:Hid (Hm.ruleOf fb sb ver=none):=by show _=_;unfold Hm.ruleOf Hm.kKeep Hm.kDrop;rw [if_pos (.inr (.inr ⟨hv,hd⟩))]
  have f6:(ver == [100,114,111,112])=false:=beq_eq_false_iff_ne.2 hd
  have f1:((fb:Int) == 0)=false:=beq_eq_false_iff_ne.2 (by omega)
  have f2:¬ (fb:Int)=0:=by omega
  have f3:((sb:Int) == 0)=false:=beq_eq_false_iff_ne.2 (by omega)
  have f4:¬ (sb:Int)=0:=by omega
  clear hs0 hf0
  obtain ⟨wA,hwA⟩:∃ wA,w.alloc (.cells #[.int .u32 0,.int .u32 0,.bool false] 111)=wA:=⟨_,rfl⟩
  have HBA:Hid (Below w.heap.size w wA):=by rw [<-hwA];exact (Below.refl _ _).alloc (Nat.le_refl _) _
  have HRA:Hid (wA.heap[w.heap.size]?=some (.cells #[.int .u32 0,.int .u32 0,.bool false] 111 (0,0))):=by rw [<-hwA];exact heap_alloc_new _ _
  go_enter Tryz.func59,Tryz.ntmps59
  go_wp2_with fail
  clear hwA
  refine (HC1.out _ (hT.next HBA.out)).mono ?_
  rintro e w1 ⟨rfl,hw1⟩
  have HB1:Hid (Below w.heap.size w w1):=Below.next HBA.out (Nat.le_refl _) (drew_below hw1)
  have HR1:Hid (w1.heap[w.heap.size]?=some (.cells #[.int .u32 0,.int .u32 0,.bool false] 111 (0,0))):=by obtain ⟨q,rfl⟩:=hw1;exact HRA.out
  clear hw1
  go_wp2_with fail
  refine (HC2.out _ (hT.next HB1.out)).mono ?_
  rintro e w2 ⟨rfl,hw2⟩
  have HB2:Hid (Below w.heap.size w w2):=Below.next HB1.out (Nat.le_refl _) (drew_below hw2)
  have HR2:Hid (w2.heap[w.heap.size]?=some (.cells #[.int .u32 0,.int .u32 0,.bool false] 111 (0,0))):=by obtain ⟨q,rfl⟩:=hw2;exact HR1.out
  clear hw2
  go_wp2_with fail
  refine (HR.out _ (hT.next HB2.out)).mono ?_
  rintro e w3 ⟨rfl,hb3⟩
  have hlt2:w.heap.size < w2.heap.size:=(Array.getElem?_eq_some_iff.1 HR2.out).1
  have HR3:Hid (w3.heap[w.heap.size]?=some (.cells #[.int .u32 0,.int .u32 0,.bool false] 111 (0,0))):=(hb3.block _ hlt2).trans HR2.out
  have HB3:Hid (Below w.heap.size w w3):=Below.next HB2.out (Nat.le_refl _) hb3
  have hlt3:w.heap.size < w3.heap.size:=(Array.getElem?_eq_some_iff.1 HR3.out).1
  clear hb3
  go_wp2_with fail
  refine (HS.out _ (hT.next HB3.out)).mono ?_
  rintro e w4 ⟨rfl,rfl⟩
  go_wp2_with (refine Hw.wpList_store_rowP rfl _ _ _ rfl rfl w.heap.size #[.int .u32 0,.int .u32 0,.bool false] rfl rfl _ _ ((heap_alloc_old _ _ hlt3).trans HR3.out) size_rule rfl rfl ?_;intro w5 p5;have P5:Hid (Hw.Put _ _ _ _ w5):=p5;clear p5)
  refine bodyPost_ret (Hw.results_row2 Tryz.results59 _ _ _ _ _ _ _ rfl P5.out.row Tryz.underlying111 rfl size_rule) rfl ⟨?_,(HB3.out.alloc (Nat.le_of_lt hlt3) _).trans (P5.out.below (Nat.le_refl _))⟩
  rw [HF.out];rfl
end Go.Proofs.YtdlhbmncbmconaaGreatDoor
namespace Go.Proofs.YtdlhbmncbmconaaGreatDoor
open Go.RowKit Go.Sort
attribute [local go_sem] alloc_drewN setCell_drewN
def rlCells (rs:List Hm.Rl):List Value:=rs.flatMap fun r=>[.int .u32 r.fac,.int .u32 r.sev,.bool r.keep]
def strLen:Value->Nat | .string s=>s.size | _=>0
theorem info_rule:(Tryz.prog.info? 111).map (fun i=>(i.zero,i.size,i.bytes))=some (some (.agg #[.int .u32 0,.int .u32 0,.bool false]),3,12):=by kernel_rfl
structure RulesAt (w:World) (p:Nat) (rs:List Hm.Rl) (v:Value):Prop where
 row:w.heap[p]?=some (.cells #[v] 106 (0,0))
 own:w.ownsRow (p+1) 111 3 v rs.length (rlCells rs)
theorem cell_three_new (w:World) (x y z:Value) (t:TypeId):∀ j u,[x,y,z][j]?=some u->(w.alloc (.cells #[x,y,z] t)).cell? ((⟨w.heap.size,0,none⟩:Addr).add j)=some u:=by
 intro j u hj
 match j,hj with
 | 0,hj=>simp at hj;subst hj;simp [Addr.add]
 | 1,hj=>simp at hj;subst hj;simp [Addr.add]
 | 2,hj=>simp at hj;subst hj;simp [Addr.add]
def RI (s:ByteArray) (w:World) (tx nm:Value) (wr:World):Prop:=∃ (fu k:Nat) (l:List UInt8) (acc:List Hm.Rl) (v:Value),tx=.string ⟨l.toArray⟩/\nm=.int .i64 k/\k<=12/\acc.length=k/\l.length < fu/\l.length<=400 /\
 Hm.newRules s.data.toList=Hm.rulesFrom fu k l acc/\wr.heap[w.heap.size]?=some (.cells #[v] 106 (0,0))/\wr.ownsRow (w.heap.size+1) 111 3 v acc.length (rlCells acc)/\Below w.heap.size w wr
def NRPost (r:Except Nat (List Hm.Rl)) (w:World) (e:Ending) (w':World):Prop:=match r with
 | .error n=>e=.returned (.tuple #[.pointer none,.int .i64 11,.int .i64 n])
 | .ok rs=>e=.returned (.tuple #[.pointer (some ⟨w.heap.size,0,none⟩),.int .i64 0,.int .i64 0])/\∃ v,RulesAt w' w.heap.size rs v
set_option maxRecDepth 20000 in
set_option maxHeartbeats 2000000 in
theorem NewRules_any (s:ByteArray) (w:World) (hT:Tabs w) (h:s.size<=400) :
  Calls Tryz.prog 32 #[.string s] w fun e w'=>Below w.heap.size w w'/\NRPost (Hm.newRules s.data.toList) w e w':=by
 have h':¬ (400:Int) < (s.size:Int):=by omega
 have HL:Hid (s.size<=400):=h
 clear h
 obtain ⟨i0,hi,hz0,hz1,hz2'⟩:=info_parts info_rule
 go_enter Tryz.func32,Tryz.ntmps32
 go_wp2
 go_loopw [0,6] (RI s w) (fun tx _ _=>strLen tx)
 case atStart=>
  refine ⟨s.data.toList.length+1,0,s.data.toList,[],.slice none 0 0,?_,rfl,by omega,rfl,by omega,by rw [Hm.len];exact HL.out,rfl,heap_alloc_new _ _,World.ownsRow_nil _ _ _ _,(Below.refl _ _).alloc (Nat.le_refl _) _⟩
  cases s;simp
 case round=>
  obtain ⟨fu,k,l,acc,v,rfl,rfl,hk,rfl,hfu,hl,hv,hr,ho,hb⟩:=hrel
  obtain ⟨fu,rfl⟩:∃ g,fu=g+1:=⟨fu - 1,by omega⟩
  have HV:Hid (Hm.newRules s.data.toList=Hm.rulesFrom (fu+1) acc.length l acc):=hv
  have HR:Hid (wr.heap[w.heap.size]?=some (.cells #[v] 106 (0,0))):=hr
  have HO:Hid (wr.ownsRow (w.heap.size+1) 111 3 v acc.length (rlCells acc)):=ho
  have HB:Hid (Below w.heap.size w wr):=hb
  clear hv hr ho hb
  by_cases hl0:l=[]
  ·have HV2:Hid (Hm.newRules s.data.toList=.ok acc):=by show _=_;rw [HV.out,Hm.rulesFrom,if_pos hl0]
   subst hl0
   go_wp2
   refine bodyPost_ret (v:=.tuple #[.pointer (some ⟨w.heap.size,0,none⟩),.int .i64 0,.int .i64 0]) (by simp [results,Tryz.results32,go_sem]) rfl ⟨HB.out,?_⟩
   rw [HV2.out]
   exact ⟨rfl,v,HR.out,HO.out⟩
  ·have b0:(l == [])=false:=beq_eq_false_iff_ne.2 hl0
   have hcl:=Hm.cutB_le 10 l
   have HC:Hid (∀ w,Tabs w->Calls Tryz.prog 58 #[.string ⟨l.toArray⟩,.string ⟨#[10]⟩] w fun e w'=>e=.returned (.tuple #[.string ⟨(Hm.cutB 10 l).1.toArray⟩,.string ⟨(Hm.cutB 10 l).2.1.toArray⟩,.bool (Hm.cutB 10 l).2.2])/\∃ n,w'=w.drewN n):=fun w hT=>cut_at 10 ⟨l.toArray⟩ w hT (by show l.toArray.size<=_;simp;omega)
   have HV2:Hid (Hm.newRules s.data.toList=if acc.length=12∨(Hm.cutB 10 l).2.2=false then .error acc.length else match Hm.readRule (Hm.cutB 10 l).1 with | none=>.error acc.length | some r=>Hm.rulesFrom fu (acc.length+1) (Hm.cutB 10 l).2.1 (acc ++ [r])):=by
    show _=_
    rw [HV.out,Hm.rulesFrom,if_neg hl0]
    all_goals rfl
   obtain ⟨⟨ln,bh,en⟩,hcut⟩:∃ r,Hm.cutB 10 l=r:=⟨_,rfl⟩
   rw [hcut] at HC HV2 hcl
   clear hcut
   dsimp only at HC HV2 hcl
   have HRd:Hid (∀ w,Tabs w->Calls Tryz.prog 59 #[.string ⟨ln.toArray⟩] w fun e w'=>e=.returned (.tuple #[rlV (Hm.readRule ln),.bool (Hm.readRule ln).isSome])/\Below w.heap.size w w'):=fun w hT=>readRule_any ⟨ln.toArray⟩ w hT (by show ln.toArray.size<=_;simp;omega)
   obtain ⟨ru,hru⟩:∃ r,Hm.readRule ln=r:=⟨_,rfl⟩
   rw [hru] at HRd HV2
   have HRu:Hid (Hm.readRule ln=ru):=hru
   clear hru HV
   by_cases hk12:acc.length=12
   ·rw [if_pos (.inl hk12),hk12] at HV2
    have f1:((acc.length:Int) == 12)=true:=by rw [hk12];rfl
    have f2:(acc.length:Int)=12:=by omega
    have b0':¬ l=[]:=hl0
    clear hk12 hcl hl0
    cases ru with
    | none=>
     unfold rlV at HRd
     dsimp only [Option.isSome] at HRd
     go_wp2_with fail
     refine (HC.out _ (hT.next HB.out)).mono ?_
     rintro e w1 ⟨rfl,hw1⟩
     have HB1:Hid (Below w.heap.size w w1):=Below.next HB.out (Nat.le_refl _) (drew_below hw1)
     clear hw1
     go_wp2_with fail
     refine (HRd.out _ (hT.next HB1.out)).mono ?_
     rintro e w2 ⟨rfl,hb2⟩
     have HB2:Hid (Below w.heap.size w w2):=Below.next HB1.out (Nat.le_refl _) hb2
     clear hb2
     go_wp2
     refine bodyPost_ret (v:=.tuple #[.pointer none,.int .i64 11,.int .i64 12]) (by simp [results,Tryz.results32,go_sem]) rfl ⟨HB2.out.alloc HB2.out.size _,?_⟩
     rw [HV2.out]
     rfl
    | some r=>
     unfold rlV at HRd
     dsimp only [Option.isSome] at HRd
     go_wp2_with fail
     refine (HC.out _ (hT.next HB.out)).mono ?_
     rintro e w1 ⟨rfl,hw1⟩
     have HB1:Hid (Below w.heap.size w w1):=Below.next HB.out (Nat.le_refl _) (drew_below hw1)
     clear hw1
     go_wp2_with fail
     refine (HRd.out _ (hT.next HB1.out)).mono ?_
     rintro e w2 ⟨rfl,hb2⟩
     have HB2:Hid (Below w.heap.size w w2):=Below.next HB1.out (Nat.le_refl _) hb2
     clear hb2
     go_wp2
     refine bodyPost_ret (v:=.tuple #[.pointer none,.int .i64 11,.int .i64 12]) (by simp [results,Tryz.results32,go_sem]) rfl ⟨HB2.out.alloc HB2.out.size _,?_⟩
     rw [HV2.out]
     rfl
   ·cases en
    ·rw [if_pos (.inr rfl)] at HV2
     have f1:((acc.length:Int) == 12)=false:=beq_eq_false_iff_ne.2 (by omega)
     have f2:¬ (acc.length:Int)=12:=by omega
     clear hcl
     cases ru with
     | none=>
      unfold rlV at HRd
      dsimp only [Option.isSome] at HRd
      go_wp2_with fail
      refine (HC.out _ (hT.next HB.out)).mono ?_
      rintro e w1 ⟨rfl,hw1⟩
      have HB1:Hid (Below w.heap.size w w1):=Below.next HB.out (Nat.le_refl _) (drew_below hw1)
      clear hw1
      go_wp2_with fail
      refine (HRd.out _ (hT.next HB1.out)).mono ?_
      rintro e w2 ⟨rfl,hb2⟩
      have HB2:Hid (Below w.heap.size w w2):=Below.next HB1.out (Nat.le_refl _) hb2
      clear hb2
      go_wp2
      refine bodyPost_ret (v:=.tuple #[.pointer none,.int .i64 11,.int .i64 acc.length]) (by simp [results,Tryz.results32,go_sem]) rfl ⟨HB2.out.alloc HB2.out.size _,?_⟩
      rw [HV2.out]
      rfl
     | some r=>
      unfold rlV at HRd
      dsimp only [Option.isSome] at HRd
      go_wp2_with fail
      refine (HC.out _ (hT.next HB.out)).mono ?_
      rintro e w1 ⟨rfl,hw1⟩
      have HB1:Hid (Below w.heap.size w w1):=Below.next HB.out (Nat.le_refl _) (drew_below hw1)
      clear hw1
      go_wp2_with fail
      refine (HRd.out _ (hT.next HB1.out)).mono ?_
      rintro e w2 ⟨rfl,hb2⟩
      have HB2:Hid (Below w.heap.size w w2):=Below.next HB1.out (Nat.le_refl _) hb2
      clear hb2
      go_wp2
      refine bodyPost_ret (v:=.tuple #[.pointer none,.int .i64 11,.int .i64 acc.length]) (by simp [results,Tryz.results32,go_sem]) rfl ⟨HB2.out.alloc HB2.out.size _,?_⟩
      rw [HV2.out]
      rfl
    ·cases ru with
     | none=>
      rw [if_neg (by simp [hk12])] at HV2
      dsimp only at HV2
      have f1:((acc.length:Int) == 12)=false:=beq_eq_false_iff_ne.2 (by omega)
      have f2:¬ (acc.length:Int)=12:=by omega
      clear hcl
      unfold rlV at HRd
      dsimp only [Option.isSome] at HRd
      go_wp2_with fail
      refine (HC.out _ (hT.next HB.out)).mono ?_
      rintro e w1 ⟨rfl,hw1⟩
      have HB1:Hid (Below w.heap.size w w1):=Below.next HB.out (Nat.le_refl _) (drew_below hw1)
      clear hw1
      go_wp2_with fail
      refine (HRd.out _ (hT.next HB1.out)).mono ?_
      rintro e w2 ⟨rfl,hb2⟩
      have HB2:Hid (Below w.heap.size w w2):=Below.next HB1.out (Nat.le_refl _) hb2
      clear hb2
      go_wp2
      refine bodyPost_ret (v:=.tuple #[.pointer none,.int .i64 11,.int .i64 acc.length]) (by simp [results,Tryz.results32,go_sem]) rfl ⟨HB2.out.alloc HB2.out.size _,?_⟩
      rw [HV2.out]
      rfl
     | some r=>
      have hbl:bh.length < l.length:=hcl.2.2 rfl
      have hbl2:bh.length<=400:=by omega
      clear hcl
      have f1:((acc.length:Int) == 12)=false:=beq_eq_false_iff_ne.2 (by omega)
      have f2:¬ (acc.length:Int)=12:=by omega
      unfold rlV at HRd
      dsimp only at HRd HV2
      rw [if_neg (by simp [hk12])] at HV2
      go_wp2_with fail
      refine (HC.out _ (hT.next HB.out)).mono ?_
      rintro e w1 ⟨rfl,hw1⟩
      have HB1:Hid (Below w.heap.size w w1):=Below.next HB.out (Nat.le_refl _) (drew_below hw1)
      have HR1:Hid (w1.heap[w.heap.size]?=some (.cells #[v] 106 (0,0))):=by obtain ⟨q,rfl⟩:=hw1;exact HR.out
      have HO1:Hid (w1.ownsRow (w.heap.size+1) 111 3 v acc.length (rlCells acc)):=by obtain ⟨q,rfl⟩:=hw1;exact HO.out
      clear hw1
      go_wp2_with fail
      refine (HRd.out _ (hT.next HB1.out)).mono ?_
      rintro e w2 ⟨rfl,hb2⟩
      have HB2:Hid (Below w.heap.size w w2):=Below.next HB1.out (Nat.le_refl _) hb2
      have HR2:Hid (w2.heap[w.heap.size]?=some (.cells #[v] 106 (0,0))):=(hb2.block _ (Array.getElem?_eq_some_iff.1 HR1.out).1).trans HR1.out
      have HO2:Hid (w2.ownsRow (w.heap.size+1) 111 3 v acc.length (rlCells acc)):=Hw.ownsRow_keptS (S:=fun _=>False) HO1.out (Hw.Kept.of_below hb2) (fun _ _ e=>e)
      clear hb2
      go_wp2_with fail
      obtain ⟨w3,hw3⟩:∃ w3,w2.alloc (.cells #[.int .u32 r.fac,.int .u32 r.sev,.bool r.keep] 111)=w3:=⟨_,rfl⟩
      have hlt:w.heap.size < w2.heap.size:=(Array.getElem?_eq_some_iff.1 HR2.out).1
      have HB3:Hid (Below w.heap.size w w3):=by rw [<-hw3];exact HB2.out.alloc (Nat.le_of_lt hlt) _
      have HR3:Hid (w3.heap[w.heap.size]?=some (.cells #[v] 106 (0,0))):=by rw [<-hw3];exact (heap_alloc_old _ _ hlt).trans HR2.out
      have HO3:Hid (w3.ownsRow (w.heap.size+1) 111 3 v acc.length (rlCells acc)):=by rw [<-hw3];exact HO2.out.alloc _
      have HN3:Hid (w3.heap[w2.heap.size]?=some (.cells #[.int .u32 r.fac,.int .u32 r.sev,.bool r.keep] 111 (0,0))):=by rw [<-hw3];exact heap_alloc_new _ _
      rw [hw3]
      clear hw3
      have e0:w3.cell? ⟨w2.heap.size,0,none⟩=some (.int .u32 r.fac):=by simp [World.cell?,HN3.out]
      have e1:w3.cell? ⟨w2.heap.size,1,none⟩=some (.int .u32 r.sev):=by simp [World.cell?,HN3.out]
      have e2:w3.cell? ⟨w2.heap.size,2,none⟩=some (.bool r.keep):=by simp [World.cell?,HN3.out]
      have c0:w3.cell? ⟨w.heap.size,0,none⟩=some v:=by simp [World.cell?,HR3.out]
      have hlt3:w.heap.size < w3.heap.size:=(Array.getElem?_eq_some_iff.1 HR3.out).1
      have hne3:w.heap.size ≠ w3.heap.size:=by omega
      have hne4:¬ w3.heap.size=w.heap.size:=by omega
      refine wp_region_any mixed ?_
      change wpAny _ _ _ _ _ _ _ (World.drew _)
      refine wpAny_take (i:=0) (v:=.pointer (some ⟨w.heap.size,0,none⟩)) rfl (by kernel_rfl) (by kernel_rfl) (by kernel_rfl) (fun _ _ _ h=>h) (Or.inl ⟨by rfl,?_⟩) ?_
      ·intro w;go_simp
      refine wpAny_take (i:=1) (v:=.pointer (some ⟨w.heap.size,0,none⟩)) rfl (by kernel_rfl) (by kernel_rfl) (by kernel_rfl) (fun _ _ _ h=>h) (Or.inl ⟨by rfl,?_⟩) ?_
      ·intro w;go_simp
      refine wpAny_take (i:=2) (v:=.pointer (some ⟨w.heap.size,0,none⟩)) rfl (by kernel_rfl) (by kernel_rfl) (by kernel_rfl) (fun _ _ _ h=>h) (Or.inl ⟨by rfl,?_⟩) ?_
      ·intro w;go_simp
      refine wpAny_take (i:=3) (v:=.pointer (some ⟨w.heap.size,0,none⟩)) rfl (by kernel_rfl) (by kernel_rfl) (by kernel_rfl) (fun _ _ _ h=>h) (Or.inl ⟨by rfl,?_⟩) ?_
      ·intro w;go_simp
      refine wpAny_ready (rs:=[4,5]) (by kernel_rfl) (by simp) ?_
      refine AllReady.cons rfl (fun K hK=>?_) (AllReady.cons rfl (fun K hK=>?_) AllReady.nil)
      ·go_simp
       refine hK _ _ ?_
       clear hK K
       refine wpAny_ready (rs:=[5]) (by kernel_rfl) (by simp) ?_
       refine AllReady.cons rfl (fun K hK=>?_) AllReady.nil
       go_simp
       refine hK _ _ ?_
       clear hK K
       refine wpAny_ready (rs:=[6]) (by kernel_rfl) (by simp) ?_
       refine AllReady.cons rfl (fun K hK=>?_) AllReady.nil
       go_simp
       refine hK _ _ ?_
       clear hK K
       refine Hw.wpAny_tail 7 rfl (by kernel_rfl) ?_
       simp only [List.drop_succ_cons,List.drop_zero]
       obtain ⟨w4,hw4⟩:∃ w4,(w3.alloc (.cells #[.int .u32 r.fac,.int .u32 r.sev,.bool r.keep] 111)).drew=w4:=⟨_,rfl⟩
       have hB34:Below w3.heap.size w3 w4:=by rw [<-hw4];exact ((Below.refl _ _).alloc (Nat.le_refl _) _).drew
       have HO4:Hid (w4.ownsRow (w.heap.size+1) 111 3 v acc.length (rlCells acc)):=Hw.ownsRow_keptS (S:=fun _=>False) HO3.out (Hw.Kept.of_below hB34) (fun _ _ e=>e)
       have HR4:Hid (w4.heap[w.heap.size]?=some (.cells #[v] 106 (0,0))):=(hB34.block _ hlt3).trans HR3.out
       have HB4:Hid (Below w.heap.size w w4):=Below.next HB3.out (Nat.le_refl _) hB34
       have HN4:Hid (∀ j u,[Value.int .u32 r.fac,.int .u32 r.sev,.bool r.keep][j]?=some u->w4.cell? ((⟨w3.heap.size,0,none⟩:Addr).add j)=some u):=by
        intro j u hj
        rw [<-hw4]
        exact cell_three_new w3 _ _ _ 111 j u hj
       have hsz4:w.heap.size+1<=w4.heap.size:=by have:=hB34.size;omega
       rw [hw4]
       clear hw4 hB34
       go_wp2_with (first
        | (at_builtin;refine wpList_append_own_at _ rfl _ _ 104 rfl (w.heap.size+1) 111 i0 (.agg #[.int .u32 0,.int .u32 0,.bool false]) 3 12 Tryz.underlying104 hi hz0 hz1 hz2' rfl (by decide) _ _ _ rfl HO4.out ⟨w3.heap.size,0,none⟩ 1 1 [.int .u32 r.fac,.int .u32 r.sev,.bool r.keep] rfl rfl HN4.out (fun x hx=>by simp at hx;rcases hx with hx | hx | hx<;>subst hx<;>rfl) (by unfold maxLen;omega) (by omega) hsz4 ?_;intro v' w5 hown' hgrow hnil hat;have HO5:Hid (w5.ownsRow (w.heap.size+1) 111 3 v' (acc.length+1) (rlCells acc ++ [.int .u32 r.fac,.int .u32 r.sev,.bool r.keep])):=hown';have HB5:Hid (Below w.heap.size w w5):=HB4.out.grown hgrow HB4.out.size (fun q e=>by have:=(HO4.out.lt q e).1;omega);have HR5:Hid (w5.heap[w.heap.size]?=some (.cells #[v] 106 (0,0))):=(hgrow.block _ (by omega) (fun e=>by have:=(HO4.out.lt _ e.symm).1;omega)).trans HR4.out;obtain ⟨g5,cap5,hv5⟩:∃ g5 cap5,v'=.slice (some ⟨g5,0,none⟩) (acc.length+1) cap5:=(by rcases hown'.2 with ⟨_,h⟩ | ⟨g5,cap5,_,h,_⟩;omega;exact ⟨g5,cap5,h⟩);subst hv5;have t5:w5.cell? ⟨w.heap.size,0,none⟩=some v:=(by simp [World.cell?,HR5.out]);have f5:w5.frozen? ⟨w.heap.size,0,none⟩=false:=(by simp [World.frozen?,HR5.out]);clear hown' hgrow hat hnil))
       go_roundw
       case rel=>
        have P6:=put_setCell (i:=0) (.slice (some ⟨g5,0,none⟩) (acc.length+1) cap5) HR5.out
        refine ⟨fu,acc.length+1,bh,acc ++ [r],.slice (some ⟨g5,0,none⟩) (acc.length+1) cap5,rfl,int_eq (by simp),by omega,by simp,by omega,by omega,HV2.out,P6.row,?_,HB5.out.trans (P6.below (Nat.le_refl _))⟩
        have:=Hw.ownsRow_keptS HO5.out P6.kept (fun q e h=>by have:=(HO5.out.lt q e).1;omega)
        rw [show rlCells (acc ++ [r])=rlCells acc ++ [.int .u32 r.fac,.int .u32 r.sev,.bool r.keep] by simp [rlCells],show (acc ++ [r]).length=acc.length+1 by simp]
        exact this
       case measure=>
        show bh.toArray.size < l.toArray.size
        simp
        exact hbl
      ·go_simp
       refine hK _ _ ?_
       clear hK K
       refine wpAny_ready (rs:=[4,6]) (by kernel_rfl) (by simp) ?_
       refine AllReady.cons rfl (fun K hK=>?_) (AllReady.cons rfl (fun K hK=>?_) AllReady.nil)
       ·go_simp
        refine hK _ _ ?_
        clear hK K
        refine wpAny_ready (rs:=[6]) (by kernel_rfl) (by simp) ?_
        refine AllReady.cons rfl (fun K hK=>?_) AllReady.nil
        go_simp
        refine hK _ _ ?_
        clear hK K
        refine Hw.wpAny_tail 7 rfl (by kernel_rfl) ?_
        simp only [List.drop_succ_cons,List.drop_zero]
        obtain ⟨w4,hw4⟩:∃ w4,(w3.alloc (.cells #[.int .u32 r.fac,.int .u32 r.sev,.bool r.keep] 111)).drew=w4:=⟨_,rfl⟩
        have hB34:Below w3.heap.size w3 w4:=by rw [<-hw4];exact ((Below.refl _ _).alloc (Nat.le_refl _) _).drew
        have HO4:Hid (w4.ownsRow (w.heap.size+1) 111 3 v acc.length (rlCells acc)):=Hw.ownsRow_keptS (S:=fun _=>False) HO3.out (Hw.Kept.of_below hB34) (fun _ _ e=>e)
        have HR4:Hid (w4.heap[w.heap.size]?=some (.cells #[v] 106 (0,0))):=(hB34.block _ hlt3).trans HR3.out
        have HB4:Hid (Below w.heap.size w w4):=Below.next HB3.out (Nat.le_refl _) hB34
        have HN4:Hid (∀ j u,[Value.int .u32 r.fac,.int .u32 r.sev,.bool r.keep][j]?=some u->w4.cell? ((⟨w3.heap.size,0,none⟩:Addr).add j)=some u):=by
         intro j u hj
         rw [<-hw4]
         exact cell_three_new w3 _ _ _ 111 j u hj
        have hsz4:w.heap.size+1<=w4.heap.size:=by have:=hB34.size;omega
        rw [hw4]
        clear hw4 hB34
        go_wp2_with (first
         | (at_builtin;refine wpList_append_own_at _ rfl _ _ 104 rfl (w.heap.size+1) 111 i0 (.agg #[.int .u32 0,.int .u32 0,.bool false]) 3 12 Tryz.underlying104 hi hz0 hz1 hz2' rfl (by decide) _ _ _ rfl HO4.out ⟨w3.heap.size,0,none⟩ 1 1 [.int .u32 r.fac,.int .u32 r.sev,.bool r.keep] rfl rfl HN4.out (fun x hx=>by simp at hx;rcases hx with hx | hx | hx<;>subst hx<;>rfl) (by unfold maxLen;omega) (by omega) hsz4 ?_;intro v' w5 hown' hgrow hnil hat;have HO5:Hid (w5.ownsRow (w.heap.size+1) 111 3 v' (acc.length+1) (rlCells acc ++ [.int .u32 r.fac,.int .u32 r.sev,.bool r.keep])):=hown';have HB5:Hid (Below w.heap.size w w5):=HB4.out.grown hgrow HB4.out.size (fun q e=>by have:=(HO4.out.lt q e).1;omega);have HR5:Hid (w5.heap[w.heap.size]?=some (.cells #[v] 106 (0,0))):=(hgrow.block _ (by omega) (fun e=>by have:=(HO4.out.lt _ e.symm).1;omega)).trans HR4.out;obtain ⟨g5,cap5,hv5⟩:∃ g5 cap5,v'=.slice (some ⟨g5,0,none⟩) (acc.length+1) cap5:=(by rcases hown'.2 with ⟨_,h⟩ | ⟨g5,cap5,_,h,_⟩;omega;exact ⟨g5,cap5,h⟩);subst hv5;have t5:w5.cell? ⟨w.heap.size,0,none⟩=some v:=(by simp [World.cell?,HR5.out]);have f5:w5.frozen? ⟨w.heap.size,0,none⟩=false:=(by simp [World.frozen?,HR5.out]);clear hown' hgrow hat hnil))
        go_roundw
        case rel=>
         have P6:=put_setCell (i:=0) (.slice (some ⟨g5,0,none⟩) (acc.length+1) cap5) HR5.out
         refine ⟨fu,acc.length+1,bh,acc ++ [r],.slice (some ⟨g5,0,none⟩) (acc.length+1) cap5,rfl,int_eq (by simp),by omega,by simp,by omega,by omega,HV2.out,P6.row,?_,HB5.out.trans (P6.below (Nat.le_refl _))⟩
         have:=Hw.ownsRow_keptS HO5.out P6.kept (fun q e h=>by have:=(HO5.out.lt q e).1;omega)
         rw [show rlCells (acc ++ [r])=rlCells acc ++ [.int .u32 r.fac,.int .u32 r.sev,.bool r.keep] by simp [rlCells],show (acc ++ [r]).length=acc.length+1 by simp]
         exact this
        case measure=>
         show bh.toArray.size < l.toArray.size
         simp
         exact hbl
       ·go_simp
        refine hK _ _ ?_
        clear hK K
        refine wpAny_ready (rs:=[4]) (by kernel_rfl) (by simp) ?_
        refine AllReady.cons rfl (fun K hK=>?_) AllReady.nil
        go_simp
        refine hK _ _ ?_
        clear hK K
        refine Hw.wpAny_tail 7 rfl (by kernel_rfl) ?_
        simp only [List.drop_succ_cons,List.drop_zero]
        obtain ⟨w4,hw4⟩:∃ w4,(w3.alloc (.cells #[.int .u32 r.fac,.int .u32 r.sev,.bool r.keep] 111)).drew=w4:=⟨_,rfl⟩
        have hB34:Below w3.heap.size w3 w4:=by rw [<-hw4];exact ((Below.refl _ _).alloc (Nat.le_refl _) _).drew
        have HO4:Hid (w4.ownsRow (w.heap.size+1) 111 3 v acc.length (rlCells acc)):=Hw.ownsRow_keptS (S:=fun _=>False) HO3.out (Hw.Kept.of_below hB34) (fun _ _ e=>e)
        have HR4:Hid (w4.heap[w.heap.size]?=some (.cells #[v] 106 (0,0))):=(hB34.block _ hlt3).trans HR3.out
        have HB4:Hid (Below w.heap.size w w4):=Below.next HB3.out (Nat.le_refl _) hB34
        have HN4:Hid (∀ j u,[Value.int .u32 r.fac,.int .u32 r.sev,.bool r.keep][j]?=some u->w4.cell? ((⟨w3.heap.size,0,none⟩:Addr).add j)=some u):=by
         intro j u hj
         rw [<-hw4]
         exact cell_three_new w3 _ _ _ 111 j u hj
        have hsz4:w.heap.size+1<=w4.heap.size:=by have:=hB34.size;omega
        rw [hw4]
        clear hw4 hB34
        go_wp2_with (first
         | (at_builtin;refine wpList_append_own_at _ rfl _ _ 104 rfl (w.heap.size+1) 111 i0 (.agg #[.int .u32 0,.int .u32 0,.bool false]) 3 12 Tryz.underlying104 hi hz0 hz1 hz2' rfl (by decide) _ _ _ rfl HO4.out ⟨w3.heap.size,0,none⟩ 1 1 [.int .u32 r.fac,.int .u32 r.sev,.bool r.keep] rfl rfl HN4.out (fun x hx=>by simp at hx;rcases hx with hx | hx | hx<;>subst hx<;>rfl) (by unfold maxLen;omega) (by omega) hsz4 ?_;intro v' w5 hown' hgrow hnil hat;have HO5:Hid (w5.ownsRow (w.heap.size+1) 111 3 v' (acc.length+1) (rlCells acc ++ [.int .u32 r.fac,.int .u32 r.sev,.bool r.keep])):=hown';have HB5:Hid (Below w.heap.size w w5):=HB4.out.grown hgrow HB4.out.size (fun q e=>by have:=(HO4.out.lt q e).1;omega);have HR5:Hid (w5.heap[w.heap.size]?=some (.cells #[v] 106 (0,0))):=(hgrow.block _ (by omega) (fun e=>by have:=(HO4.out.lt _ e.symm).1;omega)).trans HR4.out;obtain ⟨g5,cap5,hv5⟩:∃ g5 cap5,v'=.slice (some ⟨g5,0,none⟩) (acc.length+1) cap5:=(by rcases hown'.2 with ⟨_,h⟩ | ⟨g5,cap5,_,h,_⟩;omega;exact ⟨g5,cap5,h⟩);subst hv5;have t5:w5.cell? ⟨w.heap.size,0,none⟩=some v:=(by simp [World.cell?,HR5.out]);have f5:w5.frozen? ⟨w.heap.size,0,none⟩=false:=(by simp [World.frozen?,HR5.out]);clear hown' hgrow hat hnil))
        go_roundw
        case rel=>
         have P6:=put_setCell (i:=0) (.slice (some ⟨g5,0,none⟩) (acc.length+1) cap5) HR5.out
         refine ⟨fu,acc.length+1,bh,acc ++ [r],.slice (some ⟨g5,0,none⟩) (acc.length+1) cap5,rfl,int_eq (by simp),by omega,by simp,by omega,by omega,HV2.out,P6.row,?_,HB5.out.trans (P6.below (Nat.le_refl _))⟩
         have:=Hw.ownsRow_keptS HO5.out P6.kept (fun q e h=>by have:=(HO5.out.lt q e).1;omega)
         rw [show rlCells (acc ++ [r])=rlCells acc ++ [.int .u32 r.fac,.int .u32 r.sev,.bool r.keep] by simp [rlCells],show (acc ++ [r]).length=acc.length+1 by simp]
         exact this
        case measure=>
         show bh.toArray.size < l.toArray.size
         simp
         exact hbl
end Go.Proofs.YtdlhbmncbmconaaGreatDoor

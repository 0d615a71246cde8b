/- Pressed by program out of Bs. -/
import Derived.Test.YtdlhbmncbmconaaGreatDoorL09
import Derived.Test.YtdlhbmncbmconaaGreatDoorL02
import Derived.Test.YtdlhbmncbmconaaGreatDoorRows
import Derived.Test.YtdlhbmncbmconaaGreatDoorCards
import Derived.Test.YtdlhbmncbmconaaGreatDoorTie
import Derived.Lib.LaidU8
import Derived.WalkKit
import Derived.Lay
import Derived.Deep.DeepHandedRow
namespace Go.Proofs.YtdlhbmncbmconaaGreatDoor
open Go.RowKit Go.Lib
theorem blk_of_var {W:World} {n:String} {g:Nat} {cs:Array Value} (hg:Tryz.prog.globalNamed n=some g) (h:W.var? Tryz.prog n=some cs):Blk W g cs:=by
 unfold World.var? at h
 rw [hg] at h
 simp only [Option.bind_some] at h
 split at h
 ·next c t fr hc=>cases h;exact ⟨t,fr,hc⟩
 ·cases h
theorem cells_of_strs {P:Program} {w:World} {base:Nat} {sp:Nat->Bool} {held:Bool} {fuel:Nat} {t e:TypeId} {n:Nat} {cs:List Value} {ls:List (List UInt8)} {p:List MemPlace}
  (ht:P.underlying t=some (.array n e)) (he:P.underlying e=some .string) (hce:P.cellsOf e=1) (hct:P.cellsOf t=n)
  (h:DataW.trod (fun _=>()) P w base sp held fuel t cs=some (.agg (ls.map fun l=>.lit (.string l)),p)):cs=ls.map fun l=>Value.string ⟨l.toArray⟩:=by
 have hel:=array_elem ht h
 cases fuel with
 | zero=>simp [DataW.trod] at h
 | succ fuel=>
  simp only [DataW.trod,ht,hce,hct,Nat.mul_one] at h
  split at h
  ·rename_i hl
   obtain ⟨xs,hm,hx⟩:=Option.map_eq_some_iff.1 h
   have hxl:xs.length=n:=by simpa using mapM_length hm
   have hxs:xs.map (·.1)=ls.map fun l=>(DataW.lit (.string l):DataW Unit):=by
    have:=congrArg Prod.fst hx
    simpa using this
   have hzl:ls.length=n:=by
    have:=congrArg List.length hxs
    simp at this
    omega
   apply List.ext_getElem?
   intro i
   by_cases hi:i < n
   ·obtain ⟨fuel',d,q,hd,htr⟩:=hel i hi
    obtain ⟨s,hc,hz,hw⟩:=DataW.trod_string he htr
    rw [hce] at hc
    have h1:cs[i]?=some (.string s):=by
     have:=congrArg (·[0]?) hc
     simpa [List.getElem?_take,List.getElem?_drop] using this
    rw [List.getElem?_map] at hd
    obtain ⟨l,hl',hd'⟩:=Option.map_eq_some_iff.1 hd
    rw [h1,List.getElem?_map,hl']
    cases hz
    cases hd'
    rfl
   ·rw [List.getElem?_eq_none (by omega),List.getElem?_eq_none (by simp;omega)]
  ·cases h
theorem var_reads {W:World} {n:String} {d:DataW Unit} {g:Nat} {t:TypeId} (hg:Tryz.prog.globalNamed n=some g) (ht:(Tryz.prog.globals[g]?).map (·.type)=some t) (h:VarReads Tryz.prog W n d) :
  ∃ cs fuel p,W.var? Tryz.prog n=some cs/\DataW.trod (fun _=>()) Tryz.prog W 0 (fun _=>true) false fuel t cs.toList=some (d,p):=by
 obtain ⟨g',t',cs,fuel,p,hg',ht',hv,hd⟩:=h
 obtain rfl:=Option.some.inj (hg.symm.trans hg')
 obtain rfl:=Option.some.inj (ht.symm.trans ht')
 exact ⟨cs,fuel,p,hv,hd⟩
theorem arr_of_list {cs:Array Value} {l:List Value} (h:cs.toList=l):cs=l.toArray:=by rw [<-h]
theorem strs_blk {W:World} {n:String} {g:Nat} {t e:TypeId} {k:Nat} {ls:List (List UInt8)} (hg:Tryz.prog.globalNamed n=some g) (hty:(Tryz.prog.globals[g]?).map (·.type)=some t) (ht:Tryz.prog.underlying t=some (.array k e)) (he:Tryz.prog.underlying e=some .string) (hce:Tryz.prog.cellsOf e=1) (hct:Tryz.prog.cellsOf t=k)
  (h:VarReads Tryz.prog W n (.agg (ls.map fun l=>.lit (.string l)))):Blk W g (ls.map fun l=>Value.string ⟨l.toArray⟩).toArray:=by
 obtain ⟨cs,fuel,p,hv,hd⟩:=var_reads hg hty h
 rw [<-arr_of_list (cells_of_strs ht he hce hct hd)]
 exact blk_of_var hg hv
theorem ints_blk {W:World} {n:String} {g:Nat} {t e:TypeId} {k:Nat} {q:IntKind} {zs:List Int} (hg:Tryz.prog.globalNamed n=some g) (hty:(Tryz.prog.globals[g]?).map (·.type)=some t) (ht:Tryz.prog.underlying t=some (.array k e)) (he:Tryz.prog.underlying e=some (.int q)) (hce:Tryz.prog.cellsOf e=1) (hct:Tryz.prog.cellsOf t=k)
  (h:VarReads Tryz.prog W n (tabData q zs)):W.var? Tryz.prog n=some (zs.map fun z=>Value.int q z).toArray:=by
 obtain ⟨cs,fuel,p,hv,hd⟩:=var_reads hg hty h
 rw [<-arr_of_list (cells_of_tab ht he hce hct hd)]
 exact hv
section
variable {W:World}
theorem read_on (h:VarReads Tryz.prog W "herald/herald.ownNames" Rows.laid_herald_herald_ownNames):Blk W 8 (Hm.ownNames.map fun l=>Value.string ⟨l.toArray⟩).toArray:=
 strs_blk (t:=270) (e:=9) (k:=16) (by kernel_rfl) (by kernel_rfl) Tryz.underlying270 Tryz.underlying9 (by kernel_rfl) (by kernel_rfl) h
theorem read_sn (h:VarReads Tryz.prog W "herald/herald.severityNames" Rows.laid_herald_herald_severityNames):Blk W 4 (Hm.severityNames.map fun l=>Value.string ⟨l.toArray⟩).toArray:=
 strs_blk (t:=243) (e:=9) (k:=8) (by kernel_rfl) (by kernel_rfl) Tryz.underlying243 Tryz.underlying9 (by kernel_rfl) (by kernel_rfl) h
theorem read_mn (h:VarReads Tryz.prog W "herald/herald.monthNames" Rows.laid_herald_herald_monthNames):Blk W 7 (Hm.monthNames.map fun l=>Value.string ⟨l.toArray⟩).toArray:=
 strs_blk (t:=266) (e:=9) (k:=12) (by kernel_rfl) (by kernel_rfl) Tryz.underlying266 Tryz.underlying9 (by kernel_rfl) (by kernel_rfl) h
theorem read_md (h:VarReads Tryz.prog W "herald/herald.monthDays" Rows.laid_herald_herald_monthDays):Blk W 6 (Hm.monthDays.map fun z=>Value.int .i64 z).toArray:=
 blk_of_var (by kernel_rfl) (ints_blk (g:=6) (zs:=Hm.monthDays) (t:=264) (e:=3) (k:=12) (by kernel_rfl) (by kernel_rfl) Tryz.underlying264 Tryz.underlying3 (by kernel_rfl) (by kernel_rfl) h)
theorem read_p10 (h:VarReads Tryz.prog W "internal/strconv.uint64pow10" Rows.laid_internal_strconv_uint64pow10):TabIs Tryz.prog W "internal/strconv.uint64pow10" .u64 pow10Tab:=
 ints_blk (zs:=pow10Tab) (t:=254) (e:=235) (k:=20) (g:=5) (by kernel_rfl) (by kernel_rfl) Tryz.underlying254 Tryz.underlying235 (by kernel_rfl) (by kernel_rfl) (by rw [show (tabData .u64 pow10Tab:DataW Unit)=Rows.laid_internal_strconv_uint64pow10 by kernel_rfl];exact h)
theorem pair_elem {fuel:Nat} {t e:TypeId} {n:Nat} {fs:Array Field} {k:IntKind} {cs:List Value} {ds:List (DataW Unit)} {p:List MemPlace} (ht:Tryz.prog.underlying t=some (.array n e)) (he:Tryz.prog.underlying e=some (.struct fs))
  (hf:∀ (i:Nat) (f:Field),fs[i]?=some f->Tryz.prog.underlying f.type=some (.int k)/\f.offset=i/\Tryz.prog.cellsOf f.type=1) (hct:Tryz.prog.cellsOf e=fs.size) (h2:fs.size=2)
  (h:DataW.trod (fun _=>()) Tryz.prog W 0 (fun _=>true) false fuel t cs=some (.agg ds,p)) (i:Nat) (hi:i < n) (a b:Int) (hd:ds[i]?=some (.agg [.lit (.int k a),.lit (.int k b)])) :
  cs[2 * i]?=some (.int k a)/\cs[2 * i+1]?=some (.int k b):=by
 obtain ⟨fuel',d,q,hd',htr⟩:=array_elem ht h i hi
 rw [hd] at hd'
 cases hd'
 have:=ints_of_struct (zs:=[a,b]) he hf hct htr
 rw [hct,h2] at this
 have e0:=congrArg (·[0]?) this
 have e1:=congrArg (·[1]?) this
 simp [List.getElem?_drop] at e0 e1
 rw [Nat.mul_comm 2 i]
 exact ⟨e0,e1⟩
theorem len_of_trod {fuel:Nat} {t e:TypeId} {n m:Nat} {cs:List Value} {d:DataW Unit} {p:List MemPlace} (ht:Tryz.prog.underlying t=some (.array n e)) (hct:Tryz.prog.cellsOf t=m) (h:DataW.trod (fun _=>()) Tryz.prog W 0 (fun _=>true) false fuel t cs=some (d,p)):cs.length=m:=by
 cases fuel with
 | zero=>simp [DataW.trod] at h
 | succ fuel=>
  simp only [DataW.trod,ht,hct] at h
  split at h
  ·assumption
  ·cases h
theorem read_wk (h:VarReads Tryz.prog W "herald/herald.wordKinds" Rows.laid_herald_herald_wordKinds):Blk W 0 wordKinds:=by
 obtain ⟨cs,fuel,p,hv,hd⟩:=var_reads (g:=0) (t:=147) (by kernel_rfl) (by kernel_rfl) h
 have hl:cs.toList.length=8:=len_of_trod Tryz.underlying147 (by kernel_rfl) hd
 have el:=pair_elem (k:=.i64) (W:=W) Tryz.underlying147 Tryz.underlying146 (by
  intro i f hf
  match i,hf with
  | 0,hf=>simp at hf;subst hf;exact ⟨by kernel_rfl,rfl,by kernel_rfl⟩
  | 1,hf=>simp at hf;subst hf;exact ⟨by kernel_rfl,rfl,by kernel_rfl⟩
  | n+2,hf=>simp at hf) (by kernel_rfl) rfl hd
 have e0:=el 0 (by decide) 32 4 rfl
 have e1:=el 1 (by decide) 16 5 rfl
 have e2:=el 2 (by decide) 16 6 rfl
 have e3:=el 3 (by decide) 12 7 rfl
 have:cs=wordKinds:=by
  apply Array.ext'
  apply List.ext_getElem?
  intro i
  by_cases hi:i < 8
  ·rcases (by omega:i=0∨i=1∨i=2∨i=3∨i=4∨i=5∨i=6∨i=7) with h | h | h | h | h | h | h | h<;>subst h
   ·exact e0.1
   ·exact e0.2
   ·exact e1.1
   ·exact e1.2
   ·exact e2.1
   ·exact e2.2
   ·exact e3.1
   ·exact e3.2
  ·rw [List.getElem?_eq_none (by omega),List.getElem?_eq_none (by simp [wordKinds];omega)]
 rw [<-this]
 exact blk_of_var (by kernel_rfl) hv
theorem read_u8 (h3:VarReads Tryz.prog W "unicode/utf8.first" Rows.laid_unicode_utf8_first) (h4:VarReads Tryz.prog W "unicode/utf8.acceptRanges" Rows.laid_unicode_utf8_acceptRanges):Utf8Tabs 1 2 W:=by
 have gF:Tryz.prog.globalNamed "unicode/utf8.first"=some 1:=by kernel_rfl
 have gA:Tryz.prog.globalNamed "unicode/utf8.acceptRanges"=some 2:=by kernel_rfl
 refine ⟨fun c hc=>?_,fun i hi=>?_⟩
 ·have hv:=ints_blk (g:=1) (zs:=firstTab) (q:=.u8) (t:=203) (e:=5) (k:=256) gF (by kernel_rfl) Tryz.underlying203 Tryz.underlying5 (by kernel_rfl) (by kernel_rfl) (by rw [show (tabData .u8 firstTab:DataW Unit)=Rows.laid_unicode_utf8_first by kernel_rfl];exact h3)
  have:=World.var?_cell gF hv c
  rw [this]
  simp [firstTab,hc]
 ·obtain ⟨cs,fuel,p,hv,hd⟩:=var_reads (g:=2) (t:=206) gA (by kernel_rfl) h4
  have el:=pair_elem (k:=.u8) (W:=W) Tryz.underlying206 Tryz.underlying205 (by
   intro i f hf
   match i,hf with
   | 0,hf=>simp at hf;subst hf;exact ⟨by kernel_rfl,rfl,by kernel_rfl⟩
   | 1,hf=>simp at hf;subst hf;exact ⟨by kernel_rfl,rfl,by kernel_rfl⟩
   | n+2,hf=>simp at hf) (by kernel_rfl) rfl hd i hi (accLo i) (accHi i) (by
    rcases (by omega:i=0∨i=1∨i=2∨i=3∨i=4∨i=5∨i=6∨i=7∨i=8∨i=9∨i=10∨i=11∨i=12∨i=13∨i=14∨i=15) with h | h | h | h | h | h | h | h | h | h | h | h | h | h | h | h<;>subst h<;>rfl)
  have h1:=World.var?_cell gA hv (2 * i)
  have h2:=World.var?_cell gA hv (2 * i+1)
  rw [h1,h2,<-Array.getElem?_toList,<-Array.getElem?_toList]
  exact el
set_option maxRecDepth 100000 in
theorem read_ml (hS:W.ShapedOpen Tryz.prog):∃ m:Int,W.cell? ⟨3,0,none⟩=some (.int .i64 m):=by
 obtain ⟨cs,hc,hsz,hok⟩:=hS.1 3 #[.int .i64 0] 3 (by decide +kernel) (by kernel_rfl)
 obtain ⟨ts,h1,h2,h3⟩:=hok (by kernel_rfl)
 have h0:cs.size=1:=hsz
 obtain ⟨v,hv⟩:∃ v,cs[0]?=some v:=⟨cs[0],Array.getElem?_eq_getElem (by omega)⟩
 obtain ⟨u,hu,hcell⟩:=h3 0 v hv
 have hts:ts=[3]:=Option.some.inj (h1.symm.trans (by kernel_rfl))
 subst hts
 obtain rfl:u=3:=by simpa using hu.symm
 unfold Cell.ok at hcell
 rw [show Tryz.prog.underlying 3=some (.int .i64) from Tryz.underlying3] at hcell
 cases v with
 | int k n=>
  obtain ⟨rfl,_⟩:=hcell
  exact ⟨n,by simp [World.cell?,hc,hv]⟩
 | _=>exact hcell.elim
theorem tabs_of {l:List (String × DataW Unit)} (hL:laidMet Tryz.prog l W) (hS:W.ShapedOpen Tryz.prog)
  (m1:("herald/herald.wordKinds",Rows.laid_herald_herald_wordKinds) ∈ l) (m2:("unicode/utf8.first",Rows.laid_unicode_utf8_first) ∈ l) (m3:("unicode/utf8.acceptRanges",Rows.laid_unicode_utf8_acceptRanges) ∈ l)
  (m4:("internal/strconv.uint64pow10",Rows.laid_internal_strconv_uint64pow10) ∈ l) (m5:("herald/herald.severityNames",Rows.laid_herald_herald_severityNames) ∈ l) (m6:("herald/herald.monthDays",Rows.laid_herald_herald_monthDays) ∈ l)
  (m7:("herald/herald.monthNames",Rows.laid_herald_herald_monthNames) ∈ l) (m8:("herald/herald.ownNames",Rows.laid_herald_herald_ownNames) ∈ l) (m9:("math/bits.deBruijn64tab",Rows.laid_math_bits_deBruijn64tab) ∈ l):Tabs W where
 size:=by
  obtain ⟨cs,fuel,p,hv,hd⟩:=var_reads (g:=10) (t:=_) (by kernel_rfl) rfl (laidMet.reads hL m9)
  obtain ⟨t,fr,hb⟩:=blk_of_var (g:=10) (by kernel_rfl) hv
  exact (Array.getElem?_eq_some_iff.1 hb).1
 wk:=read_wk (laidMet.reads hL m1)
 ml:=read_ml hS
 u8:=read_u8 (laidMet.reads hL m2) (laidMet.reads hL m3)
 p10:=read_p10 (laidMet.reads hL m4)
 sn:=read_sn (laidMet.reads hL m5)
 md:=read_md (laidMet.reads hL m6)
 mn:=read_mn (laidMet.reads hL m7)
 on:=read_on (laidMet.reads hL m8)
end
end Go.Proofs.YtdlhbmncbmconaaGreatDoor
namespace Go.Proofs.YtdlhbmncbmconaaGreatDoor
open Go.ChangeShapes Go.WideShapes Go.RowKit Go.Lib
theorem ownG:ownKnob Tryz.prog.godebug=none:=by kernel_rfl
theorem laidOut:laidOutB Tryz.prog=true:=by kernel_rfl
def laidL:List (String × DataW Unit):=Rows.cutsRow.laid
theorem plainLaid:(laidL.all fun x=>x.2.handleName?.isNone)=true:=by kernel_rfl
theorem tabs_laid {W:World} (hL:laidMetH Tryz.prog laidL W) (hS:W.ShapedOpen Tryz.prog):Tabs W:=by
 rw [MakeChecks.laidMetH_plain _ _ _ plainLaid] at hL
 exact tabs_of hL hS (List.mem_of_getElem? (i:=8) rfl) (List.mem_of_getElem? (i:=9) rfl) (List.mem_of_getElem? (i:=3) rfl) (List.mem_of_getElem? (i:=2) rfl) (List.mem_of_getElem? (i:=5) rfl) (List.mem_of_getElem? (i:=7) rfl) (List.mem_of_getElem? (i:=6) rfl) (List.mem_of_getElem? (i:=4) rfl) (List.mem_of_getElem? (i:=1) rfl)
theorem laid_met (os:Os) (args:Array Value):laidMet Tryz.prog laidL ((World.laidAll Tryz.prog os laidL).forCall (fun _ _=>0) ⟨#[],args,[]⟩).memory:=laidMet_laidAll _ (by kernel_rfl) (by kernel_rfl)
theorem laid_metH (os:Os) (args:Array Value):laidMetH Tryz.prog laidL ((World.laidAll Tryz.prog os laidL).forCall (fun _ _=>0) ⟨#[],args,[]⟩).memory:=by
 rw [MakeChecks.laidMetH_plain _ _ _ plainLaid]
 exact laid_met os args
theorem laid_vars (os:Os) (args:Array Value):((World.laidAll Tryz.prog os laidL).forCall (fun _ _=>0) ⟨#[],args,[]⟩).variablesB Tryz.prog=true:=by kernel_rfl
theorem laid_rest (os:Os) (args:Array Value):(((World.laidAll Tryz.prog os laidL).forCall (fun _ _=>0) ⟨#[],args,[]⟩).heap.toList.drop Tryz.prog.globals.size).take ((begin Tryz.prog (fun _ _=>0) default).world.heap.size - Tryz.prog.globals.size) =
   (begin Tryz.prog (fun _ _=>0) default).world.heap.toList.drop Tryz.prog.globals.size:=by kernel_rfl
end Go.Proofs.YtdlhbmncbmconaaGreatDoor

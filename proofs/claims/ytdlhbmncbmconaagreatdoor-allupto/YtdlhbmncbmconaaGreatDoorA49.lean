/- Pressed by program out of Bs. -/
import Derived.Test.YtdlhbmncbmconaaGreatDoorA11
import Derived.Test.YtdlhbmncbmconaaGreatDoorCards
import Derived.Test.YtdlhbmncbmconaaGreatDoorTie
import Derived.Lib.LaidU8
import Derived.Lay
import Derived.Deep.DeepHandedRow
namespace Go.Proofs.Z
open Hm Tryz Go.Proofs.YtdlhbmncbmconaaGreatDoor Go.Lib Go.RowKit
theorem yB{W:World}{n:String}{g:Nat}{a:Array Value}(b:prog.globalNamed n=some g)(h:W.var? prog n=some a):kR W g a:=by
 unfold World.var? at h;rw[b]at h;simp only[Option.bind_some]at h;split at h
 ·next c t fr hc=>cases h;exact⟨t,fr,hc⟩
 ·cases h
theorem aCL{P:Program}{w:World}{b:Nat}{A:Nat->Bool}{c:Bool}{a:Nat}{t e:TypeId}{n:Nat}{g:List Value}{ls:List (List UInt8)}{p:List MemPlace}(x:P.underlying t=some (.array n e))(B:P.underlying e=some .string)(f:P.cellsOf e=1)(j:P.cellsOf t=n)(h:DataW.trod (fun _=>()) P w b A c a t g=some (.agg (ls.map fun l=> .lit (.string l)),p)):g=ls.map fun l=>Value.string ⟨l.toArray⟩:=by
 have k:=array_elem x h;cases a with
 |zero=>simp[DataW.trod]at h
 |succ a=>
  simp only[DataW.trod,x,f,j,Nat.mul_one]at h;split at h
  ·rename_i H;obtain⟨xs,C,D⟩:=rU.1 h;have E:xs.length=n:=by simpa using mapM_length C
   have m:xs.map (·.1)=ls.map fun l=>(DataW.lit (.string l):DataW Unit):=by
    have:=aQ Prod.fst D;simpa using this
   have F:ls.length=n:=by
    have:=aQ List.length m;simp at this;omega
   apply List.ext_getElem?;intro i;by_cases hi:i<n
   ·obtain⟨o,d,q,y,r⟩:=k i hi;obtain⟨s,z,G,hw⟩:=DataW.trod_string B r;rw[f]at z;have h1:g[i]?=some (.string s):=by
     have:=aQ (·[0]?) z;simpa[List.getElem?_take,List.getElem?_drop]using this
    rw[List.getElem?_map]at y;obtain⟨l,u,v⟩:=rU.1 y;rw[h1,List.getElem?_map,u];cases G;cases v;rfl
   ·rw[List.getElem?_eq_none (by omega),List.getElem?_eq_none (by simp;omega)]
  ·cases h
theorem vA{W:World}{n:String}{d:DataW Unit}{g:Nat}{t:TypeId}(f:prog.globalNamed n=some g)(i:(prog.globals[g]?).map (·.type)=some t)(h:VarReads prog W n d):
  ∃b a p,W.var? prog n=some b/\DataW.trod (fun _=>()) prog W 0 (fun _=>true) false a t b.toList=some (d,p):=by
 obtain⟨l,m,b,a,p,c,e,j,k⟩:=h;obtain rfl:=Option.some.inj (f.symm.trans c);obtain rfl:=Option.some.inj (i.symm.trans e);exact⟨b,a,p,j,k⟩
theorem RB{a:Array Value}{l:List Value}(h:a.toList=l):a=l.toArray:=by rw[<-h]
theorem CU{W:World}{n:String}{g:Nat}{t e:TypeId}{k:Nat}{ls:List (List UInt8)}(d:prog.globalNamed n=some g)(a:(prog.globals[g]?).map (·.type)=some t)(i:prog.underlying t=some (.array k e))(j:prog.underlying e=some .string)(b:prog.cellsOf e=1)(c:prog.cellsOf t=k)(h:VarReads prog W n (.agg (ls.map fun l=> .lit (.string l)))):kR W g (ls.map fun l=>Value.string ⟨l.toArray⟩).toArray:=by
 obtain⟨q,f,p,m,o⟩:=vA d a h;rw[<-RB (aCL i j b c o)];exact yB d m
theorem CV{W:World}{n:String}{g:Nat}{t e:TypeId}{k:Nat}{q:IntKind}{zs:List Int}(f:prog.globalNamed n=some g)(a:(prog.globals[g]?).map (·.type)=some t)(i:prog.underlying t=some (.array k e))(j:prog.underlying e=some (.int q))(b:prog.cellsOf e=1)(c:prog.cellsOf t=k)(h:VarReads prog W n (tabData q zs)):W.var? prog n=some (zs.map fun z=>Value.int q z).toArray:=by
 obtain⟨o,d,p,l,m⟩:=vA f a h;rw[<-RB (cells_of_tab i j b c m)];exact l
section
variable {W : World}
theorem aCM (h : VarReads Tryz.prog W "herald/herald.ownNames" Rows.laid_herald_herald_ownNames) : kR W 8 (rW.map fun l => Value.string ⟨l.toArray⟩).toArray :=
 CU (t:=270) (e:=9) (k:=16) (by kernel_rfl) (by kernel_rfl) Tryz.underlying270 Tryz.underlying9 (by kernel_rfl) (by kernel_rfl) h
theorem aCN (h : VarReads Tryz.prog W "herald/herald.severityNames" Rows.laid_herald_herald_severityNames) : kR W 4 (cL.map fun l => Value.string ⟨l.toArray⟩).toArray :=
 CU (t:=243) (e:=9) (k:=8) (by kernel_rfl) (by kernel_rfl) Tryz.underlying243 Tryz.underlying9 (by kernel_rfl) (by kernel_rfl) h
theorem aCO (h : VarReads Tryz.prog W "herald/herald.monthNames" Rows.laid_herald_herald_monthNames) : kR W 7 (gS.map fun l => Value.string ⟨l.toArray⟩).toArray :=
 CU (t:=266) (e:=9) (k:=12) (by kernel_rfl) (by kernel_rfl) Tryz.underlying266 Tryz.underlying9 (by kernel_rfl) (by kernel_rfl) h
theorem aCP (h : VarReads Tryz.prog W "herald/herald.monthDays" Rows.laid_herald_herald_monthDays) : kR W 6 (oT.map fun z => Value.int .i64 z).toArray :=
 yB (by kernel_rfl) (CV (g:=6) (zs:=oT) (t:=264) (e:=3) (k:=12) (by kernel_rfl) (by kernel_rfl) Tryz.underlying264 Tryz.underlying3 (by kernel_rfl) (by kernel_rfl) h)
theorem aCQ (h : VarReads Tryz.prog W "internal/strconv.uint64pow10" Rows.laid_internal_strconv_uint64pow10) : TabIs Tryz.prog W "internal/strconv.uint64pow10" .u64 pow10Tab :=
 CV (zs:=pow10Tab) (t:=254) (e:=235) (k:=20) (g:=5) (by kernel_rfl) (by kernel_rfl) Tryz.underlying254 Tryz.underlying235 (by kernel_rfl) (by kernel_rfl) (by rw[show(tabData .u64 pow10Tab:DataW Unit)=Rows.laid_internal_strconv_uint64pow10 by kernel_rfl];exact h)
theorem RG{c:Nat}{t e:TypeId}{n:Nat}{l:Array Field}{k:IntKind}{m:List Value}{s:List (DataW Unit)}{p:List MemPlace}(w:prog.underlying t=some (.array n e))(x:prog.underlying e=some (.struct l))(y:∀(i:Nat)(f:Field),l[i]?=some f->prog.underlying f.type=some (.int k)/\f.offset=i/\prog.cellsOf f.type=1)(g:prog.cellsOf e=l.size)(h2:l.size=2)(h:DataW.trod (fun _=>()) prog W 0 (fun _=>true) false c t m=some (.agg s,p))(i:Nat)(hi:i<n)(a b:Int)(z:s[i]?=some (.agg [.lit (.int k a),.lit (.int k b)])):
  m[2*i]?=some (.int k a)/\m[2*i+1]?=some (.int k b):=by
 obtain⟨o,d,q,j,r⟩:=array_elem w h i hi;rw[z]at j;cases j;have:=ints_of_struct (zs:=[a,b]) x y g r;rw[g,h2]at this;have u:=aQ (·[0]?) this;have v:=aQ (·[1]?) this;simp[List.getElem?_drop]at u v;rw[Nat.mul_comm 2 i];exact⟨u,v⟩
theorem aCR{a:Nat}{t e:TypeId}{n m:Nat}{c:List Value}{d:DataW Unit}{p:List MemPlace}(f:prog.underlying t=some (.array n e))(b:prog.cellsOf t=m)(h:DataW.trod (fun _=>()) prog W 0 (fun _=>true) false a t c=some (d,p)):c.length=m:=by
 cases a with
 |zero=>simp[DataW.trod]at h
 |succ a=>
  simp only[DataW.trod,f,b]at h;split at h
  ·assumption
  ·cases h
theorem aCS (h : VarReads Tryz.prog W "herald/herald.wordKinds" Rows.laid_herald_herald_wordKinds) : kR W 0 vO := by
 obtain⟨cs,fuel,p,hv,hd⟩:=vA (g:=0) (t:=147) (by kernel_rfl) (by kernel_rfl) h;have hl:cs.toList.length=8:=aCR Tryz.underlying147 (by kernel_rfl) hd;have el:=RG (k:= .i64) (W:=W) Tryz.underlying147 Tryz.underlying146 (by
  intro i f hf;match i,hf with
  |0,hf=>simp at hf;subst hf;exact⟨by kernel_rfl,rfl,by kernel_rfl⟩
  |1,hf=>simp at hf;subst hf;exact⟨by kernel_rfl,rfl,by kernel_rfl⟩
  |n+2,hf=>simp at hf) (by kernel_rfl) rfl hd
 have e0:=el 0 (by decide) 32 4 rfl;have e1:=el 1 (by decide) 16 5 rfl;have e2:=el 2 (by decide) 16 6 rfl;have e3:=el 3 (by decide) 12 7 rfl;have:cs=vO:=by
  apply Array.ext';apply List.ext_getElem?;intro i;by_cases hi:i<8
  ·rcases(by omega:i=0∨i=1∨i=2∨i=3∨i=4∨i=5∨i=6∨i=7)with h|h|h|h|h|h|h|h <;> subst h
   ·exact e0.1
   ·exact e0.2
   ·exact e1.1
   ·exact e1.2
   ·exact e2.1
   ·exact e2.2
   ·exact e3.1
   ·exact e3.2
  ·rw[List.getElem?_eq_none (by omega),List.getElem?_eq_none (by simp[vO];omega)]
 rw[<-this];exact yB (by kernel_rfl) hv
theorem aCT (h3 : VarReads Tryz.prog W "unicode/utf8.first" Rows.laid_unicode_utf8_first) (h4 : VarReads Tryz.prog W "unicode/utf8.acceptRanges" Rows.laid_unicode_utf8_acceptRanges) : Utf8Tabs 1 2 W := by
 have gF : Tryz.prog.globalNamed "unicode/utf8.first" = some 1 := by kernel_rfl
 have gA : Tryz.prog.globalNamed "unicode/utf8.acceptRanges" = some 2 := by kernel_rfl
 refine⟨fun c hc=>?_,fun i hi=>?_⟩
 ·have hv:=CV (g:=1) (zs:=firstTab) (q:= .u8) (t:=203) (e:=5) (k:=256) gF (by kernel_rfl) Tryz.underlying203 Tryz.underlying5 (by kernel_rfl) (by kernel_rfl) (by rw[show(tabData .u8 firstTab:DataW Unit)=Rows.laid_unicode_utf8_first by kernel_rfl];exact h3);have:=World.var?_cell gF hv c;rw[this];simp[firstTab,hc]
 ·obtain⟨cs,fuel,p,hv,hd⟩:=vA (g:=2) (t:=206) gA (by kernel_rfl) h4;have el:=RG (k:= .u8) (W:=W) Tryz.underlying206 Tryz.underlying205 (by
   intro i f hf;match i,hf with
   |0,hf=>simp at hf;subst hf;exact⟨by kernel_rfl,rfl,by kernel_rfl⟩
   |1,hf=>simp at hf;subst hf;exact⟨by kernel_rfl,rfl,by kernel_rfl⟩
   |n+2,hf=>simp at hf) (by kernel_rfl) rfl hd i hi (accLo i) (accHi i) (by
    rcases(by omega:i=0∨i=1∨i=2∨i=3∨i=4∨i=5∨i=6∨i=7∨i=8∨i=9∨i=10∨i=11∨i=12∨i=13∨i=14∨i=15)with h|h|h|h|h|h|h|h|h|h|h|h|h|h|h|h <;> subst h <;> rfl)
  have h1:=World.var?_cell gA hv (2*i);have h2:=World.var?_cell gA hv (2*i+1);rw[h1,h2,<-Array.getElem?_toList,<-Array.getElem?_toList];exact el
set_option maxRecDepth 100000 in
theorem aCU(g:W.ShapedOpen prog):∃m:Int,W.cell? ⟨3,0,none⟩=some (.int .i64 m):=by
 obtain⟨b,h,c,d⟩:=g.1 3 #[.int .i64 0] 3 (by decide +kernel) (by kernel_rfl);obtain⟨i,h1,h2,h3⟩:=d (by kernel_rfl);have h0:b.size=1:=c;obtain⟨v,f⟩:∃v,b[0]?=some v:=⟨b[0],Array.getElem?_eq_getElem (by omega)⟩;obtain⟨u,j,a⟩:=h3 0 v f;have e:i=[3]:=Option.some.inj (h1.symm.trans (by kernel_rfl));subst e;obtain rfl:u=3:=by simpa using j.symm
 unfold Cell.ok at a;rw[show prog.underlying 3=some (.int .i64)from underlying3]at a;cases v with
 |int k n=>
  obtain⟨rfl,_⟩:=a;exact⟨n,by simp[World.cell?,h,f]⟩
 | _=>exact a.elim
theorem aCV {l:List (String×DataW Unit)} (hL:laidMet Tryz.prog l W) (hS:W.ShapedOpen Tryz.prog)
  (m1 : ("herald/herald.wordKinds", Rows.laid_herald_herald_wordKinds) ∈ l) (m2 : ("unicode/utf8.first", Rows.laid_unicode_utf8_first) ∈ l) (m3 : ("unicode/utf8.acceptRanges", Rows.laid_unicode_utf8_acceptRanges) ∈ l)
  (m4 : ("internal/strconv.uint64pow10", Rows.laid_internal_strconv_uint64pow10) ∈ l) (m5 : ("herald/herald.severityNames", Rows.laid_herald_herald_severityNames) ∈ l) (m6 : ("herald/herald.monthDays", Rows.laid_herald_herald_monthDays) ∈ l)
  (m7 : ("herald/herald.monthNames", Rows.laid_herald_herald_monthNames) ∈ l) (m8 : ("herald/herald.ownNames", Rows.laid_herald_herald_ownNames) ∈ l) (m9 : ("math/bits.deBruijn64tab", Rows.laid_math_bits_deBruijn64tab) ∈ l) : aJ W where
 size:=by
  obtain⟨cs,fuel,p,hv,hd⟩:=vA (g:=10) (t:=_) (by kernel_rfl) rfl (laidMet.reads hL m9);obtain⟨t,fr,hb⟩:=yB (g:=10) (by kernel_rfl) hv;exact(Array.getElem?_eq_some_iff.1 hb).1
 wk:=aCS (laidMet.reads hL m1)
 ml:=aCU hS
 u8:=aCT (laidMet.reads hL m2) (laidMet.reads hL m3)
 p10:=aCQ (laidMet.reads hL m4)
 sn:=aCN (laidMet.reads hL m5)
 md:=aCP (laidMet.reads hL m6)
 mn:=aCO (laidMet.reads hL m7)
 on:=aCM (laidMet.reads hL m8)
end
end Go.Proofs.Z
namespace Go.Proofs.Z
open Tryz Go.Proofs.YtdlhbmncbmconaaGreatDoor Go.ChangeShapes Go.Lib Go.RowKit Go.WideShapes
theorem aCW:ownKnob prog.godebug=none:=by kernel_rfl
theorem aCX:laidOutB prog=true:=by kernel_rfl
def nX:List (String×DataW Unit):=Rows.cutsRow.laid
theorem RH:(nX.all fun x=>x.2.handleName?.isNone)=true:=by kernel_rfl
theorem aCY{W:World}(a:laidMetH prog nX W)(b:W.ShapedOpen prog):aJ W:=by
 rw[MakeChecks.laidMetH_plain _ _ _ RH]at a;exact aCV a b (fG (i:=8) rfl) (fG (i:=9) rfl) (fG (i:=3) rfl) (fG (i:=2) rfl) (fG (i:=5) rfl) (fG (i:=7) rfl) (fG (i:=6) rfl) (fG (i:=4) rfl) (fG (i:=1) rfl)
theorem RJ(os:Os)(args:Array Value):laidMet prog nX ((World.laidAll prog os nX).forCall (fun _ _=>0) ⟨#[],args,[]⟩).memory:=laidMet_laidAll _ (by kernel_rfl) (by kernel_rfl)
theorem aDv(os:Os)(args:Array Value):laidMetH prog nX ((World.laidAll prog os nX).forCall (fun _ _=>0) ⟨#[],args,[]⟩).memory:=by
 rw[MakeChecks.laidMetH_plain _ _ _ RH];exact RJ os args
theorem aCZ(os:Os)(args:Array Value):((World.laidAll prog os nX).forCall (fun _ _=>0) ⟨#[],args,[]⟩).variablesB prog=true:=by kernel_rfl
theorem aC0(os:Os)(args:Array Value):(((World.laidAll prog os nX).forCall (fun _ _=>0) ⟨#[],args,[]⟩).heap.toList.drop prog.globals.size).take ((begin prog (fun _ _=>0) default).world.heap.size-prog.globals.size)=
   (begin prog (fun _ _=>0) default).world.heap.toList.drop prog.globals.size:=by kernel_rfl
end Go.Proofs.Z

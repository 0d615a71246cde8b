/- Pressed by program out of Bk. -/
import Derived.Test.YtdlhbmncbmconaaGreatDoorL00
import Derived.Test.YtdlhbmncbmconaaGreatDoorL09
import Derived.Test.YtdlhbmncbmconaaGreatDoorL11
import Derived.Test.YtdlhbmncbmconaaGreatDoorL02
namespace Go.Proofs.YtdlhbmncbmconaaGreatDoor
open Go.RowKit Go.Sort
attribute [local go_sem] alloc_drewN setCell_drewN
theorem wraps_i64 (n:Int) (h₀:0<=n) (h₁:n < 2 ^ 40):IntKind.i64.wrap n=n:=by rw [IntKind.wrap_i64];omega
theorem numberOf_any (a b:UInt8) (w:World) :
  Calls Tryz.prog 101 #[.string ⟨#[a,b]⟩] w fun e w'=>e=.returned (.int .i64 (Hm.numB [a,b]))/\∃ n,w'=w.drewN n:=by
 have ha:a.toNat < 256:=UInt8.toNat_lt _
 have hb:b.toNat < 256:=UInt8.toNat_lt _
 have ho:=(bits_nat .i64 40 (by decide) wraps_i64 (a.toNat * 256) b.toNat (by omega) (by omega)).2
 have he:a.toNat * 256 ||| b.toNat=Hm.numB [a,b]:=by
  rw [Nat.mul_comm]
  exact (Nat.two_pow_add_eq_or_of_lt (i:=8) hb a.toNat).symm
 rw [he] at ho
 go_enter Tryz.func101,Tryz.ntmps101
 go_wp2_with fail
 go_quiet (fail)
 go_wp2
 go_ret
 refine ⟨?_,⟨_,rfl⟩⟩
 rw [<-ho]
 have w1:wrap64 (wrap64 (a.toNat:Int) * 256)=((a.toNat * 256:Nat):Int):=by unfold wrap64;omega
 have w2:wrap64 (b.toNat:Int)=b.toNat:=by unfold wrap64;omega
 rw [<-w1]
 conv=>rhs;rw [<-w2]
 rfl
theorem two_back (w:World) (x y:UInt8) (u v:Int) (hu:u=x.toNat) (hv:v=y.toNat) :
  (convert 72 9 (.slice (some ⟨w.heap.size,0,none⟩) 2 2)).run Tryz.prog (w.alloc (.cells #[.int .u8 u,.int .u8 v] 5))=.ok (.string ⟨#[x,y]⟩) (w.alloc (.cells #[.int .u8 u,.int .u8 v] 5)):=by
 subst hu hv
 exact run_convert_bytes_back _ 72 9 5 ⟨w.heap.size,0,none⟩ 2 [x,y] Tryz.underlying72 Tryz.underlying5 Tryz.underlying9 (fun j hj=>by
  rcases (by simp at hj;omega:j=0∨j=1) with h | h<;>subst h<;>simp [Addr.add])
set_option maxRecDepth 20000 in
theorem twoBytes_any (n:Nat) (w:World) :
  Calls Tryz.prog 148 #[.int .i64 n] w fun e w'=>e=.returned (.string ⟨(Hm.twoB n).toArray⟩)/\Below w.heap.size w w':=by
 have hback:=two_back w (UInt8.ofNat (n / 256)) (UInt8.ofNat n) ((n:Int) / 256 % 256) ((n:Int) % 256) (by simp) (by simp)
 go_enter Tryz.func148,Tryz.ntmps148
 go_wp2
 go_ret
 exact ⟨rfl,(Below.refl _ _).alloc (Nat.le_refl _) _⟩
set_option maxRecDepth 20000 in
theorem checkOf_any (s:ByteArray) (hs:s.size<=4000000000) (w:World) :
  Calls Tryz.prog 147 #[.string s] w fun e w'=>e=.returned (.string ⟨(Hm.check s.data.toList).toArray⟩)/\Below w.heap.size w w':=by
 go_enter Tryz.func147,Tryz.ntmps147
 go_wp2
 go_loopw [3,4,8] (fun av bv ix wr=>∃ k a b:Nat,k<=s.size/\ix=.int .i64 k/\av=.int .i64 a/\bv=.int .i64 b/\a < 251/\b < 251/\Hm.sums 1 0 s.data.toList=Hm.sums a b (s.data.toList.drop k)/\wr=w) (fun _ _ ix _=>s.size - (intOf ix).toNat)
 case atStart=>exact ⟨0,1,0,by omega,rfl,rfl,rfl,by omega,by omega,rfl,rfl⟩
 case round=>
  obtain ⟨k,a,b,hk,rfl,rfl,rfl,ha,hb,hv,rfl⟩:=hrel
  have HV:Hid (Hm.sums 1 0 s.data.toList=Hm.sums a b (s.data.toList.drop k)):=hv
  clear hv
  by_cases hlt:k < s.size
  ·have hki:(k:Int) < (s.size:Int):=by omega
   have hd:=List.drop_eq_getElem_cons (l:=s.data.toList) (i:=k) (by rw [Hm.len];exact hlt)
   have hg:s.data.toList[k]'(by rw [Hm.len];exact hlt)=s[k]:=by simp;rfl
   rw [hg] at hd
   rw [hd,Hm.sums] at HV
   clear hd hg
   have hc:s[k].toNat < 256:=UInt8.toNat_lt _
   go_wp2
   go_roundw
   case rel=>exact ⟨k+1,(a+s[k].toNat) % 251,(b+(a+s[k].toNat) % 251) % 251,by omega,int_eq (by simp),int_eq (by simp),int_eq (by simp),Nat.mod_lt _ (by decide),Nat.mod_lt _ (by decide),HV.out,trivial⟩
   case measure=>simp [intOf];omega
  ·have hki:¬ (k:Int) < (s.size:Int):=by omega
   rw [List.drop_of_length_le (by rw [Hm.len];omega),Hm.sums] at HV
   have hback:=two_back wr (UInt8.ofNat a) (UInt8.ofNat b) ((a:Int) % 256) ((b:Int) % 256) (by simp) (by simp)
   have hback2:=two_back wr (UInt8.ofNat a) (UInt8.ofNat b) (a:Int) (b:Int) (by simp;omega) (by simp;omega)
   go_wp2
   go_ret
   refine ⟨?_,(Below.refl _ _).alloc (Nat.le_refl _) _⟩
   unfold Hm.check
   rw [HV.out]
   rfl
end Go.Proofs.YtdlhbmncbmconaaGreatDoor
namespace Go.Proofs.YtdlhbmncbmconaaGreatDoor
open Go.RowKit Go.Sort
attribute [local go_sem] alloc_drewN setCell_drewN
structure WI (k:UInt8) (l:List UInt8) (w:World) (L:Array Bool) (x3 x4 x5 x6 x7 x8 x9 x10 x11 x12 x13 x14 x15:Value) (w':World):Prop where
 bel:Below w.heap.size w w'
 row:w'.heap[w.heap.size]?=some (.cells #[.int .u8 k.toNat,.string ⟨l.toArray⟩] 121 (0,0))
 f0:L.getD 0 false=true->x4=.pointer (some ⟨w.heap.size,0,none⟩)
 f1:L.getD 1 false=true->x5=.int .u8 k.toNat
 f2:L.getD 2 false=true->∃ g,x6=.slice (some ⟨g,0,none⟩) 1 1/\w'.heap[g]?=some (.cells #[.int .u8 k.toNat] 5 (0,0))
 f3:L.getD 3 false=true->x7=.string ⟨#[k]⟩
 f4:L.getD 4 false=true->x8=.pointer (some ⟨w.heap.size,1,none⟩)
 f5:L.getD 5 false=true->x9=.string ⟨l.toArray⟩
 f6:L.getD 6 false=true->x10=.int .i64 l.length
 f7:L.getD 7 false=true->x11=.string ⟨(Hm.twoB l.length).toArray⟩
 f8:L.getD 8 false=true->x12=.string ⟨(k :: Hm.twoB l.length).toArray⟩
 f9:L.getD 9 false=true->x13=.pointer (some ⟨w.heap.size,1,none⟩)
 f10:L.getD 10 false=true->x14=.string ⟨l.toArray⟩
 f11:L.getD 11 false=true->x15=.string ⟨(Hm.aheadRec k l).toArray⟩
 f12:L.getD 12 false=true->x3=.string ⟨(Hm.aheadRec k l).toArray⟩
theorem WI.grow {k:UInt8} {l:List UInt8} {w w' w'':World} {L:Array Bool} {x3 x4 x5 x6 x7 x8 x9 x10 x11 x12 x13 x14 x15:Value} (h:WI k l w L x3 x4 x5 x6 x7 x8 x9 x10 x11 x12 x13 x14 x15 w') (hb:Below w'.heap.size w' w''):WI k l w L x3 x4 x5 x6 x7 x8 x9 x10 x11 x12 x13 x14 x15 w'' where
 bel:=Below.next h.bel (Nat.le_refl _) hb
 row:=(hb.block _ (Array.getElem?_eq_some_iff.1 h.row).1).trans h.row
 f0:=h.f0
 f1:=h.f1
 f2 e:=by
  obtain ⟨g,h1,h2⟩:=h.f2 e
  exact ⟨g,h1,(hb.block _ (Array.getElem?_eq_some_iff.1 h2).1).trans h2⟩
 f3:=h.f3
 f4:=h.f4
 f5:=h.f5
 f6:=h.f6
 f7:=h.f7
 f8:=h.f8
 f9:=h.f9
 f10:=h.f10
 f11:=h.f11
 f12:=h.f12
theorem WI.s0 {k:UInt8} {l:List UInt8} {w w':World} {L:Array Bool} {x3 x4 x5 x6 x7 x8 x9 x10 x11 x12 x13 x14 x15:Value} (h:WI k l w L x3 x4 x5 x6 x7 x8 x9 x10 x11 x12 x13 x14 x15 w') {y:Value} (hy:y=.pointer (some ⟨w.heap.size,0,none⟩)):WI k l w (L.setIfInBounds 0 true) x3 y x5 x6 x7 x8 x9 x10 x11 x12 x13 x14 x15 w' where
 bel:=h.bel
 row:=h.row
 f0 _:=hy
 f1 e:=h.f1 ((Hw.listed_set e).resolve_left (by decide))
 f2 e:=h.f2 ((Hw.listed_set e).resolve_left (by decide))
 f3 e:=h.f3 ((Hw.listed_set e).resolve_left (by decide))
 f4 e:=h.f4 ((Hw.listed_set e).resolve_left (by decide))
 f5 e:=h.f5 ((Hw.listed_set e).resolve_left (by decide))
 f6 e:=h.f6 ((Hw.listed_set e).resolve_left (by decide))
 f7 e:=h.f7 ((Hw.listed_set e).resolve_left (by decide))
 f8 e:=h.f8 ((Hw.listed_set e).resolve_left (by decide))
 f9 e:=h.f9 ((Hw.listed_set e).resolve_left (by decide))
 f10 e:=h.f10 ((Hw.listed_set e).resolve_left (by decide))
 f11 e:=h.f11 ((Hw.listed_set e).resolve_left (by decide))
 f12 e:=h.f12 ((Hw.listed_set e).resolve_left (by decide))
theorem WI.s1 {k:UInt8} {l:List UInt8} {w w':World} {L:Array Bool} {x3 x4 x5 x6 x7 x8 x9 x10 x11 x12 x13 x14 x15:Value} (h:WI k l w L x3 x4 x5 x6 x7 x8 x9 x10 x11 x12 x13 x14 x15 w') {y:Value} (hy:y=.int .u8 k.toNat):WI k l w (L.setIfInBounds 1 true) x3 x4 y x6 x7 x8 x9 x10 x11 x12 x13 x14 x15 w' where
 bel:=h.bel
 row:=h.row
 f0 e:=h.f0 ((Hw.listed_set e).resolve_left (by decide))
 f1 _:=hy
 f2 e:=h.f2 ((Hw.listed_set e).resolve_left (by decide))
 f3 e:=h.f3 ((Hw.listed_set e).resolve_left (by decide))
 f4 e:=h.f4 ((Hw.listed_set e).resolve_left (by decide))
 f5 e:=h.f5 ((Hw.listed_set e).resolve_left (by decide))
 f6 e:=h.f6 ((Hw.listed_set e).resolve_left (by decide))
 f7 e:=h.f7 ((Hw.listed_set e).resolve_left (by decide))
 f8 e:=h.f8 ((Hw.listed_set e).resolve_left (by decide))
 f9 e:=h.f9 ((Hw.listed_set e).resolve_left (by decide))
 f10 e:=h.f10 ((Hw.listed_set e).resolve_left (by decide))
 f11 e:=h.f11 ((Hw.listed_set e).resolve_left (by decide))
 f12 e:=h.f12 ((Hw.listed_set e).resolve_left (by decide))
theorem WI.s2 {k:UInt8} {l:List UInt8} {w w':World} {L:Array Bool} {x3 x4 x5 x6 x7 x8 x9 x10 x11 x12 x13 x14 x15:Value} (h:WI k l w L x3 x4 x5 x6 x7 x8 x9 x10 x11 x12 x13 x14 x15 w') {y:Value} (hy:∃ g,y=.slice (some ⟨g,0,none⟩) 1 1/\w'.heap[g]?=some (.cells #[.int .u8 k.toNat] 5 (0,0))):WI k l w (L.setIfInBounds 2 true) x3 x4 x5 y x7 x8 x9 x10 x11 x12 x13 x14 x15 w' where
 bel:=h.bel
 row:=h.row
 f0 e:=h.f0 ((Hw.listed_set e).resolve_left (by decide))
 f1 e:=h.f1 ((Hw.listed_set e).resolve_left (by decide))
 f2 _:=hy
 f3 e:=h.f3 ((Hw.listed_set e).resolve_left (by decide))
 f4 e:=h.f4 ((Hw.listed_set e).resolve_left (by decide))
 f5 e:=h.f5 ((Hw.listed_set e).resolve_left (by decide))
 f6 e:=h.f6 ((Hw.listed_set e).resolve_left (by decide))
 f7 e:=h.f7 ((Hw.listed_set e).resolve_left (by decide))
 f8 e:=h.f8 ((Hw.listed_set e).resolve_left (by decide))
 f9 e:=h.f9 ((Hw.listed_set e).resolve_left (by decide))
 f10 e:=h.f10 ((Hw.listed_set e).resolve_left (by decide))
 f11 e:=h.f11 ((Hw.listed_set e).resolve_left (by decide))
 f12 e:=h.f12 ((Hw.listed_set e).resolve_left (by decide))
theorem WI.s3 {k:UInt8} {l:List UInt8} {w w':World} {L:Array Bool} {x3 x4 x5 x6 x7 x8 x9 x10 x11 x12 x13 x14 x15:Value} (h:WI k l w L x3 x4 x5 x6 x7 x8 x9 x10 x11 x12 x13 x14 x15 w') {y:Value} (hy:y=.string ⟨#[k]⟩):WI k l w (L.setIfInBounds 3 true) x3 x4 x5 x6 y x8 x9 x10 x11 x12 x13 x14 x15 w' where
 bel:=h.bel
 row:=h.row
 f0 e:=h.f0 ((Hw.listed_set e).resolve_left (by decide))
 f1 e:=h.f1 ((Hw.listed_set e).resolve_left (by decide))
 f2 e:=h.f2 ((Hw.listed_set e).resolve_left (by decide))
 f3 _:=hy
 f4 e:=h.f4 ((Hw.listed_set e).resolve_left (by decide))
 f5 e:=h.f5 ((Hw.listed_set e).resolve_left (by decide))
 f6 e:=h.f6 ((Hw.listed_set e).resolve_left (by decide))
 f7 e:=h.f7 ((Hw.listed_set e).resolve_left (by decide))
 f8 e:=h.f8 ((Hw.listed_set e).resolve_left (by decide))
 f9 e:=h.f9 ((Hw.listed_set e).resolve_left (by decide))
 f10 e:=h.f10 ((Hw.listed_set e).resolve_left (by decide))
 f11 e:=h.f11 ((Hw.listed_set e).resolve_left (by decide))
 f12 e:=h.f12 ((Hw.listed_set e).resolve_left (by decide))
theorem WI.s4 {k:UInt8} {l:List UInt8} {w w':World} {L:Array Bool} {x3 x4 x5 x6 x7 x8 x9 x10 x11 x12 x13 x14 x15:Value} (h:WI k l w L x3 x4 x5 x6 x7 x8 x9 x10 x11 x12 x13 x14 x15 w') {y:Value} (hy:y=.pointer (some ⟨w.heap.size,1,none⟩)):WI k l w (L.setIfInBounds 4 true) x3 x4 x5 x6 x7 y x9 x10 x11 x12 x13 x14 x15 w' where
 bel:=h.bel
 row:=h.row
 f0 e:=h.f0 ((Hw.listed_set e).resolve_left (by decide))
 f1 e:=h.f1 ((Hw.listed_set e).resolve_left (by decide))
 f2 e:=h.f2 ((Hw.listed_set e).resolve_left (by decide))
 f3 e:=h.f3 ((Hw.listed_set e).resolve_left (by decide))
 f4 _:=hy
 f5 e:=h.f5 ((Hw.listed_set e).resolve_left (by decide))
 f6 e:=h.f6 ((Hw.listed_set e).resolve_left (by decide))
 f7 e:=h.f7 ((Hw.listed_set e).resolve_left (by decide))
 f8 e:=h.f8 ((Hw.listed_set e).resolve_left (by decide))
 f9 e:=h.f9 ((Hw.listed_set e).resolve_left (by decide))
 f10 e:=h.f10 ((Hw.listed_set e).resolve_left (by decide))
 f11 e:=h.f11 ((Hw.listed_set e).resolve_left (by decide))
 f12 e:=h.f12 ((Hw.listed_set e).resolve_left (by decide))
theorem WI.s5 {k:UInt8} {l:List UInt8} {w w':World} {L:Array Bool} {x3 x4 x5 x6 x7 x8 x9 x10 x11 x12 x13 x14 x15:Value} (h:WI k l w L x3 x4 x5 x6 x7 x8 x9 x10 x11 x12 x13 x14 x15 w') {y:Value} (hy:y=.string ⟨l.toArray⟩):WI k l w (L.setIfInBounds 5 true) x3 x4 x5 x6 x7 x8 y x10 x11 x12 x13 x14 x15 w' where
 bel:=h.bel
 row:=h.row
 f0 e:=h.f0 ((Hw.listed_set e).resolve_left (by decide))
 f1 e:=h.f1 ((Hw.listed_set e).resolve_left (by decide))
 f2 e:=h.f2 ((Hw.listed_set e).resolve_left (by decide))
 f3 e:=h.f3 ((Hw.listed_set e).resolve_left (by decide))
 f4 e:=h.f4 ((Hw.listed_set e).resolve_left (by decide))
 f5 _:=hy
 f6 e:=h.f6 ((Hw.listed_set e).resolve_left (by decide))
 f7 e:=h.f7 ((Hw.listed_set e).resolve_left (by decide))
 f8 e:=h.f8 ((Hw.listed_set e).resolve_left (by decide))
 f9 e:=h.f9 ((Hw.listed_set e).resolve_left (by decide))
 f10 e:=h.f10 ((Hw.listed_set e).resolve_left (by decide))
 f11 e:=h.f11 ((Hw.listed_set e).resolve_left (by decide))
 f12 e:=h.f12 ((Hw.listed_set e).resolve_left (by decide))
theorem WI.s6 {k:UInt8} {l:List UInt8} {w w':World} {L:Array Bool} {x3 x4 x5 x6 x7 x8 x9 x10 x11 x12 x13 x14 x15:Value} (h:WI k l w L x3 x4 x5 x6 x7 x8 x9 x10 x11 x12 x13 x14 x15 w') {y:Value} (hy:y=.int .i64 l.length):WI k l w (L.setIfInBounds 6 true) x3 x4 x5 x6 x7 x8 x9 y x11 x12 x13 x14 x15 w' where
 bel:=h.bel
 row:=h.row
 f0 e:=h.f0 ((Hw.listed_set e).resolve_left (by decide))
 f1 e:=h.f1 ((Hw.listed_set e).resolve_left (by decide))
 f2 e:=h.f2 ((Hw.listed_set e).resolve_left (by decide))
 f3 e:=h.f3 ((Hw.listed_set e).resolve_left (by decide))
 f4 e:=h.f4 ((Hw.listed_set e).resolve_left (by decide))
 f5 e:=h.f5 ((Hw.listed_set e).resolve_left (by decide))
 f6 _:=hy
 f7 e:=h.f7 ((Hw.listed_set e).resolve_left (by decide))
 f8 e:=h.f8 ((Hw.listed_set e).resolve_left (by decide))
 f9 e:=h.f9 ((Hw.listed_set e).resolve_left (by decide))
 f10 e:=h.f10 ((Hw.listed_set e).resolve_left (by decide))
 f11 e:=h.f11 ((Hw.listed_set e).resolve_left (by decide))
 f12 e:=h.f12 ((Hw.listed_set e).resolve_left (by decide))
theorem WI.s7 {k:UInt8} {l:List UInt8} {w w':World} {L:Array Bool} {x3 x4 x5 x6 x7 x8 x9 x10 x11 x12 x13 x14 x15:Value} (h:WI k l w L x3 x4 x5 x6 x7 x8 x9 x10 x11 x12 x13 x14 x15 w') {y:Value} (hy:y=.string ⟨(Hm.twoB l.length).toArray⟩):WI k l w (L.setIfInBounds 7 true) x3 x4 x5 x6 x7 x8 x9 x10 y x12 x13 x14 x15 w' where
 bel:=h.bel
 row:=h.row
 f0 e:=h.f0 ((Hw.listed_set e).resolve_left (by decide))
 f1 e:=h.f1 ((Hw.listed_set e).resolve_left (by decide))
 f2 e:=h.f2 ((Hw.listed_set e).resolve_left (by decide))
 f3 e:=h.f3 ((Hw.listed_set e).resolve_left (by decide))
 f4 e:=h.f4 ((Hw.listed_set e).resolve_left (by decide))
 f5 e:=h.f5 ((Hw.listed_set e).resolve_left (by decide))
 f6 e:=h.f6 ((Hw.listed_set e).resolve_left (by decide))
 f7 _:=hy
 f8 e:=h.f8 ((Hw.listed_set e).resolve_left (by decide))
 f9 e:=h.f9 ((Hw.listed_set e).resolve_left (by decide))
 f10 e:=h.f10 ((Hw.listed_set e).resolve_left (by decide))
 f11 e:=h.f11 ((Hw.listed_set e).resolve_left (by decide))
 f12 e:=h.f12 ((Hw.listed_set e).resolve_left (by decide))
theorem WI.s8 {k:UInt8} {l:List UInt8} {w w':World} {L:Array Bool} {x3 x4 x5 x6 x7 x8 x9 x10 x11 x12 x13 x14 x15:Value} (h:WI k l w L x3 x4 x5 x6 x7 x8 x9 x10 x11 x12 x13 x14 x15 w') {y:Value} (hy:y=.string ⟨(k :: Hm.twoB l.length).toArray⟩):WI k l w (L.setIfInBounds 8 true) x3 x4 x5 x6 x7 x8 x9 x10 x11 y x13 x14 x15 w' where
 bel:=h.bel
 row:=h.row
 f0 e:=h.f0 ((Hw.listed_set e).resolve_left (by decide))
 f1 e:=h.f1 ((Hw.listed_set e).resolve_left (by decide))
 f2 e:=h.f2 ((Hw.listed_set e).resolve_left (by decide))
 f3 e:=h.f3 ((Hw.listed_set e).resolve_left (by decide))
 f4 e:=h.f4 ((Hw.listed_set e).resolve_left (by decide))
 f5 e:=h.f5 ((Hw.listed_set e).resolve_left (by decide))
 f6 e:=h.f6 ((Hw.listed_set e).resolve_left (by decide))
 f7 e:=h.f7 ((Hw.listed_set e).resolve_left (by decide))
 f8 _:=hy
 f9 e:=h.f9 ((Hw.listed_set e).resolve_left (by decide))
 f10 e:=h.f10 ((Hw.listed_set e).resolve_left (by decide))
 f11 e:=h.f11 ((Hw.listed_set e).resolve_left (by decide))
 f12 e:=h.f12 ((Hw.listed_set e).resolve_left (by decide))
theorem WI.s9 {k:UInt8} {l:List UInt8} {w w':World} {L:Array Bool} {x3 x4 x5 x6 x7 x8 x9 x10 x11 x12 x13 x14 x15:Value} (h:WI k l w L x3 x4 x5 x6 x7 x8 x9 x10 x11 x12 x13 x14 x15 w') {y:Value} (hy:y=.pointer (some ⟨w.heap.size,1,none⟩)):WI k l w (L.setIfInBounds 9 true) x3 x4 x5 x6 x7 x8 x9 x10 x11 x12 y x14 x15 w' where
 bel:=h.bel
 row:=h.row
 f0 e:=h.f0 ((Hw.listed_set e).resolve_left (by decide))
 f1 e:=h.f1 ((Hw.listed_set e).resolve_left (by decide))
 f2 e:=h.f2 ((Hw.listed_set e).resolve_left (by decide))
 f3 e:=h.f3 ((Hw.listed_set e).resolve_left (by decide))
 f4 e:=h.f4 ((Hw.listed_set e).resolve_left (by decide))
 f5 e:=h.f5 ((Hw.listed_set e).resolve_left (by decide))
 f6 e:=h.f6 ((Hw.listed_set e).resolve_left (by decide))
 f7 e:=h.f7 ((Hw.listed_set e).resolve_left (by decide))
 f8 e:=h.f8 ((Hw.listed_set e).resolve_left (by decide))
 f9 _:=hy
 f10 e:=h.f10 ((Hw.listed_set e).resolve_left (by decide))
 f11 e:=h.f11 ((Hw.listed_set e).resolve_left (by decide))
 f12 e:=h.f12 ((Hw.listed_set e).resolve_left (by decide))
theorem WI.s10 {k:UInt8} {l:List UInt8} {w w':World} {L:Array Bool} {x3 x4 x5 x6 x7 x8 x9 x10 x11 x12 x13 x14 x15:Value} (h:WI k l w L x3 x4 x5 x6 x7 x8 x9 x10 x11 x12 x13 x14 x15 w') {y:Value} (hy:y=.string ⟨l.toArray⟩):WI k l w (L.setIfInBounds 10 true) x3 x4 x5 x6 x7 x8 x9 x10 x11 x12 x13 y x15 w' where
 bel:=h.bel
 row:=h.row
 f0 e:=h.f0 ((Hw.listed_set e).resolve_left (by decide))
 f1 e:=h.f1 ((Hw.listed_set e).resolve_left (by decide))
 f2 e:=h.f2 ((Hw.listed_set e).resolve_left (by decide))
 f3 e:=h.f3 ((Hw.listed_set e).resolve_left (by decide))
 f4 e:=h.f4 ((Hw.listed_set e).resolve_left (by decide))
 f5 e:=h.f5 ((Hw.listed_set e).resolve_left (by decide))
 f6 e:=h.f6 ((Hw.listed_set e).resolve_left (by decide))
 f7 e:=h.f7 ((Hw.listed_set e).resolve_left (by decide))
 f8 e:=h.f8 ((Hw.listed_set e).resolve_left (by decide))
 f9 e:=h.f9 ((Hw.listed_set e).resolve_left (by decide))
 f10 _:=hy
 f11 e:=h.f11 ((Hw.listed_set e).resolve_left (by decide))
 f12 e:=h.f12 ((Hw.listed_set e).resolve_left (by decide))
theorem WI.s11 {k:UInt8} {l:List UInt8} {w w':World} {L:Array Bool} {x3 x4 x5 x6 x7 x8 x9 x10 x11 x12 x13 x14 x15:Value} (h:WI k l w L x3 x4 x5 x6 x7 x8 x9 x10 x11 x12 x13 x14 x15 w') {y:Value} (hy:y=.string ⟨(Hm.aheadRec k l).toArray⟩):WI k l w (L.setIfInBounds 11 true) x3 x4 x5 x6 x7 x8 x9 x10 x11 x12 x13 x14 y w' where
 bel:=h.bel
 row:=h.row
 f0 e:=h.f0 ((Hw.listed_set e).resolve_left (by decide))
 f1 e:=h.f1 ((Hw.listed_set e).resolve_left (by decide))
 f2 e:=h.f2 ((Hw.listed_set e).resolve_left (by decide))
 f3 e:=h.f3 ((Hw.listed_set e).resolve_left (by decide))
 f4 e:=h.f4 ((Hw.listed_set e).resolve_left (by decide))
 f5 e:=h.f5 ((Hw.listed_set e).resolve_left (by decide))
 f6 e:=h.f6 ((Hw.listed_set e).resolve_left (by decide))
 f7 e:=h.f7 ((Hw.listed_set e).resolve_left (by decide))
 f8 e:=h.f8 ((Hw.listed_set e).resolve_left (by decide))
 f9 e:=h.f9 ((Hw.listed_set e).resolve_left (by decide))
 f10 e:=h.f10 ((Hw.listed_set e).resolve_left (by decide))
 f11 _:=hy
 f12 e:=h.f12 ((Hw.listed_set e).resolve_left (by decide))
theorem WI.s12 {k:UInt8} {l:List UInt8} {w w':World} {L:Array Bool} {x3 x4 x5 x6 x7 x8 x9 x10 x11 x12 x13 x14 x15:Value} (h:WI k l w L x3 x4 x5 x6 x7 x8 x9 x10 x11 x12 x13 x14 x15 w') {y:Value} (hy:y=.string ⟨(Hm.aheadRec k l).toArray⟩):WI k l w (L.setIfInBounds 12 true) y x4 x5 x6 x7 x8 x9 x10 x11 x12 x13 x14 x15 w' where
 bel:=h.bel
 row:=h.row
 f0 e:=h.f0 ((Hw.listed_set e).resolve_left (by decide))
 f1 e:=h.f1 ((Hw.listed_set e).resolve_left (by decide))
 f2 e:=h.f2 ((Hw.listed_set e).resolve_left (by decide))
 f3 e:=h.f3 ((Hw.listed_set e).resolve_left (by decide))
 f4 e:=h.f4 ((Hw.listed_set e).resolve_left (by decide))
 f5 e:=h.f5 ((Hw.listed_set e).resolve_left (by decide))
 f6 e:=h.f6 ((Hw.listed_set e).resolve_left (by decide))
 f7 e:=h.f7 ((Hw.listed_set e).resolve_left (by decide))
 f8 e:=h.f8 ((Hw.listed_set e).resolve_left (by decide))
 f9 e:=h.f9 ((Hw.listed_set e).resolve_left (by decide))
 f10 e:=h.f10 ((Hw.listed_set e).resolve_left (by decide))
 f11 e:=h.f11 ((Hw.listed_set e).resolve_left (by decide))
 f12 _:=hy
set_option maxRecDepth 20000 in
set_option maxHeartbeats 2000000 in
theorem writeRecord_any (k:UInt8) (l:List UInt8) (hl:l.length<=3000000000) (w:World) :
  Calls Tryz.prog 123 #[.agg #[.int .u8 k.toNat,.string ⟨l.toArray⟩]] w fun e w'=>e=.returned (.string ⟨(Hm.writeRec k l).toArray⟩)/\Below w.heap.size w w':=by
 go_enter Tryz.func123,Tryz.ntmps123
 go_wp2_with fail
 refine Hw.region_inv (fun L a w'=>∃ x3 x4 x5 x6 x7 x8 x9 x10 x11 x12 x13 x14 x15,a={ tmps:=#[.agg #[.int .u8 k.toNat,.string ⟨l.toArray⟩],.pointer (some ⟨w.heap.size,0,none⟩),.string ⟨#[]⟩,x3,x4,x5,x6,x7,x8,x9,x10,x11,x12,x13,x14,x15,undef,undef,undef,undef],defers:=[] }/\WI k l w L x3 x4 x5 x6 x7 x8 x9 x10 x11 x12 x13 x14 x15 w') mixed (by kernel_rfl) ?_ ?_ ?_
 ·refine ⟨_,_,_,_,_,_,_,_,_,_,_,_,_,rfl,(Below.refl _ _).alloc (Nat.le_refl _) _ |>.drew,heap_alloc_new _ _,?_,?_,?_,?_,?_,?_,?_,?_,?_,?_,?_,?_,?_⟩
  all_goals exact fun e=>by simp at e
 ·rintro L a w' i ⟨x3,x4,x5,x6,x7,x8,x9,x10,x11,x12,x13,x14,x15,rfl,hI⟩ hi hdep
  have hi13:i < 13:=hi
  have c0:w'.cell? ⟨w.heap.size,0,none⟩=some (.int .u8 k.toNat):=by simp [World.cell?,hI.row]
  have c1:w'.cell? ⟨w.heap.size,1,none⟩=some (.string ⟨l.toArray⟩):=by simp [World.cell?,hI.row]
  have HI:Hid (WI k l w L x3 x4 x5 x6 x7 x8 x9 x10 x11 x12 x13 x14 x15 w'):=hI
  clear hI hi
  rcases (by omega:i=0∨i=1∨i=2∨i=3∨i=4∨i=5∨i=6∨i=7∨i=8∨i=9∨i=10∨i=11∨i=12) with h | h | h | h | h | h | h | h | h | h | h | h | h<;>subst h
  ·clear hdep
   refine wpOp_step rfl (fun K hK=>?_)
   go_simp
   exact hK _ _ ⟨_,_,_,_,_,_,_,_,_,_,_,_,_,rfl,HI.out.s0 rfl⟩
  ·have hd:=hdep _ rfl
   have e0:=HI.out.f0 (hd ⟨0,.data⟩ (by simp) rfl)
   subst e0
   clear hdep hd
   refine wpOp_step rfl (fun K hK=>?_)
   go_simp
   exact hK _ _ ⟨_,_,_,_,_,_,_,_,_,_,_,_,_,rfl,HI.out.s1 rfl⟩
  ·have hd:=hdep _ rfl
   have e1:=HI.out.f1 (hd ⟨1,.data⟩ (by simp) rfl)
   subst e1
   clear hdep hd
   refine wpOp_step rfl (fun K hK=>?_)
   go_simp
   exact hK _ _ ⟨_,_,_,_,_,_,_,_,_,_,_,_,_,rfl,(HI.out.grow ((Below.refl _ _).alloc (Nat.le_refl _) _)).s2 ⟨_,rfl,heap_alloc_new _ _⟩⟩
  ·have hd:=hdep _ rfl
   obtain ⟨g,e2,hg⟩:=HI.out.f2 (hd ⟨2,.data⟩ (by simp) rfl)
   subst e2
   clear hdep hd
   have hback:=run_convert_bytes_back (P:=Tryz.prog) w' 72 9 5 ⟨g,0,none⟩ 1 [k] Tryz.underlying72 Tryz.underlying5 Tryz.underlying9 (fun j hj=>by obtain rfl:j=0:=(by simpa using hj);simp [Addr.add,World.cell?,hg])
   simp only [List.length_cons,List.length_nil,Nat.zero_add] at hback
   clear hg
   refine wpOp_step rfl (fun K hK=>?_)
   go_simp
   exact hK _ _ ⟨_,_,_,_,_,_,_,_,_,_,_,_,_,rfl,HI.out.s3 rfl⟩
  ·clear hdep
   refine wpOp_step rfl (fun K hK=>?_)
   go_simp
   exact hK _ _ ⟨_,_,_,_,_,_,_,_,_,_,_,_,_,rfl,HI.out.s4 rfl⟩
  ·have hd:=hdep _ rfl
   have e4:=HI.out.f4 (hd ⟨4,.data⟩ (by simp) rfl)
   subst e4
   clear hdep hd
   refine wpOp_step rfl (fun K hK=>?_)
   go_simp
   exact hK _ _ ⟨_,_,_,_,_,_,_,_,_,_,_,_,_,rfl,HI.out.s5 rfl⟩
  ·have hd:=hdep _ rfl
   have e5:=HI.out.f5 (hd ⟨5,.data⟩ (by simp) rfl)
   subst e5
   clear hdep hd
   refine wpOp_step rfl (fun K hK=>?_)
   go_simp
   exact hK _ _ ⟨_,_,_,_,_,_,_,_,_,_,_,_,_,rfl,HI.out.s6 rfl⟩
  ·have hd:=hdep _ rfl
   have e6:=HI.out.f6 (hd ⟨6,.data⟩ (by simp) rfl)
   subst e6
   clear hdep hd
   refine wpOp_step rfl (fun K hK=>?_)
   go_wp2_with fail
   refine (twoBytes_any _ _).mono ?_
   rintro e w2 ⟨rfl,hb⟩
   go_wp2_with fail
   exact ⟨_,_,_,_,_,_,_,_,_,_,_,_,_,rfl,(HI.out.grow hb).s7 rfl⟩
  ·have hd:=hdep _ rfl
   have e3:=HI.out.f3 (hd ⟨3,.data⟩ (by simp) rfl)
   subst e3
   have e7:=HI.out.f7 (hd ⟨7,.data⟩ (by simp) rfl)
   subst e7
   clear hdep hd
   refine wpOp_step rfl (fun K hK=>?_)
   have hsz:¬ 9223372036854775807 < 1+(Hm.twoB l.length).length:=by rw [Hm.twoB_length];omega
   go_simp
   exact hK _ _ ⟨_,_,_,_,_,_,_,_,_,_,_,_,_,rfl,HI.out.s8 (by congr 1)⟩
  ·clear hdep
   refine wpOp_step rfl (fun K hK=>?_)
   go_simp
   exact hK _ _ ⟨_,_,_,_,_,_,_,_,_,_,_,_,_,rfl,HI.out.s9 rfl⟩
  ·have hd:=hdep _ rfl
   have e9:=HI.out.f9 (hd ⟨9,.data⟩ (by simp) rfl)
   subst e9
   clear hdep hd
   refine wpOp_step rfl (fun K hK=>?_)
   go_simp
   exact hK _ _ ⟨_,_,_,_,_,_,_,_,_,_,_,_,_,rfl,HI.out.s10 rfl⟩
  ·have hd:=hdep _ rfl
   have e8:=HI.out.f8 (hd ⟨8,.data⟩ (by simp) rfl)
   subst e8
   have e10:=HI.out.f10 (hd ⟨10,.data⟩ (by simp) rfl)
   subst e10
   clear hdep hd
   refine wpOp_step rfl (fun K hK=>?_)
   have hsz:¬ 9223372036854775807 < (Hm.twoB l.length).length+1+l.length:=by rw [Hm.twoB_length];omega
   go_simp
   exact hK _ _ ⟨_,_,_,_,_,_,_,_,_,_,_,_,_,rfl,HI.out.s11 (by congr 1)⟩
  ·have hd:=hdep _ rfl
   have e11:=HI.out.f11 (hd ⟨11,.data⟩ (by simp) rfl)
   subst e11
   clear hdep hd
   refine wpOp_step rfl (fun K hK=>?_)
   go_simp
   exact hK _ _ ⟨_,_,_,_,_,_,_,_,_,_,_,_,_,rfl,HI.out.s12 rfl⟩
 ·rintro L a w' ⟨x3,x4,x5,x6,x7,x8,x9,x10,x11,x12,x13,x14,x15,rfl,hI⟩ hall
  have e3:=hI.f12 (hall 12 (by decide))
  subst e3
  have HB:Hid (Below w.heap.size w w'):=hI.bel
  have hal:(Hm.aheadRec k l).length=l.length+3:=Hm.aheadRec_length k l
  have HC:Hid (∀ w,Calls Tryz.prog 147 #[.string ⟨(Hm.aheadRec k l).toArray⟩] w fun e w'=>e=.returned (.string ⟨(Hm.check (Hm.aheadRec k l)).toArray⟩)/\Below w.heap.size w w'):=fun w=>checkOf_any ⟨(Hm.aheadRec k l).toArray⟩ (by show (Hm.aheadRec k l).toArray.size<=_;simp;omega) w
  have hsz:¬ 9223372036854775807 < (Hm.aheadRec k l).length+(Hm.check (Hm.aheadRec k l)).length:=by rw [Hm.check_length,hal];omega
  clear hI hall hal
  go_wp2_with fail
  refine (HC.out _).mono ?_
  rintro e w2 ⟨rfl,hb⟩
  go_wp2
  go_ret
  exact ⟨by unfold Hm.writeRec;congr 2,Below.next HB.out (Nat.le_refl _) hb⟩
end Go.Proofs.YtdlhbmncbmconaaGreatDoor
namespace Go.Hm
theorem numB_take (l:List UInt8):numB (l.take 2)=numB l:=by
 match l with
 | []=>rfl
 | [a]=>rfl
 | a :: b :: t=>rfl
theorem numB_lt (l:List UInt8):numB l < 65536:=by
 unfold numB
 have h1:(l.getD 0 0).toNat < 256:=UInt8.toNat_lt _
 have h2:(l.getD 1 0).toNat < 256:=UInt8.toNat_lt _
 omega
end Go.Hm
namespace Go.Proofs.YtdlhbmncbmconaaGreatDoor
open Go.RowKit Go.Sort
attribute [local go_sem] alloc_drewN setCell_drewN
theorem two_of_size {s:ByteArray} (h:s.size=2):∃ a b,s=⟨#[a,b]⟩:=by
 obtain ⟨⟨l⟩⟩:=s
 match l,h with
 | [a,b],_=>exact ⟨a,b,rfl⟩
theorem numberOf_two (s:ByteArray) (h:s.size=2) (w:World) :
  Calls Tryz.prog 101 #[.string s] w fun e w'=>e=.returned (.int .i64 (Hm.numB s.data.toList))/\∃ n,w'=w.drewN n:=by
 obtain ⟨a,b,rfl⟩:=two_of_size h
 exact numberOf_any a b w
def recV:Option (UInt8 × List UInt8 × Nat)->Array Value
 | none=>#[.int .u8 0,.string ⟨#[]⟩]
 | some (k,bs,_)=>#[.int .u8 k.toNat,.string ⟨bs.toArray⟩]
def recN:Option (UInt8 × List UInt8 × Nat)->Nat
 | none=>0
 | some (_,_,n)=>n
theorem size_record:(Tryz.prog.info? 121).map (·.size)=some 2:=by kernel_rfl
set_option maxRecDepth 20000 in
set_option maxHeartbeats 800000 in
theorem readRecord_any (s:ByteArray) (hs:s.size<=3000000000) (w:World) :
  Calls Tryz.prog 99 #[.string s] w fun e w'=>e=.returned (.tuple #[.agg (recV (Hm.readRec s.data.toList)),.int .i64 (recN (Hm.readRec s.data.toList))])/\Below w.heap.size w w':=by
 obtain ⟨wA,hwA⟩:∃ wA,w.alloc (.cells #[.int .u8 0,.string ⟨#[]⟩] 121)=wA:=⟨_,rfl⟩
 have HBA:Hid (Below w.heap.size w wA):=by rw [<-hwA];exact (Below.refl _ _).alloc (Nat.le_refl _) _
 have HRA:Hid (wA.heap[w.heap.size]?=some (.cells #[.int .u8 0,.string ⟨#[]⟩] 121 (0,0))):=by rw [<-hwA];exact heap_alloc_new _ _
 unfold Hm.readRec
 rw [Hm.len]
 by_cases h3:s.size < 3
 ·rw [if_pos h3]
  have i3:(s.size:Int) < 3:=by omega
  go_enter Tryz.func99,Tryz.ntmps99
  go_wp2_with (refine Hw.wpList_store_rowP rfl _ _ _ rfl rfl w.heap.size #[.int .u8 0,.string ⟨#[]⟩] rfl rfl _ _ HRA.out size_record rfl rfl ?_;intro w5 p5;have P5:Hid (Hw.Put _ _ _ _ w5):=p5;clear p5)
  refine bodyPost_ret (Hw.results_row2 Tryz.results99 _ _ _ _ _ _ _ rfl P5.out.row Tryz.underlying121 rfl size_record) rfl ⟨rfl,HBA.out.trans (P5.out.below (Nat.le_refl _))⟩
 ·rw [if_neg h3]
  have i3:¬ (s.size:Int) < 3:=by omega
  have i3':(3:Int)<=(s.size:Int):=by omega
  have hx:(s.extract 1 3).size=2:=by simp;omega
  have hn:Hm.numB (s.extract 1 3).data.toList=Hm.numB (s.data.toList.drop 1):=by rw [ex_take];exact Hm.numB_take _
  have HN:Hid (∀ w,Calls Tryz.prog 101 #[.string (s.extract 1 3)] w fun e w'=>e=.returned (.int .i64 (Hm.numB (s.data.toList.drop 1)))/\∃ n,w'=w.drewN n):=fun w=>by rw [<-hn];exact numberOf_two _ hx w
  have hlt:=Hm.numB_lt (s.data.toList.drop 1)
  generalize Hm.numB (s.data.toList.drop 1)=n at HN hlt ⊢
  clear hx hn
  by_cases h5:s.size < 3+n+2
  ·rw [if_pos h5]
   have i5:(s.size:Int) < 3+(n:Int)+2:=by omega
   go_enter Tryz.func99,Tryz.ntmps99
   go_wp2_with fail
   clear hwA
   refine (HN.out _).mono ?_
   rintro e w1 ⟨rfl,hw1⟩
   have HB1:Hid (Below w.heap.size w w1):=Below.next HBA.out (Nat.le_refl _) (drew_below hw1)
   have HR1:Hid (w1.heap[w.heap.size]?=some (.cells #[.int .u8 0,.string ⟨#[]⟩] 121 (0,0))):=by obtain ⟨q,rfl⟩:=hw1;exact HRA.out
   clear hw1 HBA HRA
   go_wp2_with fail
   go_quiet (fail)
   have HB2:Hid (Below w.heap.size w (w1.drewN nq)):=Below.next HB1.out (Nat.le_refl _) (drew_below ⟨_,rfl⟩)
   have HR2:Hid ((w1.drewN nq).heap[w.heap.size]?=some (.cells #[.int .u8 0,.string ⟨#[]⟩] 121 (0,0))):=HR1.out
   generalize w1.drewN nq=w2 at HB2 HR2 ⊢
   go_wp2_with (refine Hw.wpList_store_rowP rfl _ _ _ rfl rfl w.heap.size #[.int .u8 0,.string ⟨#[]⟩] rfl rfl _ _ HR2.out size_record rfl rfl ?_;intro w5 p5;have P5:Hid (Hw.Put _ _ _ _ w5):=p5;clear p5)
   refine bodyPost_ret (Hw.results_row2 Tryz.results99 _ _ _ _ _ _ _ rfl P5.out.row Tryz.underlying121 rfl size_record) rfl ⟨rfl,?_⟩
   exact HB2.out.trans (P5.out.below (Nat.le_refl _))
  ·rw [if_neg h5]
   have i5:¬ (s.size:Int) < 3+(n:Int)+2:=by omega
   have i5':3+(n:Int)+2<=(s.size:Int):=by omega
   have i6:3+(n:Int)<=(s.size:Int):=by omega
   have i7:¬ 3+(n:Int) < 0:=by omega
   have hwr:IntKind.i64.wrap (3+(n:Int)+2)=3+(n:Int)+2:=by rw [IntKind.wrap_i64];omega
   have i8:0<=3+(n:Int)+2:=by omega
   have i9:3+(n:Int)<=3+(n:Int)+2:=by omega
   have i10:3<=3+(n:Int):=by omega
   have hto:(3+(n:Int)).toNat=3+n:=by omega
   have hto2:(3+(n:Int)+2).toNat=3+n+2:=by omega
   have HC:Hid (∀ {w1:World} w',Below w1.heap.size w1 w'->Calls Tryz.prog 147 #[.string (s.extract 0 (3+n))] w' fun e w''=>e=.returned (.string ⟨(Hm.check (s.data.toList.take (3+n))).toArray⟩)/\Below w1.heap.size w1 w''):=fun w' hw'=>by
    have:=checkOf_any (s.extract 0 (3+n)) (by simp;omega) w'
    rw [ex_take,List.drop_zero,Nat.sub_zero] at this
    exact this.mono fun _ _ ⟨he,hb⟩=>⟨he,Below.next hw' (Nat.le_refl _) hb⟩
   have hex:(s.extract (3+n) (3+n+2)).toList=(s.data.toList.drop (3+n)).take 2:=by rw [Lib.toList_data,ex_take,show 3+n+2 - (3+n)=2 by omega]
   by_cases hq:(s.data.toList.drop (3+n)).take 2=Hm.check (s.data.toList.take (3+n))
   ·rw [if_neg (by simp [hq])]
    have HQ:Hid ((s.extract (3+n) (3+n+2)).toList=Hm.check (s.data.toList.take (3+n))):=hex.trans hq
    have hpos:0 < s.size:=by omega
    have hposi:(0:Int) < (s.size:Int):=by omega
    have HK:Hid (s.data.toList.getD 0 0=s[0]):=by
     show _=_
     rw [List.getD_eq_getElem?_getD,List.getElem?_eq_getElem (by rw [Hm.len];exact hpos)]
     simp;rfl
    have HX:Hid ((s.extract 3 (3+n))=⟨((s.data.toList.drop 3).take n).toArray⟩):=by
     show _=_
     have:=ex_take s 3 (3+n)
     rw [show 3+n - 3=n by omega] at this
     rw [<-this]
    clear hex hq
    go_enter Tryz.func99,Tryz.ntmps99
    go_wp2_with fail
    clear hwA
    refine (HN.out _).mono ?_
    rintro e w1 ⟨rfl,hw1⟩
    have HB1:Hid (Below w.heap.size w w1):=Below.next HBA.out (Nat.le_refl _) (drew_below hw1)
    have HR1:Hid (w1.heap[w.heap.size]?=some (.cells #[.int .u8 0,.string ⟨#[]⟩] 121 (0,0))):=by obtain ⟨q,rfl⟩:=hw1;exact HRA.out
    clear hw1 HBA HRA
    go_wp2_with fail
    refine region_class (fun w'=>Below w1.heap.size w1 w') mixed (by kernel_rfl) (Below.refl _ _).drew ?_
    refine q_step (.string s) rfl (fun w' hw'=>by unfold Oper.quietAt;go_simp) ?_
    intro K hK;go_simp;refine hK _ ?_;clear hK K
    refine q_step (.int .i64 s.size) rfl (fun w' hw'=>by unfold Oper.quietAt;go_simp) ?_
    intro K hK;go_simp;refine hK _ ?_;clear hK K
    refine q_step (.int .i64 (3+(n:Int))) rfl (fun w' hw'=>by unfold Oper.quietAt;go_simp) ?_
    intro K hK;go_simp;refine hK _ ?_;clear hK K
    refine q_step (.int .i64 (3+(n:Int)+2)) rfl (fun w' hw'=>by unfold Oper.quietAt;go_simp) ?_
    intro K hK;go_simp;refine hK _ ?_;clear hK K
    refine q_step (.bool false) rfl (fun w' hw'=>by unfold Oper.quietAt;go_simp) ?_
    intro K hK;go_simp;refine hK _ ?_;clear hK K
    refine q_step (.bool false) rfl (fun w' hw'=>by unfold Oper.quietAt;go_simp) ?_
    intro K hK;go_simp;refine hK _ ?_;clear hK K
    refine q_step (.string s) rfl (fun w' hw'=>by unfold Oper.quietAt;go_simp) ?_
    intro K hK;go_simp;refine hK _ ?_;clear hK K
    refine q_step (.int .i64 (3+(n:Int))) rfl (fun w' hw'=>by unfold Oper.quietAt;go_simp) ?_
    intro K hK;go_simp;refine hK _ ?_;clear hK K
    refine q_step (.int .i64 (3+(n:Int))) rfl (fun w' hw'=>by unfold Oper.quietAt;go_simp) ?_
    intro K hK;go_simp;refine hK _ ?_;clear hK K
    refine q_step (.int .i64 (3+(n:Int)+2)) rfl (fun w' hw'=>by unfold Oper.quietAt;go_simp) ?_
    intro K hK;go_simp;refine hK _ ?_;clear hK K
    refine q_step (.string (s.extract (3+n) (3+n+2))) rfl (fun w' hw'=>by unfold Oper.quietAt;go_simp) ?_
    intro K hK;go_simp;refine hK _ ?_;clear hK K
    refine q_step (.string s) rfl (fun w' hw'=>by unfold Oper.quietAt;go_simp) ?_
    intro K hK;go_simp;refine hK _ ?_;clear hK K
    refine q_step (.int .i64 (3+(n:Int))) rfl (fun w' hw'=>by unfold Oper.quietAt;go_simp) ?_
    intro K hK;go_simp;refine hK _ ?_;clear hK K
    refine q_step (.string (s.extract 0 (3+n))) rfl (fun w' hw'=>by unfold Oper.quietAt;go_simp) ?_
    intro K hK;go_simp;refine hK _ ?_;clear hK K
    refine q_step (.string ⟨(Hm.check (s.data.toList.take (3+n))).toArray⟩) rfl (fun w' hw'=>by unfold Oper.quietAt;go_simp;exact HC.out w' hw') ?_
    intro K hK;go_simp;refine hK _ ?_;clear hK K
    refine q_step (.bool false) rfl (fun w' hw'=>by unfold Oper.quietAt;go_simp;exact HQ.out) ?_
    intro K hK;go_simp;refine hK _ ?_;clear hK K
    refine q_step (.bool false) rfl (fun w' hw'=>by unfold Oper.quietAt;go_simp) ?_
    intro K hK;go_simp;refine hK _ ?_;clear hK K
    refine wpQuiet_nil ?_
    intro w2 hb2
    have HB2:Hid (Below w.heap.size w w2):=Below.next HB1.out (Nat.le_refl _) hb2
    have HR2:Hid (w2.heap[w.heap.size]?=some (.cells #[.int .u8 0,.string ⟨#[]⟩] 121 (0,0))):=(hb2.block _ (Array.getElem?_eq_some_iff.1 HR1.out).1).trans HR1.out
    clear hb2 HB1 HR1
    go_wp2_with fail
    refine wp_region_any mixed ?_
    change wpAny _ _ _ _ _ _ _ (World.drew _)
    have HB3:Hid (Below w.heap.size w w2.drew):=HB2.out.drew
    have HR3:Hid (w2.drew.heap[w.heap.size]?=some (.cells #[.int .u8 0,.string ⟨#[]⟩] 121 (0,0))):=HR2.out
    generalize w2.drew=w3 at HB3 HR3 ⊢
    refine wpAny_take (i:=0) (v:=.string s) rfl (by kernel_rfl) (by kernel_rfl) (by kernel_rfl) (fun _ _ _ h=>h) (Or.inl ⟨by rfl,?_⟩) ?_
    ·intro w;go_simp
    refine wpAny_take (i:=1) (v:=.int .u8 s[0].toNat) rfl (by kernel_rfl) (by kernel_rfl) (by kernel_rfl) (fun _ _ _ h=>h) (Or.inl ⟨by rfl,?_⟩) ?_
    ·intro w;go_simp
    refine wpAny_take (i:=2) (v:=.string s) rfl (by kernel_rfl) (by kernel_rfl) (by kernel_rfl) (fun _ _ _ h=>h) (Or.inl ⟨by rfl,?_⟩) ?_
    ·intro w;go_simp
    refine wpAny_take (i:=3) (v:=.int .i64 (3+(n:Int))) rfl (by kernel_rfl) (by kernel_rfl) (by kernel_rfl) (fun _ _ _ h=>h) (Or.inl ⟨by rfl,?_⟩) ?_
    ·intro w;go_simp
    refine wpAny_take (i:=4) (v:=.string (s.extract 3 (3+n))) rfl (by kernel_rfl) (by kernel_rfl) (by kernel_rfl) (fun _ _ _ h=>h) (Or.inl ⟨by rfl,?_⟩) ?_
    ·intro w;go_simp
    refine wpAny_take (i:=5) (v:=.agg #[.int .u8 s[0].toNat,.string (s.extract 3 (3+n))]) rfl (by kernel_rfl) (by kernel_rfl) (by kernel_rfl) (fun _ _ _ h=>h) (Or.inl ⟨by rfl,?_⟩) ?_
    ·intro w;go_simp
    refine wpAny_take (i:=6) (v:=.int .i64 (3+(n:Int))) rfl (by kernel_rfl) (by kernel_rfl) (by kernel_rfl) (fun _ _ _ h=>h) (Or.inl ⟨by rfl,?_⟩) ?_
    ·intro w;go_simp
    refine wpAny_take (i:=7) (v:=.int .i64 (3+(n:Int)+2)) rfl (by kernel_rfl) (by kernel_rfl) (by kernel_rfl) (fun _ _ _ h=>h) (Or.inl ⟨by rfl,?_⟩) ?_
    ·intro w;go_simp
    refine wpAny_ready (rs:=[8]) (by kernel_rfl) (by simp) ?_
    refine AllReady.cons rfl (fun K hK=>?_) AllReady.nil
    have k0:w3.cell? ⟨w.heap.size,0,none⟩=some (.int .u8 0):=by simp [World.cell?,HR3.out]
    have k1:w3.cell? ⟨w.heap.size,1,none⟩=some (.string ⟨#[]⟩):=by simp [World.cell?,HR3.out]
    have q0:w3.frozen? ⟨w.heap.size,0,none⟩=false:=by simp [World.frozen?,HR3.out]
    have q1:w3.frozen? ⟨w.heap.size,1,none⟩=false:=by simp [World.frozen?,HR3.out]
    go_simp
    refine hK _ _ ?_
    clear hK K
    refine wpAny_ready (rs:=[9]) (by kernel_rfl) (by simp) ?_
    refine AllReady.cons rfl (fun K hK=>?_) AllReady.nil
    go_simp
    refine hK _ _ ?_
    clear hK K
    refine wpAny_done (by kernel_rfl) ?_ _
    have P4:=put_setCell (i:=0) (.int .u8 s[0].toNat) HR3.out
    have P5a:=put_setCell (i:=1) (.string (s.extract 3 (3+n))) P4.row
    have P5:Hid (Hw.Put w3 w.heap.size 121 #[.int .u8 s[0].toNat,.string (s.extract 3 (3+n))] ((w3.setCell ⟨w.heap.size,0,none⟩ (.int .u8 s[0].toNat)).setCell ⟨w.heap.size,1,none⟩ (.string (s.extract 3 (3+n))))):=
     ⟨P5a.row,fun k hk=>(P5a.other k hk).trans (P4.other k hk),P5a.size.trans P4.size,P5a.os.trans P4.os,P5a.tape.trans P4.tape,P5a.output.trans P4.output⟩
    clear P4 P5a k0 k1 q0 q1
    generalize (w3.setCell ⟨w.heap.size,0,none⟩ (.int .u8 s[0].toNat)).setCell ⟨w.heap.size,1,none⟩ (.string (s.extract 3 (3+n)))=w5 at P5 ⊢
    go_wp2
    refine bodyPost_ret (Hw.results_row2 Tryz.results99 _ _ _ _ _ _ _ rfl P5.out.row Tryz.underlying121 rfl size_record) rfl ⟨?_,?_⟩
    ·unfold recV recN
     rw [HK.out,HX.out]
     show Ending.returned (.tuple #[.agg #[.int .u8 s[0].toNat,.string ⟨((s.data.toList.drop 3).take n).toArray⟩],.int .i64 (3+(n:Int)+2)])=Ending.returned (.tuple #[.agg #[.int .u8 s[0].toNat,.string ⟨((s.data.toList.drop 3).take n).toArray⟩],.int .i64 ((3+n+2:Nat):Int)])
     rw [show ((3+n+2:Nat):Int)=3+(n:Int)+2 by omega]
    ·exact HB3.out.trans (P5.out.below (Nat.le_refl _))
   ·rw [if_pos hq]
    have HQ:Hid (¬ (s.extract (3+n) (3+n+2)).toList=Hm.check (s.data.toList.take (3+n))):=fun e=>hq (hex.symm.trans e)
    clear hex hq
    go_enter Tryz.func99,Tryz.ntmps99
    go_wp2_with fail
    clear hwA
    refine (HN.out _).mono ?_
    rintro e w1 ⟨rfl,hw1⟩
    have HB1:Hid (Below w.heap.size w w1):=Below.next HBA.out (Nat.le_refl _) (drew_below hw1)
    have HR1:Hid (w1.heap[w.heap.size]?=some (.cells #[.int .u8 0,.string ⟨#[]⟩] 121 (0,0))):=by obtain ⟨q,rfl⟩:=hw1;exact HRA.out
    clear hw1 HBA HRA
    go_wp2_with fail
    refine region_class (fun w'=>Below w1.heap.size w1 w') mixed (by kernel_rfl) (Below.refl _ _).drew ?_
    refine q_step (.string s) rfl (fun w' hw'=>by unfold Oper.quietAt;go_simp) ?_
    intro K hK;go_simp;refine hK _ ?_;clear hK K
    refine q_step (.int .i64 s.size) rfl (fun w' hw'=>by unfold Oper.quietAt;go_simp) ?_
    intro K hK;go_simp;refine hK _ ?_;clear hK K
    refine q_step (.int .i64 (3+(n:Int))) rfl (fun w' hw'=>by unfold Oper.quietAt;go_simp) ?_
    intro K hK;go_simp;refine hK _ ?_;clear hK K
    refine q_step (.int .i64 (3+(n:Int)+2)) rfl (fun w' hw'=>by unfold Oper.quietAt;go_simp) ?_
    intro K hK;go_simp;refine hK _ ?_;clear hK K
    refine q_step (.bool false) rfl (fun w' hw'=>by unfold Oper.quietAt;go_simp) ?_
    intro K hK;go_simp;refine hK _ ?_;clear hK K
    refine q_step (.bool false) rfl (fun w' hw'=>by unfold Oper.quietAt;go_simp) ?_
    intro K hK;go_simp;refine hK _ ?_;clear hK K
    refine q_step (.string s) rfl (fun w' hw'=>by unfold Oper.quietAt;go_simp) ?_
    intro K hK;go_simp;refine hK _ ?_;clear hK K
    refine q_step (.int .i64 (3+(n:Int))) rfl (fun w' hw'=>by unfold Oper.quietAt;go_simp) ?_
    intro K hK;go_simp;refine hK _ ?_;clear hK K
    refine q_step (.int .i64 (3+(n:Int))) rfl (fun w' hw'=>by unfold Oper.quietAt;go_simp) ?_
    intro K hK;go_simp;refine hK _ ?_;clear hK K
    refine q_step (.int .i64 (3+(n:Int)+2)) rfl (fun w' hw'=>by unfold Oper.quietAt;go_simp) ?_
    intro K hK;go_simp;refine hK _ ?_;clear hK K
    refine q_step (.string (s.extract (3+n) (3+n+2))) rfl (fun w' hw'=>by unfold Oper.quietAt;go_simp) ?_
    intro K hK;go_simp;refine hK _ ?_;clear hK K
    refine q_step (.string s) rfl (fun w' hw'=>by unfold Oper.quietAt;go_simp) ?_
    intro K hK;go_simp;refine hK _ ?_;clear hK K
    refine q_step (.int .i64 (3+(n:Int))) rfl (fun w' hw'=>by unfold Oper.quietAt;go_simp) ?_
    intro K hK;go_simp;refine hK _ ?_;clear hK K
    refine q_step (.string (s.extract 0 (3+n))) rfl (fun w' hw'=>by unfold Oper.quietAt;go_simp) ?_
    intro K hK;go_simp;refine hK _ ?_;clear hK K
    refine q_step (.string ⟨(Hm.check (s.data.toList.take (3+n))).toArray⟩) rfl (fun w' hw'=>by unfold Oper.quietAt;go_simp;exact HC.out w' hw') ?_
    intro K hK;go_simp;refine hK _ ?_;clear hK K
    refine q_step (.bool true) rfl (fun w' hw'=>by unfold Oper.quietAt;go_simp;exact HQ.out) ?_
    intro K hK;go_simp;refine hK _ ?_;clear hK K
    refine q_step (.bool true) rfl (fun w' hw'=>by unfold Oper.quietAt;go_simp) ?_
    intro K hK;go_simp;refine hK _ ?_;clear hK K
    refine wpQuiet_nil ?_
    intro w2 hb2
    have HB2:Hid (Below w.heap.size w w2):=Below.next HB1.out (Nat.le_refl _) hb2
    have HR2:Hid (w2.heap[w.heap.size]?=some (.cells #[.int .u8 0,.string ⟨#[]⟩] 121 (0,0))):=(hb2.block _ (Array.getElem?_eq_some_iff.1 HR1.out).1).trans HR1.out
    clear hb2 HB1 HR1
    go_wp2_with (refine Hw.wpList_store_rowP rfl _ _ _ rfl rfl w.heap.size #[.int .u8 0,.string ⟨#[]⟩] rfl rfl _ _ HR2.out size_record rfl rfl ?_;intro w5 p5;have P5:Hid (Hw.Put _ _ _ _ w5):=p5;clear p5)
    refine bodyPost_ret (Hw.results_row2 Tryz.results99 _ _ _ _ _ _ _ rfl P5.out.row Tryz.underlying121 rfl size_record) rfl ⟨rfl,?_⟩
    exact HB2.out.trans (P5.out.below (Nat.le_refl _))
end Go.Proofs.YtdlhbmncbmconaaGreatDoor
namespace Go.Proofs.YtdlhbmncbmconaaGreatDoor
open Go.RowKit Go.Sort
attribute [local go_sem] alloc_drewN setCell_drewN
def LgV (g:Hm.Lg) (rv wv:Value):Array Value:=#[.int .i64 g.room,rv,.int .i64 g.had,wv]
structure StepL (p:Nat) (rv wv:Value) (w:World) (rv' wv':Value) (w':World):Prop where
 kept:Hw.Kept (fun k=>k=p∨rv.ownBlock=some k∨wv.ownBlock=some k) w w'
 lr:∀ k,rv'.ownBlock=some k->rv.ownBlock=some k∨w.heap.size<=k
 lw:∀ k,wv'.ownBlock=some k->wv.ownBlock=some k∨w.heap.size<=k
theorem StepL.refl {p:Nat} {rv wv:Value} {w:World}:StepL p rv wv w rv wv w:=⟨Hw.Kept.refl _ _,fun _ e=>.inl e,fun _ e=>.inl e⟩
theorem StepL.next {p:Nat} {rv wv rv' wv':Value} {a b c:World} (h:StepL p rv wv a rv' wv' b) (k:Below b.heap.size b c):StepL p rv wv a rv' wv' c:=⟨h.kept.next k,h.lr,h.lw⟩
theorem StepL.trans {p:Nat} {rv wv rv' wv' rv'' wv'':Value} {a b c:World} (h:StepL p rv wv a rv' wv' b) (k:StepL p rv' wv' b rv'' wv'' c):StepL p rv wv a rv'' wv'' c where
 kept:=h.kept.trans k.kept (fun i hi e=>by
  rcases e with e | e | e
  ·exact .inl e
  ·rcases h.lr i e with e | e
   ·exact .inr (.inl e)
   ·omega
  ·rcases h.lw i e with e | e
   ·exact .inr (.inr e)
   ·omega)
 lr i e:=by
  rcases k.lr i e with e | e
  ·exact h.lr i e
  ·exact .inr (Nat.le_trans h.kept.size e)
 lw i e:=by
  rcases k.lw i e with e | e
  ·exact h.lw i e
  ·exact .inr (Nat.le_trans h.kept.size e)
theorem strCells_list (l:List UInt8):Lib.strCells ⟨l.toArray⟩=l.map fun b=>Value.int .u8 b.toNat:=by simp [Lib.strCells]
theorem size_sl42:(Tryz.prog.info? 42).map (·.size)=some 1:=by kernel_rfl
end Go.Proofs.YtdlhbmncbmconaaGreatDoor
namespace Go.Hm
theorem line_len {m:Msg} (h:(line m).2=0):(line m).1.length<=200:=by
 unfold line at h ⊢
 by_cases h0:fault m=0
 ·rw [if_neg (by simp [h0])] at h ⊢
  by_cases h1:200 < joinedLen (partsOf m)
  ·rw [if_pos h1] at h;cases h
  ·rw [if_neg h1]
   unfold partsOf at h1 ⊢
   rw [<-join_length] at h1
   dsimp only
   omega
 ·rw [if_pos (by simpa using h0)];simp
end Go.Hm
namespace Go.Proofs.YtdlhbmncbmconaaGreatDoor
open Go.RowKit Go.Sort
attribute [local go_sem] alloc_drewN setCell_drewN
def LgSmall (g:Hm.Lg):Prop:=g.records.length<=900000000000/\g.waiting.length<=900000/\g.had<=900000/\g.room<=1000
theorem nil_string (w:World):(convert 72 9 (.slice none 0 0)).run Tryz.prog w=.ok (.string ⟨#[]⟩) w:=by
 rw [run_convert_bytes_string w 72 9 5 none 0 0 Tryz.underlying72 Tryz.underlying5 Tryz.underlying9]
 simp [Conv.bytesToString]
 rfl
end Go.Proofs.YtdlhbmncbmconaaGreatDoor
namespace Go.Proofs.YtdlhbmncbmconaaGreatDoor
open Go.RowKit Go.Shelf Go.Sort
attribute [local go_sem] Oper.semAt_some
theorem recordsIn_any (s:ByteArray) (w:World) :
  Calls Tryz.prog 62 #[.string s] w fun e w'=>e=.returned (.func (.func 98) #[] #[.pointer (some ⟨w.heap.size,0,none⟩)])/\w'=w.alloc (.cells #[.string s] 9):=by
 go_enter Tryz.func62,Tryz.ntmps62
 go_wp2
 go_ret
 exact ⟨rfl,rfl⟩
end Go.Proofs.YtdlhbmncbmconaaGreatDoor

/- Pressed by program out of Bk. -/
import Derived.Test.YtdlhbmncbmconaaGreatDoorA13
namespace Go.Proofs.Z
open Hm Tryz Go.RowKit Go.Sort
attribute [local go_sem] cN cO
theorem K8(n:Int)(a:0<=n)(b:n<2^40):IntKind.i64.wrap n=n:=by rw[IntKind.wrap_i64];omega
theorem K9(a b:UInt8)(w:World):
  Calls prog 101 #[.string ⟨#[a,b]⟩] w fun e d=>e= .returned (.int .i64 (cT [a,b]))/\∃n,d=w.drewN n:=by
 have k:a.toNat<256:=lA _;have f:b.toNat<256:=lA _;have c:=(bits_nat .i64 40 (by decide) K8 (a.toNat*256) b.toNat (by omega) (by omega)).2;have g:a.toNat*256 ||| b.toNat=cT [a,b]:=by
  rw[Nat.mul_comm];exact(Nat.two_pow_add_eq_or_of_lt (i:=8) f a.toNat).symm
 rw[g]at c;go_enter func101,ntmps101;go_wp2_with fail;go_quiet(fail)
 go_wp2;go_ret;refine⟨?_,⟨_,rfl⟩⟩;rw[<-c];have h:wrap64 (wrap64 (a.toNat:Int)*256)=((a.toNat*256:Nat):Int):=by unfold wrap64;omega
 have j:wrap64 (b.toNat:Int)=b.toNat:=by unfold wrap64;omega
 rw[<-h];conv=>rhs;rw[<-j]
 rfl
theorem wT(w:World)(x y:UInt8)(u v:Int)(a:u=x.toNat)(b:v=y.toNat):
  (convert 72 9 (.slice (some ⟨w.heap.size,0,none⟩) 2 2)).run prog (w.alloc (.cells #[.int .u8 u,.int .u8 v] 5))= .ok (.string ⟨#[x,y]⟩) (w.alloc (.cells #[.int .u8 u,.int .u8 v] 5)):=by
 subst a b;exact run_convert_bytes_back _ 72 9 5 ⟨w.heap.size,0,none⟩ 2 [x,y] underlying72 underlying5 underlying9 (fun j c=>by
  rcases(by simp at c;omega:j=0∨j=1)with h|h <;> subst h <;> simp[Addr.add])
set_option maxRecDepth 20000 in
theorem KO(n:Nat)(w:World):
  Calls prog 148 #[.int .i64 n] w fun e b=>e= .returned (.string ⟨(iC n).toArray⟩)/\Below w.heap.size w b:=by
 have a:=wT w (UInt8.ofNat (n/256)) (UInt8.ofNat n) ((n:Int)/256%256) ((n:Int)%256) (by simp) (by simp);go_enter func148,ntmps148;go_wp2;go_ret;exact⟨rfl,(aF _ _).alloc (aC _) _⟩
set_option maxRecDepth 20000 in
theorem KQ(s:ByteArray)(t:s.size<=4000000000)(w:World):
  Calls prog 147 #[.string s] w fun e p=>e= .returned (.string ⟨(lL s.data.toList).toArray⟩)/\Below w.heap.size w p:=by
 go_enter func147,ntmps147;go_wp2;go_loopw [3,4,8] (fun q r g wr=>∃k a b:Nat,k<=s.size/\g= .int .i64 k/\q= .int .i64 a/\r= .int .i64 b/\a<251/\b<251/\mB 1 0 s.data.toList=mB a b (s.data.toList.drop k)/\wr=w) (fun _ _ g _=>s.size-(intOf g).toNat)
 case atStart=>exact⟨0,1,0,by omega,rfl,rfl,rfl,by omega,by omega,rfl,rfl⟩
 case round=>
  obtain⟨k,a,b,u,rfl,rfl,rfl,v,x,n,rfl⟩:=hrel;have d:=aA n;clear n;by_cases c:k<s.size
  ·have h:(k:Int)<(s.size:Int):=by omega
   have j:=eE (l:=s.data.toList) (i:=k) (by rw[Hm.len];exact c);have o:s.data.toList[k]'(by rw[Hm.len];exact c)=s[k]:=by simp;rfl
   rw[o]at j;rw[j,mB]at d;clear j o;have y:s[k].toNat<256:=lA _;go_wp2;go_roundw;case rel=>exact⟨k+1,(a+s[k].toNat)%251,(b+(a+s[k].toNat)%251)%251,by omega,aY (by simp),aY (by simp),aY (by simp),Nat.mod_lt _ (by decide),Nat.mod_lt _ (by decide),d.out,trivial⟩
   case measure=>simp[intOf];omega
  ·have h:¬(k:Int)<(s.size:Int):=by omega
   rw[gH (by rw[Hm.len];omega),mB]at d;have m:=wT wr (UInt8.ofNat a) (UInt8.ofNat b) ((a:Int)%256) ((b:Int)%256) (by simp) (by simp);have f:=wT wr (UInt8.ofNat a) (UInt8.ofNat b) (a:Int) (b:Int) (by simp;omega) (by simp;omega);go_wp2;go_ret;refine⟨?_,(aF _ _).alloc (aC _) _⟩;unfold lL;rw[d.out];rfl
end Go.Proofs.Z
namespace Go.Proofs.Z
open Hm Hw Tryz Go.RowKit Go.Sort
attribute [local go_sem] cN cO
structure dX(k:UInt8)(l:List UInt8)(w:World)(L:Array Bool)(x3 x4 x5 x6 x7 x8 x9 x10 x11 x12 x13 x14 x15:Value)(w':World):Prop where
 bel:Below w.heap.size w w'
 row:w'.heap[w.heap.size]?=some (.cells #[.int .u8 k.toNat,.string ⟨l.toArray⟩] 121 (0,0))
 f0:L.getD 0 false=true->x4= .pointer (some ⟨w.heap.size,0,none⟩)
 f1:L.getD 1 false=true->x5= .int .u8 k.toNat
 f2:L.getD 2 false=true->∃g,x6= .slice (some ⟨g,0,none⟩) 1 1/\w'.heap[g]?=some (.cells #[.int .u8 k.toNat] 5 (0,0))
 f3:L.getD 3 false=true->x7= .string ⟨#[k]⟩
 f4:L.getD 4 false=true->x8= .pointer (some ⟨w.heap.size,1,none⟩)
 f5:L.getD 5 false=true->x9= .string ⟨l.toArray⟩
 f6:L.getD 6 false=true->x10= .int .i64 l.length
 f7:L.getD 7 false=true->x11= .string ⟨(iC l.length).toArray⟩
 f8:L.getD 8 false=true->x12= .string ⟨(k::iC l.length).toArray⟩
 f9:L.getD 9 false=true->x13= .pointer (some ⟨w.heap.size,1,none⟩)
 f10:L.getD 10 false=true->x14= .string ⟨l.toArray⟩
 f11:L.getD 11 false=true->x15= .string ⟨(jD k l).toArray⟩
 f12:L.getD 12 false=true->x3= .string ⟨(jD k l).toArray⟩
theorem dX.grow{k:UInt8}{l:List UInt8}{w m a:World}{L:Array Bool}{o p q r s t u b c d f i j:Value}(h:dX k l w L o p q r s t u b c d f i j m)(n:Below m.heap.size m a):dX k l w L o p q r s t u b c d f i j a where
 bel:=Below.next h.bel (aC _) n
 row:=(n.block _ (aM.1 h.row).1).trans h.row
 f0:=h.f0
 f1:=h.f1
 f2 e:=by
  obtain⟨g,h1,h2⟩:=h.f2 e;exact⟨g,h1,(n.block _ (aM.1 h2).1).trans h2⟩
 f3:=h.f3
 f4:=h.f4
 f5:=h.f5
 f6:=h.f6
 f7:=h.f7
 f8:=h.f8
 f9:=h.f9
 f10:=h.f10
 f11:=h.f11
 f12:=h.f12
theorem dX.s0{k:UInt8}{l:List UInt8}{w i:World}{L:Array Bool}{j r m n o p q a b c d f g:Value}(h:dX k l w L j r m n o p q a b c d f g i){y:Value}(s:y= .pointer (some ⟨w.heap.size,0,none⟩)):dX k l w (L.setIfInBounds 0 true) j y m n o p q a b c d f g i where
 bel:=h.bel
 row:=h.row
 f0 _:=s
 f1 e:=h.f1 ((aP e).resolve_left (by decide))
 f2 e:=h.f2 ((aP e).resolve_left (by decide))
 f3 e:=h.f3 ((aP e).resolve_left (by decide))
 f4 e:=h.f4 ((aP e).resolve_left (by decide))
 f5 e:=h.f5 ((aP e).resolve_left (by decide))
 f6 e:=h.f6 ((aP e).resolve_left (by decide))
 f7 e:=h.f7 ((aP e).resolve_left (by decide))
 f8 e:=h.f8 ((aP e).resolve_left (by decide))
 f9 e:=h.f9 ((aP e).resolve_left (by decide))
 f10 e:=h.f10 ((aP e).resolve_left (by decide))
 f11 e:=h.f11 ((aP e).resolve_left (by decide))
 f12 e:=h.f12 ((aP e).resolve_left (by decide))
theorem dX.s1{k:UInt8}{l:List UInt8}{w i:World}{L:Array Bool}{j m r n o p q a b c d f g:Value}(h:dX k l w L j m r n o p q a b c d f g i){y:Value}(s:y= .int .u8 k.toNat):dX k l w (L.setIfInBounds 1 true) j m y n o p q a b c d f g i where
 bel:=h.bel
 row:=h.row
 f0 e:=h.f0 ((aP e).resolve_left (by decide))
 f1 _:=s
 f2 e:=h.f2 ((aP e).resolve_left (by decide))
 f3 e:=h.f3 ((aP e).resolve_left (by decide))
 f4 e:=h.f4 ((aP e).resolve_left (by decide))
 f5 e:=h.f5 ((aP e).resolve_left (by decide))
 f6 e:=h.f6 ((aP e).resolve_left (by decide))
 f7 e:=h.f7 ((aP e).resolve_left (by decide))
 f8 e:=h.f8 ((aP e).resolve_left (by decide))
 f9 e:=h.f9 ((aP e).resolve_left (by decide))
 f10 e:=h.f10 ((aP e).resolve_left (by decide))
 f11 e:=h.f11 ((aP e).resolve_left (by decide))
 f12 e:=h.f12 ((aP e).resolve_left (by decide))
theorem dX.s2{k:UInt8}{l:List UInt8}{w j:World}{L:Array Bool}{m n o s p q r a b c d f i:Value}(h:dX k l w L m n o s p q r a b c d f i j){y:Value}(t:∃g,y= .slice (some ⟨g,0,none⟩) 1 1/\j.heap[g]?=some (.cells #[.int .u8 k.toNat] 5 (0,0))):dX k l w (L.setIfInBounds 2 true) m n o y p q r a b c d f i j where
 bel:=h.bel
 row:=h.row
 f0 e:=h.f0 ((aP e).resolve_left (by decide))
 f1 e:=h.f1 ((aP e).resolve_left (by decide))
 f2 _:=t
 f3 e:=h.f3 ((aP e).resolve_left (by decide))
 f4 e:=h.f4 ((aP e).resolve_left (by decide))
 f5 e:=h.f5 ((aP e).resolve_left (by decide))
 f6 e:=h.f6 ((aP e).resolve_left (by decide))
 f7 e:=h.f7 ((aP e).resolve_left (by decide))
 f8 e:=h.f8 ((aP e).resolve_left (by decide))
 f9 e:=h.f9 ((aP e).resolve_left (by decide))
 f10 e:=h.f10 ((aP e).resolve_left (by decide))
 f11 e:=h.f11 ((aP e).resolve_left (by decide))
 f12 e:=h.f12 ((aP e).resolve_left (by decide))
theorem dX.s3{k:UInt8}{l:List UInt8}{w i:World}{L:Array Bool}{j m n o r p q a b c d f g:Value}(h:dX k l w L j m n o r p q a b c d f g i){y:Value}(s:y= .string ⟨#[k]⟩):dX k l w (L.setIfInBounds 3 true) j m n o y p q a b c d f g i where
 bel:=h.bel
 row:=h.row
 f0 e:=h.f0 ((aP e).resolve_left (by decide))
 f1 e:=h.f1 ((aP e).resolve_left (by decide))
 f2 e:=h.f2 ((aP e).resolve_left (by decide))
 f3 _:=s
 f4 e:=h.f4 ((aP e).resolve_left (by decide))
 f5 e:=h.f5 ((aP e).resolve_left (by decide))
 f6 e:=h.f6 ((aP e).resolve_left (by decide))
 f7 e:=h.f7 ((aP e).resolve_left (by decide))
 f8 e:=h.f8 ((aP e).resolve_left (by decide))
 f9 e:=h.f9 ((aP e).resolve_left (by decide))
 f10 e:=h.f10 ((aP e).resolve_left (by decide))
 f11 e:=h.f11 ((aP e).resolve_left (by decide))
 f12 e:=h.f12 ((aP e).resolve_left (by decide))
theorem dX.s4{k:UInt8}{l:List UInt8}{w i:World}{L:Array Bool}{j m n o p r q a b c d f g:Value}(h:dX k l w L j m n o p r q a b c d f g i){y:Value}(s:y= .pointer (some ⟨w.heap.size,1,none⟩)):dX k l w (L.setIfInBounds 4 true) j m n o p y q a b c d f g i where
 bel:=h.bel
 row:=h.row
 f0 e:=h.f0 ((aP e).resolve_left (by decide))
 f1 e:=h.f1 ((aP e).resolve_left (by decide))
 f2 e:=h.f2 ((aP e).resolve_left (by decide))
 f3 e:=h.f3 ((aP e).resolve_left (by decide))
 f4 _:=s
 f5 e:=h.f5 ((aP e).resolve_left (by decide))
 f6 e:=h.f6 ((aP e).resolve_left (by decide))
 f7 e:=h.f7 ((aP e).resolve_left (by decide))
 f8 e:=h.f8 ((aP e).resolve_left (by decide))
 f9 e:=h.f9 ((aP e).resolve_left (by decide))
 f10 e:=h.f10 ((aP e).resolve_left (by decide))
 f11 e:=h.f11 ((aP e).resolve_left (by decide))
 f12 e:=h.f12 ((aP e).resolve_left (by decide))
theorem dX.s5{k:UInt8}{l:List UInt8}{w i:World}{L:Array Bool}{j m n o p q r a b c d f g:Value}(h:dX k l w L j m n o p q r a b c d f g i){y:Value}(s:y= .string ⟨l.toArray⟩):dX k l w (L.setIfInBounds 5 true) j m n o p q y a b c d f g i where
 bel:=h.bel
 row:=h.row
 f0 e:=h.f0 ((aP e).resolve_left (by decide))
 f1 e:=h.f1 ((aP e).resolve_left (by decide))
 f2 e:=h.f2 ((aP e).resolve_left (by decide))
 f3 e:=h.f3 ((aP e).resolve_left (by decide))
 f4 e:=h.f4 ((aP e).resolve_left (by decide))
 f5 _:=s
 f6 e:=h.f6 ((aP e).resolve_left (by decide))
 f7 e:=h.f7 ((aP e).resolve_left (by decide))
 f8 e:=h.f8 ((aP e).resolve_left (by decide))
 f9 e:=h.f9 ((aP e).resolve_left (by decide))
 f10 e:=h.f10 ((aP e).resolve_left (by decide))
 f11 e:=h.f11 ((aP e).resolve_left (by decide))
 f12 e:=h.f12 ((aP e).resolve_left (by decide))
theorem dX.s6{k:UInt8}{l:List UInt8}{w i:World}{L:Array Bool}{j m n o p q r g a b c d f:Value}(h:dX k l w L j m n o p q r g a b c d f i){y:Value}(s:y= .int .i64 l.length):dX k l w (L.setIfInBounds 6 true) j m n o p q r y a b c d f i where
 bel:=h.bel
 row:=h.row
 f0 e:=h.f0 ((aP e).resolve_left (by decide))
 f1 e:=h.f1 ((aP e).resolve_left (by decide))
 f2 e:=h.f2 ((aP e).resolve_left (by decide))
 f3 e:=h.f3 ((aP e).resolve_left (by decide))
 f4 e:=h.f4 ((aP e).resolve_left (by decide))
 f5 e:=h.f5 ((aP e).resolve_left (by decide))
 f6 _:=s
 f7 e:=h.f7 ((aP e).resolve_left (by decide))
 f8 e:=h.f8 ((aP e).resolve_left (by decide))
 f9 e:=h.f9 ((aP e).resolve_left (by decide))
 f10 e:=h.f10 ((aP e).resolve_left (by decide))
 f11 e:=h.f11 ((aP e).resolve_left (by decide))
 f12 e:=h.f12 ((aP e).resolve_left (by decide))
theorem dX.s7{k:UInt8}{l:List UInt8}{w i:World}{L:Array Bool}{j m n o p q r a g b c d f:Value}(h:dX k l w L j m n o p q r a g b c d f i){y:Value}(s:y= .string ⟨(iC l.length).toArray⟩):dX k l w (L.setIfInBounds 7 true) j m n o p q r a y b c d f i where
 bel:=h.bel
 row:=h.row
 f0 e:=h.f0 ((aP e).resolve_left (by decide))
 f1 e:=h.f1 ((aP e).resolve_left (by decide))
 f2 e:=h.f2 ((aP e).resolve_left (by decide))
 f3 e:=h.f3 ((aP e).resolve_left (by decide))
 f4 e:=h.f4 ((aP e).resolve_left (by decide))
 f5 e:=h.f5 ((aP e).resolve_left (by decide))
 f6 e:=h.f6 ((aP e).resolve_left (by decide))
 f7 _:=s
 f8 e:=h.f8 ((aP e).resolve_left (by decide))
 f9 e:=h.f9 ((aP e).resolve_left (by decide))
 f10 e:=h.f10 ((aP e).resolve_left (by decide))
 f11 e:=h.f11 ((aP e).resolve_left (by decide))
 f12 e:=h.f12 ((aP e).resolve_left (by decide))
theorem dX.s8{k:UInt8}{l:List UInt8}{w i:World}{L:Array Bool}{j m n o p q r a b g c d f:Value}(h:dX k l w L j m n o p q r a b g c d f i){y:Value}(s:y= .string ⟨(k::iC l.length).toArray⟩):dX k l w (L.setIfInBounds 8 true) j m n o p q r a b y c d f i where
 bel:=h.bel
 row:=h.row
 f0 e:=h.f0 ((aP e).resolve_left (by decide))
 f1 e:=h.f1 ((aP e).resolve_left (by decide))
 f2 e:=h.f2 ((aP e).resolve_left (by decide))
 f3 e:=h.f3 ((aP e).resolve_left (by decide))
 f4 e:=h.f4 ((aP e).resolve_left (by decide))
 f5 e:=h.f5 ((aP e).resolve_left (by decide))
 f6 e:=h.f6 ((aP e).resolve_left (by decide))
 f7 e:=h.f7 ((aP e).resolve_left (by decide))
 f8 _:=s
 f9 e:=h.f9 ((aP e).resolve_left (by decide))
 f10 e:=h.f10 ((aP e).resolve_left (by decide))
 f11 e:=h.f11 ((aP e).resolve_left (by decide))
 f12 e:=h.f12 ((aP e).resolve_left (by decide))
theorem dX.s9{k:UInt8}{l:List UInt8}{w i:World}{L:Array Bool}{j m n o p q r a b c g d f:Value}(h:dX k l w L j m n o p q r a b c g d f i){y:Value}(s:y= .pointer (some ⟨w.heap.size,1,none⟩)):dX k l w (L.setIfInBounds 9 true) j m n o p q r a b c y d f i where
 bel:=h.bel
 row:=h.row
 f0 e:=h.f0 ((aP e).resolve_left (by decide))
 f1 e:=h.f1 ((aP e).resolve_left (by decide))
 f2 e:=h.f2 ((aP e).resolve_left (by decide))
 f3 e:=h.f3 ((aP e).resolve_left (by decide))
 f4 e:=h.f4 ((aP e).resolve_left (by decide))
 f5 e:=h.f5 ((aP e).resolve_left (by decide))
 f6 e:=h.f6 ((aP e).resolve_left (by decide))
 f7 e:=h.f7 ((aP e).resolve_left (by decide))
 f8 e:=h.f8 ((aP e).resolve_left (by decide))
 f9 _:=s
 f10 e:=h.f10 ((aP e).resolve_left (by decide))
 f11 e:=h.f11 ((aP e).resolve_left (by decide))
 f12 e:=h.f12 ((aP e).resolve_left (by decide))
theorem dX.s10{k:UInt8}{l:List UInt8}{w i:World}{L:Array Bool}{j m n o p q r a b c d g f:Value}(h:dX k l w L j m n o p q r a b c d g f i){y:Value}(s:y= .string ⟨l.toArray⟩):dX k l w (L.setIfInBounds 10 true) j m n o p q r a b c d y f i where
 bel:=h.bel
 row:=h.row
 f0 e:=h.f0 ((aP e).resolve_left (by decide))
 f1 e:=h.f1 ((aP e).resolve_left (by decide))
 f2 e:=h.f2 ((aP e).resolve_left (by decide))
 f3 e:=h.f3 ((aP e).resolve_left (by decide))
 f4 e:=h.f4 ((aP e).resolve_left (by decide))
 f5 e:=h.f5 ((aP e).resolve_left (by decide))
 f6 e:=h.f6 ((aP e).resolve_left (by decide))
 f7 e:=h.f7 ((aP e).resolve_left (by decide))
 f8 e:=h.f8 ((aP e).resolve_left (by decide))
 f9 e:=h.f9 ((aP e).resolve_left (by decide))
 f10 _:=s
 f11 e:=h.f11 ((aP e).resolve_left (by decide))
 f12 e:=h.f12 ((aP e).resolve_left (by decide))
theorem dX.s11{k:UInt8}{l:List UInt8}{w i:World}{L:Array Bool}{j m n o p q r a b c d f g:Value}(h:dX k l w L j m n o p q r a b c d f g i){y:Value}(s:y= .string ⟨(jD k l).toArray⟩):dX k l w (L.setIfInBounds 11 true) j m n o p q r a b c d f y i where
 bel:=h.bel
 row:=h.row
 f0 e:=h.f0 ((aP e).resolve_left (by decide))
 f1 e:=h.f1 ((aP e).resolve_left (by decide))
 f2 e:=h.f2 ((aP e).resolve_left (by decide))
 f3 e:=h.f3 ((aP e).resolve_left (by decide))
 f4 e:=h.f4 ((aP e).resolve_left (by decide))
 f5 e:=h.f5 ((aP e).resolve_left (by decide))
 f6 e:=h.f6 ((aP e).resolve_left (by decide))
 f7 e:=h.f7 ((aP e).resolve_left (by decide))
 f8 e:=h.f8 ((aP e).resolve_left (by decide))
 f9 e:=h.f9 ((aP e).resolve_left (by decide))
 f10 e:=h.f10 ((aP e).resolve_left (by decide))
 f11 _:=s
 f12 e:=h.f12 ((aP e).resolve_left (by decide))
theorem dX.s12{k:UInt8}{l:List UInt8}{w i:World}{L:Array Bool}{r j m n o p q a b c d f g:Value}(h:dX k l w L r j m n o p q a b c d f g i){y:Value}(s:y= .string ⟨(jD k l).toArray⟩):dX k l w (L.setIfInBounds 12 true) y j m n o p q a b c d f g i where
 bel:=h.bel
 row:=h.row
 f0 e:=h.f0 ((aP e).resolve_left (by decide))
 f1 e:=h.f1 ((aP e).resolve_left (by decide))
 f2 e:=h.f2 ((aP e).resolve_left (by decide))
 f3 e:=h.f3 ((aP e).resolve_left (by decide))
 f4 e:=h.f4 ((aP e).resolve_left (by decide))
 f5 e:=h.f5 ((aP e).resolve_left (by decide))
 f6 e:=h.f6 ((aP e).resolve_left (by decide))
 f7 e:=h.f7 ((aP e).resolve_left (by decide))
 f8 e:=h.f8 ((aP e).resolve_left (by decide))
 f9 e:=h.f9 ((aP e).resolve_left (by decide))
 f10 e:=h.f10 ((aP e).resolve_left (by decide))
 f11 e:=h.f11 ((aP e).resolve_left (by decide))
 f12 _:=s
set_option maxRecDepth 20000 in
set_option maxHeartbeats 2000000 in
theorem KR(k:UInt8)(l:List UInt8)(hl:l.length<=3000000000)(w:World):
  Calls prog 123 #[.agg #[.int .u8 k.toNat,.string ⟨l.toArray⟩]] w fun e m=>e= .returned (.string ⟨(bM k l).toArray⟩)/\Below w.heap.size w m:=by
 go_enter func123,ntmps123;go_wp2_with fail;refine RZ (fun L a m=>∃x y z A B C D n o p q r s,a={tmps:=#[.agg #[.int .u8 k.toNat,.string ⟨l.toArray⟩],.pointer (some ⟨w.heap.size,0,none⟩),.string ⟨#[]⟩,x,y,z,A,B,C,D,n,o,p,q,r,s,undef,undef,undef,undef],defers:=[]}/\dX k l w L x y z A B C D n o p q r s m) gT (by kernel_rfl) ?_ ?_ ?_
 ·refine⟨_,_,_,_,_,_,_,_,_,_,_,_,_,rfl,(aF _ _).alloc (aC _) _ |>.drew,heap_alloc_new _ _,?_,?_,?_,?_,?_,?_,?_,?_,?_,?_,?_,?_,?_⟩;all_goals exact fun e=>by simp at e
 ·rintro L a m i⟨x,y,z,A,B,C,D,n,o,p,q,r,s,rfl,t⟩hi b;have M:i<13:=hi;have c0:m.cell? ⟨w.heap.size,0,none⟩=some (.int .u8 k.toNat):=by simp[World.cell?,t.row]
  have c1:m.cell? ⟨w.heap.size,1,none⟩=some (.string ⟨l.toArray⟩):=by simp[World.cell?,t.row]
  have d:=aA t;clear t hi;rcases(by omega:i=0∨i=1∨i=2∨i=3∨i=4∨i=5∨i=6∨i=7∨i=8∨i=9∨i=10∨i=11∨i=12)with h|h|h|h|h|h|h|h|h|h|h|h|h <;> subst h
  ·clear b;refine wpOp_step rfl (fun K f=>?_);go_simp;exact f _ _ ⟨_,_,_,_,_,_,_,_,_,_,_,_,_,rfl,d.out.s0 rfl⟩
  ·have c:=b _ rfl;have O:=d.out.f0 (c ⟨0,.data⟩ (by simp) rfl);subst O;clear b c;refine wpOp_step rfl (fun K f=>?_);go_simp;exact f _ _ ⟨_,_,_,_,_,_,_,_,_,_,_,_,_,rfl,d.out.s1 rfl⟩
  ·have c:=b _ rfl;have Q:=d.out.f1 (c ⟨1,.data⟩ (by simp) rfl);subst Q;clear b c;refine wpOp_step rfl (fun K f=>?_);go_simp;exact f _ _ ⟨_,_,_,_,_,_,_,_,_,_,_,_,_,rfl,(d.out.grow ((aF _ _).alloc (aC _) _)).s2 ⟨_,rfl,heap_alloc_new _ _⟩⟩
  ·have c:=b _ rfl;obtain⟨g,R,N⟩:=d.out.f2 (c ⟨2,.data⟩ (by simp) rfl);subst R;clear b c;have v:=run_convert_bytes_back (P:=prog) m 72 9 5 ⟨g,0,none⟩ 1 [k] underlying72 underlying5 underlying9 (fun j S=>by obtain rfl:j=0:=(by simpa using S);simp[Addr.add,World.cell?,N]);simp only[bU,dS,Nat.zero_add]at v;clear N;refine wpOp_step rfl (fun K f=>?_);go_simp;exact f _ _ ⟨_,_,_,_,_,_,_,_,_,_,_,_,_,rfl,d.out.s3 rfl⟩
  ·clear b;refine wpOp_step rfl (fun K f=>?_);go_simp;exact f _ _ ⟨_,_,_,_,_,_,_,_,_,_,_,_,_,rfl,d.out.s4 rfl⟩
  ·have c:=b _ rfl;have T:=d.out.f4 (c ⟨4,.data⟩ (by simp) rfl);subst T;clear b c;refine wpOp_step rfl (fun K f=>?_);go_simp;exact f _ _ ⟨_,_,_,_,_,_,_,_,_,_,_,_,_,rfl,d.out.s5 rfl⟩
  ·have c:=b _ rfl;have U:=d.out.f5 (c ⟨5,.data⟩ (by simp) rfl);subst U;clear b c;refine wpOp_step rfl (fun K f=>?_);go_simp;exact f _ _ ⟨_,_,_,_,_,_,_,_,_,_,_,_,_,rfl,d.out.s6 rfl⟩
  ·have c:=b _ rfl;have V:=d.out.f6 (c ⟨6,.data⟩ (by simp) rfl);subst V;clear b c;refine wpOp_step rfl (fun K f=>?_);go_wp2_with fail;refine(KO _ _).mono ?_;rintro e W⟨rfl,G⟩;go_wp2_with fail;exact⟨_,_,_,_,_,_,_,_,_,_,_,_,_,rfl,(d.out.grow G).s7 rfl⟩
  ·have c:=b _ rfl;have H:=d.out.f3 (c ⟨3,.data⟩ (by simp) rfl);subst H;have X:=d.out.f7 (c ⟨7,.data⟩ (by simp) rfl);subst X;clear b c;refine wpOp_step rfl (fun K f=>?_);have E:¬9223372036854775807<1+(iC l.length).length:=by rw[vY];omega
   go_simp;exact f _ _ ⟨_,_,_,_,_,_,_,_,_,_,_,_,_,rfl,d.out.s8 (by congr 1)⟩
  ·clear b;refine wpOp_step rfl (fun K f=>?_);go_simp;exact f _ _ ⟨_,_,_,_,_,_,_,_,_,_,_,_,_,rfl,d.out.s9 rfl⟩
  ·have c:=b _ rfl;have Y:=d.out.f9 (c ⟨9,.data⟩ (by simp) rfl);subst Y;clear b c;refine wpOp_step rfl (fun K f=>?_);go_simp;exact f _ _ ⟨_,_,_,_,_,_,_,_,_,_,_,_,_,rfl,d.out.s10 rfl⟩
  ·have c:=b _ rfl;have Z:=d.out.f8 (c ⟨8,.data⟩ (by simp) rfl);subst Z;have I:=d.out.f10 (c ⟨10,.data⟩ (by simp) rfl);subst I;clear b c;refine wpOp_step rfl (fun K f=>?_);have E:¬9223372036854775807<(iC l.length).length+1+l.length:=by rw[vY];omega
   go_simp;exact f _ _ ⟨_,_,_,_,_,_,_,_,_,_,_,_,_,rfl,d.out.s11 (by congr 1)⟩
  ·have c:=b _ rfl;have J:=d.out.f11 (c ⟨11,.data⟩ (by simp) rfl);subst J;clear b c;refine wpOp_step rfl (fun K f=>?_);go_simp;exact f _ _ ⟨_,_,_,_,_,_,_,_,_,_,_,_,_,rfl,d.out.s12 rfl⟩
 ·rintro L a m⟨x,y,z,A,B,C,D,n,o,p,q,r,s,rfl,t⟩u;have H:=t.f12 (u 12 (by decide));subst H;have HB:=aA t.bel;have F:(jD k l).length=l.length+3:=vZ k l;have HC:Hid (∀w,Calls prog 147 #[.string ⟨(jD k l).toArray⟩] w fun e m=>e= .returned (.string ⟨(lL (jD k l)).toArray⟩)/\Below w.heap.size w m):=fun w=>KQ ⟨(jD k l).toArray⟩ (by show(jD k l).toArray.size<=_;simp;omega) w;have E:¬9223372036854775807<(jD k l).length+(lL (jD k l)).length:=by rw[FZ,F];omega
  clear t u F;go_wp2_with fail;refine(HC.out _).mono ?_;rintro e W⟨rfl,G⟩;go_wp2;go_ret;exact⟨by unfold bM;congr 2,Below.next HB.out (aC _) G⟩
end Go.Proofs.Z
namespace Go.Hm
theorem L0(l:List UInt8):cT (l.take 2)=cT l:=by
 match l with
 |[]=>rfl
 |[a]=>rfl
 |a::b::t=>rfl
theorem KT(l:List UInt8):cT l<65536:=by
 unfold cT;have h1:(l.getD 0 0).toNat<256:=lA _;have h2:(l.getD 1 0).toNat<256:=lA _;omega
end Go.Hm
namespace Go.Proofs.Z
open Hm Hw Tryz Go.RowKit Go.Sort
attribute [local go_sem] cN cO
theorem L3{s:ByteArray}(h:s.size=2):∃a b,s=⟨#[a,b]⟩:=by
 obtain⟨⟨l⟩⟩:=s;match l,h with
 |[a,b],_=>exact⟨a,b,rfl⟩
theorem KU(s:ByteArray)(h:s.size=2)(w:World):
  Calls prog 101 #[.string s] w fun e c=>e= .returned (.int .i64 (cT s.data.toList))/\∃n,c=w.drewN n:=by
 obtain⟨a,b,rfl⟩:=L3 h;exact K9 a b w
def uI:Option (UInt8×List UInt8×Nat)->Array Value
 |none=>#[.int .u8 0,.string ⟨#[]⟩]
 |some (k,bs,_)=>#[.int .u8 k.toNat,.string ⟨bs.toArray⟩]
def uJ:Option (UInt8×List UInt8×Nat)->Nat
 |none=>0
 |some (_,_,n)=>n
theorem rJ:(prog.info? 121).map (·.size)=some 2:=by kernel_rfl
set_option maxRecDepth 20000 in
set_option maxHeartbeats 800000 in
theorem L4(s:ByteArray)(hs:s.size<=3000000000)(w:World):
  Calls prog 99 #[.string s] w fun e c=>e= .returned (.tuple #[.agg (uI (gU s.data.toList)),.int .i64 (uJ (gU s.data.toList))])/\Below w.heap.size w c:=by
 obtain⟨I,y⟩:∃I,w.alloc (.cells #[.int .u8 0,.string ⟨#[]⟩] 121)=I:=⟨_,rfl⟩;have j:Hid (Below w.heap.size w I):=by rw[<-y];exact(aF _ _).alloc (aC _) _
 have l:Hid (I.heap[w.heap.size]?=some (.cells #[.int .u8 0,.string ⟨#[]⟩] 121 (0,0))):=by rw[<-y];exact heap_alloc_new _ _
 unfold gU;rw[Hm.len];by_cases h3:s.size<3
 ·rw[aD h3];have i3:(s.size:Int)<3:=by omega
  go_enter func99,ntmps99;go_wp2_with(refine bI rfl _ _ _ rfl rfl w.heap.size #[.int .u8 0,.string ⟨#[]⟩] rfl rfl _ _ l.out rJ rfl rfl ?_;intro E B;have x:Hid (aI _ _ _ _ E):=B;clear B);refine bB (oR results99 _ _ _ _ _ _ _ rfl x.out.row underlying121 rfl rJ) rfl ⟨rfl,j.out.trans (x.out.below (aC _))⟩
 ·rw[aB h3];have i3:¬(s.size:Int)<3:=by omega
  have U:(3:Int)<=(s.size:Int):=by omega
  have P:(s.extract 1 3).size=2:=by simp;omega
  have Q:cT (s.extract 1 3).data.toList=cT (s.data.toList.drop 1):=by rw[fK];exact L0 _
  have J:Hid (∀w,Calls prog 101 #[.string (s.extract 1 3)] w fun e c=>e= .returned (.int .i64 (cT (s.data.toList.drop 1)))/\∃n,c=w.drewN n):=fun w=>by rw[<-Q];exact KU _ P w
  have L:=KT (s.data.toList.drop 1);generalize cT (s.data.toList.drop 1)=n at J L⊢;clear P Q;by_cases h5:s.size<3+n+2
  ·rw[aD h5];have V:(s.size:Int)<3+(n:Int)+2:=by omega
   go_enter func99,ntmps99;go_wp2_with fail;clear y;refine(J.out _).mono ?_;rintro e f⟨rfl,d⟩;have m:Hid (Below w.heap.size w f):=Below.next j.out (aC _) (aT d);have g:Hid (f.heap[w.heap.size]?=some (.cells #[.int .u8 0,.string ⟨#[]⟩] 121 (0,0))):=by obtain⟨q,rfl⟩:=d;exact l.out
   clear d j l;go_wp2_with fail;go_quiet(fail)
   have r:Hid (Below w.heap.size w (f.drewN nq)):=Below.next m.out (aC _) (aT ⟨_,rfl⟩);have t:Hid ((f.drewN nq).heap[w.heap.size]?=some (.cells #[.int .u8 0,.string ⟨#[]⟩] 121 (0,0))):=g.out;generalize f.drewN nq=z at r t⊢;go_wp2_with(refine bI rfl _ _ _ rfl rfl w.heap.size #[.int .u8 0,.string ⟨#[]⟩] rfl rfl _ _ t.out rJ rfl rfl ?_;intro E B;have x:Hid (aI _ _ _ _ E):=B;clear B);refine bB (oR results99 _ _ _ _ _ _ _ rfl x.out.row underlying121 rfl rJ) rfl ⟨rfl,?_⟩;exact r.out.trans (x.out.below (aC _))
  ·rw[aB h5];have V:¬(s.size:Int)<3+(n:Int)+2:=by omega
   have W:3+(n:Int)+2<=(s.size:Int):=by omega
   have i6:3+(n:Int)<=(s.size:Int):=by omega
   have i7:¬3+(n:Int)<0:=by omega
   have X:IntKind.i64.wrap (3+(n:Int)+2)=3+(n:Int)+2:=by rw[IntKind.wrap_i64];omega
   have i8:0<=3+(n:Int)+2:=by omega
   have i9:3+(n:Int)<=3+(n:Int)+2:=by omega
   have Y:3<=3+(n:Int):=by omega
   have Z:(3+(n:Int)).toNat=3+n:=by omega
   have R:(3+(n:Int)+2).toNat=3+n+2:=by omega
   have S:Hid (∀{f:World} c,Below f.heap.size f c->Calls prog 147 #[.string (s.extract 0 (3+n))] c fun e M=>e= .returned (.string ⟨(lL (s.data.toList.take (3+n))).toArray⟩)/\Below f.heap.size f M):=fun c b=>by
    have:=KQ (s.extract 0 (3+n)) (by simp;omega) c;rw[fK,fB,Nat.sub_zero]at this;exact this.mono fun _ _⟨he,hb⟩=>⟨he,Below.next b (aC _) hb⟩
   have A:(s.extract (3+n) (3+n+2)).toList=(s.data.toList.drop (3+n)).take 2:=by rw[Lib.toList_data,fK,show 3+n+2-(3+n)=2 by omega]
   by_cases F:(s.data.toList.drop (3+n)).take 2=lL (s.data.toList.take (3+n))
   ·rw[aB (by simp[F])];have N:Hid ((s.extract (3+n) (3+n+2)).toList=lL (s.data.toList.take (3+n))):=A.trans F;have G:0<s.size:=by omega
    have O:(0:Int)<(s.size:Int):=by omega
    have HK:Hid (s.data.toList.getD 0 0=s[0]):=by
     show _=_;rw[gQ,dP (by rw[Hm.len];exact G)];simp;rfl
    have HX:Hid ((s.extract 3 (3+n))=⟨((s.data.toList.drop 3).take n).toArray⟩):=by
     show _=_;have:=fK s 3 (3+n);rw[show 3+n-3=n by omega]at this;rw[<-this]
    clear A F;go_enter func99,ntmps99;go_wp2_with fail;clear y;refine(J.out _).mono ?_;rintro e f⟨rfl,d⟩;have m:Hid (Below w.heap.size w f):=Below.next j.out (aC _) (aT d);have g:Hid (f.heap[w.heap.size]?=some (.cells #[.int .u8 0,.string ⟨#[]⟩] 121 (0,0))):=by obtain⟨q,rfl⟩:=d;exact l.out
    clear d j l;go_wp2_with fail;refine sH (fun c=>Below f.heap.size f c) gT (by kernel_rfl) (aF _ _).drew ?_;refine bV (.string s) rfl (fun c b=>by unfold Oper.quietAt;go_simp) ?_;intro K a;go_simp;refine a _ ?_;clear a K;refine bV (.int .i64 s.size) rfl (fun c b=>by unfold Oper.quietAt;go_simp) ?_;intro K a;go_simp;refine a _ ?_;clear a K;refine bV (.int .i64 (3+(n:Int))) rfl (fun c b=>by unfold Oper.quietAt;go_simp) ?_;intro K a;go_simp;refine a _ ?_;clear a K;refine bV (.int .i64 (3+(n:Int)+2)) rfl (fun c b=>by unfold Oper.quietAt;go_simp) ?_;intro K a;go_simp;refine a _ ?_;clear a K;refine bV (.bool false) rfl (fun c b=>by unfold Oper.quietAt;go_simp) ?_;intro K a;go_simp;refine a _ ?_;clear a K;refine bV (.bool false) rfl (fun c b=>by unfold Oper.quietAt;go_simp) ?_;intro K a;go_simp;refine a _ ?_;clear a K;refine bV (.string s) rfl (fun c b=>by unfold Oper.quietAt;go_simp) ?_;intro K a;go_simp;refine a _ ?_;clear a K;refine bV (.int .i64 (3+(n:Int))) rfl (fun c b=>by unfold Oper.quietAt;go_simp) ?_;intro K a;go_simp;refine a _ ?_;clear a K;refine bV (.int .i64 (3+(n:Int))) rfl (fun c b=>by unfold Oper.quietAt;go_simp) ?_;intro K a;go_simp;refine a _ ?_;clear a K;refine bV (.int .i64 (3+(n:Int)+2)) rfl (fun c b=>by unfold Oper.quietAt;go_simp) ?_;intro K a;go_simp;refine a _ ?_;clear a K;refine bV (.string (s.extract (3+n) (3+n+2))) rfl (fun c b=>by unfold Oper.quietAt;go_simp) ?_;intro K a;go_simp;refine a _ ?_;clear a K;refine bV (.string s) rfl (fun c b=>by unfold Oper.quietAt;go_simp) ?_;intro K a;go_simp;refine a _ ?_;clear a K;refine bV (.int .i64 (3+(n:Int))) rfl (fun c b=>by unfold Oper.quietAt;go_simp) ?_;intro K a;go_simp;refine a _ ?_;clear a K;refine bV (.string (s.extract 0 (3+n))) rfl (fun c b=>by unfold Oper.quietAt;go_simp) ?_;intro K a;go_simp;refine a _ ?_;clear a K;refine bV (.string ⟨(lL (s.data.toList.take (3+n))).toArray⟩) rfl (fun c b=>by unfold Oper.quietAt;go_simp;exact S.out c b) ?_;intro K a;go_simp;refine a _ ?_;clear a K;refine bV (.bool false) rfl (fun c b=>by unfold Oper.quietAt;go_simp;exact N.out) ?_;intro K a;go_simp;refine a _ ?_;clear a K;refine bV (.bool false) rfl (fun c b=>by unfold Oper.quietAt;go_simp) ?_;intro K a;go_simp;refine a _ ?_;clear a K;refine wpQuiet_nil ?_;intro z o;have r:Hid (Below w.heap.size w z):=Below.next m.out (aC _) o;have t:Hid (z.heap[w.heap.size]?=some (.cells #[.int .u8 0,.string ⟨#[]⟩] 121 (0,0))):=(o.block _ (aM.1 g.out).1).trans g.out;clear o m g;go_wp2_with fail;refine wp_region_any gT ?_;change wpAny _ _ _ _ _ _ _ (World.drew _);have H:Hid (Below w.heap.size w z.drew):=r.out.drew;have u:Hid (z.drew.heap[w.heap.size]?=some (.cells #[.int .u8 0,.string ⟨#[]⟩] 121 (0,0))):=t.out;generalize z.drew=C at H u⊢;refine wpAny_take (i:=0) (v:= .string s) rfl (by kernel_rfl) (by kernel_rfl) (by kernel_rfl) (fun _ _ _ h=>h) (Or.inl ⟨by rfl,?_⟩) ?_
    ·intro w;go_simp
    refine wpAny_take (i:=1) (v:= .int .u8 s[0].toNat) rfl (by kernel_rfl) (by kernel_rfl) (by kernel_rfl) (fun _ _ _ h=>h) (Or.inl ⟨by rfl,?_⟩) ?_
    ·intro w;go_simp
    refine wpAny_take (i:=2) (v:= .string s) rfl (by kernel_rfl) (by kernel_rfl) (by kernel_rfl) (fun _ _ _ h=>h) (Or.inl ⟨by rfl,?_⟩) ?_
    ·intro w;go_simp
    refine wpAny_take (i:=3) (v:= .int .i64 (3+(n:Int))) rfl (by kernel_rfl) (by kernel_rfl) (by kernel_rfl) (fun _ _ _ h=>h) (Or.inl ⟨by rfl,?_⟩) ?_
    ·intro w;go_simp
    refine wpAny_take (i:=4) (v:= .string (s.extract 3 (3+n))) rfl (by kernel_rfl) (by kernel_rfl) (by kernel_rfl) (fun _ _ _ h=>h) (Or.inl ⟨by rfl,?_⟩) ?_
    ·intro w;go_simp
    refine wpAny_take (i:=5) (v:= .agg #[.int .u8 s[0].toNat,.string (s.extract 3 (3+n))]) rfl (by kernel_rfl) (by kernel_rfl) (by kernel_rfl) (fun _ _ _ h=>h) (Or.inl ⟨by rfl,?_⟩) ?_
    ·intro w;go_simp
    refine wpAny_take (i:=6) (v:= .int .i64 (3+(n:Int))) rfl (by kernel_rfl) (by kernel_rfl) (by kernel_rfl) (fun _ _ _ h=>h) (Or.inl ⟨by rfl,?_⟩) ?_
    ·intro w;go_simp
    refine wpAny_take (i:=7) (v:= .int .i64 (3+(n:Int)+2)) rfl (by kernel_rfl) (by kernel_rfl) (by kernel_rfl) (fun _ _ _ h=>h) (Or.inl ⟨by rfl,?_⟩) ?_
    ·intro w;go_simp
    refine wpAny_ready (rs:=[8]) (by kernel_rfl) (by simp) ?_;refine AllReady.cons rfl (fun K a=>?_) AllReady.nil;have k0:C.cell? ⟨w.heap.size,0,none⟩=some (.int .u8 0):=by simp[World.cell?,u.out]
    have k1:C.cell? ⟨w.heap.size,1,none⟩=some (.string ⟨#[]⟩):=by simp[World.cell?,u.out]
    have q0:C.frozen? ⟨w.heap.size,0,none⟩=false:=by simp[World.frozen?,u.out]
    have q1:C.frozen? ⟨w.heap.size,1,none⟩=false:=by simp[World.frozen?,u.out]
    go_simp;refine a _ _ ?_;clear a K;refine wpAny_ready (rs:=[9]) (by kernel_rfl) (by simp) ?_;refine AllReady.cons rfl (fun K a=>?_) AllReady.nil;go_simp;refine a _ _ ?_;clear a K;refine wpAny_done (by kernel_rfl) ?_ _;have D:=sQ (i:=0) (.int .u8 s[0].toNat) u.out;have p:=sQ (i:=1) (.string (s.extract 3 (3+n))) D.row;have x:Hid (aI C w.heap.size 121 #[.int .u8 s[0].toNat,.string (s.extract 3 (3+n))] ((C.setCell ⟨w.heap.size,0,none⟩ (.int .u8 s[0].toNat)).setCell ⟨w.heap.size,1,none⟩ (.string (s.extract 3 (3+n))))):=
     ⟨p.row,fun k T=>(p.other k T).trans (D.other k T),p.size.trans D.size,p.os.trans D.os,p.tape.trans D.tape,p.output.trans D.output⟩
    clear D p k0 k1 q0 q1;generalize(C.setCell ⟨w.heap.size,0,none⟩ (.int .u8 s[0].toNat)).setCell ⟨w.heap.size,1,none⟩ (.string (s.extract 3 (3+n)))=E at x⊢;go_wp2;refine bB (oR results99 _ _ _ _ _ _ _ rfl x.out.row underlying121 rfl rJ) rfl ⟨?_,?_⟩
    ·unfold uI uJ;rw[HK.out,HX.out];show Ending.returned (.tuple #[.agg #[.int .u8 s[0].toNat,.string ⟨((s.data.toList.drop 3).take n).toArray⟩],.int .i64 (3+(n:Int)+2)])=Ending.returned (.tuple #[.agg #[.int .u8 s[0].toNat,.string ⟨((s.data.toList.drop 3).take n).toArray⟩],.int .i64 ((3+n+2:Nat):Int)]);rw[show((3+n+2:Nat):Int)=3+(n:Int)+2 by omega]
    ·exact H.out.trans (x.out.below (aC _))
   ·rw[aD F];have N:Hid (¬(s.extract (3+n) (3+n+2)).toList=lL (s.data.toList.take (3+n))):=fun e=>F (A.symm.trans e);clear A F;go_enter func99,ntmps99;go_wp2_with fail;clear y;refine(J.out _).mono ?_;rintro e f⟨rfl,d⟩;have m:Hid (Below w.heap.size w f):=Below.next j.out (aC _) (aT d);have g:Hid (f.heap[w.heap.size]?=some (.cells #[.int .u8 0,.string ⟨#[]⟩] 121 (0,0))):=by obtain⟨q,rfl⟩:=d;exact l.out
    clear d j l;go_wp2_with fail;refine sH (fun c=>Below f.heap.size f c) gT (by kernel_rfl) (aF _ _).drew ?_;refine bV (.string s) rfl (fun c b=>by unfold Oper.quietAt;go_simp) ?_;intro K a;go_simp;refine a _ ?_;clear a K;refine bV (.int .i64 s.size) rfl (fun c b=>by unfold Oper.quietAt;go_simp) ?_;intro K a;go_simp;refine a _ ?_;clear a K;refine bV (.int .i64 (3+(n:Int))) rfl (fun c b=>by unfold Oper.quietAt;go_simp) ?_;intro K a;go_simp;refine a _ ?_;clear a K;refine bV (.int .i64 (3+(n:Int)+2)) rfl (fun c b=>by unfold Oper.quietAt;go_simp) ?_;intro K a;go_simp;refine a _ ?_;clear a K;refine bV (.bool false) rfl (fun c b=>by unfold Oper.quietAt;go_simp) ?_;intro K a;go_simp;refine a _ ?_;clear a K;refine bV (.bool false) rfl (fun c b=>by unfold Oper.quietAt;go_simp) ?_;intro K a;go_simp;refine a _ ?_;clear a K;refine bV (.string s) rfl (fun c b=>by unfold Oper.quietAt;go_simp) ?_;intro K a;go_simp;refine a _ ?_;clear a K;refine bV (.int .i64 (3+(n:Int))) rfl (fun c b=>by unfold Oper.quietAt;go_simp) ?_;intro K a;go_simp;refine a _ ?_;clear a K;refine bV (.int .i64 (3+(n:Int))) rfl (fun c b=>by unfold Oper.quietAt;go_simp) ?_;intro K a;go_simp;refine a _ ?_;clear a K;refine bV (.int .i64 (3+(n:Int)+2)) rfl (fun c b=>by unfold Oper.quietAt;go_simp) ?_;intro K a;go_simp;refine a _ ?_;clear a K;refine bV (.string (s.extract (3+n) (3+n+2))) rfl (fun c b=>by unfold Oper.quietAt;go_simp) ?_;intro K a;go_simp;refine a _ ?_;clear a K;refine bV (.string s) rfl (fun c b=>by unfold Oper.quietAt;go_simp) ?_;intro K a;go_simp;refine a _ ?_;clear a K;refine bV (.int .i64 (3+(n:Int))) rfl (fun c b=>by unfold Oper.quietAt;go_simp) ?_;intro K a;go_simp;refine a _ ?_;clear a K;refine bV (.string (s.extract 0 (3+n))) rfl (fun c b=>by unfold Oper.quietAt;go_simp) ?_;intro K a;go_simp;refine a _ ?_;clear a K;refine bV (.string ⟨(lL (s.data.toList.take (3+n))).toArray⟩) rfl (fun c b=>by unfold Oper.quietAt;go_simp;exact S.out c b) ?_;intro K a;go_simp;refine a _ ?_;clear a K;refine bV (.bool true) rfl (fun c b=>by unfold Oper.quietAt;go_simp;exact N.out) ?_;intro K a;go_simp;refine a _ ?_;clear a K;refine bV (.bool true) rfl (fun c b=>by unfold Oper.quietAt;go_simp) ?_;intro K a;go_simp;refine a _ ?_;clear a K;refine wpQuiet_nil ?_;intro z o;have r:Hid (Below w.heap.size w z):=Below.next m.out (aC _) o;have t:Hid (z.heap[w.heap.size]?=some (.cells #[.int .u8 0,.string ⟨#[]⟩] 121 (0,0))):=(o.block _ (aM.1 g.out).1).trans g.out;clear o m g;go_wp2_with(refine bI rfl _ _ _ rfl rfl w.heap.size #[.int .u8 0,.string ⟨#[]⟩] rfl rfl _ _ t.out rJ rfl rfl ?_;intro E B;have x:Hid (aI _ _ _ _ E):=B;clear B);refine bB (oR results99 _ _ _ _ _ _ _ rfl x.out.row underlying121 rfl rJ) rfl ⟨rfl,?_⟩;exact r.out.trans (x.out.below (aC _))
def gN(g:aG)(rv wv:Value):Array Value:=#[.int .i64 g.room,rv,.int .i64 g.had,wv]
structure bR(p:Nat)(rv wv:Value)(w:World)(rv' wv':Value)(w':World):Prop where
 kept:aN (fun k=>k=p∨rv.ownBlock=some k∨wv.ownBlock=some k) w w'
 lr:∀k,rv'.ownBlock=some k->rv.ownBlock=some k∨w.heap.size<=k
 lw:∀k,wv'.ownBlock=some k->wv.ownBlock=some k∨w.heap.size<=k
theorem bR.refl{p:Nat}{rv wv:Value}{w:World}:bR p rv wv w rv wv w:=⟨aN.refl _ _,fun _ e=> .inl e,fun _ e=> .inl e⟩
theorem bR.next{p:Nat}{rv wv d e:Value}{a b c:World}(h:bR p rv wv a d e b)(k:Below b.heap.size b c):bR p rv wv a d e c:=⟨h.kept.next k,h.lr,h.lw⟩
theorem bR.trans{p:Nat}{rv wv g j d f:Value}{a b c:World}(h:bR p rv wv a g j b)(k:bR p g j b d f c):bR p rv wv a d f c where
 kept:=h.kept.trans k.kept (fun i hi e=>by
  rcases e with e|e|e
  ·exact .inl e
  ·rcases h.lr i e with e|e
   ·exact .inr (.inl e)
   ·omega
  ·rcases h.lw i e with e|e
   ·exact .inr (.inr e)
   ·omega)
 lr i e:=by
  rcases k.lr i e with e|e
  ·exact h.lr i e
  ·exact .inr (cH h.kept.size e)
 lw i e:=by
  rcases k.lw i e with e|e
  ·exact h.lw i e
  ·exact .inr (cH h.kept.size e)
theorem L5(l:List UInt8):Lib.strCells ⟨l.toArray⟩=l.map fun b=>Value.int .u8 b.toNat:=by simp[Lib.strCells]
theorem wU:(prog.info? 42).map (·.size)=some 1:=by kernel_rfl
end Go.Proofs.Z
namespace Go.Hm
theorem L6{m:aO}(h:(cA m).2=0):(cA m).1.length<=200:=by
 unfold cA at h⊢;by_cases h0:eP m=0
 ·rw[aB (by simp[h0])]at h⊢;by_cases h1:200<mH (mA m)
  ·rw[aD h1]at h;cases h
  ·rw[aB h1];unfold mA at h1⊢;rw[<-vX]at h1;dsimp only;omega
 ·rw[aD (by simpa using h0)];simp
end Go.Hm
namespace Go.Proofs.Z
open Hm Tryz Go.RowKit Go.Sort
attribute [local go_sem] cN cO
def uK(g:aG):Prop:=g.records.length<=900000000000/\g.waiting.length<=900000/\g.had<=900000/\g.room<=1000
theorem L8(w:World):(convert 72 9 (.slice none 0 0)).run prog w= .ok (.string ⟨#[]⟩) w:=by
 rw[run_convert_bytes_string w 72 9 5 none 0 0 underlying72 underlying5 underlying9];simp[Conv.bytesToString];rfl
end Go.Proofs.Z
namespace Go.Proofs.Z
open Tryz Go.RowKit Go.Shelf Go.Sort
attribute [local go_sem] Oper.semAt_some
theorem L9(s:ByteArray)(w:World):
  Calls prog 62 #[.string s] w fun e a=>e= .returned (.func (.func 98) #[] #[.pointer (some ⟨w.heap.size,0,none⟩)])/\a=w.alloc (.cells #[.string s] 9):=by
 go_enter func62,ntmps62;go_wp2;go_ret;exact⟨rfl,rfl⟩
end Go.Proofs.Z

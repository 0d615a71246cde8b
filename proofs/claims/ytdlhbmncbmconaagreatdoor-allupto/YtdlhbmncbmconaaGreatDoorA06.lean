/- Pressed by program out of Ba. -/
import Derived.Test.YtdlhbmncbmconaaGreatDoorA01
import Derived.Test.YtdlhbmncbmconaaGreatDoorA02
import Derived.Test.YtdlhbmncbmconaaGreatDoorA05
import Derived.WalkSpells
import Derived.WalkLawsBesides
namespace Go.Proofs.Z
open Hm Tryz Go.RowKit
theorem lZ{a b:Bool}(h:a=true↔b=true):Ending.returned (.bool a)= .returned (.bool b):=by rw[Bool.eq_iff_iff.2 h]
theorem oX{k:IntKind}{a b:Int}(h:a=b):Ending.returned (.int k a)= .returned (.int k b):=by rw[h]
theorem pX(c:UInt8)(w:World):
  Calls prog 84 #[.int .u8 c.toNat] w fun e a=>e= .returned (.bool (aH c))/\a=w:=by
 go_enter func84,ntmps84;go_wp2;all_goals go_ret
 all_goals refine⟨lZ ?_,rfl⟩
 all_goals try simp[aH]
 all_goals try omega
theorem TD(c:UInt8)(w:World):
  Calls prog 179 #[.int .u8 c.toNat] w fun e a=>e= .returned (.bool (nZ c))/\a=w:=by
 go_enter func179,ntmps179;go_wp2;all_goals go_ret
 all_goals refine⟨lZ ?_,rfl⟩
 all_goals try simp[nZ]
 all_goals try omega
theorem zE(c:UInt8)(w:World):
  Calls prog 124 #[.int .u8 c.toNat] w fun e a=>e= .returned (.bool (fO c))/\a=w:=by
 go_enter func124,ntmps124;go_wp2;all_goals go_ret
 all_goals refine⟨lZ ?_,rfl⟩
 all_goals try simp[fO]
 all_goals try omega
theorem EO(c:UInt8)(w:World):
  Calls prog 241 #[.int .u8 c.toNat] w fun e a=>e= .returned (.bool (jO c))/\a=w:=by
 go_enter func241,ntmps241;go_wp2;all_goals go_ret
 all_goals refine⟨lZ ?_,rfl⟩
 all_goals try simp[jO]
 all_goals try omega
theorem lF(y:Int)(w:World):
  Calls prog 51 #[.int .i64 y] w fun e a=>e= .returned (.bool (dB y))/\a=w:=by
 go_enter func51,ntmps51;go_wp2;all_goals go_ret
 all_goals refine⟨lZ ?_,rfl⟩
 all_goals try simp[dB]
 all_goals try omega
theorem sE(f s:Int)(w:World):
  Calls prog 60 #[.int .i64 f,.int .i64 s] w fun e a=>e= .returned (.bool (fH f s))/\a=w:=by
 go_enter func60,ntmps60;go_wp2;all_goals go_ret
 all_goals refine⟨lZ ?_,rfl⟩
 all_goals try simp[fH]
 all_goals try omega
end Go.Proofs.Z
namespace Go.Proofs.Z
open Hm Go.RowKit
def kR(w:World)(b:Nat)(cs:Array Value):Prop:=∃t fr,w.heap[b]?=some (.cells cs t fr)
theorem kR.cell{w:World}{b:Nat}{a:Array Value}(h:kR w b a)(i:Nat):w.cell? ⟨b,i,none⟩=a[i]?:=by
 obtain⟨t,fr,h⟩:=h;simp[World.cell?,h]
theorem kR.below{B b:Nat}{w c:World}{d:Array Value}(h:kR w b d)(e:Below B w c)(a:b<B):kR c b d:=by
 obtain⟨t,fr,h⟩:=h;exact⟨t,fr,(e.block b a).trans h⟩
def vO:Array Value:=#[.int .i64 32,.int .i64 4,.int .i64 16,.int .i64 5,.int .i64 16,.int .i64 6,.int .i64 12,.int .i64 7]
structure aJ (w:World):Prop where
 size:11<=w.heap.size
 wk:kR w 0 vO
 ml:∃m:Int,w.cell? ⟨3,0,none⟩=some (.int .i64 m)
 u8:Lib.Utf8Tabs 1 2 w
 p10 : Lib.TabIs Tryz.prog w "internal/strconv.uint64pow10" .u64 Lib.pow10Tab
 sn:kR w 4 (cL.map fun l=>Value.string ⟨l.toArray⟩).toArray
 md:kR w 6 (oT.map fun z=>Value.int .i64 z).toArray
 mn:kR w 7 (gS.map fun l=>Value.string ⟨l.toArray⟩).toArray
 on:kR w 8 (rW.map fun l=>Value.string ⟨l.toArray⟩).toArray
theorem TE : Tryz.prog.globalNamed "internal/strconv.uint64pow10" = some 5 := by kernel_rfl
theorem aJ.below{B:Nat}{w b:World}(h:aJ w)(a:Below B w b)(f:11<=B):aJ b where
 size:=cH h.size a.size
 wk:=h.wk.below a (by omega)
 ml:=by obtain⟨m,d⟩:=h.ml;exact⟨m,(a.cell (p:=⟨3,0,none⟩) (by show 3<B;omega)).trans d⟩
 u8:=⟨fun c e=>(a.cell (p:=⟨1,c,none⟩) (by show 1<B;omega)).trans (h.u8.1 c e),fun i hi=>
  ⟨(a.cell (p:=⟨2,2*i,none⟩) (by show 2<B;omega)).trans (h.u8.2 i hi).1,(a.cell (p:=⟨2,2*i+1,none⟩) (by show 2<B;omega)).trans (h.u8.2 i hi).2⟩⟩
 p10:=var?_below a TE (by omega) h.p10
 sn:=h.sn.below a (by omega)
 md:=h.md.below a (by omega)
 mn:=h.mn.below a (by omega)
 on:=h.on.below a (by omega)
theorem aJ.next{w a:World}(h:aJ w)(b:Below w.heap.size w a):aJ a:=h.below b h.size
theorem aJ.drewN{w:World}(h:aJ w)(n:Nat):aJ (w.drewN n):=h.next (below_drewN (aF _ _) n)
end Go.Proofs.Z
namespace Go.Proofs.Z
open Hm Tryz Go.RowKit
theorem TF(c:UInt8)(w:World):
  Calls prog 234 #[.int .u8 c.toNat] w fun e a=>e= .returned (.bool (gR c))/\a=w:=by
 cases b:fO c
 ·go_enter func234,ntmps234;go_wp2_with(go_at_call 124;refine(zE _ _).mono ?_;rintro e a⟨rfl,rfl⟩);all_goals go_ret
  all_goals refine⟨lZ ?_,rfl⟩
  all_goals simp_all[gR]
 ·go_enter func234,ntmps234;go_wp2_with(go_at_call 124;refine(zE _ _).mono ?_;rintro e a⟨rfl,rfl⟩);all_goals go_ret
  all_goals refine⟨lZ ?_,rfl⟩
  all_goals try simp_all[gR]
  all_goals try omega
theorem TG(c:UInt8)(w:World):
  Calls prog 138 #[.int .u8 c.toNat] w fun e a=>e= .returned (.bool (cE c))/\a=w:=by
 cases b:nZ c <;> cases d:aH c;all_goals
  go_enter func138,ntmps138;go_wp2_with(first|(go_at_call 179;refine(TD _ _).mono ?_;rintro e a⟨rfl,rfl⟩)|(go_at_call 84;refine(pX _ _).mono ?_;rintro e a⟨rfl,rfl⟩));all_goals go_ret
  all_goals refine⟨lZ ?_,rfl⟩
  all_goals try simp_all[cE]
  all_goals try omega
theorem EP(y:Int)(w:World)(h0:0<=y):
  Calls prog 210 #[.int .i64 y] w fun e a=>e= .returned (.bool (jZ y))/\a=w:=by
 go_enter func210,ntmps210;go_wp2;all_goals go_ret
 all_goals refine⟨lZ ?_,rfl⟩
 all_goals simp_all[jZ]
theorem qY(y m:Int)(w:World)(h0:0<=y)(h1:1<=m)(h2:m<=12)(a:aJ w):
  Calls prog 174 #[.int .i64 y,.int .i64 m] w fun e b=>e= .returned (.int .i64 (dO y m))/\b=w:=by
 have d:w.cell? ⟨6,m.toNat-1,none⟩=some (.int .i64 (oT.getD (m-1).toNat 0)):=by
  rw[a.md.cell,show(m-1).toNat=m.toNat-1 by omega];have:m.toNat-1<oT.length:=by simp[oT];omega
  simp[List.getD,this]
 have f:w.cell? ⟨6,1,none⟩=some (.int .i64 28):=by rw[a.md.cell];rfl
 clear a;by_cases c:m=2
 ·subst c;clear d;cases g:jZ y;all_goals
   go_enter func174,ntmps174;go_wp2_with(go_at_call 210;refine(EP _ _ h0).mono ?_;rintro e b⟨rfl,rfl⟩);go_ret;exact⟨oX (by simp[dO,g,oT]),rfl⟩
 ·go_enter func174,ntmps174;go_wp2_with(go_at_call 210;refine(EP _ _ h0).mono ?_;rintro e b⟨rfl,rfl⟩);go_ret;exact⟨oX (by simp[dO,c]),rfl⟩
theorem vP(s:ByteArray)(b:Nat)(f:Nat)(p:UInt8->Bool)(w:World)(v:s.size<=9223372036854775807)(x:∀args w,(callFunc f args).run prog w= .ok (.enter f args) w)(o:∀(u:UInt8)(w:World),Calls prog f #[.int .u8 u.toNat] w fun e g=>e= .returned (.bool (p u))/\g=w):
  Calls prog 83 #[.string s,.int .i64 b,.func (.func f) #[] #[]] w fun e g=>e= .returned (.int .i64 (aZ p b s.data.toList))/\g=w:=by
 have r:=aA o;clear o;go_enter func83,ntmps83;go_wp2;go_loop [7] (fun i=>∃k:Nat,k<=s.size/\k<=b/\i= .int .i64 k/\∀c∈s.data.toList.take k,p c=true) (fun i=>s.size-(intOf i).toNat)
 case atStart=>exact⟨0,dM _,dM _,rfl,by simp⟩
 case round=>
  obtain⟨k,y,d,rfl,a⟩:=hrel;have n:=aA a;clear a;have j:s.data.toList.length=s.size:=by simp
  have l:=aA j;clear j;by_cases m:k<s.size
  ·by_cases z:k<b
   ·go_wp2_with fail;refine(r.out s[k] _).mono ?_;rintro e g⟨rfl,rfl⟩;cases q:p s[k]
    ·go_wp2;go_ret;refine⟨oX ?_,rfl⟩;rw[vC p b _ k (by rw[l.out];omega) d n.out (.inr (.inr ⟨s[k],by rw[dP (by rw[l.out];exact m)];rfl,q⟩))]
    ·go_wp2
     go_round
     case rel=>exact⟨k+1,by omega,by omega,by go_num,by
      rw[yE s k m];intro c t;rcases jM.1 t with h|h
      ·exact n.out c h
      ·rw[qR.1 h];exact q⟩
     case measure=>simp[intOf];omega
   ·go_wp2;go_ret;refine⟨oX ?_,rfl⟩;rw[vC p b _ k (by rw[l.out];omega) d n.out (.inr (.inl (by omega)))]
  ·go_wp2;go_ret;refine⟨oX ?_,rfl⟩;rw[vC p b _ k (by rw[l.out];omega) d n.out (.inl (by rw[l.out];omega))]
theorem TH:∀args w,(callFunc 84 args).run prog w= .ok (.enter 84 args) w:=enters_of func84 (by kernel_rfl) rfl
theorem TJ:∀args w,(callFunc 124 args).run prog w= .ok (.enter 124 args) w:=enters_of func124 (by kernel_rfl) rfl
theorem TL:∀args w,(callFunc 234 args).run prog w= .ok (.enter 234 args) w:=enters_of func234 (by kernel_rfl) rfl
theorem TM:∀args w,(callFunc 138 args).run prog w= .ok (.enter 138 args) w:=enters_of func138 (by kernel_rfl) rfl
theorem nO(s:ByteArray)(b:Nat)(w:World)(a:s.size<=9223372036854775807):
  Calls prog 83 #[.string s,.int .i64 b,.func (.func 84) #[] #[]] w fun e c=>e= .returned (.int .i64 (aZ aH b s.data.toList))/\c=w:=
 vP s b _ _ w a TH pX
theorem TN(s:ByteArray)(b:Nat)(w:World)(a:s.size<=9223372036854775807):
  Calls prog 83 #[.string s,.int .i64 b,.func (.func 124) #[] #[]] w fun e c=>e= .returned (.int .i64 (aZ fO b s.data.toList))/\c=w:=
 vP s b _ _ w a TJ zE
theorem TP(s:ByteArray)(b:Nat)(w:World)(a:s.size<=9223372036854775807):
  Calls prog 83 #[.string s,.int .i64 b,.func (.func 234) #[] #[]] w fun e c=>e= .returned (.int .i64 (aZ gR b s.data.toList))/\c=w:=
 vP s b _ _ w a TL TF
theorem TQ(s:ByteArray)(b:Nat)(w:World)(a:s.size<=9223372036854775807):
  Calls prog 83 #[.string s,.int .i64 b,.func (.func 138) #[] #[]] w fun e c=>e= .returned (.int .i64 (aZ cE b s.data.toList))/\c=w:=
 vP s b _ _ w a TM TG
theorem aY{k:IntKind}{a b:Int}(h:a=b):Value.int k a=Value.int k b:=by rw[h]
theorem oY(s:ByteArray)(w:World)(t:s.size<=9)(f:∀c∈s.data.toList,aH c=true):
  Calls prog 85 #[.string s] w fun e j=>e= .returned (.int .i64 (cB s.data.toList))/\j=w:=by
 have g:=aA f;clear f;go_enter func85,ntmps85;go_wp2;go_loop [3,4,7] (fun n _ i=>∃k:Nat,k<=s.size/\i= .int .i64 k/\n= .int .i64 (cB (s.data.toList.take k))) (fun _ _ i=>s.size-(intOf i).toNat)
 case atStart=>exact⟨0,dM _,rfl,rfl⟩
 case round=>
  obtain⟨k,u,rfl,rfl⟩:=hrel;by_cases b:k<s.size
  ·have a:(s.data.toList.take k).length=k:=by simp;omega
   have h:=rX (s.data.toList.take k) fun c l=>g.out c (List.mem_of_mem_take l);rw[a]at h;have m:10^k<=10^9:=qQ (by omega) (by omega);have o:cB (s.data.toList.take k)<1000000000:=by omega
   have p:Hid (cB (s.data.toList.take (k+1))=10*cB (s.data.toList.take k)+(s[k].toNat-48)):=by
    show _=_;rw[yE s k b,yG]
   have d:aH s[k]=true:=g.out _ (by rw[show s[k]=s.data.toList[k]'(by rw[Hm.len];exact b)from rfl];exact List.getElem_mem _);unfold aH at d;simp only[gP,mN]at d;obtain⟨q,r⟩:=d;clear a h m;go_wp2
   go_round
   case rel=>exact⟨k+1,by omega,by go_num,by rw[p.out];exact aY (by omega)⟩
   case measure=>simp[intOf];omega
  ·go_wp2;go_ret;exact⟨oX (by rw[fV (by rw[Hm.len];omega)]),rfl⟩
theorem sF(s:ByteArray)(w:World)(b:s.size<=9223372036854775807):
  Calls prog 221 #[.string s] w fun e a=>e= .returned (.int .i64 (fW s.data.toList))/\a=w:=by
 go_enter func221,ntmps221;go_wp2_with(go_at_call 83;refine(TP s 12 _ b).mono ?_;rintro e a⟨rfl,rfl⟩);go_ret;exact⟨rfl,rfl⟩
theorem tL(s:ByteArray)(m:Nat)(w:World)(c:s.size<=9223372036854775807)(_hm:m<=9223372036854775807):
  Calls prog 79 #[.string s,.int .i64 m] w fun e b=>e= .returned (.bool (bX s.data.toList m))/\b=w:=by
 have a:Hid (s.toList=s.data.toList):=Lib.toList_data s;by_cases h1:s.toList=[]
 ·go_enter func79,ntmps79;go_wp2;go_ret;exact⟨by rw[SD m (a.out▸h1)];rfl,rfl⟩
 ·by_cases h2:s.toList=[45]
  ·go_enter func79,ntmps79;go_wp2;go_ret;exact⟨by rw[DV m (a.out▸h2)];rfl,rfl⟩
  ·by_cases h3:m<s.size
   ·go_enter func79,ntmps79;go_wp2;go_ret;exact⟨by rw[SE m (by rw[Hm.len];exact h3)];rfl,rfl⟩
   ·have b1:s.toList.isEmpty=false:=by simpa using h1
    have b2:(s.toList==[45])=false:=by simpa using h2
    rw[a.out]at h1 h2;go_enter func79,ntmps79;go_wp2_with(go_at_call 83;refine(TN s m _ c).mono ?_;rintro e b⟨rfl,rfl⟩);go_ret;refine⟨lZ ?_,rfl⟩;rw[SG m h1 h2 (by rw[Hm.len];omega),Hm.len];simp;omega
theorem EQ(s:ByteArray)(w:World)(l:s.size<=9223372036854775800):
  Calls prog 235 #[.string s] w fun e f=>e= .returned (.tuple #[.int .i64 ((dA s.data.toList).getD 0),.bool (dA s.data.toList).isSome])/\f=w:=by
 go_enter func235,ntmps235;go_wp2;go_loop [4] (fun i=>∃k:Nat,k<=s.size/\i= .int .i64 k/\dA s.data.toList=(dA (s.data.toList.drop k)).map (· + k)) (fun i=>s.size-(intOf i).toNat)
 case atStart=>exact⟨0,dM _,rfl,by simp⟩
 case round=>
  obtain⟨k,m,rfl,h⟩:=hrel;have b:=aA h;clear h;by_cases g:k<s.size
  ·have c:Hid (s.data.toList.drop k=s[k]::s.data.toList.drop (k+1)):=vD s k g;by_cases h1:s[k].toNat=34
   ·have b1:((s[k].toNat:Int)==34)=true:=dZ.2 (by omega);have a:Hid (dA s.data.toList=some k):=by show _=_;rw[b.out,c.out,vE h1];simp
    clear h1;go_wp2;go_ret2;exact⟨by rw[a.out];rfl,rfl⟩
   ·have b1:((s[k].toNat:Int)==34)=false:=bG.2 (by omega);by_cases h2:s[k].toNat=93
    ·have b2:((s[k].toNat:Int)==93)=true:=dZ.2 (by omega);have a:Hid (dA s.data.toList=none):=by show _=_;rw[b.out,c.out,yI h2];simp
     clear h1 h2;go_wp2;go_ret2;exact⟨by rw[a.out];rfl,rfl⟩
    ·have b2:((s[k].toNat:Int)==93)=false:=bG.2 (by omega);by_cases h3:s[k].toNat=92
     ·have j:((s[k].toNat:Int)==92)=true:=dZ.2 (by omega);by_cases h4:k+1<s.size
      ·have d:Hid (s.data.toList.drop (k+1)=s[k+1]::s.data.toList.drop (k+2)):=vD s (k+1) h4;cases h5:jO s[k+1]
       ·have a:Hid (dA s.data.toList=none):=by show _=_;rw[b.out,c.out,d.out,yK h3 h5];simp
        clear h1 h2 h3;go_wp2_with(go_at_call 241;refine(EO _ _).mono ?_;rintro e f⟨rfl,rfl⟩);go_ret2;exact⟨by rw[a.out];rfl,rfl⟩
       ·have a:Hid (dA s.data.toList=(dA (s.data.toList.drop (k+2))).map (· + (k+2))):=by
         show _=_;rw[b.out,c.out,d.out,vF h3 h5,Option.map_map];congr 1;funext x;simp only[Function.comp];omega
        clear h1 h2 h3;go_wp2_with(go_at_call 241;refine(EO _ _).mono ?_;rintro e f⟨rfl,rfl⟩)
        go_round
        case rel=>exact⟨k+2,by omega,aY (by omega),a.out⟩
        case measure=>simp[intOf];omega
      ·have a:Hid (dA s.data.toList=none):=by
        show _=_;rw[b.out,c.out,gH (by rw[Hm.len];omega),yJ h3];simp
       clear h1 h2 h3;go_wp2;go_ret2;exact⟨by rw[a.out];rfl,rfl⟩
     ·have j:((s[k].toNat:Int)==92)=false:=bG.2 (by omega);have a:Hid (dA s.data.toList=(dA (s.data.toList.drop (k+1))).map (· + (k+1))):=by
       show _=_;rw[b.out,c.out,vG h1 h2 h3,Option.map_map];congr 1;funext x;simp only[Function.comp];omega
      clear h1 h2 h3;go_wp2
      go_round
      case rel=>exact⟨k+1,by omega,aY (by omega),a.out⟩
      case measure=>simp[intOf];omega
  ·have a:Hid (dA s.data.toList=none):=by
    show _=_;rw[b.out,gH (by rw[Hm.len];omega),DU];simp
   go_wp2;go_ret2;exact⟨by rw[a.out];rfl,rfl⟩
theorem ES(s:ByteArray)(w:World)(m:s.size<=9223372036854775700):
  Calls prog 222 #[.string s] w fun e a=>e= .returned (.int .i64 (eG s.data.toList))/\a=w:=by
 have k:=yH s.data.toList;rw[Hm.len]at k;obtain⟨n,c⟩:∃n,n=fW s.data.toList:=⟨_,rfl⟩;have b:=aA c;rw[<-c]at k;clear c;by_cases h0:n=0
 ·have d:Hid (eG s.data.toList=0):=by show _=_;unfold eG;rw[<-b.out,aD (.inl h0)]
  go_enter func222,ntmps222;go_wp2_with(go_at_call 221;refine(sF _ _ (by omega)).mono ?_;rintro e a⟨rfl,rfl⟩;rw[<-b.out]);go_ret;exact⟨by rw[d.out];rfl,rfl⟩
 ·have b0:((n:Int)==0)=false:=bG.2 (by omega);cases f:Lib.hasPrefix (s.data.toList.drop n) [61,34]
  ·have d:Hid (eG s.data.toList=0):=by show _=_;unfold eG;rw[<-b.out,aD (.inr f)]
   go_enter func222,ntmps222;go_wp2_with(first|(go_at_call 221;refine(sF _ _ (by omega)).mono ?_;rintro e a⟨rfl,rfl⟩;rw[<-b.out])|(go_at_call 53;refine(dV _ _ _).mono ?_;rintro e a⟨rfl,rfl⟩;rw[cP,f]));go_ret;exact⟨by rw[d.out];rfl,rfl⟩
  ·have l:=iA f;simp only[bC,Hm.len,bU,dS]at l;cases g:dA (s.data.toList.drop (n+2))with
   |none=>
    have d:Hid (eG s.data.toList=0):=by
     show _=_;unfold eG;rw[<-b.out,aB (by rintro(h|h);exact h0 h;rw[f]at h;cases h),g]
    have i:=aA g;clear g;go_enter func222,ntmps222;go_wp2_with(first|(go_at_call 221;refine(sF _ _ (by omega)).mono ?_;rintro e a⟨rfl,rfl⟩;rw[<-b.out])|(go_at_call 53;refine(dV _ _ _).mono ?_;rintro e a⟨rfl,rfl⟩;rw[cP,f])|(go_at_call 235;refine(EQ _ _ (by simp;omega)).mono ?_;rintro e a⟨rfl,rfl⟩;rw[cP,i.out]));go_ret;exact⟨by rw[d.out];rfl,rfl⟩
   |some v=>
    have j:=DR _ _ g;simp only[bC,Hm.len]at j;have d:Hid (eG s.data.toList=n+2+v+1):=by
     show _=_;unfold eG;rw[<-b.out,aB (by rintro(h|h);exact h0 h;rw[f]at h;cases h),g]
    have i:=aA g;clear g;go_enter func222,ntmps222;go_wp2_with(first|(go_at_call 221;refine(sF _ _ (by omega)).mono ?_;rintro e a⟨rfl,rfl⟩;rw[<-b.out])|(go_at_call 53;refine(dV _ _ _).mono ?_;rintro e a⟨rfl,rfl⟩;rw[cP,f])|(go_at_call 235;refine(EQ _ _ (by simp;omega)).mono ?_;rintro e a⟨rfl,rfl⟩;rw[cP,i.out]));go_ret;exact⟨oX (by rw[d.out];simp),rfl⟩
theorem ET{a b:ByteArray}{k:IntKind}{c d:Int}(h:a=b)(e:c=d):Ending.returned (.tuple #[.string a,.int k c])= .returned (.tuple #[.string b,.int k d]):=by rw[h,e]
theorem TR(s:ByteArray)(w:World)(E:s.size<=9223372036854775700):
  Calls prog 200 #[.string s] w fun e a=>e= .returned (.tuple #[.string ⟨(dE s.data.toList).1.toArray⟩,.int .i64 (dE s.data.toList).2])/\a=w:=by
 cases g:Lib.hasPrefix s.data.toList [91]
 ·have b:Hid (dE s.data.toList=([],0)):=by show _=_;unfold dE;rw[aD g]
  go_enter func200,ntmps200;go_wp2_with(go_at_call 53;refine(dV _ _ _).mono ?_;rintro e a⟨rfl,rfl⟩;rw[g]);go_ret2;exact⟨by rw[b.out];rfl,rfl⟩
 ·have q:=iA g;simp only[Hm.len,bU,dS]at q;have B:=yH (s.data.toList.drop 1);rw[bC,Hm.len]at B;obtain⟨n,h⟩:∃n,n=fW (s.data.toList.drop 1):=⟨_,rfl⟩;have o:=aA h;rw[<-h]at B;clear h;by_cases h0:n=0
  ·have b:Hid (dE s.data.toList=([],0)):=by show _=_;unfold dE;rw[aB (by simp[g]),<-o.out,aD h0]
   go_enter func200,ntmps200;go_wp2_with(first|(go_at_call 53;refine(dV _ _ _).mono ?_;rintro e a⟨rfl,rfl⟩;rw[g])|(go_at_call 221;refine(sF _ _ (by simp;omega)).mono ?_;rintro e a⟨rfl,rfl⟩;rw[cP,<-o.out]));go_ret2;exact⟨by rw[b.out];rfl,rfl⟩
  ·have b0:((n:Int)==0)=false:=bG.2 (by omega);have r:Hid (dE s.data.toList=match eK (s.size+1) (s.data.toList.drop (1+n))with
     |none=>([],0)
     |some k=>if Lib.hasPrefix (s.data.toList.drop (1+n+k)) [93]=false then([],0)else((s.data.toList.drop 1).take n,1+n+k+1)):=by
    show _=_;rw[dE,aB (by simp[g]),<-o.out,aB h0,Hm.len];cases eK (s.size+1) (List.drop (1+n) s.data.toList) <;> rfl
   go_enter func200,ntmps200;go_wp2_with(first|(go_at_call 53;refine(dV _ _ _).mono ?_;rintro e a⟨rfl,rfl⟩;rw[g])|(go_at_call 221;refine(sF _ _ (by simp;omega)).mono ?_;rintro e a⟨rfl,rfl⟩;rw[cP,<-o.out]));go_loop [5,6] (fun i _=>∃k:Nat,1+n<=k/\k<=s.size/\i= .int .i64 k/\eK (s.size+1) (s.data.toList.drop (1+n))=(eK (s.size+1) (s.data.toList.drop k)).map (· + (k-(1+n)))) (fun i _=>s.size-(intOf i).toNat)
   case atStart=>exact⟨1+n,by omega,by omega,aY (by omega),by simp⟩
   case round=>
    obtain⟨k,D,F,rfl,l⟩:=hrel;have t:=aA l;clear l;have u:Hid ((s.data.toList.drop k).length<s.size+1):=by show _<_;rw[bC,Hm.len];omega
    cases d:Lib.hasPrefix (s.data.toList.drop k) [32]
    ·have C:Hid (eK (s.size+1) (s.data.toList.drop (1+n))=some (k-(1+n))):=by show _=_;rw[t.out,tK u.out d];simp
     cases m:Lib.hasPrefix (s.data.toList.drop k) [93]
     ·have b:Hid (dE s.data.toList=([],0)):=by
       show _=_;rw[r.out,C.out];simp only[show 1+n+(k-(1+n))=k by omega,m,if_true]
      go_wp2_with fail;refine(dV _ _ _).mono ?_;rintro e a⟨rfl,rfl⟩;rw[cP,d];go_wp2_with fail;refine(dV _ _ _).mono ?_;rintro e a⟨rfl,rfl⟩;rw[cP,m];go_wp2;go_ret2;exact⟨by rw[b.out];rfl,rfl⟩
     ·have v:=iA m;simp only[bC,Hm.len,bU,dS]at v;have b:Hid (dE s.data.toList=((s.data.toList.drop 1).take n,k+1)):=by
       show _=_;rw[r.out,C.out];simp only[show 1+n+(k-(1+n))=k by omega,m];simp
      go_wp2_with fail;refine(dV _ _ _).mono ?_;rintro e a⟨rfl,rfl⟩;rw[cP,d];go_wp2_with fail;refine(dV _ _ _).mono ?_;rintro e a⟨rfl,rfl⟩;rw[cP,m];go_wp2;go_ret2;refine⟨?_,rfl⟩;rw[b.out];exact ET (by rw[Lib.extract_eq];simp) (by simp)
    ·have y:=iA d;simp only[bC,Hm.len,bU,dS]at y;have f:=DT (s.data.toList.drop (k+1));rw[bC,Hm.len]at f;obtain⟨p,j⟩:∃p,p=eG (s.data.toList.drop (k+1)):=⟨_,rfl⟩;have c:=aA j;rw[<-j]at f;clear j;have z:Hid ((s.data.toList.drop k).drop 1=s.data.toList.drop (k+1)):=by show _=_;rw[dW]
     by_cases A:p=0
     ·have b:Hid (dE s.data.toList=([],0)):=by
       show _=_;rw[r.out,t.out,yM u.out d (by rw[z.out,<-c.out];exact A)];rfl
      go_wp2_with fail;refine(dV _ _ _).mono ?_;rintro e a⟨rfl,rfl⟩;rw[cP,d];go_wp2_with(go_at_call 222;refine(ES _ _ (by simp;omega)).mono ?_;rintro e a⟨rfl,rfl⟩;rw[cP,<-c.out]);go_ret2;exact⟨by rw[b.out];rfl,rfl⟩
     ·have G:((p:Int)==0)=false:=bG.2 (by omega);have b:Hid (eK (s.size+1) (s.data.toList.drop (1+n))=(eK (s.size+1) (s.data.toList.drop (k+1+p))).map (· + (k+1+p-(1+n)))):=by
       show _=_;rw[t.out,yL u.out d (by rw[z.out,<-c.out];exact A),z.out,<-c.out,dW,Option.map_map];rw[show k+(1+p)=k+1+p by omega];congr 1;funext x;simp only[Function.comp];omega
      clear A;go_wp2_with fail;refine(dV _ _ _).mono ?_;rintro e a⟨rfl,rfl⟩;rw[cP,d];go_wp2_with(go_at_call 222;refine(ES _ _ (by simp;omega)).mono ?_;rintro e a⟨rfl,rfl⟩;rw[cP,<-c.out])
      go_round
      case rel=>exact⟨k+1+p,by omega,by omega,aY (by omega),b.out⟩
      case measure=>simp[intOf];omega
end Go.Proofs.Z

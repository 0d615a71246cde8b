/- Pressed by program out of Cs. -/
import Derived.Test.YtdlhbmncbmconaaGreatDoorA29
namespace Go.Hm
def mE(D time:List UInt8)(ws:List (List UInt8))(k:Nat):List UInt8:=[60]++D++[62,49,32]++told time++((ws.take k).map fun x=>32::told x).flatten
theorem aBi{D time:List UInt8}{a:List (List UInt8)}{k:Nat}{x:List UInt8}(h:a[k]?=some x):mE D time a (k+1)=mE D time a k++[32]++told x:=by
 unfold mE;rw[pS,h];simp
theorem aBj(m:aO):mE (Lib.decDigits (8*m.fac+m.sev).toNat) m.time [m.host,m.app,m.proc,m.id] 4++[32]++told m.data++(if m.text=[]then[]else[32]++m.text)=Lib.join (mA m) [32]:=by
 unfold mA mE;have one:∀a:List UInt8,Lib.join [a] [32]=a:=fun a=>by simp[Lib.join,List.intercalate,List.intersperse]
 by_cases h:m.text=[]
 ·rw[aD h,aD h];simp only[jX,List.map_nil,kZ];simp only[eN,iR,tX,one];simp
 ·rw[aB h,aB h];simp only[jX,List.map_nil];simp only[eN,iR,tX,one];simp
theorem uU{m:aO}{e:Nat}(h:eP m=e)(h0:¬e=0):cA m=([],e):=by
 subst h;unfold cA;rw[aD h0]
theorem aBk{m:aO}(h:fH m.fac m.sev=false):eP m=2:=by unfold eP;rw[aD h]
theorem aBl{m:aO}(h:¬fH m.fac m.sev=false)(a:¬m.time=[]/\eF m.time=false):eP m=3:=by unfold eP;rw[aB h,aD a]
theorem aBm{m:aO}(h:¬fH m.fac m.sev=false)(a:¬(¬m.time=[]/\eF m.time=false)){e:Nat}(hw:cY aX [m.host,m.app,m.proc,m.id]=some e):eP m=e:=by unfold eP;rw[aB h,aB a,hw]
theorem CB{m:aO}(h:¬fH m.fac m.sev=false)(a:¬(¬m.time=[]/\eF m.time=false))(hw:cY aX [m.host,m.app,m.proc,m.id]=none):eP m=if¬m.data=[]/\jA m.data=false then 8 else if bO m.text=false then 9 else 0:=by unfold eP;rw[aB h,aB a,hw]
theorem CE(d:List UInt8):¬gE d=d.length↔(¬d=[]/\jA d=false):=by
 rw[aAz];constructor
 ·intro h;exact⟨fun e=>h (.inl e),by cases a:jA d with|false=>rfl|true=>exact absurd (.inr a) h⟩
 ·rintro⟨h1,h2⟩(h|h)
  ·exact h1 h
  ·rw[h2]at h;cases h
theorem aBn{m:aO}(h:eP m=0):cA m=if 200<(Lib.join (mA m) [32]).length then([],1)else(Lib.join (mA m) [32],0):=by
 unfold cA;rw[aB (by simp[h])];have:=vX (60::Lib.decDigits (8*m.fac+m.sev).toNat++[62,49]) ([m.time,m.host,m.app,m.proc,m.id,m.data].map told++if m.text=[]then[]else[m.text]);have e:mA m=(60::Lib.decDigits (8*m.fac+m.sev).toNat++[62,49])::([m.time,m.host,m.app,m.proc,m.id,m.data].map told++if m.text=[]then[]else[m.text]):=rfl;rw[<-e]at this;rw[<-this];by_cases h2:200<(Lib.join (mA m) [32]).length
 ·rw[aD h2,aD (by omega)]
 ·rw[aB h2,aB (by omega)]
theorem aBo{m:aO}(h:¬fH m.fac m.sev=false)(b:¬(¬m.time=[]/\eF m.time=false)):
  (∀e,¬e=0->cY aX [m.host,m.app,m.proc,m.id]=some e->cA m=([],e))/\
  (cY aX [m.host,m.app,m.proc,m.id]=none->¬gE m.data=m.data.length->cA m=([],8))/\
  (cY aX [m.host,m.app,m.proc,m.id]=none->gE m.data=m.data.length->bO m.text=false->cA m=([],9))/\
  (cY aX [m.host,m.app,m.proc,m.id]=none->gE m.data=m.data.length->bO m.text=true->
   cA m=if 200<(mE (Lib.decDigits (8*m.fac+m.sev).toNat) m.time [m.host,m.app,m.proc,m.id] 4++[32]++told m.data++(if m.text=[]then[]else[32]++m.text)).length then([],1)
    else(mE (Lib.decDigits (8*m.fac+m.sev).toNat) m.time [m.host,m.app,m.proc,m.id] 4++[32]++told m.data++(if m.text=[]then[]else[32]++m.text),0)):=by
 refine⟨fun e h0 hw=>uU (aBm h b hw) h0,fun hw a=>?_,fun hw a c=>?_,fun hw a c=>?_⟩
 ·exact uU ((CB h b hw).trans (aD ((CE _).1 a))) (by decide)
 ·exact uU ((CB h b hw).trans ((aB (fun q=>(CE _).2 q a)).trans (aD c))) (by decide)
 ·rw[aBj];exact aBn ((CB h b hw).trans ((aB (fun q=>(CE _).2 q a)).trans (aB (by rw[c];decide))))
theorem CF(x:List UInt8):(told x).length<=x.length+1:=by
 unfold told;split <;> simp
theorem aBp{n:Nat}(h:n<1000):(Lib.decDigits n).length<=3:=by
 by_cases h1:n<10
 ·rw[kA h1];simp
 ·rw[jP h1,dL];have:=pU (n:=n/10) (by omega);simp;omega
end Go.Hm
namespace Go.Proofs.Z
open Hm Tryz Go.RowKit Go.Sort
attribute [local go_sem] dY fR fS
set_option maxRecDepth 20000 in
set_option maxHeartbeats 4000000 in
theorem aBq(m:aO)(w:World)(h:fH m.fac m.sev=false):
  Calls prog 113 #[.agg (aL m)] w fun e c=>e= .returned (.tuple #[.string ⟨#[]⟩,.int .i64 2])/\Below w.heap.size w c:=by
 obtain⟨f,s,t,h1,h2,h3,h4,d,x⟩:=m;unfold aL;dsimp only at h⊢;rcases(by
  unfold fH at h;simp at h;omega:f<0∨(0<=f/\23<f)∨(0<=f/\f<=23/\s<0)∨(0<=f/\f<=23/\0<=s/\7<s))with k|⟨k0,k⟩|⟨k0,k1,k⟩|⟨k0,k1,k2,k⟩
 ·clear h;go_enter func113,ntmps113;go_wp2;go_ret2;exact⟨rfl,(aF _ _).alloc (aC _) _⟩
 ·have a:¬f<0:=by omega
  clear h k0;go_enter func113,ntmps113;go_wp2;go_ret2;exact⟨rfl,(aF _ _).alloc (aC _) _⟩
 ·have a:¬f<0:=by omega
  have b:¬23<f:=by omega
  clear h k0 k1;go_enter func113,ntmps113;go_wp2;go_ret2;exact⟨rfl,(aF _ _).alloc (aC _) _⟩
 ·have a:¬f<0:=by omega
  have b:¬23<f:=by omega
  have g:¬s<0:=by omega
  clear h k0 k1 k2;go_enter func113,ntmps113;go_wp2;go_ret2;exact⟨rfl,(aF _ _).alloc (aC _) _⟩
theorem PP{w:World}{g:Nat}{c d f i j:Value}{b0 b1 b2 a:List UInt8}{t:TypeId}{fr:Nat×Nat}(h:w.heap[g]?=some (.cells #[c,d,f,.string ⟨b0.toArray⟩,.string ⟨b1.toArray⟩,.string ⟨b2.toArray⟩,.string ⟨a.toArray⟩,i,j] t fr))(k:Nat)(x:List UInt8)(b:[b0,b1,b2,a][k]?=some x):
  w.cell? ⟨g,3+k,none⟩=some (.string ⟨x.toArray⟩):=by
 have l:k<4:=(iY.1 b).1;rcases(by omega:k=0∨k=1∨k=2∨k=3)with e|e|e|e <;> subst e <;> cases b <;> exact aS _ _ _ _ _ _ h
set_option maxRecDepth 20000 in
set_option maxHeartbeats 4000000 in
theorem aBr(m:aO)(w:World)(lt:m.time.length<=4000000000)(h:¬fH m.fac m.sev=false)(l:¬m.time=[]/\eF m.time=false):
  Calls prog 113 #[.agg (aL m)] w fun e k=>e= .returned (.tuple #[.string ⟨#[]⟩,.int .i64 3])/\Below w.heap.size w k:=by
 obtain⟨f,s,t,h1,h2,h3,h4,d,x⟩:=m;unfold aL;dsimp only at h l lt⊢;have g:¬f<0/\¬23<f/\¬s<0/\¬7<s:=by
  unfold fH at h;simp at h;omega
 obtain⟨q,r,u,v⟩:=g;clear h;have c:Hid (∀w,Calls prog 159 #[.string ⟨t.toArray⟩] w fun e k=>e= .returned (kP (dK t))/\k=w):=fun w=>by
  have:=BZ t (by omega) w
  rwa [xN]at this
 obtain⟨i,b⟩:=l;have n:(t==[])=false:=bG.2 i;unfold eF at b;clear i;cases j:dK t with
 |none=>
  rw[j]at c;unfold kP at c;clear j b;go_enter func113,ntmps113;go_wp2_with fail;refine(c.out _).mono ?_;rintro e o⟨rfl,a⟩;have a:=a.symm;subst a;go_wp2;go_ret2;exact⟨rfl,(aF _ _).alloc (aC _) _⟩
 |some t2=>
  rw[j]at c b;have p:(t2==t)=false:=by simpa using b
  unfold kP at c;clear j b;go_enter func113,ntmps113;go_wp2_with fail;refine(c.out _).mono ?_;rintro e o⟨rfl,a⟩;have a:=a.symm;subst a;go_wp2;go_ret2;exact⟨rfl,(aF _ _).alloc (aC _) _⟩
set_option maxRecDepth 20000 in
set_option maxHeartbeats 4000000 in
theorem aBs(m:aO)(w:World)(lt:m.time.length<=4000000000)(lh:m.host.length<=4000000000)(la:m.app.length<=4000000000)(lp:m.proc.length<=4000000000)(li:m.id.length<=4000000000)(ld:m.data.length<=4000000000)(lx:m.text.length<=4000000000)(h:¬fH m.fac m.sev=false)(ht:¬(¬m.time=[]/\eF m.time=false)):
  Calls prog 113 #[.agg (aL m)] w fun e j=>e= .returned (.tuple #[.string ⟨(cA m).1.toArray⟩,.int .i64 (cA m).2])/\Below w.heap.size w j:=by
 have o:=aBo h ht;obtain⟨V,hV⟩:∃V,cA m=V:=⟨_,rfl⟩;rw[hV]at o⊢;clear hV;obtain⟨f,s,t,h1,h2,h3,h4,d,x⟩:=m;unfold aL;dsimp only at h ht lt lh la lp li ld lx o⊢;have ah:¬f<0/\¬23<f/\¬s<0/\¬7<s:=by
  unfold fH at h;simp at h;omega
 obtain⟨k0,k1,k2,k3⟩:=ah;clear h;have TI:Hid (∀w,Calls prog 159 #[.string ⟨t.toArray⟩] w fun e j=>e= .returned (kP (dK t))/\j=w):=fun w=>by
  have:=BZ t (by omega) w
  rwa [xN]at this
 have DE:Hid (∀w,Calls prog 160 #[.int .i64 (8*f+s)] w fun e j=>e= .returned (.string ⟨(Lib.decDigits (8*f+s).toNat).toArray⟩)/\j=w):=fun w=>by
  have:=xL (8*f+s).toNat (by omega) w
  rwa [show(((8*f+s).toNat:Nat):Int)=8*f+s by omega]at this
 have hD:=aBp (n:=(8*f+s).toNat) (by omega);generalize Lib.decDigits (8*f+s).toNat=D at o DE hD;obtain⟨T,ok,ai,p⟩:∃T ok,kP (dK t)= .tuple #[.string ⟨T.toArray⟩,.bool ok]/\(t=[]∨(ok=true/\T=t)):=by
  cases hr:dK t with
  |none=>
   refine⟨[],false,rfl,.inl (nY fun h0=>ht ⟨h0,by unfold eF;rw[hr];rfl⟩)⟩
  |some t2=>
   refine⟨t2,true,rfl,?_⟩;by_cases h0:t=[]
   ·exact .inl h0
   ·refine .inr ⟨rfl,?_⟩;have:eF t=true:=by
     cases hq:eF t with
     |true=>rfl
     |false=>exact absurd ⟨h0,hq⟩ ht
    unfold eF at this;rw[hr]at this;simpa using this
 rw[ai]at TI;clear ai ht;obtain⟨c,q⟩:∃c,[h1,h2,h3,h4]=c:=⟨_,rfl⟩;have aH:c.length=4:=by rw[<-q];rfl
 have H:∀x∈c,x.length<=4000000000:=by rw[<-q];intro y I;simp at I;rcases I with rfl|rfl|rfl|rfl <;> assumption
 rw[q]at o;have J:=show Hid _ from q;clear q

 have ON:=aA X3;have aj:=CF t;have N:Hid (∀k x,c[k]?=some x->mE D t c (k+1)=mE D t c k++[32]++Hm.told x):=fun k x h=>aBi h;have O:Hid (mE D t c 0=[60]++D++[62,49,32]++Hm.told t):=by show _=_;simp[mE]
 have P:Hid (∀k,k<4->cY (aX.drop k) (c.drop k)=if¬c.getD k []=[]/\bX (c.getD k []) (aX.getD k (0,0)).1=false then some (aX.getD k (0,0)).2 else cY (aX.drop (k+1)) (c.drop (k+1))):=fun k hk=>zL hk aH;have Q:Hid (cY (aX.drop 4) (c.drop 4)=none):=by
  show _=_;rw[show aX.drop 4=[]from rfl];simp[cY]
 obtain⟨ak,al,am,an⟩:=o;have E:=aA ak;have R:=aA al;have U:=aA am;have X:=aA an;have ao:=show Hid _ from H;clear ak al am an H;go_enter func113,ntmps113;go_wp2_with fail;refine(TI.out _).mono ?_;rintro e w1⟨rfl,a⟩;have a:=a.symm;subst a;obtain⟨W,hW⟩:∃W,w.alloc (.cells #[.int .i64 f,.int .i64 s,.string ⟨t.toArray⟩,.string ⟨h1.toArray⟩,.string ⟨h2.toArray⟩,.string ⟨h3.toArray⟩,.string ⟨h4.toArray⟩,.string ⟨d.toArray⟩,.string ⟨x.toArray⟩] 80)=W:=⟨_,rfl⟩;have ap:Hid (Below w.heap.size w W):=hW▸(aF _ _).alloc (aC _) _;have l:W.heap[w.heap.size]?=some (.cells #[.int .i64 f,.int .i64 s,.string ⟨t.toArray⟩,.string ⟨h1.toArray⟩,.string ⟨h2.toArray⟩,.string ⟨h3.toArray⟩,.string ⟨h4.toArray⟩,.string ⟨d.toArray⟩,.string ⟨x.toArray⟩] 80 (0,0)):=hW▸heap_alloc_new _ _;have a0:Hid (∀k x,c[k]?=some x->W.cell? ⟨w.heap.size,3+k,none⟩=some (.string ⟨x.toArray⟩)):=fun k x h=>PP l k x (by rw[J.out];exact h);have Y:=show Hid _ from l;have c0:W.cell? ⟨w.heap.size,0,none⟩=some (.int .i64 f):=aS _ _ _ _ _ _ l;have c1:W.cell? ⟨w.heap.size,1,none⟩=some (.int .i64 s):=aS _ _ _ _ _ _ l;have c2:W.cell? ⟨w.heap.size,2,none⟩=some (.string ⟨t.toArray⟩):=aS _ _ _ _ _ _ l;rw[hW];clear hW l;go_upto_region 4 with fail;go_cut [47] (fun aI wc=>aI= .bool false/\wc=W);case first=>
  rcases p with h0|⟨rfl,rfl⟩
  ·have hb:(t==[])=true:=by rw[h0];rfl
   clear h0;go_wp2
   go_meet
   case rel=>exact⟨rfl,rfl⟩
  ·obtain⟨bt,a1⟩:∃b,(T==[])=b:=⟨_,rfl⟩;cases bt with
   |true=>
    go_wp2
    go_meet
    case rel=>exact⟨rfl,rfl⟩
   |false=>
    go_wp2
    go_meet
    case rel=>exact⟨rfl,rfl⟩
 case rest=>
  obtain⟨rfl,g⟩:=hcut;have g:=g.symm;subst g;clear p TI;have Z:=show Hid _ from ON.out t;generalize Hm.told t=tt at Z aj O;have r1:¬9223372036854775807<1+D.length:=by omega
  have r2:¬9223372036854775807<1+D.length+3:=by omega
  have r3:¬9223372036854775807<1+D.length+3+tt.length:=by omega
  go_wp2_with fail;go_quiet(first|(go_at_call 160;exact Calls.quiet_of_same (DE.out _))|(go_at_call 161;exact Calls.quiet_of_same (Z.out _)))
  go_wp2;go_loopw [6,7,8] (fun s6 s7 _ wr=>∃(k:Nat)(L:List UInt8),k<=4/\s7= .int .i64 k/\s6= .string ⟨L.toArray⟩/\L=mE D t c k/\L.length<=4000000010*(k+1)/\cY aX c=cY (aX.drop k) (c.drop k)/\wr.heap[w.heap.size]?=some (.cells #[.int .i64 f,.int .i64 s,.string ⟨t.toArray⟩,.string ⟨h1.toArray⟩,.string ⟨h2.toArray⟩,.string ⟨h3.toArray⟩,.string ⟨h4.toArray⟩,.string ⟨d.toArray⟩,.string ⟨x.toArray⟩] 80 (0,0))/\Below w.heap.size w wr) (fun _ s7 _ _=>4-(intOf s7).toNat)
  case atStart=>exact⟨0,_,by omega,rfl,rfl,by rw[O.out];simp,by simp;omega,rfl,((aT ⟨nq,rfl⟩).block _ (aM.1 Y.out).1).trans Y.out,Below.next ap.out (aC _) (aT ⟨nq,rfl⟩)⟩
  case round=>
   clear r1 r2 r3 O Z DE hD aj c0 c1 c2;obtain⟨k,L,a2,rfl,rfl,hL,a3,aq,aa,ar⟩:=hrel;have r:=show Hid _ from aa;have HB:=show Hid _ from ar;have ab:=show Hid _ from fun k x(h:c[k]?=some x)=>PP aa k x (by rw[J.out];exact h);clear aa ar Y ap;have HL:=show Hid _ from hL;have u:=show Hid _ from aq;clear hL aq;by_cases hk:k<4;case neg=>
    have h4:k=4:=by omega
    have HN:Hid (cY aX c=none):=by
     show _=_;rw[u.out,h4];exact Q.out
    have au:Hid (L=mE D t c 4):=by
     show _=_;rw[HL.out,h4]
    have aJ:¬(k:Int)<4:=by omega
    have F8:=show Hid _ from R.out HN.out;have F9:=show Hid _ from U.out HN.out;have FL:=show Hid _ from X.out HN.out;rw[<-au.out]at FL;clear h4 hk HL u Q P E R U X HN au N ab;have DA:Hid (∀w,Calls prog 164 #[.string ⟨d.toArray⟩] w fun e j=>e= .returned (.int .i64 (gE d))/\Below w.heap.size w j):=fun w=>OY d ld w;have CL:Hid (∀w,Calls prog 157 #[.string ⟨x.toArray⟩] w fun e j=>e= .returned (.bool (bO x))/\j=w):=fun w=>xV x (by omega) w;have av:=show Hid _ from ON.out d;have aK:=CF d;generalize Hm.told d=v at av aK FL;generalize gE d=rd at DA F8 F9 FL;generalize bO x=pl at CL F9 FL;have c7:wr.cell? ⟨w.heap.size,7,none⟩=some (.string ⟨d.toArray⟩):=aS _ _ _ _ _ _ r.out;go_wp2_with fail;refine(DA.out _).mono ?_;rintro e w5⟨rfl,ac⟩;have ad:w5.heap[w.heap.size]?=some (.cells #[.int .i64 f,.int .i64 s,.string ⟨t.toArray⟩,.string ⟨h1.toArray⟩,.string ⟨h2.toArray⟩,.string ⟨h3.toArray⟩,.string ⟨h4.toArray⟩,.string ⟨d.toArray⟩,.string ⟨x.toArray⟩] 80 (0,0)):=(ac.block _ (aM.1 r.out).1).trans r.out;have F:Hid (Below w.heap.size w w5):=Below.next HB.out (aC _) ac;have d7:w5.cell? ⟨w.heap.size,7,none⟩=some (.string ⟨d.toArray⟩):=aS _ _ _ _ _ _ ad;have d8:w5.cell? ⟨w.heap.size,8,none⟩=some (.string ⟨x.toArray⟩):=aS _ _ _ _ _ _ ad;clear ac ad c7;by_cases A:rd=d.length;case neg=>
     have B:Hid (V=([],8)):=F8.out A;have hb:((rd:Int) !=(d.length:Int))=true:=by simp;omega
     clear A;go_wp2;go_ret2;exact⟨by rw[B.out];rfl,F.out⟩
    have hb:((rd:Int) !=(d.length:Int))=false:=by simp;omega
    have G9:=show Hid _ from F9.out A;have GL:=show Hid _ from FL.out A;clear A F8 F9 FL;go_wp2_with fail;refine(CL.out _).mono ?_;rintro e w1⟨rfl,a⟩;have a:=a.symm;subst a;cases pl with
    |false=>
     have B:Hid (V=([],9)):=G9.out rfl;go_wp2;go_ret2;exact⟨by rw[B.out];rfl,F.out⟩
    |true=>
     have B:=show Hid _ from GL.out rfl;clear G9 GL;have r1:¬9223372036854775807<L.length+1:=by omega
     have r2:¬9223372036854775807<L.length+1+v.length:=by omega
     have aw:¬9223372036854775807<L.length+(1+v.length):=by omega
     have M:¬9223372036854775807<L.length+(v.length+1):=by omega
     go_wp2_with fail;refine(av.out _).mono ?_;rintro e w1⟨rfl,a⟩;have a:=a.symm;subst a;obtain⟨S,hS⟩:∃S,L++[32]++v++(if x=[]then[]else[32]++x)=S:=⟨_,rfl⟩;rw[hS]at B;have a4:S.length<=100000000000:=by
      rw[<-hS];split <;> simp <;> omega
     obtain⟨bx,ae⟩:∃b,(x==[])=b:=⟨_,rfl⟩;go_upto_if 112 with fail;go_cut [6] (fun s6 wc=>s6= .string ⟨S.toArray⟩/\wc=w5);case first=>
      cases bx with
      |true=>
       have C:x=[]:=dZ.1 ae;have aN:L++32::v=S:=by rw[<-hS,aD C];simp
       clear C hS;go_wp2
       go_meet
       case rel=>exact⟨by rw[<-aN],rfl⟩
      |false=>
       have C:¬x=[]:=bG.1 ae;have aP:Hid (L++32::(v++32::x)=S):=by show _=_;rw[<-hS,aB C];simp
       clear C hS;have r3:¬9223372036854775807<L.length+(v.length+1)+1:=by omega
       have r4:¬9223372036854775807<L.length+(v.length+1+1):=by omega
       have r5:¬9223372036854775807<L.length+(v.length+1)+1+x.length:=by omega
       have r6:¬9223372036854775807<L.length+(v.length+(x.length+1)+1):=by omega
       have r7:¬9223372036854775807<L.length+(v.length+1+1)+x.length:=by omega
       go_wp2
       go_meet
       case rel=>exact⟨by rw[<-aP.out],rfl⟩
     case rest=>
      obtain⟨rfl,g⟩:=hcut;have g:=g.symm;subst g;clear ae hS r1 r2 aw M;by_cases G:200<S.length
      ·have aR:(200:Int)<(S.length:Int):=by omega
       rw[aD G]at B;clear G;go_wp2;go_ret2;exact⟨by rw[B.out];rfl,F.out⟩
      ·have aR:¬(200:Int)<(S.length:Int):=by omega
       rw[aB G]at B;clear G;go_wp2;go_ret2;exact⟨by rw[B.out];rfl,F.out⟩
   have aJ:(k:Int)<4:=by omega
   obtain⟨y,I⟩:∃y,c[k]?=some y:=⟨_,dP (by omega)⟩;have ax:c.getD k []=y:=by rw[gQ,I];rfl
   have a5:=ao.out y (fG I);have a6:=ab.out k y I;obtain⟨ay,az,aA⟩:=PM hk;have HS:=show Hid _ from P.out k hk;rw[ax,ay]at HS;have af:=show Hid _ from N.out k y I;rw[<-HL.out]at af;have MO:Hid (∀w,Calls prog 163 #[.int .i64 (k:Nat)] w fun e j=>e= .returned (.int .i64 ((aX.getD k (0,0)).1:Nat))/\j=w):=fun w=>by
    have:=NW k hk w
    rwa [<-az]at this
   have IP:Hid (∀w,Calls prog 162 #[.string ⟨y.toArray⟩,.int .i64 ((aX.getD k (0,0)).1:Nat)] w fun e j=>e= .returned (.bool (bX y (aX.getD k (0,0)).1))/\j=w):=fun w=>xM y (by omega) _ aA w;generalize bX y (aX.getD k (0,0)).1=wd at HS IP;generalize(aX.getD k (0,0)).1=K at MO IP;clear az ay aA ax I P N ab Q R U X;have aE:=show Hid _ from ON.out y;have aU:=CF y;generalize Hm.told y=ty at aE aU af;by_cases i:¬y=[]/\wd=false
   ·obtain⟨ag,rfl⟩:=i;have B:Hid (V=([],4+k)):=E.out _ (by omega) (u.out.trans (HS.out.trans (aD ⟨ag,rfl⟩)));have aV:(y==[])=false:=bG.2 ag;clear ag HS E;go_wp2_with fail;go_quiet(first|(go_at_call 163;exact Calls.quiet_of_same (MO.out _))|(go_at_call 162;exact Calls.quiet_of_same (IP.out _)))
    go_wp2;go_ret2;exact⟨by rw[B.out];exact aQ (fun z=>Ending.returned (Value.tuple #[.string ⟨#[]⟩,.int .i64 z])) (by show _=((4+k:Nat):Int);omega),Below.next HB.out (aC _) (aT ⟨_,rfl⟩)⟩
   have aW:Hid (cY aX c=cY (aX.drop (k+1)) (c.drop (k+1))):=u.out.trans (HS.out.trans (aB i));clear HS E u;go_wp2_with fail;go_quiet(first|(go_at_call 163;exact Calls.quiet_of_same (MO.out _))|(go_at_call 162;exact Calls.quiet_of_same (IP.out _)))
   go_upto_region 11 with fail;go_cut [80] (fun aZ wc=>aZ= .bool false/\∃n,wc=wr.drewN n);case first=>
    cases wd with
    |true=>
     go_wp2
     go_meet
     case rel=>exact⟨rfl,_,rfl⟩
    |false=>
     have aG:y=[]:=nY fun h=>i ⟨h,rfl⟩;have aV:(y==[])=true:=by rw[aG];rfl
     clear i aG;go_wp2
     go_meet
     case rel=>exact⟨rfl,_,rfl⟩
   case rest=>
    obtain⟨rfl,n2,g⟩:=hcut;subst g;clear i MO IP;have r1:¬9223372036854775807<L.length+1:=by omega
    have r2:¬9223372036854775807<L.length+1+ty.length:=by omega
    have aw:¬9223372036854775807<L.length+(1+ty.length):=by omega
    have M:¬9223372036854775807<L.length+(ty.length+1):=by omega
    go_wp2_with fail;refine(aE.out _).mono ?_;rintro e w1⟨rfl,a⟩;have a:=a.symm;subst a;go_wp2;go_roundw;case rel=>exact⟨k+1,_,by omega,aY (by simp),rfl,by rw[af.out];simp,by simp;omega,aW.out,((aT ⟨n2,rfl⟩).block _ (aM.1 r.out).1).trans r.out,Below.next HB.out (aC _) (aT ⟨n2,rfl⟩)⟩
    case measure=>simp[intOf];omega
theorem tF(m:aO)(w:World)(lt:m.time.length<=4000000000)(b:m.host.length<=4000000000)(c:m.app.length<=4000000000)(d:m.proc.length<=4000000000)(f:m.id.length<=4000000000)(g:m.data.length<=4000000000)(i:m.text.length<=4000000000):
  Calls prog 113 #[.agg (aL m)] w fun e j=>e= .returned (.tuple #[.string ⟨(cA m).1.toArray⟩,.int .i64 (cA m).2])/\Below w.heap.size w j:=by
 by_cases h:fH m.fac m.sev=false
 ·rw[uU (aBk h) (by decide)];exact aBq m w h
 by_cases a:¬m.time=[]/\eF m.time=false
 ·rw[uU (aBl h a) (by decide)];exact aBr m w lt h a
 exact aBs m w lt b c d f g i h a
end Go.Proofs.Z

/- Pressed by program out of Ck Cl Cm Da. -/
import Derived.Test.YtdlhbmncbmconaaGreatDoorL21
import Derived.Test.YtdlhbmncbmconaaGreatDoorL22
import Derived.Test.YtdlhbmncbmconaaGreatDoorL18
namespace Go.Hm
theorem rdigits_cut {l t:List UInt8} {a n:Nat} (h:(l.drop a).take n=t) (hl:t.length=n) (hn:1<=n):rdigits l a n=if t.all dig=true then (dec t,true) else (0,false):=by
 have h2:a+n<=l.length:=by
  have:=congrArg List.length h
  rw [List.length_take,List.length_drop] at this
  omega
 unfold rdigits
 rw [h]
 by_cases ht:t.all dig=true
 ·rw [if_pos ⟨h2,hn,ht⟩,if_pos ht]
 ·rw [if_neg (fun e=>ht e.2.2),if_neg ht]
theorem d2_all {n:Nat} (h:n < 100):(d2 n).all dig=true:=by
 have h1:n / 10 < 10:=by omega
 have h2:n % 10 < 10:=by omega
 simp [d2,dig,UInt8.toNat_ofNat']
 omega
theorem d4_all {n:Nat} (h:n < 10000):(d4 n).all dig=true:=by
 unfold d4
 rw [List.all_append,d2_all (by omega),d2_all (by omega)]
 rfl
theorem two_dig {a b:UInt8} (h:[a,b].all dig=true):d2 (dec [a,b])=[a,b]:=by
 simp [dig] at h
 have e:dec [a,b]=10 * (a.toNat - 48)+(b.toNat - 48):=by simp [dec]
 rw [e,d2,show (10 * (a.toNat - 48)+(b.toNat - 48)) / 10=a.toNat - 48 by omega,show (10 * (a.toNat - 48)+(b.toNat - 48)) % 10=b.toNat - 48 by omega,
  show 48+(a.toNat - 48)=a.toNat by omega,show 48+(b.toNat - 48)=b.toNat by omega,UInt8.ofNat_toNat,UInt8.ofNat_toNat]
def rdd (l:List UInt8):Nat × Bool:=if (l.getD 4 0).toNat=32 then rdigits l 5 1 else rdigits l 4 2
def rtext (y m d sec:Nat):List UInt8:=stampText y m d (sec / 3600) (sec / 60 % 60) (sec % 60)
theorem rshifted_none {y m d sec:Nat} (hy:1<=y) (hy2:y<=9999) (hs:sec < 86400):rshifted y m d sec=some (rtext y m d sec):=by
 unfold rshifted
 have h:rday (y:Int) (m:Int) (d:Int) (sec:Int)=(((y:Int),(m:Int),(d:Int)),(sec:Int)):=by
  unfold rday
  rw [if_neg (by omega),if_neg (by omega)]
 rw [h,if_neg (by dsimp only;omega)]
 simp only [rtext,Int.toNat_natCast]
 congr 2
theorem rclock_ltk {l:List UInt8} {a s:Nat} (h:rclock l a=some s):s < 86400:=by
 unfold rclock at h
 split at h
 ·cases h
 ·next hn=>
  have:=Option.some.inj h
  omega
theorem old_iff {c0 c1 c2 c3 c4 c5 c6 c7 c8 c9 c10 c11 c12 c13 c14 c15:UInt8} {r l:List UInt8} (hl:l=c0 :: c1 :: c2 :: c3 :: c4 :: c5 :: c6 :: c7 :: c8 :: c9 :: c10 :: c11 :: c12 :: c13 :: c14 :: c15 :: r) {y:Nat} (hy:1<=y) (hy2:y<=9999) :
  (∀ sec,rclock l 7=some sec->(rdd l).2=true->risDay y (month (l.take 3)) (rdd l).1=true->oldText (l.take 15) y=rtext y (month (l.take 3)) (rdd l).1 sec ++ [90]/\isTime (oldText (l.take 15) y)=true) /\
  ((rclock l 7=none∨(rdd l).2=false∨risDay y (month (l.take 3)) (rdd l).1=false)->isTime (oldText (l.take 15) y)=false):=by
 have hm:=month_le (l.take 3)
 have e3:(l.take 15).take 3=l.take 3:=by rw [hl];rfl
 obtain ⟨M,hM⟩:∃ M,month (l.take 3)=M:=⟨_,rfl⟩
 have ht:∃ e1 e2,oldDay (l.take 15)=[e1,e2]/\rdd l=if [e1,e2].all dig=true then (dec [e1,e2],true) else (0,false):=by
  by_cases h32:c4.toNat=32
  ·refine ⟨48,c5,?_,?_⟩
   ·unfold oldDay
    rw [hl]
    exact if_pos h32
   ·unfold rdd
    rw [if_pos (by rw [hl];exact h32),rdigits_cut (l:=l) (a:=5) (n:=1) (t:=[c5]) (by rw [hl];rfl) rfl (by omega)]
    have:dec [48,c5]=dec [c5]:=by simp [dec]
    rw [this]
    have:([48,c5]:List UInt8).all dig=[c5].all dig:=by simp [dig]
    rw [this]
  ·refine ⟨c4,c5,?_,?_⟩
   ·unfold oldDay
    rw [hl]
    exact if_neg h32
   ·unfold rdd
    rw [if_neg (by rw [hl];exact h32),rdigits_cut (l:=l) (a:=4) (n:=2) (t:=[c4,c5]) (by rw [hl];rfl) rfl (by omega)]
 obtain ⟨e1,e2,ht,hdd⟩:=ht
 have hot:oldText (l.take 15) y=d4 y ++ [45] ++ d2 M ++ [45] ++ [e1,e2] ++ [84] ++ [c7,c8,c9,c10,c11,c12,c13,c14] ++ [90]:=by
  unfold oldText
  rw [ht,e3,hM,hl]
  rfl
 rw [hM] at hm ⊢
 generalize oldText (l.take 15) y=t at hot ⊢
 have q0:rdigits t 0 4=(y,true):=by
  rw [rdigits_cut (l:=t) (a:=0) (n:=4) (t:=d4 y) (by rw [hot];rfl) rfl (by omega),if_pos (d4_all (by omega)),dec_d4 (by omega)]
 have q5:rdigits t 5 2=(M,true):=by
  rw [rdigits_cut (l:=t) (a:=5) (n:=2) (t:=d2 M) (by rw [hot];rfl) rfl (by omega),if_pos (d2_all (by omega)),dec_d2 (by omega)]
 have q8:rdigits t 8 2=rdd l:=by
  rw [rdigits_cut (l:=t) (a:=8) (n:=2) (t:=[e1,e2]) (by rw [hot];rfl) rfl (by omega),hdd]
 have p1:rdigits l 7 2=if [c7,c8].all dig=true then (dec [c7,c8],true) else (0,false):=rdigits_cut (by rw [hl];rfl) rfl (by omega)
 have p2:rdigits l 10 2=if [c10,c11].all dig=true then (dec [c10,c11],true) else (0,false):=rdigits_cut (by rw [hl];rfl) rfl (by omega)
 have p3:rdigits l 13 2=if [c13,c14].all dig=true then (dec [c13,c14],true) else (0,false):=rdigits_cut (by rw [hl];rfl) rfl (by omega)
 have s1:rdigits t 11 2=if [c7,c8].all dig=true then (dec [c7,c8],true) else (0,false):=rdigits_cut (by rw [hot];rfl) rfl (by omega)
 have s2:rdigits t 14 2=if [c10,c11].all dig=true then (dec [c10,c11],true) else (0,false):=rdigits_cut (by rw [hot];rfl) rfl (by omega)
 have s3:rdigits t 17 2=if [c13,c14].all dig=true then (dec [c13,c14],true) else (0,false):=rdigits_cut (by rw [hot];rfl) rfl (by omega)
 have g9:(l.getD 9 0)=c9:=by rw [hl];rfl
 have g12:(l.getD 12 0)=c12:=by rw [hl];rfl
 have g13:(t.getD 13 0)=c9:=by rw [hot];rfl
 have g16:(t.getD 16 0)=c12:=by rw [hot];rfl
 have hck:rclock t 11=rclock l 7:=by
  unfold rclock
  simp only [Nat.reduceAdd]
  rw [p1,p2,p3,s1,s2,s3,g9,g12,g13,g16]
 have hlen:t.length=20:=by rw [hot];rfl
 have hd4:(t.getD 4 0)=45:=by rw [hot];rfl
 have hd7:(t.getD 7 0)=45:=by rw [hot];rfl
 have hd10:(t.getD 10 0)=84:=by rw [hot];rfl
 constructor
 ·intro sec hs hd hi
  have hdig:[e1,e2].all dig=true:=by
   cases h:[e1,e2].all dig with
   | true=>rfl
   | false=>rw [hdd,if_neg (by rw [h];simp)] at hd;cases hd
  rw [hdd,if_pos hdig] at hi ⊢
  dsimp only at hi ⊢
  have hs2:=hs
  unfold rclock at hs2
  simp only [Nat.reduceAdd] at hs2
  split at hs2
  ·cases hs2
  ·next hn=>
   have hn1:¬ (rdigits l 7 2).2=false:=fun e=>hn (.inl e)
   have hn2:¬ (rdigits l 10 2).2=false:=fun e=>hn (.inr (.inl e))
   have hn3:¬ (rdigits l 13 2).2=false:=fun e=>hn (.inr (.inr (.inl e)))
   have a1:[c7,c8].all dig=true:=by
    cases h:[c7,c8].all dig with
    | true=>rfl
    | false=>rw [p1,if_neg (by rw [h];simp)] at hn1;exact absurd rfl hn1
   have a2:[c10,c11].all dig=true:=by
    cases h:[c10,c11].all dig with
    | true=>rfl
    | false=>rw [p2,if_neg (by rw [h];simp)] at hn2;exact absurd rfl hn2
   have a3:[c13,c14].all dig=true:=by
    cases h:[c13,c14].all dig with
    | true=>rfl
    | false=>rw [p3,if_neg (by rw [h];simp)] at hn3;exact absurd rfl hn3
   rw [p1,p2,p3,if_pos a1,if_pos a2,if_pos a3] at hn hs2
   rw [g9,g12] at hn
   dsimp only at hn hs2
   have b9:c9=58:=UInt8.toNat_inj.1 (by have:¬ ¬ c9.toNat=58:=fun e=>hn (.inr (.inr (.inr (.inl e))));simpa using this)
   have b12:c12=58:=UInt8.toNat_inj.1 (by have:¬ ¬ c12.toNat=58:=fun e=>hn (.inr (.inr (.inr (.inr (.inl e)))));simpa using this)
   have hsec:=Option.some.inj hs2
   have hH:dec [c7,c8]<=23:=by omega
   have hMi:dec [c10,c11]<=59:=by omega
   have hS:dec [c13,c14]<=59:=by omega
   have htx:t=rtext y M (dec [e1,e2]) sec ++ [90]:=by
    rw [hot]
    unfold rtext stampText
    rw [show sec / 3600=dec [c7,c8] by omega,show sec / 60 % 60=dec [c10,c11] by omega,show sec % 60=dec [c13,c14] by omega,two_dig a1,two_dig a2,two_dig a3,two_dig hdig,b9,b12]
    simp
   refine ⟨htx,?_⟩
   rw [htx]
   unfold rtext
   have hday:=(risDay_iff _ _ _).1 hi
   have:=isTime_at (y:=y) (mo:=M) (d:=dec [e1,e2]) (h:=sec / 3600) (mi:=sec / 60 % 60) (s:=sec % 60) (fr:=[]) (by
    obtain ⟨d1,d2,d3,d4,d5,d6⟩:=hday
    dsimp only at d1 d2 d3 d4 d5 d6
    simp only [exists_,isYear,Bool.and_eq_true,decide_eq_true_eq]
    refine ⟨⟨⟨⟨⟨⟨⟨⟨d1,d2⟩,d3⟩,d4⟩,d5⟩,d6⟩,?_⟩,?_⟩,?_⟩<;>omega) (.inl rfl)
   simpa using this
 ·intro hb
  have hr:readTime t=none:=by
   rw [<-rtime_eq]
   unfold rtime
   rw [if_neg (by rw [hlen,hd4,hd7,hd10];decide),hck]
   cases hk:rclock l 7 with
   | none=>rfl
   | some sec=>
    dsimp only
    rw [q0,q5,q8,if_pos]
    rcases hb with hb | hb | hb
    ·rw [hk] at hb;cases hb
    ·exact .inr (.inr (.inl hb))
    ·exact .inr (.inr (.inr hb))
  unfold isTime
  rw [hr]
  rfl
theorem sixteen {l:List UInt8} (h:16<=l.length):∃ c0 c1 c2 c3 c4 c5 c6 c7 c8 c9 c10 c11 c12 c13 c14 c15 r,l=c0 :: c1 :: c2 :: c3 :: c4 :: c5 :: c6 :: c7 :: c8 :: c9 :: c10 :: c11 :: c12 :: c13 :: c14 :: c15 :: r:=by
 match l,h with
 | c0 :: c1 :: c2 :: c3 :: c4 :: c5 :: c6 :: c7 :: c8 :: c9 :: c10 :: c11 :: c12 :: c13 :: c14 :: c15 :: r,_=>exact ⟨_,_,_,_,_,_,_,_,_,_,_,_,_,_,_,_,_,rfl⟩
theorem cut_run (l:List UInt8):(Lib.cut l [32]).1=l.takeWhile (fun c=>!decide (c.toNat=32))/\((Lib.cut l [32]).2.2=false ↔ (l.takeWhile (fun c=>!decide (c.toNat=32))).length=l.length):=by
 rw [cut_eq]
 have h32:∀ c:UInt8,c.toNat=32 ↔ c=32:=fun c=>⟨fun e=>UInt8.toNat_inj.1 (by rw [e];rfl),fun e=>by rw [e];rfl⟩
 have hp:∀ a:List UInt8,32 ∉ a->∀ r,(a ++ 32 :: r).takeWhile (fun c=>!decide (c.toNat=32))=a:=by
  intro a
  induction a with
  | nil=>intro _ r;rfl
  | cons c t ih=>
   intro hn r
   rw [List.cons_append,List.takeWhile_cons,if_pos (by have:¬ c.toNat=32:=fun e=>hn (by rw [(h32 c).1 e];exact List.mem_cons_self ..);simp [this]),ih (fun e=>hn (List.mem_cons_of_mem _ e))]
 cases hb:(cutB 32 l).2.2 with
 | true=>
  have h1:=cutB_some 32 l hb
  have h2:=cutB_not 32 l
  generalize (cutB 32 l).1=a at h1 h2 ⊢
  rw [h1,hp a h2]
  simp
 | false=>
  have h1:=cutB_none 32 l hb
  have h2:=cutB_not 32 l
  rw [h1] at h2 ⊢
  dsimp only at h2 ⊢
  rw [takeWhile_all _ _ (fun c hc=>by have:¬ c.toNat=32:=fun e=>h2 (by rw [<-(h32 c).1 e];exact hc);simp [this])]
  simp
theorem stamp_short {l:List UInt8} {y:Nat} (h:l.length < 16∨¬ (l.getD 15 0).toNat=32):stamp l y=([],[],0):=by
 unfold stamp
 rw [if_pos h]
theorem stamp_time {l:List UInt8} {y:Nat} (h:(oldTime (l.take 15) y).2=false):stamp l y=([],[],0):=by
 unfold stamp
 by_cases h1:l.length < 16∨¬ (l.getD 15 0).toNat=32
 ·rw [if_pos h1]
 ·rw [if_neg h1,if_pos (.inl h)]
theorem stamp_host {l:List UInt8} {y:Nat} (h:(Lib.cut (l.drop 16) [32]).2.2=false∨word (Lib.cut (l.drop 16) [32]).1 32=false):stamp l y=([],[],0):=by
 unfold stamp
 by_cases h1:l.length < 16∨¬ (l.getD 15 0).toNat=32
 ·rw [if_pos h1]
 ·rw [if_neg h1,if_pos (.inr h)]
theorem stamp_yes {l:List UInt8} {y:Nat} (h1:¬ (l.length < 16∨¬ (l.getD 15 0).toNat=32)) (h2:(oldTime (l.take 15) y).2=true) (h3:(Lib.cut (l.drop 16) [32]).2.2=true) (h4:word (Lib.cut (l.drop 16) [32]).1 32=true) :
  stamp l y=((oldTime (l.take 15) y).1,(Lib.cut (l.drop 16) [32]).1,16+(Lib.cut (l.drop 16) [32]).1.length+1):=by
 unfold stamp
 rw [if_neg h1,if_neg (by rw [h2,h3,h4];simp)]
end Go.Hm
namespace Go.Proofs.YtdlhbmncbmconaaGreatDoor
open Go.RowKit Go.Sort
attribute [local go_sem] app_mk rcut rbyte
set_option maxRecDepth 20000 in
set_option maxHeartbeats 4000000 in
theorem rhead_any (l:List UInt8) (hl:l.length<=1000000000000000) (y:Nat) (hy:1<=y) (hy2:y<=9999) (w:World):Calls Tryz.prog 192 #[.string ⟨l.toArray⟩,.int .i64 y] w fun e w'=>e=.returned (tagV (Hm.stamp l y))/\∃ n,w'=w.drewN n:=by
 by_cases h16:(l.length:Int) < 16
 ·have HE:Hid (Hm.stamp l y=([],[],0)):=Hm.stamp_short (.inl (by omega))
  rw [HE.out]
  go_enter Tryz.func192,Tryz.ntmps192
  go_wp2
  go_ret3
  exact ⟨rfl,0,rfl⟩
 obtain ⟨c0,c1,c2,c3,c4,c5,c6,c7,c8,c9,c10,c11,c12,c13,c14,c15,r,hc⟩:=Hm.sixteen (l:=l) (by omega)
 have hi3:3 < l.length:=by omega
 have hi4:4 < l.length:=by omega
 have hi6:6 < l.length:=by omega
 have hi15:15 < l.length:=by omega
 have e3:l[3]=c3:=by simp [hc]
 have e4:l[4]=c4:=by simp [hc]
 have e6:l[6]=c6:=by simp [hc]
 have e15:l[15]=c15:=by simp [hc]
 have d4:l.getD 4 0=c4:=by rw [hc];rfl
 have d15:l.getD 15 0=c15:=by rw [hc];rfl
 have o3:(l.take 15).getD 3 0=c3:=by rw [hc];rfl
 have o4:(l.take 15).getD 4 0=c4:=by rw [hc];rfl
 have o6:(l.take 15).getD 6 0=c6:=by rw [hc];rfl
 have o33:(l.take 15).take 3=l.take 3:=by rw [hc];rfl
 have hold:=Hm.old_iff hc hy hy2
 have HC:=show Hid _ from hc
 clear hc
 have HT:Hid ((Hm.month (l.take 3)=0∨¬ c3.toNat=32∨¬ c6.toNat=32∨c4.toNat=48)->Hm.stamp l y=([],[],0)):=fun h=>Hm.stamp_time (by
  unfold Hm.oldTime
  rw [o33,o3,o4,o6,if_pos h])
 have HT2:Hid ((Hm.rclock l 7=none∨(Hm.rdd l).2=false∨Hm.risDay y (Hm.month (l.take 3)) (Hm.rdd l).1=false)->Hm.stamp l y=([],[],0)):=fun h=>Hm.stamp_time (by
  unfold Hm.oldTime
  split
  ·rfl
  ·exact hold.2 h)
 have HT3:Hid (∀ sec,Hm.rclock l 7=some sec->(Hm.rdd l).2=true->Hm.risDay y (Hm.month (l.take 3)) (Hm.rdd l).1=true->c3.toNat=32->c6.toNat=32->¬ c4.toNat=48->Hm.oldTime (l.take 15) y=(Hm.rtext y (Hm.month (l.take 3)) (Hm.rdd l).1 sec ++ [90],true)):=fun sec a1 a2 a3 a4 a5 a6=>by
  obtain ⟨b1,b2⟩:=hold.1 sec a1 a2 a3
  unfold Hm.oldTime
  rw [o33,o3,o4,o6,if_neg (by
   have:=(Hm.risDay_iff _ _ _).1 a3
   obtain ⟨_,_,q,_⟩:=this
   dsimp only at q
   omega),b1,<-b1,b2]
 clear hold o3 o4 o6 o33
 by_cases k3:(c3.toNat:Int)=32
 case neg=>
  have HE:Hid (Hm.stamp l y=([],[],0)):=HT.out (.inr (.inl (by omega)))
  have k3b:((c3.toNat:Int) != 32)=true:=by simp;omega
  rw [HE.out]
  go_enter Tryz.func192,Tryz.ntmps192
  go_wp2
  go_ret3
  exact ⟨rfl,0,rfl⟩
 have k3b:((c3.toNat:Int) != 32)=false:=by simp;omega
 by_cases k6:(c6.toNat:Int)=32
 case neg=>
  have HE:Hid (Hm.stamp l y=([],[],0)):=HT.out (.inr (.inr (.inl (by omega))))
  have k6b:((c6.toNat:Int) != 32)=true:=by simp;omega
  rw [HE.out]
  clear k3
  go_enter Tryz.func192,Tryz.ntmps192
  go_wp2
  go_ret3
  exact ⟨rfl,0,rfl⟩
 have k6b:((c6.toNat:Int) != 32)=false:=by simp;omega
 by_cases k15:(c15.toNat:Int)=32
 case neg=>
  have HE:Hid (Hm.stamp l y=([],[],0)):=Hm.stamp_short (.inr (by rw [d15];omega))
  have k15b:((c15.toNat:Int) != 32)=true:=by simp;omega
  rw [HE.out]
  clear k3 k6
  go_enter Tryz.func192,Tryz.ntmps192
  go_wp2
  go_ret3
  exact ⟨rfl,0,rfl⟩
 have k15b:((c15.toNat:Int) != 32)=false:=by simp;omega
 have K3:Hid (c3.toNat=32):=by show _=_;omega
 have K6:Hid (c6.toNat=32):=by show _=_;omega
 have HS1:Hid (¬ (l.length < 16∨¬ (l.getD 15 0).toNat=32)):=by show ¬ _;rw [d15];omega
 clear k3 k6 k15
 -- the parts
 obtain ⟨dd,hdd⟩:∃ dd,Hm.rdd l=dd:=⟨_,rfl⟩
 obtain ⟨ck,hck⟩:∃ ck,Hm.rclock l 7=ck:=⟨_,rfl⟩
 obtain ⟨M,hM⟩:∃ M,Hm.month (l.take 3)=M:=⟨_,rfl⟩
 have hM12:=Hm.month_le (l.take 3)
 obtain ⟨isd,hisd⟩:∃ b,Hm.risDay y M dd.1=b:=⟨_,rfl⟩
 obtain ⟨E,hE⟩:∃ E,((l.drop 16).takeWhile fun c=>!decide (c.toNat=32)).length=E:=⟨_,rfl⟩
 have hEl:16+E<=l.length:=(Hm.run_at _ l 16 E (by omega) hE).1
 obtain ⟨hcr1,hcr2⟩:=Hm.cut_run (l.drop 16)
 have htk:=Hm.take_run (fun c:UInt8=>!decide (c.toNat=32)) (l.drop 16)
 rw [hE] at htk hcr2
 rw [<-htk] at hcr1
 rw [List.length_drop] at hcr2
 obtain ⟨wd,hwd⟩:∃ b,Hm.word ((l.drop 16).take E) 32=b:=⟨_,rfl⟩
 rw [hdd,hck,hM,hisd] at HT2
 rw [hdd,hck,hM,hisd] at HT3
 rw [hM] at HT hM12
 have HW:Hid (wd=false∨16+E=l.length->Hm.stamp l y=([],[],0)):=fun h=>Hm.stamp_host (by
  rcases h with h | h
  ·right;rw [hcr1,hwd,h]
  ·left;exact hcr2.2 (by omega))
 have HY:Hid (∀ T,Hm.oldTime (l.take 15) y=(T,true)->wd=true->¬ 16+E=l.length->Hm.stamp l y=(T,(l.drop 16).take E,16+E+1)):=fun T h1 h2 h3=>by
  have hlen:((l.drop 16).take E).length=E:=by rw [List.length_take,List.length_drop];omega
  rw [Hm.stamp_yes HS1.out (by rw [h1]) (by
   cases hb:(Lib.cut (l.drop 16) [32]).2.2 with
   | true=>rfl
   | false=>have:=hcr2.1 hb;omega) (by rw [hcr1,hwd,h2]),h1,hcr1,hlen]
 have D1:Hid (∀ w,Calls Tryz.prog 190 #[.string ⟨l.toArray⟩,.int .i64 4,.int .i64 2] w fun e w'=>e=.returned (.tuple #[.int .i64 (Hm.rdigits l 4 2).1,.bool (Hm.rdigits l 4 2).2])/\w'=w):=fun w=>rdigits_any l hl 4 2 (by omega) (by omega) w
 have D2:Hid (∀ w,Calls Tryz.prog 190 #[.string ⟨l.toArray⟩,.int .i64 5,.int .i64 1] w fun e w'=>e=.returned (.tuple #[.int .i64 (Hm.rdigits l 5 1).1,.bool (Hm.rdigits l 5 1).2])/\w'=w):=fun w=>rdigits_any l hl 5 1 (by omega) (by omega) w
 have CK:Hid (∀ w,Calls Tryz.prog 194 #[.string ⟨l.toArray⟩,.int .i64 7] w fun e w'=>e=.returned (optV ck)/\w'=w):=fun w=>by
  have:=rclock_any l hl 7 (by omega) w
  rwa [hck] at this
 have MO:Hid (∀ w,Calls Tryz.prog 218 #[.string ⟨(l.take 3).toArray⟩] w fun e w'=>e=.returned (.int .i64 M)/\w'=w):=fun w=>by
  have:=rmonth_any (l.take 3) w
  rwa [hM] at this
 have IY:Hid (∀ w,Calls Tryz.prog 195 #[.int .i64 y,.int .i64 M,.int .i64 dd.1] w fun e w'=>e=.returned (.bool isd)/\w'=w):=fun w=>by
  have:=risDay_any y M dd.1 w
  rwa [hisd] at this
 have PA:Hid (∀ w,Calls Tryz.prog 191 #[.string ⟨l.toArray⟩,.int .i64 16] w fun e w'=>e=.returned (.int .i64 ((16:Int)+(E:Int)))/\w'=w):=fun w=>by
  have:=rpart_any l hl 16 (by omega) w
  rw [hE] at this
  have e:(((16+E:Nat)):Int)=(16:Int)+(E:Int):=by omega
  rw [e] at this
  exact this
 have IP:Hid (∀ w,Calls Tryz.prog 162 #[.string ⟨((l.drop 16).take E).toArray⟩,.int .i64 32] w fun e w'=>e=.returned (.bool wd)/\w'=w):=fun w=>by
  have:=rIsPlain_any ((l.drop 16).take E) (by rw [List.length_take,List.length_drop];omega) 32 (by omega) w
  rwa [hwd] at this
 have hsec:∀ sec,ck=some sec->sec < 86400:=fun sec h=>Hm.rclock_ltk (hck.trans h)
 have SH:Hid (∀ sec,ck=some sec->isd=true->∀ w,Calls Tryz.prog 196 #[.int .i64 y,.int .i64 M,.int .i64 dd.1,.int .i64 sec] w fun e w'=>e=.returned (.tuple #[.string ⟨(Hm.rtext y M dd.1 sec).toArray⟩,.bool true])/\w'=w):=fun sec h1 h2 w=>by
  have h3:=hsec sec h1
  have:=rshifted_any y M dd.1 sec ((Hm.risDay_iff _ _ _).1 (hisd.trans h2)) (by omega) (by omega) w
  rw [Hm.rshifted_none hy hy2 h3] at this
  exact this
 have HRT:Hid (∀ sec,(Hm.rtext y M dd.1 sec).length=19):=fun sec=>Hm.stampText_length _ _ _ _ _ _
 have hdd2:Hm.rdd l=if c4.toNat=32 then Hm.rdigits l 5 1 else Hm.rdigits l 4 2:=by unfold Hm.rdd;rw [d4]
 rw [hdd] at hdd2
 have HDD:=show Hid _ from hdd2
 clear hdd hck hM hisd hE hcr1 hcr2 htk hwd d4 d15 hdd2 hsec
 obtain ⟨V,hV⟩:∃ V,tagV (Hm.stamp l y)=V:=⟨_,rfl⟩
 have HV0:Hid (Hm.stamp l y=([],[],0)->V=.tuple #[.string ⟨#[]⟩,.string ⟨#[]⟩,.int .i64 0]):=fun h=>by rw [<-hV,h];rfl
 have HVY:Hid (∀ T H (n:Nat),Hm.stamp l y=(T,H,n)->V=.tuple #[.string ⟨T.toArray⟩,.string ⟨H.toArray⟩,.int .i64 n]):=fun T H n h=>by rw [<-hV,h];rfl
 rw [hV]
 clear hV
 obtain ⟨b32,hb32⟩:∃ b,((c4.toNat:Int) == 32)=b:=⟨_,rfl⟩
 go_enter Tryz.func192,Tryz.ntmps192
 go_wp2_with fail
 refine (D1.out _).mono ?_
 rintro e w1 ⟨rfl,hw1⟩
 have hw1:=hw1.symm
 subst hw1
 go_upto_if 42 with fail
 go_cut [7,8] (fun s7 s8 wc=>s7=.int .i64 (dd.1:Int)/\s8=.bool dd.2/\wc=w)
 case first=>
  cases b32 with
  | true=>
   have HQ:Hid (Hm.rdigits l 5 1=dd):=by show _=_;rw [HDD.out,if_pos (by have:=beq_iff_eq.1 hb32;omega)]
   rw [HQ.out] at D2
   go_wp2_with fail
   refine (D2.out _).mono ?_
   rintro e w1 ⟨rfl,hw1⟩
   have hw1:=hw1.symm
   subst hw1
   go_wp2
   go_meet
   case rel=>exact ⟨rfl,rfl,rfl⟩
  | false=>
   have HQ:Hid (Hm.rdigits l 4 2=dd):=by show _=_;rw [HDD.out,if_neg (by have:=beq_eq_false_iff_ne.1 hb32;omega)]
   go_wp2
   go_meet
   case rel=>exact ⟨by rw [HQ.out],by rw [HQ.out],rfl⟩
 case rest=>
  obtain ⟨rfl,rfl,hwc⟩:=hcut
  have hwc:=hwc.symm
  subst hwc
  clear hb32 HDD D1 D2
  obtain ⟨D,db⟩:=dd
  simp only at IY SH HRT HT2 HT3
  have hunf:optV ck=match ck with | none=>.tuple #[.int .i64 0,.bool false] | some s=>.tuple #[.int .i64 s,.bool true]:=by cases ck<;>rfl
  go_wp2_with fail
  refine (CK.out _).mono ?_
  rintro e w1 ⟨rfl,hw1⟩
  have hw1:=hw1.symm
  subst hw1
  cases ck with
  | none=>
   rw [hunf]
   clear hunf
   have HE:Hid (V=.tuple #[.string ⟨#[]⟩,.string ⟨#[]⟩,.int .i64 0]):=HV0.out (HT2.out (.inl rfl))
   go_wp2_with fail
   refine (MO.out _).mono ?_
   rintro e w1 ⟨rfl,hw1⟩
   have hw1:=hw1.symm
   subst hw1
   go_wp2_with fail
   refine (IY.out _).mono ?_
   rintro e w1 ⟨rfl,hw1⟩
   have hw1:=hw1.symm
   subst hw1
   cases db
   ·go_wp2
    go_ret3
    exact ⟨by rw [HE.out];rfl,0,rfl⟩
   ·go_wp2
    go_ret3
    exact ⟨by rw [HE.out];rfl,0,rfl⟩
  | some sec=>
   rw [hunf]
   clear hunf
   go_wp2_with fail
   refine (MO.out _).mono ?_
   rintro e w1 ⟨rfl,hw1⟩
   have hw1:=hw1.symm
   subst hw1
   go_wp2_with fail
   refine (IY.out _).mono ?_
   rintro e w1 ⟨rfl,hw1⟩
   have hw1:=hw1.symm
   subst hw1
   cases db with
   | false=>
    have HE:Hid (V=.tuple #[.string ⟨#[]⟩,.string ⟨#[]⟩,.int .i64 0]):=HV0.out (HT2.out (.inr (.inl rfl)))
    go_wp2
    go_ret3
    exact ⟨by rw [HE.out];rfl,0,rfl⟩
   | true=>
    cases isd with
    | false=>
     have HE:Hid (V=.tuple #[.string ⟨#[]⟩,.string ⟨#[]⟩,.int .i64 0]):=HV0.out (HT2.out (.inr (.inr rfl)))
     go_wp2
     go_ret3
     exact ⟨by rw [HE.out];rfl,0,rfl⟩
    | true=>
     by_cases k48:(c4.toNat:Int)=48
     ·have HE:Hid (V=.tuple #[.string ⟨#[]⟩,.string ⟨#[]⟩,.int .i64 0]):=HV0.out (HT.out (.inr (.inr (.inr (by omega)))))
      have k48b:((c4.toNat:Int) == 48)=true:=beq_iff_eq.2 k48
      clear k48
      go_wp2
      go_ret3
      exact ⟨by rw [HE.out];rfl,0,rfl⟩
     have k48b:((c4.toNat:Int) == 48)=false:=beq_eq_false_iff_ne.2 k48
     have HOT:Hid (Hm.oldTime (l.take 15) y=(Hm.rtext y M D sec ++ [90],true)):=HT3.out sec rfl rfl rfl K3.out K6.out (by omega)
     clear k48
     go_wp2_with fail
     refine (PA.out _).mono ?_
     rintro e w1 ⟨rfl,hw1⟩
     have hw1:=hw1.symm
     subst hw1
     have hEi:(16:Int)+(E:Int)<=(l.length:Int):=by omega
     have htn:((16:Int)+(E:Int)).toNat=16+E:=by omega
     go_wp2_with fail
     refine (IP.out _).mono ?_
     rintro e w1 ⟨rfl,hw1⟩
     have hw1:=hw1.symm
     subst hw1
     cases wd with
     | false=>
      have HE:Hid (V=.tuple #[.string ⟨#[]⟩,.string ⟨#[]⟩,.int .i64 0]):=HV0.out (HW.out (.inl rfl))
      go_wp2
      go_ret3
      exact ⟨by rw [HE.out];rfl,0,rfl⟩
     | true=>
      by_cases hfin:16+E=l.length
      ·have HE:Hid (V=.tuple #[.string ⟨#[]⟩,.string ⟨#[]⟩,.int .i64 0]):=HV0.out (HW.out (.inr hfin))
       have hfb:((16:Int)+(E:Int) == (l.length:Int))=true:=beq_iff_eq.2 (by omega)
       clear hfin
       go_wp2
       go_ret3
       exact ⟨by rw [HE.out];rfl,0,rfl⟩
      ·have HE:Hid (V=.tuple #[.string ⟨(Hm.rtext y M D sec ++ [90]).toArray⟩,.string ⟨((l.drop 16).take E).toArray⟩,.int .i64 ((16:Int)+(E:Int)+1)]):=by
        have:=HVY.out _ _ _ (HY.out _ HOT.out rfl hfin)
        show _=_
        rw [this]
        have e:((16+E+1:Nat):Int)=(16:Int)+(E:Int)+1:=by omega
        rw [e]
       have hfb:((16:Int)+(E:Int) == (l.length:Int))=false:=beq_eq_false_iff_ne.2 (by omega)
       have hrt:=HRT.out sec
       have SHN:=show Hid _ from SH.out sec (by first | rfl | trivial) (by first | rfl | trivial)
       generalize Hm.rtext y M D sec=RT at HE hrt SHN
       clear hfin
       go_wp2_with fail
       refine (SHN.out _).mono ?_
       rintro e w1 ⟨rfl,hw1⟩
       have hw1:=hw1.symm
       subst hw1
       have hcl:¬ 9223372036854775807 < RT.length+1:=by omega
       go_wp2_with fail
       go_quiet (fail)
       go_wp2
       go_ret3
       exact ⟨by rw [HE.out];rfl,_,rfl⟩
end Go.Proofs.YtdlhbmncbmconaaGreatDoor
namespace Go.Hm
theorem stamp_zero {l:List UInt8} {y:Nat} (h:(stamp l y).2.2=0):stamp l y=([],[],0):=by
 unfold stamp at h ⊢
 by_cases h1:l.length < 16∨¬ (l.getD 15 0).toNat=32
 ·rw [if_pos h1]
 ·rw [if_neg h1] at h ⊢
  by_cases h2:(oldTime (l.take 15) y).2=false∨(Lib.cut (l.drop 16) [32]).2.2=false∨word (Lib.cut (l.drop 16) [32]).1 32=false
  ·rw [if_pos h2]
  ·rw [if_neg h2] at h
   simp at h
theorem readOld_eq (f s:Int) (l:List UInt8) (y:Nat):readOld (Msg.of f s) l y=⟨f,s,(stamp l y).1,(stamp l y).2.1,(tag (l.drop (stamp l y).2.2)).1,(tag (l.drop (stamp l y).2.2)).2.1,[],[],l.drop ((stamp l y).2.2+(tag (l.drop (stamp l y).2.2)).2.2)⟩:=by
 unfold readOld
 by_cases h:0 < (stamp l y).2.2
 ·rw [if_pos h,List.drop_drop]
  rfl
 ·rw [if_neg h,stamp_zero (by omega)]
  simp [Msg.of]
end Go.Hm
namespace Go.Proofs.YtdlhbmncbmconaaGreatDoor
open Go.RowKit Go.Sort
attribute [local go_sem] app_mk rcut rbyte
theorem size_rmsg:(Tryz.prog.info? 80).map (·.size)=some 9:=by kernel_rfl
set_option maxRecDepth 20000 in
set_option maxHeartbeats 1000000 in
theorem rreadOld_any (l:List UInt8) (hl:l.length<=1000000000000000) (y:Nat) (hy:1<=y) (hy2:y<=9999) (w:World) :
  Calls Tryz.prog 158 #[.string ⟨l.toArray⟩,.int .i64 y] w fun e w'=>e=.returned (.agg (msgCells (Hm.readOld (Hm.Msg.of 0 0) l y)))/\Below w.heap.size w w':=by
 rw [Hm.readOld_eq]
 have HH:=show Hid _ from rhead_any l hl y hy hy2
 have hn:=Hm.stamp_le l y
 generalize Hm.stamp l y=S at HH hn ⊢
 obtain ⟨T,H,n⟩:=S
 dsimp only at hn ⊢
 have HG:=show Hid _ from rtag_any (l.drop n) (by rw [List.length_drop];omega)
 have hk:=Hm.tag_le (l.drop n)
 generalize Hm.tag (l.drop n)=G at HG hk ⊢
 obtain ⟨A,P,k⟩:=G
 dsimp only at hk ⊢
 rw [List.length_drop] at hk
 unfold tagV at HH HG
 dsimp only at HH HG
 have hni:(n:Int)<=(l.length:Int):=by omega
 have hrest:(l.drop n).take (l.length - n)=l.drop n:=List.take_of_length_le (by rw [List.length_drop];omega)
 go_enter Tryz.func158,Tryz.ntmps158
 go_wp2_with fail
 refine (HH.out _).mono ?_
 rintro e w1 ⟨rfl,hb0⟩
 have hb:=drew_below hb0
 obtain ⟨r0,r1⟩:=two_blocks hb
 have HB1:Hid (Below w.heap.size w w1):=((((Below.refl _ _).alloc (Nat.le_refl _) _).alloc (by simp) _).trans (hb.mono (by simp;omega)))
 have hz1:w.heap.size+2<=w1.heap.size:=by have:=hb.size;simpa using this
 have HR0:Hid (w1.heap[w.heap.size]?=_):=r0
 have HR1:Hid (w1.heap[w.heap.size+1]?=_):=r1
 clear hb hb0 r0 r1
 go_wp2_with (first
  | (refine Hw.wpList_store_fieldP rfl _ _ _ rfl rfl (w.heap.size+1) 2 _ rfl rfl _ _ #[.int .i64 0,.int .i64 0,.string ⟨T.toArray⟩,.string ⟨#[]⟩,.string ⟨#[]⟩,.string ⟨#[]⟩,.string ⟨#[]⟩,.string ⟨#[]⟩,.string ⟨#[]⟩] HR1.out size_str (by simp) rfl rfl ?_;intro w2 p2;have P2:Hid (Hw.Put w1 _ _ _ w2):=p2;clear p2)
  | (refine Hw.wpList_store_fieldP rfl _ _ _ rfl rfl (w.heap.size+1) 3 _ rfl rfl _ _ #[.int .i64 0,.int .i64 0,.string ⟨T.toArray⟩,.string ⟨H.toArray⟩,.string ⟨#[]⟩,.string ⟨#[]⟩,.string ⟨#[]⟩,.string ⟨#[]⟩,.string ⟨#[]⟩] P2.out.row size_str (by simp) rfl rfl ?_;intro w3 p3;have P3:Hid (Hw.Put w2 _ _ _ w3):=p3;clear p3)
  | fail)
 refine (HG.out _).mono ?_
 rintro e w4 ⟨rfl,hw4⟩
 have hw4:=hw4.symm
 subst hw4
 have hnk:(n:Int)+(k:Int)<=(l.length:Int):=by omega
 have hnk2:((n:Int)+(k:Int)).toNat=n+k:=by omega
 have hrest2:(l.drop (n+k)).take (l.length - (n+k))=l.drop (n+k):=List.take_of_length_le (by rw [List.length_drop];omega)
 go_wp2_with (first
  | (refine Hw.wpList_store_fieldP rfl _ _ _ rfl rfl (w.heap.size+1) 4 _ rfl rfl _ _ #[.int .i64 0,.int .i64 0,.string ⟨T.toArray⟩,.string ⟨H.toArray⟩,.string ⟨A.toArray⟩,.string ⟨#[]⟩,.string ⟨#[]⟩,.string ⟨#[]⟩,.string ⟨#[]⟩] P3.out.row size_str (by simp) rfl rfl ?_;intro w4 p4;have P4:Hid (Hw.Put w3 _ _ _ w4):=p4;clear p4)
  | (refine Hw.wpList_store_fieldP rfl _ _ _ rfl rfl (w.heap.size+1) 5 _ rfl rfl _ _ #[.int .i64 0,.int .i64 0,.string ⟨T.toArray⟩,.string ⟨H.toArray⟩,.string ⟨A.toArray⟩,.string ⟨P.toArray⟩,.string ⟨#[]⟩,.string ⟨#[]⟩,.string ⟨#[]⟩] P4.out.row size_str (by simp) rfl rfl ?_;intro w5 p5;have P5:Hid (Hw.Put w4 _ _ _ w5):=p5;clear p5)
  | (refine Hw.wpList_store_fieldP rfl _ _ _ rfl rfl (w.heap.size+1) 8 _ rfl rfl _ _ #[.int .i64 0,.int .i64 0,.string ⟨T.toArray⟩,.string ⟨H.toArray⟩,.string ⟨A.toArray⟩,.string ⟨P.toArray⟩,.string ⟨#[]⟩,.string ⟨#[]⟩,.string ⟨(l.drop (n+k)).toArray⟩] P5.out.row size_str (by simp) rfl rfl ?_;intro w6 p6;have P6:Hid (Hw.Put w5 _ _ _ w6):=p6;clear p6)
  | (refine wpList_load_row rfl _ _ rfl (w.heap.size+1) rfl _ _ _ _ P6.out.row Tryz.underlying80 rfl size_rmsg ?_)
  | (refine Hw.wpList_store_rowP rfl _ _ _ rfl rfl w.heap.size _ rfl rfl _ _ (((P6.out.other _ (by omega)).trans ((P5.out.other _ (by omega)).trans ((P4.out.other _ (by omega)).trans ((P3.out.other _ (by omega)).trans ((P2.out.other _ (by omega)).trans HR0.out)))))) size_rmsg rfl rfl ?_;intro w7 p7;have P7:Hid (Hw.Put w6 _ _ _ w7):=p7;clear p7))
 refine bodyPost_ret (results_cell_row Tryz.results158 _ _ _ _ _ _ _ rfl P7.out.row Tryz.underlying80 rfl size_rmsg) rfl ⟨rfl,?_⟩
 exact (((((HB1.out.trans (P2.out.below (by omega))).trans (P3.out.below (by omega))).trans (P4.out.below (by omega))).trans (P5.out.below (by omega))).trans (P6.out.below (by omega))).trans (P7.out.below (by omega))
end Go.Proofs.YtdlhbmncbmconaaGreatDoor
namespace Go.Proofs.YtdlhbmncbmconaaGreatDoor
open Go.RowKit Go.Sort
attribute [local go_sem] app_mk rcut rbyte
set_option maxRecDepth 20000 in
set_option maxHeartbeats 4000000 in
theorem message_any (m:Hm.Msg) (w:World):Calls Tryz.prog 112 #[.agg (msgCells m)] w fun r w'=>r=.returned (.agg (msgCells m))/\Below w.heap.size w w':=by
 obtain ⟨f,s,t,h1,h2,h3,h4,d,x⟩:=m
 unfold msgCells
 dsimp only
 go_enter Tryz.func112,Tryz.ntmps112
 go_wp2_with (first
  | (refine Hw.wpList_store_rowP rfl _ _ _ rfl rfl (w.heap.size+1) _ rfl rfl _ _ (alloc2_new _ _ _) size_msg rfl rfl ?_;intro w8 p8;have P8:Hid (Hw.Put _ _ _ _ w8):=p8;clear p8))
 refine bodyPost_ret (results_cell_row Tryz.results112 _ _ _ _ _ _ _ rfl P8.out.row Tryz.underlying29 rfl size_msg) rfl ⟨rfl,(((Below.refl _ _).alloc (Nat.le_refl _) _).alloc (by simp) _).trans (P8.out.below (by omega))⟩
end Go.Proofs.YtdlhbmncbmconaaGreatDoor

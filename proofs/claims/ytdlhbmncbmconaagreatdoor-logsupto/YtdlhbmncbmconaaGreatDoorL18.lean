/- Pressed by program out of Cb. -/
import Derived.Test.YtdlhbmncbmconaaGreatDoorL17
import Derived.Deep.DeepCutAuto
namespace Go.Hm
theorem rclock_def (l:List UInt8) (a:Nat):rclock l a=if (rdigits l a 2).2=false∨(rdigits l (a+3) 2).2=false∨(rdigits l (a+6) 2).2=false∨¬ (l.getD (a+2) 0).toNat=58∨¬ (l.getD (a+5) 0).toNat=58∨23 < (rdigits l a 2).1∨59 < (rdigits l (a+3) 2).1∨59 < (rdigits l (a+6) 2).1 then none else
 some (3600 * (rdigits l a 2).1+60 * (rdigits l (a+3) 2).1+(rdigits l (a+6) 2).1):=rfl
theorem rdigits_len {l:List UInt8} {a n:Nat} (h:(rdigits l a n).2=true):a+n<=l.length:=(rdigits_ok h).1
end Go.Hm
namespace Go.Proofs.YtdlhbmncbmconaaGreatDoor
open Go.RowKit Go.Sort
attribute [local go_sem] app_mk rcut rbyte
def optV:Option Nat->Value
 | none=>.tuple #[.int .i64 0,.bool false]
 | some n=>.tuple #[.int .i64 n,.bool true]
set_option maxRecDepth 20000 in
set_option maxHeartbeats 2000000 in
theorem rclock_any (l:List UInt8) (hl:l.length<=1000000000000000) (a:Nat) (ha:a<=100) (w:World):Calls Tryz.prog 194 #[.string ⟨l.toArray⟩,.int .i64 a] w fun e w'=>e=.returned (optV (Hm.rclock l a))/\w'=w:=by
 have D1:Hid (∀ w,Calls Tryz.prog 190 #[.string ⟨l.toArray⟩,.int .i64 a,.int .i64 2] w fun e w'=>e=.returned (.tuple #[.int .i64 (Hm.rdigits l a 2).1,.bool (Hm.rdigits l a 2).2])/\w'=w):=fun w=>rdigits_any l hl a 2 (by omega) (by decide) w
 have D2:Hid (∀ w,Calls Tryz.prog 190 #[.string ⟨l.toArray⟩,.int .i64 ((a:Int)+3),.int .i64 2] w fun e w'=>e=.returned (.tuple #[.int .i64 (Hm.rdigits l (a+3) 2).1,.bool (Hm.rdigits l (a+3) 2).2])/\w'=w):=fun w=>by
  have:=rdigits_any l hl (a+3) 2 (by omega) (by decide) w
  rwa [show ((a+3:Nat):Int)=(a:Int)+3 by omega] at this
 have D3:Hid (∀ w,Calls Tryz.prog 190 #[.string ⟨l.toArray⟩,.int .i64 ((a:Int)+6),.int .i64 2] w fun e w'=>e=.returned (.tuple #[.int .i64 (Hm.rdigits l (a+6) 2).1,.bool (Hm.rdigits l (a+6) 2).2])/\w'=w):=fun w=>by
  have:=rdigits_any l hl (a+6) 2 (by omega) (by decide) w
  rwa [show ((a+6:Nat):Int)=(a:Int)+6 by omega] at this
 have hlen:=@Hm.rdigits_len l (a+6) 2
 rw [Hm.rclock_def]
 generalize Hm.rdigits l a 2=r1 at D1
 generalize Hm.rdigits l (a+3) 2=r2 at D2
 generalize Hm.rdigits l (a+6) 2=r3 at D3 hlen
 obtain ⟨h,b1⟩:=r1
 obtain ⟨m,b2⟩:=r2
 obtain ⟨c,b3⟩:=r3
 dsimp only at D1 D2 D3 hlen ⊢
 cases b1
 ·rw [if_pos (.inl rfl)]
  unfold optV
  go_enter Tryz.func194,Tryz.ntmps194
  go_wp2_with fail
  refine (D1.out _).mono ?_
  rintro e w1 ⟨rfl,rfl⟩
  go_wp2_with fail
  refine (D2.out _).mono ?_
  rintro e w2 ⟨rfl,rfl⟩
  go_wp2_with fail
  refine (D3.out _).mono ?_
  rintro e w3 ⟨rfl,rfl⟩
  go_wp2
  go_ret2
  exact ⟨rfl,rfl⟩
 cases b2
 ·rw [if_pos (.inr (.inl rfl))]
  unfold optV
  go_enter Tryz.func194,Tryz.ntmps194
  go_wp2_with fail
  refine (D1.out _).mono ?_
  rintro e w1 ⟨rfl,rfl⟩
  go_wp2_with fail
  refine (D2.out _).mono ?_
  rintro e w2 ⟨rfl,rfl⟩
  go_wp2_with fail
  refine (D3.out _).mono ?_
  rintro e w3 ⟨rfl,rfl⟩
  go_wp2
  go_ret2
  exact ⟨rfl,rfl⟩
 cases b3
 ·rw [if_pos (.inr (.inr (.inl rfl)))]
  unfold optV
  go_enter Tryz.func194,Tryz.ntmps194
  go_wp2_with fail
  refine (D1.out _).mono ?_
  rintro e w1 ⟨rfl,rfl⟩
  go_wp2_with fail
  refine (D2.out _).mono ?_
  rintro e w2 ⟨rfl,rfl⟩
  go_wp2_with fail
  refine (D3.out _).mono ?_
  rintro e w3 ⟨rfl,rfl⟩
  go_wp2
  go_ret2
  exact ⟨rfl,rfl⟩
 have hal:=hlen rfl
 clear hlen
 have i2:(a:Int)+2 < (l.length:Int):=by omega
 have i5:(a:Int)+5 < (l.length:Int):=by omega
 have z2:(0:Int)<=(a:Int)+2:=by omega
 have z5:(0:Int)<=(a:Int)+5:=by omega
 have t2:((a:Int)+2).toNat=a+2:=by omega
 have t5:((a:Int)+5).toNat=a+5:=by omega
 have g2:l.getD (a+2) 0=l[a+2]'(by omega):=by rw [List.getD_eq_getElem?_getD,List.getElem?_eq_getElem (by omega)];rfl
 have g5:l.getD (a+5) 0=l[a+5]'(by omega):=by rw [List.getD_eq_getElem?_getD,List.getElem?_eq_getElem (by omega)];rfl
 rw [g2,g5]
 clear g2 g5
 by_cases q2:(l[a+2]'(by omega)).toNat=58
 rotate_left
 ·rw [if_pos (.inr (.inr (.inr (.inl q2))))]
  unfold optV
  have q2i:¬ ((l[a+2]'(by omega)).toNat:Int)=58:=by omega
  go_enter Tryz.func194,Tryz.ntmps194
  go_wp2_with fail
  refine (D1.out _).mono ?_
  rintro e w1 ⟨rfl,rfl⟩
  go_wp2_with fail
  refine (D2.out _).mono ?_
  rintro e w2 ⟨rfl,rfl⟩
  go_wp2_with fail
  refine (D3.out _).mono ?_
  rintro e w3 ⟨rfl,rfl⟩
  go_wp2
  go_ret2
  exact ⟨rfl,rfl⟩
 have q2i:((l[a+2]'(by omega)).toNat:Int)=58:=by omega
 by_cases q5:(l[a+5]'(by omega)).toNat=58
 rotate_left
 ·rw [if_pos (.inr (.inr (.inr (.inr (.inl q5)))))]
  unfold optV
  have q5i:¬ ((l[a+5]'(by omega)).toNat:Int)=58:=by omega
  go_enter Tryz.func194,Tryz.ntmps194
  go_wp2_with fail
  refine (D1.out _).mono ?_
  rintro e w1 ⟨rfl,rfl⟩
  go_wp2_with fail
  refine (D2.out _).mono ?_
  rintro e w2 ⟨rfl,rfl⟩
  go_wp2_with fail
  refine (D3.out _).mono ?_
  rintro e w3 ⟨rfl,rfl⟩
  go_wp2
  go_ret2
  exact ⟨rfl,rfl⟩
 have q5i:((l[a+5]'(by omega)).toNat:Int)=58:=by omega
 by_cases k1:23 < h
 ·rw [if_pos (.inr (.inr (.inr (.inr (.inr (.inl k1))))))]
  unfold optV
  have k1i:(23:Int) < (h:Int):=by omega
  go_enter Tryz.func194,Tryz.ntmps194
  go_wp2_with fail
  refine (D1.out _).mono ?_
  rintro e w1 ⟨rfl,rfl⟩
  go_wp2_with fail
  refine (D2.out _).mono ?_
  rintro e w2 ⟨rfl,rfl⟩
  go_wp2_with fail
  refine (D3.out _).mono ?_
  rintro e w3 ⟨rfl,rfl⟩
  go_wp2
  go_ret2
  exact ⟨rfl,rfl⟩
 have k1i:¬ (23:Int) < (h:Int):=by omega
 by_cases k2:59 < m
 ·rw [if_pos (.inr (.inr (.inr (.inr (.inr (.inr (.inl k2)))))))]
  unfold optV
  have k2i:(59:Int) < (m:Int):=by omega
  go_enter Tryz.func194,Tryz.ntmps194
  go_wp2_with fail
  refine (D1.out _).mono ?_
  rintro e w1 ⟨rfl,rfl⟩
  go_wp2_with fail
  refine (D2.out _).mono ?_
  rintro e w2 ⟨rfl,rfl⟩
  go_wp2_with fail
  refine (D3.out _).mono ?_
  rintro e w3 ⟨rfl,rfl⟩
  go_wp2
  go_ret2
  exact ⟨rfl,rfl⟩
 have k2i:¬ (59:Int) < (m:Int):=by omega
 by_cases k3:59 < c
 ·rw [if_pos (.inr (.inr (.inr (.inr (.inr (.inr (.inr k3)))))))]
  unfold optV
  have k3i:(59:Int) < (c:Int):=by omega
  go_enter Tryz.func194,Tryz.ntmps194
  go_wp2_with fail
  refine (D1.out _).mono ?_
  rintro e w1 ⟨rfl,rfl⟩
  go_wp2_with fail
  refine (D2.out _).mono ?_
  rintro e w2 ⟨rfl,rfl⟩
  go_wp2_with fail
  refine (D3.out _).mono ?_
  rintro e w3 ⟨rfl,rfl⟩
  go_wp2
  go_ret2
  exact ⟨rfl,rfl⟩
 have k3i:¬ (59:Int) < (c:Int):=by omega
 rw [if_neg (by simp;omega)]
 unfold optV
 go_enter Tryz.func194,Tryz.ntmps194
 go_wp2_with fail
 refine (D1.out _).mono ?_
 rintro e w1 ⟨rfl,rfl⟩
 go_wp2_with fail
 refine (D2.out _).mono ?_
 rintro e w2 ⟨rfl,rfl⟩
 go_wp2_with fail
 refine (D3.out _).mono ?_
 rintro e w3 ⟨rfl,rfl⟩
 go_wp2
 go_ret2
 exact ⟨congrArg Ending.returned (congrArg (fun z=>Value.tuple #[.int .i64 z,.bool true]) (by omega)),rfl⟩
def strOpt:Option (List UInt8)->Value
 | none=>.tuple #[.string ⟨#[]⟩,.bool false]
 | some t=>.tuple #[.string ⟨t.toArray⟩,.bool true]
theorem rpadI (z:Int) (many:Nat) (n:Nat) (hz:z=n) (hn:n<=1000000) (hm:many<=4) (w:World):Calls Tryz.prog 220 #[.int .i64 z,.int .i64 many] w fun e w'=>e=.returned (.string ⟨(rpad many n).toArray⟩)/\w'=w:=by
 subst hz
 exact rpadded_any n many hn hm w
theorem rday_def (y m d s:Int):Hm.rday y m d s=if s < 0 then (Hm.dayBefore y m d,s+86400) else if 86400<=s then (Hm.dayAfter y m d,s - 86400) else ((y,m,d),s):=rfl
theorem days_31 {y m:Int} (h1:1<=m) (h2:m<=12):28<=Hm.daysOf y m/\Hm.daysOf y m<=31:=by
 rw [<-Hm.rlength_eq h1 h2]
 unfold Hm.rlength
 split
 ·split<;>omega
 ·split<;>omega
theorem before_day {y m d:Int} (h:Hm.IsDay (y,m,d)):0<=(Hm.dayBefore y m d).1/\(Hm.dayBefore y m d).1<=9999/\1<=(Hm.dayBefore y m d).2.1/\(Hm.dayBefore y m d).2.1<=12/\1<=(Hm.dayBefore y m d).2.2/\(Hm.dayBefore y m d).2.2<=31:=by
 obtain ⟨h1,h2,h3,h4,h5,h6⟩:=h
 dsimp only at h1 h2 h3 h4 h5 h6
 have hd:=days_31 (y:=y) h3 h4
 unfold Hm.dayBefore
 split
 ·split
  ·have:=days_31 (y:=y - 1) (m:=12) (by decide) (by decide)
   dsimp only
   omega
  ·have:=days_31 (y:=y) (m:=m - 1) (by omega) (by omega)
   dsimp only
   omega
 ·dsimp only
  omega
theorem after_day {y m d:Int} (h:Hm.IsDay (y,m,d)):1<=(Hm.dayAfter y m d).1/\(Hm.dayAfter y m d).1<=10000/\1<=(Hm.dayAfter y m d).2.1/\(Hm.dayAfter y m d).2.1<=12/\1<=(Hm.dayAfter y m d).2.2/\(Hm.dayAfter y m d).2.2<=31:=by
 obtain ⟨h1,h2,h3,h4,h5,h6⟩:=h
 dsimp only at h1 h2 h3 h4 h5 h6
 have hd:=days_31 (y:=y) h3 h4
 unfold Hm.dayAfter
 split
 ·split
  ·dsimp only
   omega
  ·dsimp only
   omega
 ·dsimp only
  omega
theorem rday_day {y m d s:Int} (h:Hm.IsDay (y,m,d)) (h1:-86400<=s) (h2:s < 172800):0<=(Hm.rday y m d s).1.1/\(Hm.rday y m d s).1.1<=10000/\1<=(Hm.rday y m d s).1.2.1/\(Hm.rday y m d s).1.2.1<=12/\1<=(Hm.rday y m d s).1.2.2/\(Hm.rday y m d s).1.2.2<=31/\0<=(Hm.rday y m d s).2/\(Hm.rday y m d s).2 < 86400:=by
 have hb:=before_day h
 have ha:=after_day h
 obtain ⟨k1,k2,k3,k4,k5,k6⟩:=h
 dsimp only at k1 k2 k3 k4 k5 k6
 have hd:=days_31 (y:=y) k3 k4
 rw [rday_def]
 split
 ·dsimp only;omega
 ·split
  ·dsimp only;omega
  ·dsimp only;omega
set_option maxRecDepth 20000 in
set_option maxHeartbeats 4000000 in
theorem rshifted_any (y0 m0 d0 s0:Int) (hday:Hm.IsDay (y0,m0,d0)) (hs0:-86400<=s0) (hs1:s0 < 172800) (w:World) :
  Calls Tryz.prog 196 #[.int .i64 y0,.int .i64 m0,.int .i64 d0,.int .i64 s0] w fun e w'=>e=.returned (strOpt (Hm.rshifted y0 m0 d0 s0))/\w'=w:=by
 have LN:Hid (∀ y m:Int,0<=y->1<=m->m<=12->∀ w,Calls Tryz.prog 219 #[.int .i64 y,.int .i64 m] w fun e w'=>e=.returned (.int .i64 (Hm.daysOf y m))/\w'=w):=fun y m hy h1 h2 w=>by
  have:=rlength_any y m hy w
  rwa [Hm.rlength_eq h1 h2] at this
 have hrd:=rday_day hday hs0 hs1
 have hbd:=before_day hday
 have hsh:Hm.rshifted y0 m0 d0 s0=if (Hm.rday y0 m0 d0 s0).1.1 < 1∨9999 < (Hm.rday y0 m0 d0 s0).1.1 then none else
  some (Hm.stampText (Hm.rday y0 m0 d0 s0).1.1.toNat (Hm.rday y0 m0 d0 s0).1.2.1.toNat (Hm.rday y0 m0 d0 s0).1.2.2.toNat ((Hm.rday y0 m0 d0 s0).2 / 3600).toNat ((Hm.rday y0 m0 d0 s0).2 / 60 % 60).toNat ((Hm.rday y0 m0 d0 s0).2 % 60).toNat):=rfl
 rw [hsh]
 clear hsh
 obtain ⟨k1,k2,k3,k4,k5,k6⟩:=hday
 dsimp only at k1 k2 k3 k4 k5 k6
 have hd31:=days_31 (y:=y0) k3 k4
 obtain ⟨E,hE⟩:∃ E,(if s0 < 0 then (Hm.dayBefore y0 m0 d0,s0+86400) else ((y0,m0,d0),s0))=E:=⟨_,rfl⟩
 obtain ⟨R,hR⟩:∃ R,Hm.rday y0 m0 d0 s0=R:=⟨_,rfl⟩
 rw [hR] at hrd ⊢
 have HE1:=show Hid _ from hE
 have HR1:=show Hid _ from hR
 clear hE hR
 obtain ⟨V,hV⟩:∃ V,strOpt (if R.1.1 < 1∨9999 < R.1.1 then none else some (Hm.stampText R.1.1.toNat R.1.2.1.toNat R.1.2.2.toNat (R.2 / 3600).toNat (R.2 / 60 % 60).toNat (R.2 % 60).toNat))=V:=⟨_,rfl⟩
 rw [hV]
 have HV:=show Hid _ from hV
 clear hV
 go_enter Tryz.func196,Tryz.ntmps196
 go_upto_if 11 with fail
 go_cut [0,1,2,3] (fun a b c e wc=>a=.int .i64 E.1.1/\b=.int .i64 E.1.2.1/\c=.int .i64 E.1.2.2/\e=.int .i64 E.2/\wc=w)
 case first=>
  by_cases h0:s0 < 0
  ·by_cases h1:d0=1
   ·subst h1
    by_cases h2:m0=1
    ·subst h2
     have HE:Hid (E=((y0 - 1,12,Hm.daysOf (y0 - 1) 12),s0+86400)):=by
      show _=_
      rw [<-HE1.out,if_pos h0];rfl
     have L1:=LN.out (y0 - 1) 12 (by omega) (by decide) (by decide)
     have HL:Hid (∀ w,Calls Tryz.prog 219 #[.int .i64 (y0 - 1),.int .i64 12] w fun e w'=>e=.returned (.int .i64 (Hm.daysOf (y0 - 1) 12))/\w'=w):=L1
     clear L1 hrd hbd
     go_wp2_with fail
     refine (HL.out _).mono ?_
     rintro e w1 ⟨rfl,rfl⟩
     go_wp2
     go_meet
     case rel=>exact ⟨by rw [HE.out],by rw [HE.out],by rw [HE.out],by rw [HE.out],rfl⟩
    ·have HE:Hid (E=((y0,m0 - 1,Hm.daysOf y0 (m0 - 1)),s0+86400)):=by
      show _=_
      rw [<-HE1.out,if_pos h0]
      unfold Hm.dayBefore
      rw [if_pos (by omega),if_neg (by omega)]
     have L1:=LN.out y0 (m0 - 1) (by omega) (by omega) (by omega)
     have HL:Hid (∀ w,Calls Tryz.prog 219 #[.int .i64 y0,.int .i64 (m0 - 1)] w fun e w'=>e=.returned (.int .i64 (Hm.daysOf y0 (m0 - 1)))/\w'=w):=L1
     have b1:(m0 - 1 == 0)=false:=by simp;omega
     have b1i:¬ m0 - 1=0:=by omega
     clear L1 hrd hbd
     go_wp2_with fail
     refine (HL.out _).mono ?_
     rintro e w1 ⟨rfl,rfl⟩
     go_wp2
     go_meet
     case rel=>exact ⟨by rw [HE.out],by rw [HE.out],by rw [HE.out],by rw [HE.out],rfl⟩
   ·have HE:Hid (E=((y0,m0,d0 - 1),s0+86400)):=by
     show _=_
     rw [<-HE1.out,if_pos h0]
     unfold Hm.dayBefore
     rw [if_neg (by omega)]
    have b1:(d0 - 1 == 0)=false:=by simp;omega
    have b1i:¬ d0 - 1=0:=by omega
    clear hrd hbd
    go_wp2
    go_meet
    case rel=>exact ⟨by rw [HE.out],by rw [HE.out],by rw [HE.out],by rw [HE.out],rfl⟩
  ·have HE:Hid (E=((y0,m0,d0),s0)):=by
    show _=_
    rw [<-HE1.out,if_neg h0]
   clear hrd hbd
   go_wp2
   go_meet
   case rel=>exact ⟨by rw [HE.out],by rw [HE.out],by rw [HE.out],by rw [HE.out],rfl⟩
 case rest=>
  obtain ⟨rfl,rfl,rfl,rfl,rfl⟩:=hcut
  go_upto_if 28 with fail
  go_cut [0,1,2,3] (fun a b c e wd=>a=.int .i64 R.1.1/\b=.int .i64 R.1.2.1/\c=.int .i64 R.1.2.2/\e=.int .i64 R.2/\wd=wc)
  case first=>
   by_cases h0:86400<=s0
   ·have HE:Hid (E=((y0,m0,d0),s0)):=by
     show _=_
     rw [<-HE1.out,if_neg (by omega)]
    rw [HE.out]
    dsimp only
    have L1:=LN.out y0 m0 (by omega) k3 k4
    have HL:Hid (∀ w,Calls Tryz.prog 219 #[.int .i64 y0,.int .i64 m0] w fun e w'=>e=.returned (.int .i64 (Hm.daysOf y0 m0))/\w'=w):=L1
    clear L1 hrd hbd
    by_cases h1:Hm.daysOf y0 m0 < d0+1
    ·by_cases h2:12 < m0+1
     ·have HF:Hid (R=((y0+1,1,1),s0 - 86400)):=by
       show _=_
       rw [<-HR1.out,rday_def,if_neg (by omega),if_pos h0]
       unfold Hm.dayAfter
       rw [if_pos h1,if_pos h2]
      generalize Hm.daysOf y0 m0=DD at HL h1
      go_wp2_with fail
      refine (HL.out _).mono ?_
      rintro e w1 ⟨rfl,rfl⟩
      go_wp2
      go_meet
      case rel=>exact ⟨by rw [HF.out],by rw [HF.out],by rw [HF.out],by rw [HF.out],rfl⟩
     ·have HF:Hid (R=((y0,m0+1,1),s0 - 86400)):=by
       show _=_
       rw [<-HR1.out,rday_def,if_neg (by omega),if_pos h0]
       unfold Hm.dayAfter
       rw [if_pos h1,if_neg h2]
      generalize Hm.daysOf y0 m0=DD at HL h1
      go_wp2_with fail
      refine (HL.out _).mono ?_
      rintro e w1 ⟨rfl,rfl⟩
      go_wp2
      go_meet
      case rel=>exact ⟨by rw [HF.out],by rw [HF.out],by rw [HF.out],by rw [HF.out],rfl⟩
    ·have HF:Hid (R=((y0,m0,d0+1),s0 - 86400)):=by
      show _=_
      rw [<-HR1.out,rday_def,if_neg (by omega),if_pos h0]
      unfold Hm.dayAfter
      rw [if_neg h1]
     generalize Hm.daysOf y0 m0=DD at HL h1
     go_wp2_with fail
     refine (HL.out _).mono ?_
     rintro e w1 ⟨rfl,rfl⟩
     go_wp2
     go_meet
     case rel=>exact ⟨by rw [HF.out],by rw [HF.out],by rw [HF.out],by rw [HF.out],rfl⟩
   ·have HF:Hid (R=E):=by
     show _=_
     rw [<-HR1.out,<-HE1.out,rday_def]
     by_cases h1:s0 < 0
     ·rw [if_pos h1,if_pos h1]
     ·rw [if_neg h1,if_neg h0,if_neg h1]
    have hE2:¬ (86400:Int)<=E.2:=by
     rw [<-HE1.out]
     split
     ·dsimp only;omega
     ·dsimp only;omega
    clear hrd hbd
    go_wp2
    go_meet
    case rel=>exact ⟨by rw [HF.out],by rw [HF.out],by rw [HF.out],by rw [HF.out],rfl⟩
  case rest=>
   obtain ⟨rfl,rfl,rfl,rfl,rfl⟩:=hcut
   clear HE1 HR1 hbd LN hd31 k1 k2 k3 k4 k5 k6 hs0 hs1
   obtain ⟨⟨y,m,d⟩,s⟩:=R
   dsimp only at hrd ⊢
   obtain ⟨hy,hy2,hm,hm2,hd,hd2,hs,hs2⟩:=hrd
   by_cases hq:y < 1∨9999 < y
   ·have HQ:=show Hid _ from hq
    have hq':y < 1∨(¬ y < 1/\9999 < y):=by omega
    clear hq
    rcases hq' with q | ⟨q1,q2⟩
    all_goals (
     go_wp2
     go_ret2
     exact ⟨by rw [<-HV.out];dsimp only;rw [if_pos HQ.out];rfl,rfl⟩)
   ·have HQ:=show Hid _ from hq
    have P1:Hid (∀ w,Calls Tryz.prog 220 #[.int .i64 y,.int .i64 4] w fun e w'=>e=.returned (.string ⟨(Hm.d4 y.toNat).toArray⟩)/\w'=w):=fun w=>by
     have:=rpadI y 4 y.toNat (by omega) (by omega) (by decide) w
     rwa [rpad_4 (by omega)] at this
    have P2:Hid (∀ w,Calls Tryz.prog 220 #[.int .i64 m,.int .i64 2] w fun e w'=>e=.returned (.string ⟨(Hm.d2 m.toNat).toArray⟩)/\w'=w):=fun w=>by
     have:=rpadI m 2 m.toNat (by omega) (by omega) (by decide) w
     rwa [rpad_2 (by omega)] at this
    have P3:Hid (∀ w,Calls Tryz.prog 220 #[.int .i64 d,.int .i64 2] w fun e w'=>e=.returned (.string ⟨(Hm.d2 d.toNat).toArray⟩)/\w'=w):=fun w=>by
     have:=rpadI d 2 d.toNat (by omega) (by omega) (by decide) w
     rwa [rpad_2 (by omega)] at this
    obtain ⟨S,rfl⟩:=Int.eq_ofNat_of_zero_le hs
    have P4:Hid (∀ w,Calls Tryz.prog 220 #[.int .i64 ((S:Int) / 3600),.int .i64 2] w fun e w'=>e=.returned (.string ⟨(Hm.d2 (S / 3600)).toArray⟩)/\w'=w):=fun w=>by
     have:=rpadI ((S:Int) / 3600) 2 (S / 3600) (by omega) (by omega) (by decide) w
     rwa [rpad_2 (by omega)] at this
    have P5:Hid (∀ w,Calls Tryz.prog 220 #[.int .i64 ((S:Int) / 60 % 60),.int .i64 2] w fun e w'=>e=.returned (.string ⟨(Hm.d2 (S / 60 % 60)).toArray⟩)/\w'=w):=fun w=>by
     have:=rpadI ((S:Int) / 60 % 60) 2 (S / 60 % 60) (by omega) (by omega) (by decide) w
     rwa [rpad_2 (by omega)] at this
    have P6:Hid (∀ w,Calls Tryz.prog 220 #[.int .i64 ((S:Int) % 60),.int .i64 2] w fun e w'=>e=.returned (.string ⟨(Hm.d2 (S % 60)).toArray⟩)/\w'=w):=fun w=>by
     have:=rpadI ((S:Int) % 60) 2 (S % 60) (by omega) (by omega) (by decide) w
     rwa [rpad_2 (by omega)] at this
    have HE:Hid (Hm.stampText y.toNat m.toNat d.toNat ((S:Int) / 3600).toNat ((S:Int) / 60 % 60).toNat ((S:Int) % 60).toNat=Hm.d4 y.toNat ++ [45] ++ Hm.d2 m.toNat ++ [45] ++ Hm.d2 d.toNat ++ [84] ++ Hm.d2 (S / 3600) ++ [58] ++ Hm.d2 (S / 60 % 60) ++ [58] ++ Hm.d2 (S % 60)):=by
     show _=_
     unfold Hm.stampText
     rw [show ((S:Int) / 3600).toNat=S / 3600 by omega,show ((S:Int) / 60 % 60).toNat=S / 60 % 60 by omega,show ((S:Int) % 60).toNat=S % 60 by omega]
    have l1:(Hm.d4 y.toNat).length=4:=rfl
    have l2:(Hm.d2 m.toNat).length=2:=rfl
    have l3:(Hm.d2 d.toNat).length=2:=rfl
    have l4:(Hm.d2 (S / 3600)).length=2:=rfl
    have l5:(Hm.d2 (S / 60 % 60)).length=2:=rfl
    have l6:(Hm.d2 (S % 60)).length=2:=rfl
    generalize Hm.d4 y.toNat=A1 at P1 l1 HE
    generalize Hm.d2 m.toNat=A2 at P2 l2 HE
    generalize Hm.d2 d.toNat=A3 at P3 l3 HE
    generalize Hm.d2 (S / 3600)=A4 at P4 l4 HE
    generalize Hm.d2 (S / 60 % 60)=A5 at P5 l5 HE
    generalize Hm.d2 (S % 60)=A6 at P6 l6 HE
    have y0:¬ y < 1:=by omega
    have y1:¬ (9999:Int) < y:=by omega
    clear hq
    go_wp2_with fail
    refine (P1.out _).mono ?_
    rintro e w1 ⟨rfl,rfl⟩
    go_wp2_with fail
    refine (P2.out _).mono ?_
    rintro e w1 ⟨rfl,rfl⟩
    go_wp2_with fail
    refine (P3.out _).mono ?_
    rintro e w1 ⟨rfl,rfl⟩
    go_wp2_with fail
    refine (P4.out _).mono ?_
    rintro e w1 ⟨rfl,rfl⟩
    go_wp2_with fail
    refine (P5.out _).mono ?_
    rintro e w1 ⟨rfl,rfl⟩
    go_wp2_with fail
    refine (P6.out _).mono ?_
    rintro e w1 ⟨rfl,rfl⟩
    go_wp2
    go_ret2
    exact ⟨by rw [<-HV.out];dsimp only;rw [if_neg HQ.out,HE.out];simp [strOpt],rfl⟩
end Go.Proofs.YtdlhbmncbmconaaGreatDoor

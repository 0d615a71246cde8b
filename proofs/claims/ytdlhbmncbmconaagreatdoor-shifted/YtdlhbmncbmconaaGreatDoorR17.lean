/- Contract: Shifted, the years 1 and 9999; then of any raw numbers. -/
import Derived.Test.YtdlhbmncbmconaaGreatDoorR14
import Derived.Test.YtdlhbmncbmconaaGreatDoorMh
namespace Go.Proofs.YtdlhbmncbmconaaGreatDoor
open Go.RowKit Go.Sort
attribute [local go_sem] alloc_drewN setCell_drewN app_list cut_last
set_option maxRecDepth 50000 in
set_option maxHeartbeats 4000000 in
theorem Shifted_near (day second part hours minutes : Int) (body t1 t2 dh dn : List UInt8) (h n : Nat) (e1 a1 e2 a2 : Int) (hS : Shifts day second part hours minutes body h n dh dn) (R1 : ReadsAs (tmLine body 43 dh dn) t1 e1 a1) (R2 : ReadsAs (tmLine body 45 dh dn) t2 e2 a2)
    (h1 : e1 = 0 ∨ e1 = 3) (h2 : e2 = 0 ∨ e2 = 3) (yr : List UInt8) (hcut : (⟨(body ++ [90]).toArray⟩ : ByteArray).extract 0 4 = ⟨yr.toArray⟩) (hy : (yr == [48, 48, 48, 49]) = true ∨ ((yr == [48, 48, 48, 49]) = false ∧ (yr == [57, 57, 57, 57]) = true)) (w : World) (hT : Tabs w) :
    Calls Tryz.prog 8 #[.int .i64 day, .int .i64 second, .int .i64 part, .int .i64 hours, .int .i64 minutes] w fun e w' => e = .returned (.bool true) ∧ Below w.heap.size w w' := by
  have AW : Hid (∀ w, Tabs w → Calls Tryz.prog 18 #[] w fun e w' => e = .returned (.bool true) ∧ Below w.heap.size w w') := awake_any
  have HSh : Hid (Shifts day second part hours minutes body h n dh dn) := hS
  have hb := hS.hb
  have hb2 := hS.hb2
  have hl2 := hS.l2
  have hl3 := hS.l3
  clear hS
  have HR1 : Hid (ReadsAs (tmLine body 43 dh dn) t1 e1 a1) := R1
  have HR2 : Hid (ReadsAs (tmLine body 45 dh dn) t2 e2 a2) := R2
  have HE1 := show Hid _ from h1
  have HE2 := show Hid _ from h2
  have HY := show Hid _ from hy
  clear R1 R2 h1 h2 hy
  go_enter Tryz.func8, Tryz.ntmps8
  go_wp2_with fail
  refine (AW.out _ hT).mono ?_
  rintro e w0 ⟨rfl, hb0⟩
  have HB0 : Hid (Below w.heap.size w w0) := hb0
  have HT0 : Hid (Tabs w0) := hT.next hb0
  clear hb0
  go_wp2_with fail
  refine (HSh.out.km _).mono ?_
  rintro e w1 ⟨rfl, hb1⟩
  have HB1 : Hid (Below w.heap.size w w1) := Below.next HB0.out (Nat.le_refl _) hb1
  have HT1 : Hid (Tabs w1) := HT0.out.next hb1
  clear hb1
  go_wp2_with fail
  refine (HSh.out.ph _).mono ?_
  rintro e w2 ⟨rfl, rfl⟩
  go_wp2_with fail
  refine (HSh.out.pm _).mono ?_
  rintro e w3 ⟨rfl, rfl⟩
  go_wp2_with fail
  refine (HSh.out.t2 _).mono ?_
  rintro e w4 ⟨rfl, hb4⟩
  have HB4 : Hid (Below w.heap.size w w4) := Below.next HB1.out (Nat.le_refl _) hb4
  have HT4 : Hid (Tabs w4) := HT1.out.next hb4
  clear hb4
  go_wp2_with fail
  refine (HSh.out.t3 _).mono ?_
  rintro e w5 ⟨rfl, hb5⟩
  have HB5 : Hid (Below w.heap.size w w5) := Below.next HB4.out (Nat.le_refl _) hb5
  have HT5 : Hid (Tabs w5) := HT4.out.next hb5
  clear hb5
  go_wp2_with fail
  refine (HR1.out _ HT5.out).mono ?_
  rintro e w6 ⟨rfl, hb6⟩
  have HB6 : Hid (Below w.heap.size w w6) := Below.next HB5.out (Nat.le_refl _) hb6
  have HT6 : Hid (Tabs w6) := HT5.out.next hb6
  clear hb6
  go_wp2_with fail
  refine (HSh.out.t2 _).mono ?_
  rintro e w7 ⟨rfl, hb7⟩
  have hr7 : w7.heap[w6.heap.size]? = some (.cells (msgT t1) 29 (0, 0)) := (hb7.block _ (by simp)).trans (heap_alloc_new _ _)
  have HB7 : Hid (Below w.heap.size w w7) := Below.next (HB6.out.alloc HB6.out.size _) (Nat.le_refl _) hb7
  have HT7 : Hid (Tabs w7) := (HT6.out.alloc _).next hb7
  have HR7 := show Hid _ from hr7
  clear hb7 hr7
  go_wp2_with fail
  refine (HSh.out.t3 _).mono ?_
  rintro e w8 ⟨rfl, hb8⟩
  have HB8 : Hid (Below w.heap.size w w8) := Below.next HB7.out (Nat.le_refl _) hb8
  have HT8 : Hid (Tabs w8) := HT7.out.next hb8
  have HR8 : Hid (w8.heap[w6.heap.size]? = some (.cells (msgT t1) 29 (0, 0))) := (hb8.block _ (Array.getElem?_eq_some_iff.1 HR7.out).1).trans HR7.out
  clear hb8 HR7
  go_wp2_with fail
  refine (HR2.out _ HT8.out).mono ?_
  rintro e w9 ⟨rfl, hb9⟩
  have HB9 : Hid (Below w.heap.size w w9) := Below.next HB8.out (Nat.le_refl _) hb9
  have HT9 : Hid (Tabs w9) := HT8.out.next hb9
  have HR9 : Hid (w9.heap[w6.heap.size]? = some (.cells (msgT t1) 29 (0, 0))) := (hb9.block _ (Array.getElem?_eq_some_iff.1 HR8.out).1).trans HR8.out
  have hs9 : w6.heap.size < w9.heap.size := (Array.getElem?_eq_some_iff.1 HR9.out).1
  clear hb9 HR8
  clear HR1 HR2 HSh AW
  rcases HE1.out with rfl | rfl <;> rcases HE2.out with rfl | rfl <;> rcases HY.out with hy | ⟨hy, hy'⟩ <;> (
    clear HE1 HE2 HY
    go_wp2
    go_ret
    exact ⟨rfl, HB9.out.alloc HB9.out.size _⟩)
theorem readsAs {l t : List UInt8} {e a : Nat} (h : Hm.read l 1 = (Hm.tmMsg t, e, a)) (hl : l.length ≤ 1000) : ReadsAs l t e a := fun w hT => by
  have := Read_any ⟨l.toArray⟩ 1 w hT (by show l.toArray.size ≤ _; rw [List.size_toArray]; omega)
  rw [show (⟨l.toArray⟩ : ByteArray).data.toList = l by simp, h] at this
  exact this
theorem tmLine_eq (body : List UInt8) (sg : UInt8) (h n : Nat) : tmLine body sg (Hm.d2 h) (Hm.d2 n) = Hm.timeLine (body ++ Hm.diffText sg h n) := by simp [tmLine, Hm.timeLine, Hm.diffText]
theorem tmLine_len (body : List UInt8) (sg : UInt8) (h n : Nat) (hb : body.length ≤ 26) : (Hm.timeLine (body ++ Hm.diffText sg h n)).length ≤ 1000 := by simp [Hm.timeLine, Hm.diffText, Hm.d2]; omega
set_option maxRecDepth 20000 in
theorem Shifted_any (day second part hours minutes : Int) (hbd : ∀ z ∈ [day, second, part, hours, minutes], -9223372036854775808 ≤ z ∧ z ≤ 9223372036854775807) (w : World) (hT : Tabs w) :
    Calls Tryz.prog 8 #[.int .i64 day, .int .i64 second, .int .i64 part, .int .i64 hours, .int .i64 minutes] w fun e w' => e = .returned (.bool true) ∧ Below w.heap.size w w' := by
  have b1 := hbd day (by simp)
  have b2 := hbd second (by simp)
  have b3 := hbd part (by simp)
  have b4 := hbd hours (by simp)
  have b5 := hbd minutes (by simp)
  have hh := Hm.pick_lt hours (n := 24) (by decide)
  have hn := Hm.pick_lt minutes (n := 60) (by decide)
  have hl := Hm.kbody_len day second part
  have hyb := Hm.kyear_bd day
  have hS : Shifts day second part hours minutes (Hm.kbody day second part) (Hm.pick hours 24) (Hm.pick minutes 60) (Hm.d2 (Hm.pick hours 24)) (Hm.d2 (Hm.pick minutes 60)) :=
    { km := fun w => by
        have := kmoment_any day second part b1.1 b1.2 b2.1 b2.2 b3.1 b3.2 w
        rw [Hm.kmoment_body] at this
        exact this
      ph := fun w => pick_any hours 24 (by decide) (by decide) b4.1 b4.2 w
      pm := fun w => pick_any minutes 60 (by decide) (by decide) b5.1 b5.2 w
      t2 := fun w => ktwo_int _ _ rfl (by omega) w
      t3 := fun w => ktwo_int _ _ rfl (by omega) w
      hb := hl.2
      hb2 := hl.1
      l2 := rfl
      l3 := rfl }
  obtain ⟨r, hr⟩ := Hm.kbody_year day second part
  have hcut : (⟨(Hm.kbody day second part ++ [90]).toArray⟩ : ByteArray).extract 0 4 = ⟨(Hm.d4 (Hm.kyear day)).toArray⟩ := by
    rw [hr]
    apply ByteArray.ext
    simp [Hm.d4, Hm.d2]
  have hy1 : (Hm.d4 (Hm.kyear day) == [48, 48, 48, 49]) = decide (Hm.kyear day = 1) := Hm.d4_is (k := 1) (by omega) (by decide)
  have hy2 : (Hm.d4 (Hm.kyear day) == [57, 57, 57, 57]) = decide (Hm.kyear day = 9999) := Hm.d4_is (k := 9999) (by omega) (by decide)
  by_cases hy : Hm.kyear day = 1 ∨ Hm.kyear day = 9999
  · obtain ⟨t1, e1, a1, r1, h1, _⟩ := Hm.shifted_near day second part hh hn (sg := 43) (.inl rfl)
    obtain ⟨t2, e2, a2, r2, h2, _⟩ := Hm.shifted_near day second part hh hn (sg := 45) (.inr rfl)
    have R1 := readsAs r1 (tmLine_len _ _ _ _ hl.2)
    have R2 := readsAs r2 (tmLine_len _ _ _ _ hl.2)
    rw [← tmLine_eq] at R1 R2
    refine Shifted_near day second part hours minutes _ t1 t2 _ _ _ _ e1 a1 e2 a2 hS R1 R2 (by omega) (by omega) _ hcut ?_ w hT
    rcases hy with hy | hy
    · exact .inl (by rw [hy1, hy]; rfl)
    · exact .inr ⟨by rw [hy1, hy]; rfl, by rw [hy2, hy]; rfl⟩
  · obtain ⟨c1, c2, hf⟩ := Hm.shifted_far day second part hh hn (fun h => hy (.inl h)) (fun h => hy (.inr h))
    have R1 := readsAs hf.r1 (tmLine_len _ _ _ _ hl.2)
    have R2 := readsAs hf.r2 (tmLine_len _ _ _ _ hl.2)
    have R3 := readsAs hf.r3 (tmLine_len _ _ _ _ (by rw [hf.l1]; exact hl.2))
    have R4 := readsAs hf.r4 (tmLine_len _ _ _ _ (by rw [hf.l2]; exact hl.2))
    rw [← tmLine_eq] at R1 R2 R3 R4
    refine Shifted_far day second part hours minutes _ c1 c2 _ _ _ _ hS R1 R2 R3 R4 hf.l1 hf.l2 _ hcut ?_ ?_ hf.z hf.o w hT
    · rw [hy1]; exact decide_eq_false (fun h => hy (.inl h))
    · rw [hy2]; exact decide_eq_false (fun h => hy (.inr h))
end Go.Proofs.YtdlhbmncbmconaaGreatDoor

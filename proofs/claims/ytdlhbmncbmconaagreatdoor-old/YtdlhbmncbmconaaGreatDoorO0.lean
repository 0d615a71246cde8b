/- Contract: Old. -/
import Derived.Test.YtdlhbmncbmconaaGreatDoorR12
namespace Go.Hm
theorem names_at : ∀ q : Fin 12, (⟨#[74, 97, 110, 70, 101, 98, 77, 97, 114, 65, 112, 114, 77, 97, 121, 74, 117, 110, 74, 117, 108, 65, 117, 103, 83, 101, 112, 79, 99, 116, 78, 111, 118, 68, 101, 99]⟩ : ByteArray).extract (3 * (1 + q.val) - 3) (3 * (1 + q.val)) = ⟨(monthNames.getD q.val []).toArray⟩ := by decide +kernel
theorem months_len : ∀ q : Fin 12, (monthNames.getD q.val []).length = 3 := by decide +kernel
theorem otexts_len : ∀ q : Fin 5, (otexts.getD q.val []).length ≤ 11 := by decide +kernel
def theOld (source day second host tag words year : Int) (proc : List UInt8) : OldIn :=
  ⟨1 + pick year 9999, 1 + pick day 12, 1 + pick (day.tdiv 13) (daysOf ((1 + pick year 9999 : Nat) : Int) ((1 + pick day 12 : Nat) : Int)).toNat, pick second 86400, pick source 192, 104 :: Lib.decDigits (pick host 1000), [97, 112, 112, 47] ++ Lib.decDigits (pick tag 1000), proc, otexts.getD (pick words 5) []⟩
theorem theOld_fits (source day second host tag words year : Int) (proc : List UInt8) (hp : proc.length ≤ 8 ∧ ∀ c ∈ proc, dig c = true) : OldFits (theOld source day second host tag words year proc) := by
  have hy := pick_lt year (n := 9999) (by decide)
  have hm := pick_lt day (n := 12) (by decide)
  have hd := daysOf_bd ((1 + pick year 9999 : Nat) : Int) ((1 + pick day 12 : Nat) : Int) (by omega) (by omega)
  have h3 := pick_lt (day.tdiv 13) (n := (daysOf ((1 + pick year 9999 : Nat) : Int) ((1 + pick day 12 : Nat) : Int)).toNat) (by omega)
  have hs := pick_lt source (n := 192) (by decide)
  have hh := dd_len3 (n := pick host 1000) (pick_lt host (by decide))
  have ht := dd_len3 (n := pick tag 1000) (pick_lt tag (by decide))
  refine ⟨⟨by show 1 ≤ 1 + _; omega, by show 1 + pick year 9999 ≤ _; omega⟩, ⟨by show 1 ≤ 1 + _; omega, by show 1 + pick day 12 ≤ _; omega⟩, ⟨by show 1 ≤ 1 + _; omega, ?_⟩, pick_lt second (by decide), by show pick source 192 ≤ _; omega, ⟨?_, by show (104 :: Lib.decDigits (pick host 1000)).length ≤ _; simp only [List.length_cons]; omega⟩, ⟨_, rfl, by omega, dd_digits _⟩, hp, getD_mem _ (pick_lt words (by decide))⟩
  · show ((1 + pick (day.tdiv 13) (daysOf ((1 + pick year 9999 : Nat) : Int) ((1 + pick day 12 : Nat) : Int)).toNat : Nat) : Int) ≤ daysOf ((1 + pick year 9999 : Nat) : Int) ((1 + pick day 12 : Nat) : Int)
    omega
  · refine word_of (by show ¬ 104 :: _ = _; simp) (by show ¬ 104 :: _ = _; simp) (by show (104 :: Lib.decDigits (pick host 1000)).length ≤ _; simp only [List.length_cons]; omega) (fun c hc => ?_)
    have hc' : c ∈ 104 :: Lib.decDigits (pick host 1000) := hc
    rcases List.mem_cons.1 hc' with rfl | h
    · decide
    · exact dig_vis (dd_digits _ c h)
end Go.Hm
namespace Go.Proofs.YtdlhbmncbmconaaGreatDoor
open Go.RowKit Go.Sort
theorem oldWant_fits {o : Hm.OldIn} (h : Hm.OldFits o) (src st tg : Bool) : MsgFits (Hm.oldWant o src st tg) := by
  have e : (4000 : Nat) ≤ maxLen := by decide
  have hn := h.n
  obtain ⟨t, ha, hal, _⟩ := h.app
  have hxl : o.x.length < 16 := (Hm.otexts_tag o.x h.x).2.1
  have hh := h.host.2
  have hp := h.proc.1
  refine ⟨?_, ?_, ?_, ?_, ?_, ?_, ?_, ?_, ?_⟩
  · refine wf_i64 ?_ ?_ <;> (unfold Hm.oldWant; dsimp only; split <;> omega)
  · refine wf_i64 ?_ ?_ <;> (unfold Hm.oldWant; dsimp only; split <;> omega)
  all_goals (unfold Hm.oldWant; dsimp only)
  · split
    · simp [Hm.stampText_length]; omega
    · simp
  · split
    · omega
    · simp
  · split
    · rw [ha]; simp; omega
    · simp
  · split
    · omega
    · simp
  · simp
  · simp
  · omega
set_option maxRecDepth 20000 in
theorem old_rd {o : Hm.OldIn} (hf : Hm.OldFits o) (src st tg : Bool) {L : List UInt8} {W : Array Value} {yv : Int} (hL : L = Hm.oldLine o src st tg) (hW : W = msgCells (Hm.oldWant o src st tg)) (hy : yv = o.y) :
    Hid (∀ w (b : ByteArray), b.data.toList = L → Tabs w → Calls Tryz.prog 21 #[.string b, .int .i64 yv] w fun e w' => e = .returned (.tuple #[.agg W, .int .i64 0, .int .i64 0]) ∧ Below w.heap.size w w') := by
  subst hL hW hy
  intro w b hb hT
  have hr := Hm.oldLine_read hf src st tg
  have hlen : b.data.toList.length ≤ 200 := by
    rw [hb]
    by_cases h : 200 < (Hm.oldLine o src st tg).length
    · rw [Hm.read_long h] at hr
      have := congrArg (fun x => x.2.1) hr
      cases this
    · omega
  rw [Hm.len] at hlen
  have := Read_any b o.y w hT (by omega)
  rw [hb, hr] at this
  exact this
set_option maxRecDepth 20000 in
theorem old_bin {o : Hm.OldIn} (hf : Hm.OldFits o) (src st tg : Bool) {W : Array Value} (hW : W = msgCells (Hm.oldWant o src st tg)) (w : World) : (binOp .eql 29 (.agg W) (.agg W)).run Tryz.prog w = .ok (.bool true) w := by
  rw [hW]
  exact msg_bin _ (oldWant_fits hf src st tg) w
set_option maxRecDepth 100000 in
theorem oldC_any (source day second host tag proc words year : Int) (hb : ∀ z ∈ [source, day, second, host, tag, proc, words, year], -9223372036854775808 ≤ z ∧ z ≤ 9223372036854775807) :
    OldC source day second host tag proc words year (Hm.pick year 9999) (Hm.pick day 12) (Hm.daysOf ((1 + Hm.pick year 9999 : Nat) : Int) ((1 + Hm.pick day 12 : Nat) : Int)).toNat (Hm.pick (day.tdiv 13) (Hm.daysOf ((1 + Hm.pick year 9999 : Nat) : Int) ((1 + Hm.pick day 12 : Nat) : Int)).toNat) (Hm.pick second 86400) (Hm.pick source 192) (Hm.pick host 1000) (Hm.pick tag 1000) (Hm.pick proc 100000000) (Hm.pick words 5)
      (Hm.d2 ((1 + Hm.pick year 9999) / 100)) (Hm.d2 ((1 + Hm.pick year 9999) % 100)) (Hm.d2 (1 + Hm.pick day 12)) (Hm.d2 (1 + Hm.pick (day.tdiv 13) (Hm.daysOf ((1 + Hm.pick year 9999 : Nat) : Int) ((1 + Hm.pick day 12 : Nat) : Int)).toNat)) (Hm.d2 (Hm.pick second 86400 / 3600)) (Hm.d2 (Hm.pick second 86400 / 60 % 60)) (Hm.d2 (Hm.pick second 86400 % 60))
      (Lib.decDigits (1 + Hm.pick (day.tdiv 13) (Hm.daysOf ((1 + Hm.pick year 9999 : Nat) : Int) ((1 + Hm.pick day 12 : Nat) : Int)).toNat)) (Lib.decDigits (Hm.pick source 192)) (Lib.decDigits (Hm.pick host 1000)) (Lib.decDigits (Hm.pick tag 1000)) (Lib.decDigits (Hm.pick proc 100000000)) (Hm.monthNames.getD (Hm.pick day 12) []) (Hm.otexts.getD (Hm.pick words 5) []) := by
  have t13 := Hm.tdiv_bd (c := day) (d := 13) (hb day (by simp)).1 (hb day (by simp)).2 (by omega)
  have hy := Hm.pick_lt year (n := 9999) (by decide)
  have hm := Hm.pick_lt day (n := 12) (by decide)
  have hd := Hm.daysOf_bd ((1 + Hm.pick year 9999 : Nat) : Int) ((1 + Hm.pick day 12 : Nat) : Int) (by omega) (by omega)
  have h3 := Hm.pick_lt (day.tdiv 13) (n := (Hm.daysOf ((1 + Hm.pick year 9999 : Nat) : Int) ((1 + Hm.pick day 12 : Nat) : Int)).toNat) (by omega)
  have hs := Hm.pick_lt second (n := 86400) (by decide)
  have hn := Hm.pick_lt source (n := 192) (by decide)
  have hh := Hm.pick_lt host (n := 1000) (by decide)
  have ht := Hm.pick_lt tag (n := 1000) (by decide)
  have hp := Hm.pick_lt proc (n := 100000000) (by decide)
  have hw := Hm.pick_lt words (n := 5) (by decide)
  have P : ∀ (z : Int) (n : Nat), z ∈ [source, day, second, host, tag, proc, words, year] → 0 < n → n ≤ 4000000000 → ∀ w, Calls Tryz.prog 22 #[.int .i64 z, .int .i64 n] w fun e w' => e = .returned (.int .i64 (Hm.pick z n)) ∧ w' = w := fun z n hz h1 h2 w => pick_any z n h1 h2 (hb z hz).1 (hb z hz).2 w
  refine ⟨P year 9999 (by simp) (by decide) (by decide), P day 12 (by simp) (by decide) (by decide), fun w => ?_, fun w => pick_any _ _ (by omega) (by omega) (by omega) (by omega) w, P second 86400 (by simp) (by decide) (by decide), P source 192 (by simp) (by decide) (by decide), P host 1000 (by simp) (by decide) (by decide), P tag 1000 (by simp) (by decide) (by decide), P proc 100000000 (by simp) (by decide) (by decide), P words 5 (by simp) (by decide) (by decide),
    fun w => ktwo_int _ _ (by omega) (by omega) w, fun w => ktwo_int _ _ (by omega) (by omega) w, fun w => ktwo_int _ _ (by omega) (by omega) w, fun w => ktwo_int _ _ (by omega) (by omega) w, fun w => ktwo_int _ _ (by omega) (by omega) w, fun w => ktwo_int _ _ (by omega) (by omega) w, fun w => ktwo_int _ _ (by omega) (by omega) w,
    fun w => kdecimal_int _ _ (by omega) (by omega) w, fun w => kdecimal_int _ _ rfl (by omega) w, fun w => kdecimal_int _ _ rfl (by omega) w, fun w => kdecimal_int _ _ rfl (by omega) w, fun w => kdecimal_int _ _ rfl (by omega) w, awake_any,
    hy, hm, by omega, by omega, hs, hn, hh, ht, hp, hw, rfl, rfl, rfl, rfl, rfl, rfl, rfl, Hm.dd_len2 (by omega), Hm.dd_len3 (by omega), Hm.dd_len3 (by omega), Hm.dd_len3 (by omega), ?_, Hm.months_len ⟨_, hm⟩, Hm.otexts_len ⟨_, hw⟩, t13, Hm.names_at ⟨_, hm⟩, rfl⟩
  · have := kdays_any (1 + Hm.pick year 9999) (1 + Hm.pick day 12) (by omega) (by omega) (by omega) w
    rw [Int.toNat_of_nonneg (by omega)]
    have e1 : ((1 + Hm.pick year 9999 : Nat) : Int) = 1 + (Hm.pick year 9999 : Int) := by omega
    have e2 : ((1 + Hm.pick day 12 : Nat) : Int) = 1 + (Hm.pick day 12 : Int) := by omega
    rw [e1, e2] at this ⊢
    exact this
  · exact Hm.dd_pow 7 _ hp
end Go.Proofs.YtdlhbmncbmconaaGreatDoor

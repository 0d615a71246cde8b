/- Contracts: Ack, Waiting. -/
import Derived.Test.YtdlhbmncbmconaaGreatDoorBm
namespace Go.Proofs.YtdlhbmncbmconaaGreatDoor
open Go.RowKit Go.Sort
attribute [local go_sem] alloc_drewN setCell_drewN
set_option maxRecDepth 20000 in
theorem Ack_in (p : Nat) (g : Hm.Lg) (rv wv : Value) (w : World) (h : LogIn w p g rv wv) (hg : LgSmall g) (n : Int) (n0 : -9223372036854775808 ≤ n) (n1 : n ≤ 9223372036854775807) :
    Calls Tryz.prog 64 #[.pointer (some ⟨p, 0, none⟩), .int .i64 n] w fun e w' => e = .returned (.int .i64 (g.ack n).2) ∧ ∃ rv' wv', LogIn w' p (g.ack n).1 rv' wv' ∧ StepL p rv wv w rv' wv' w' := by
  obtain ⟨hg1, hg2, hg3, hg4⟩ := hg
  obtain ⟨c0, c1, c2, c3⟩ := h.cells
  have HH : Hid (LogIn w p g rv wv) := h
  clear h
  have HM : Hid (Calls Tryz.prog 75 #[.pointer (some ⟨p, 0, none⟩)] w fun e w' => e = .returned (.int .i64 g.messages) ∧ ∃ n, w' = w.drewN n) := messages_in p g rv wv w HH.out (by omega) (by omega)
  unfold Hm.Lg.ack
  by_cases h0 : n ≤ g.had
  · rw [if_pos (.inl h0)]
    go_enter Tryz.func64, Tryz.ntmps64
    go_wp2
    go_ret
    exact ⟨rfl, _, _, HH.out, StepL.refl⟩
  · by_cases h1 : (g.messages : Int) < n
    · rw [if_pos (.inr h1)]
      go_enter Tryz.func64, Tryz.ntmps64
      go_wp2_with fail
      refine HM.out.mono ?_
      rintro e w4 ⟨rfl, hw4⟩
      have hb4 := drew_below hw4
      go_wp2
      go_ret
      exact ⟨rfl, _, _, HH.out.below hb4, StepL.refl.next hb4⟩
    · rw [if_neg (by omega)]
      obtain ⟨k, rfl⟩ : ∃ k : Nat, n = k := ⟨n.toNat, by omega⟩
      have hmm : g.messages = g.had + g.waiting.length := rfl
      have hw0 : ∃ gb o cap, wv = .slice (some ⟨gb, o, none⟩) g.waiting.length cap := by
        rcases HH.out.wai with ⟨_, hn⟩ | ⟨gb, o, cap, cur, hv, _⟩
        · have hz : g.waiting = [] := by simpa using hn
          rw [hz] at hmm
          simp at hmm
          omega
        · exact ⟨gb, o, cap, by rw [hv, List.length_map]⟩
      obtain ⟨gb, o, cap, rfl⟩ := hw0
      have AA : Hid (∀ w', LogIn w' p g rv (.slice (some ⟨gb, o, none⟩) g.waiting.length cap) → Calls Tryz.prog 102 #[.pointer (some ⟨p, 0, none⟩), .int .i64 (k : Int)] w' fun e w'' => (∃ u, e = .returned u) ∧ ∃ rv' wv', LogIn w'' p (g.ackTo k) rv' wv' ∧ StepL p rv (.slice (some ⟨gb, o, none⟩) g.waiting.length cap) w' rv' wv' w'') := fun w' h' => addAck_in p g rv gb o cap g.waiting.length w' h' k (k - g.had) (by omega) (by omega) (by omega) (by omega) (by omega) (by omega)
      show Calls _ _ _ _ fun e w' => e = .returned (.int .i64 ((0 : Nat) : Int)) ∧ ∃ rv' wv', LogIn w' p (g.ackTo (k : Int).toNat) rv' wv' ∧ _
      rw [Int.toNat_natCast]
      clear hmm
      go_enter Tryz.func64, Tryz.ntmps64
      go_wp2_with fail
      refine HM.out.mono ?_
      rintro e w4 ⟨rfl, hw4⟩
      have HB4 := show Hid _ from drew_below hw4
      clear hw4
      go_wp2_with fail
      refine (AA.out _ (HH.out.below HB4.out)).mono ?_
      rintro e w5 ⟨⟨u, rfl⟩, rv', wv', h5, s5⟩
      go_wp2
      go_ret
      exact ⟨rfl, _, _, h5, (StepL.refl.next HB4.out).trans s5⟩
theorem Waiting_in (p : Nat) (g : Hm.Lg) (rv wv : Value) (w : World) (h : LogIn w p g rv wv) (hg2 : g.waiting.length ≤ 900000) :
    Calls Tryz.prog 36 #[.pointer (some ⟨p, 0, none⟩)] w fun e w' => ∃ v, e = .returned v ∧ w'.ownsRow w.heap.size 9 1 v g.waiting.length (g.waiting.map strV) ∧ Below w.heap.size w w' := by
  obtain ⟨c0, c1, c2, c3⟩ := h.cells
  rcases h.wai with ⟨rfl, hn⟩ | ⟨gb, o, cap, cur, rfl, hb, hgb, h1, h2, h3, h4⟩
  · have he : g.waiting = [] := by simpa using hn
    have CN : Hid (∀ w, Calls Tryz.prog 65 #[.slice none 0 0] w fun e w' => e = .returned (.slice none 0 0) ∧ w' = w) := fun w => Tryz.slices_Clone_string_nil 0 0 w
    rw [he]
    clear h hn he
    go_enter Tryz.func36, Tryz.ntmps36
    go_wp2_with fail
    refine (CN.out _).mono ?_
    rintro e w1 ⟨rfl, rfl⟩
    go_wp2
    go_ret
    exact ⟨_, rfl, World.ownsRow_nil _ _ _ _, Below.refl _ _⟩
  · have hl : (g.waiting.map strV).length = g.waiting.length := List.length_map _
    have CS := Tryz.slices_Clone_string gb o g.waiting.length cap (g.waiting.map fun l => (⟨l.toArray⟩ : ByteArray)) w (by simp) (by omega) (fun j hj => by
      rw [List.length_map] at hj
      have hx : (g.waiting.map strV)[j]? = some (strV g.waiting[j]) := by simp [hj]
      have := Hw.drop_take_get h4 hx
      have e2 : (g.waiting.map fun l => (⟨l.toArray⟩ : ByteArray)).getD j ByteArray.empty = ⟨g.waiting[j].toArray⟩ := by simp [List.getD_eq_getElem?_getD, hj]
      rw [e2]
      simp [World.cell?, hgb]
      simpa [strV] using this)
    have ez : ((g.waiting.map fun l => (⟨l.toArray⟩ : ByteArray)).take g.waiting.length).map Value.string = g.waiting.map strV := by
      rw [List.take_of_length_le (by simp), List.map_map]
      rfl
    rw [ez] at CS
    have HC : Hid (Calls Tryz.prog 65 #[.slice (some ⟨gb, o, none⟩) g.waiting.length cap] w fun e w' => ∃ v', e = .returned v' ∧ w'.ownsRow w.heap.size 9 1 v' g.waiting.length (g.waiting.map strV) ∧ v' ≠ .slice none 0 0 ∧ Below w.heap.size w w') := CS
    rw [hl] at c3
    clear h CS h1 h4 h3 hgb
    go_enter Tryz.func36, Tryz.ntmps36
    go_wp2_with fail
    refine HC.out.mono ?_
    rintro e w1 ⟨v', rfl, ho, _, hb1⟩
    go_wp2
    go_ret
    exact ⟨_, rfl, ho, hb1⟩
end Go.Proofs.YtdlhbmncbmconaaGreatDoor

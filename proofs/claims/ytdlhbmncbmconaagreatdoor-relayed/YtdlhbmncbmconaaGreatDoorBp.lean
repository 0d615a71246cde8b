/- Contracts: records gone through. -/
import Derived.Test.YtdlhbmncbmconaaGreatDoorBk
import Derived.Test.YtdlhbmncbmconaaGreatDoorMb
import Derived.RangeFuncNested
namespace Go.Hm
def goes : Lg → List Rec → Option Lg
  | g, [] => some g
  | g, r :: rs => if (g.back r).2 = true then goes (g.back r).1 rs else none
theorem goes_snoc : ∀ (rs : List Rec) (g g2 : Lg) (r : Rec), goes g rs = some g2 → goes g (rs ++ [r]) = if (g2.back r).2 = true then some (g2.back r).1 else none
  | [], g, g2, r, h => by cases h; rfl
  | x :: rs, g, g2, r, h => by
    unfold goes at h
    split at h
    · next hx =>
      show (if (g.back x).2 = true then goes (g.back x).1 (rs ++ [r]) else none) = _
      rw [if_pos hx]
      exact goes_snoc rs _ _ r h
    · cases h
theorem goes_backs : ∀ (rs : List Rec) (g g2 : Lg) (more : List Rec), goes g rs = some g2 → g.backs (rs ++ more) = g2.backs more
  | [], g, g2, more, h => by cases h; rfl
  | x :: rs, g, g2, more, h => by
    unfold goes at h
    split at h
    · next hx =>
      show (if (g.back x).2 = true then (g.back x).1.backs (rs ++ more) else g) = _
      rw [if_pos hx]
      exact goes_backs rs _ _ more h
    · cases h
theorem back_no {g : Lg} {r : Rec} (h : ¬ (g.back r).2 = true) : (g.back r).1 = g := by
  unfold Lg.back at h ⊢
  split
  · next h1 =>
    rw [if_pos h1] at h
    split
    · next h2 => rw [if_pos h2] at h; exact absurd rfl h
    · rfl
  · next h1 =>
    rw [if_neg h1] at h
    split
    · next h2 =>
      rw [if_pos h2] at h
      split
      · next h3 => rw [if_pos h3] at h; exact absurd rfl h
      · rfl
    · rfl
structure Fine (g : Lg) (room : Nat) (rs : List Rec) : Prop where
  room : g.room = room
  text : g.records = flatR rs
  most : g.messages ≤ 65535
theorem fine_fresh (room : Nat) : Fine (Lg.fresh room) room [] := ⟨rfl, rfl, by simp [Lg.fresh, Lg.messages]⟩
theorem fine_back {g : Lg} {room : Nat} {rs : List Rec} {r : Rec} (h : Fine g room rs) (hb : (g.back r).2 = true) (hs : r.2.length < 65536) : Fine (g.back r).1 room (rs ++ [r]) where
  room := by
    rw [← h.room]
    unfold Lg.back at hb ⊢
    repeat' split
    all_goals first | rfl | (unfold Lg.ack; split <;> rfl)
  text := by rw [back_text hb hs, h.text, flatR_append]; simp [flatR]
  most := by
    have hm := h.most
    unfold Lg.back at hb ⊢
    split
    · next h1 =>
      rw [if_pos h1] at hb
      split
      · next h2 => simp only [Lg.add, Lg.messages, List.length_append, List.length_cons, List.length_nil] at h2 ⊢; omega
      · exact hm
    · split
      · split
        · next h3 =>
          have h4 := h3.2
          unfold Lg.ack at h4 ⊢
          split
          · exact hm
          · next h5 =>
            simp only [Lg.ackTo, Lg.messages, List.length_drop, Int.toNat_natCast] at h5 hm ⊢
            omega
        · exact hm
      · exact hm
end Go.Hm
namespace Go.Proofs.YtdlhbmncbmconaaGreatDoor
open Go.RowKit Go.Shelf Go.Sort
attribute [local go_sem] Oper.semAt_some
abbrev RecS := { r : Hm.Rec // r.2.length < 65536 }
def encRec (x : RecS) : Array Value := #[.agg #[.int .u8 x.1.1.toNat, .string ⟨x.1.2.toArray⟩]]
theorem ex_drop (r : List UInt8) (n : Nat) : (⟨r.toArray⟩ : ByteArray).extract n r.length = ⟨(r.drop n).toArray⟩ := by
  apply ByteArray.ext
  simp
  rw [List.take_of_length_le (by simp)]
def TrueK (_ _ : World) : Prop := True
set_option maxRecDepth 100000 in
set_option maxHeartbeats 1000000 in
theorem records1_in (n : Nat) (hn : 2 ≤ n) (l Bt : Nat) (s : ByteArray) (hs : s.size ≤ 3000000000) (xs : List RecS) (hxs : xs.map (·.1) = Hm.recs s.data.toList) (J Jx : List RecS → World → Prop)
    (hA : ∀ pre A B, J pre A → Below A.heap.size A B → J pre B)
    (hY : ∀ pre x W, J pre W → pre.length < xs.length → YieldAt Fence.wide (n - 1) Tryz.prog l (encRec x) W fun e W' =>
      (e = .returned (.bool true) ∧ J (pre ++ [x]) W' ∧ TrueK W W') ∨ (e = .returned (.bool false) ∧ Jx (pre ++ [x]) W'))
    (W : World) (hBt : W.cell? ⟨Bt, 0, none⟩ = some (.string s)) (h0 : J [] W) :
    CallsIn Fence.wide n Tryz.prog 98 #[.func (.yield l) #[] #[], .pointer (some ⟨Bt, 0, none⟩)] W fun e W' => (∃ v, e = .returned v) ∧
      ((∃ ys, ys = xs ∧ J ys W') ∨ (∃ pre, pre <+: xs ∧ Jx pre W')) := by
  obtain ⟨r0, rfl⟩ : ∃ r0 : List UInt8, s = ⟨r0.toArray⟩ := ⟨s.data.toList, by cases s; simp⟩
  have hxs' : xs.map (·.1) = Hm.recsF (r0.length + 1) r0 := by rw [hxs]; simp [Hm.recs]
  have hs' : r0.length ≤ 3000000000 := by simpa [ByteArray.size] using hs
  clear hxs hs
  refine callsIn_of_wp Tryz.func98 rfl trivial ?_ rfl
  simp only [Tryz.ntmps98, List.size_toArray, List.length_cons, List.length_nil, Nat.reduceAdd, Nat.reduceSub, Array.replicate_succ, Array.replicate_zero, List.push_toArray, List.append_toArray, List.nil_append, List.cons_append]
  gi_wp2
  gi_loopw [3] (fun rest wr => ∃ (pre more : List RecS) (r : List UInt8) (f : Nat), rest = .string ⟨r.toArray⟩ ∧ r.length < f ∧ r.length ≤ 3000000000 ∧ xs = pre ++ more ∧ more.map (·.1) = Hm.recsF f r ∧ J pre wr) (fun rest _ => strLen rest)
  case atStart => exact ⟨[], xs, r0, r0.length + 1, rfl, by omega, hs', rfl, hxs', h0⟩
  case round =>
    obtain ⟨pre, more, r, f, rfl, hf, hr3, hx, hm, hJs⟩ := hrel
    have HR : Hid (∀ w, Calls Tryz.prog 99 #[.string ⟨r.toArray⟩] w fun e w' => e = .returned (.tuple #[.agg (recV (Hm.readRec r)), .int .i64 (recN (Hm.readRec r))]) ∧ Below w.heap.size w w') := fun w => by
      have := readRecord_any ⟨r.toArray⟩ (by show r.toArray.size ≤ _; rw [List.size_toArray]; omega) w
      rwa [show (⟨r.toArray⟩ : ByteArray).data.toList = r by simp] at this
    obtain ⟨f', rfl⟩ : ∃ f', f = f' + 1 := ⟨f - 1, by omega⟩
    have HX : Hid (xs = pre ++ more) := hx
    have HA : Hid (∀ pre A B, J pre A → Below A.heap.size A B → J pre B) := hA
    have HJ := show Hid _ from hJs
    unfold Hm.recsF at hm
    cases hq : Hm.readRec r with
    | none =>
      rw [hq] at HR hm
      have HM : Hid (more = []) := List.map_eq_nil_iff.1 hm
      simp only [recV, recN] at HR
      clear hm hq hx hJs
      gi_wp2_with fail
      refine ⟨trivial, fun _ => by omega, ?_⟩
      refine (callsIn_wide.2 (HR.out _)).mono ?_
      rintro z w' ⟨rfl, hb⟩
      have HB : Hid (Below wr.heap.size wr w') := hb
      clear hb
      gi_wp2
      refine ⟨fun _ h => (by cases h), ?_⟩
      gi_wp2
      refine bodyPost_ret (results_none rfl _ _ _) rfl ?_
      exact ⟨⟨_, rfl⟩, .inl ⟨pre, by rw [HX.out, HM.out, List.append_nil], HA.out _ _ _ HJ.out (HB.out.alloc HB.out.size _)⟩⟩
    | some q =>
      obtain ⟨k, bs, len⟩ := q
      rw [hq] at HR hm
      obtain ⟨hlen, hbl, t, ht⟩ := Hm.readRec_some hq
      have hlr : len ≤ r.length := by
        rw [ht, List.length_append, Hm.writeRec_length]; omega
      have hlp : 0 < len := by omega
      have b0 : ((len : Int) == 0) = false := beq_eq_false_iff_ne.2 (by omega)
      dsimp only at hm
      obtain ⟨x, more', hmx, hx1, hm2⟩ : ∃ x more', more = x :: more' ∧ x.1 = (k, bs) ∧ more'.map (·.1) = Hm.recsF f' (r.drop len) := by
        cases more with
        | nil => simp at hm
        | cons x more' =>
          rw [List.map_cons, List.cons.injEq] at hm
          exact ⟨x, more', rfl, hm.1, hm.2⟩
      have HM : Hid (more = x :: more') := hmx
      have HM2 : Hid (more'.map (·.1) = Hm.recsF f' (r.drop len)) := hm2
      simp only [recV, recN] at HR
      have hY' := fun W hJ => hY pre x W hJ (by rw [hx, hmx]; simp)
      have HY := show Hid _ from hY'
      clear hm hq hx hJs hY' ht hlen hbl hmx hm2
      gi_wp2_with fail
      refine ⟨trivial, fun _ => by omega, ?_⟩
      refine (callsIn_wide.2 (HR.out _)).mono ?_
      rintro z w' ⟨rfl, hb⟩
      have HB : Hid (Below wr.heap.size wr w') := hb
      clear hb
      have hJ1 : J pre (w'.alloc (.cells #[.int .u8 k.toNat, .string ⟨bs.toArray⟩] 121)) := HA.out _ _ _ HJ.out (HB.out.alloc HB.out.size _)
      obtain ⟨fn, tmps, assign, body, hy, hR⟩ := HY.out _ hJ1
      unfold encRec at hy
      rw [hx1] at hy
      dsimp only at hy
      clear hJ1
      gi_wp2
      refine ⟨fun _ => by omega, hR.mono ?_⟩
      rintro z W3 (⟨rfl, hJ3, _⟩ | ⟨rfl, hJx3⟩)
      · gi_wp2
        go_roundw
        case rel => exact ⟨pre ++ [x], more', r.drop len, f', by rw [← ex_drop], by rw [List.length_drop]; omega, by rw [List.length_drop]; omega, by rw [HX.out, HM.out]; simp, HM2.out, hJ3⟩
        case measure => rw [ex_drop]; simp [strLen, ByteArray.size]; omega
      · gi_wp2
        refine bodyPost_ret (results_none rfl _ _ _) rfl ?_
        exact ⟨⟨_, rfl⟩, .inr ⟨pre ++ [x], ⟨more', by rw [HX.out, HM.out]; simp⟩, hJx3⟩⟩
end Go.Proofs.YtdlhbmncbmconaaGreatDoor

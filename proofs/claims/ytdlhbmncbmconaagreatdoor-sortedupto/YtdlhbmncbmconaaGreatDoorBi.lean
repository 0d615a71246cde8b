/- Contracts: frames. -/
import Derived.Test.YtdlhbmncbmconaaGreatDoorWc
import Derived.Test.YtdlhbmncbmconaaGreatDoorMx
import Derived.Test.YtdlhbmncbmconaaGreatDoorBa
import Derived.Test.YtdlhbmncbmconaaGreatDoorBc
import Derived.Test.YtdlhbmncbmconaaGreatDoorBd
import Derived.Test.YtdlhbmncbmconaaGreatDoorBg
import Derived.Laws.IdiomStrings
import Derived.BigRegionIn
namespace Go.Proofs.YtdlhbmncbmconaaGreatDoor
open Go.RowKit
def FrV (f : Hm.Frs) (v : Value) : Array Value := #[.int .i64 f.bound, .int .i64 f.stage, .int .i64 f.head, .int .i64 f.number, v]
structure FramesAt (w : World) (p : Nat) (f : Hm.Frs) (v : Value) : Prop where
  row : w.heap[p]? = some (.cells (FrV f v) 100 (0, 0))
  own : w.ownsRow 11 5 1 v f.own.length (f.own.map fun b => Value.int .u8 b.toNat)
  ne : v.ownBlock ≠ some p
  lo : 11 ≤ p
theorem FramesAt.cells {w : World} {p : Nat} {f : Hm.Frs} {v : Value} (h : FramesAt w p f v) :
    w.cell? ⟨p, 0, none⟩ = some (.int .i64 f.bound) ∧ w.cell? ⟨p, 1, none⟩ = some (.int .i64 f.stage) ∧ w.cell? ⟨p, 2, none⟩ = some (.int .i64 f.head) ∧ w.cell? ⟨p, 3, none⟩ = some (.int .i64 f.number) ∧ w.cell? ⟨p, 4, none⟩ = some v := by
  have hr := h.row
  unfold FrV at hr
  refine ⟨?_, ?_, ?_, ?_, ?_⟩ <;> simp [World.cell?, hr]
theorem own_slice {w : World} {base e n : Nat} {v : Value} {xs : List Value} (h : w.ownsRow base e 1 v n xs) (hn : 0 < n) :
    ∃ g cap cur, v = .slice (some ⟨g, 0, none⟩) n cap ∧ base ≤ g ∧ w.heap[g]? = some (.cells cur e (0, 0)) ∧ n ≤ cap ∧ cap ≤ maxLen ∧ cur.size = cap ∧ cur.toList.take n = xs := by
  rcases h.2 with ⟨_, h0⟩ | ⟨g, cap, cur, h1, h2, h3, h4, h5, h6, h7⟩
  · omega
  · exact ⟨g, cap, cur, h1, h2, h3, h4, h5, by simpa using h6, by simpa using h7⟩
theorem own_string {w : World} {base g cap : Nat} {l : List UInt8} (h : w.ownsRow base 5 1 (.slice (some ⟨g, 0, none⟩) l.length cap) l.length (l.map fun b => Value.int .u8 b.toNat)) :
    (convert 72 9 (.slice (some ⟨g, 0, none⟩) l.length cap)).run Tryz.prog w = .ok (.string ⟨l.toArray⟩) w :=
  run_convert_bytes_back w 72 9 5 ⟨g, 0, none⟩ cap l Tryz.underlying72 Tryz.underlying5 Tryz.underlying9 (fun j hj => h.cells rfl j _ (by simp [hj]))
theorem size_frames : (Tryz.prog.info? 100).map (·.size) = some 5 := by kernel_rfl
structure StepF (p : Nat) (v : Value) (w : World) (v' : Value) (w' : World) : Prop where
  kept : Hw.Kept (fun k => k = p ∨ v.ownBlock = some k) w w'
  lies : ∀ k, v'.ownBlock = some k → v.ownBlock = some k ∨ w.heap.size ≤ k
theorem StepF.trans {p : Nat} {v v' v'' : Value} {a b c : World} (h : StepF p v a v' b) (k : StepF p v' b v'' c) : StepF p v a v'' c where
  kept := h.kept.trans k.kept (fun i hi e => by
    rcases e with e | e
    · exact .inl e
    · rcases h.lies i e with e | e
      · exact .inr e
      · omega)
  lies i e := by
    rcases k.lies i e with e | e
    · exact h.lies i e
    · exact .inr (Nat.le_trans h.kept.size e)
theorem Put.framesAt {w w2 : World} {p : Nat} {f : Hm.Frs} {v : Value} (P : Hw.Put w p 100 (FrV f v) w2) (hown : w.ownsRow 11 5 1 v f.own.length (f.own.map fun b => Value.int .u8 b.toNat)) (ne : v.ownBlock ≠ some p) (lo : 11 ≤ p) : FramesAt w2 p f v :=
  ⟨P.row, Hw.ownsRow_keptS hown P.kept (fun k e h => ne (by rw [e, h])), ne, lo⟩
theorem Put.stepF {w w2 : World} {p : Nat} {t : TypeId} {cs : Array Value} {v v' : Value} (P : Hw.Put w p t cs w2) (h : ∀ k, v'.ownBlock = some k → v.ownBlock = some k) : StepF p v w v' w2 :=
  ⟨P.kept.mono (fun _ _ e => .inl e), fun k e => .inl (h k e)⟩
set_option maxRecDepth 20000 in
theorem endFrame_any (p : Nat) (f : Hm.Frs) (v : Value) (w : World) (h : FramesAt w p f v) (hne : f.own ≠ []) (hl : f.own.length ≤ 1000) :
    Calls Tryz.prog 181 #[.pointer (some ⟨p, 0, none⟩)] w fun e w' => e = .returned (.string ⟨(61 :: f.own).toArray⟩) ∧ ∃ v', FramesAt w' p (Hm.Frs.fresh f.bound) v' ∧ StepF p v w v' w' := by
  obtain ⟨c0, c1, c2, c3, c4⟩ := h.cells
  obtain ⟨row, own, ne, lo⟩ := h
  have hpos : 0 < f.own.length := List.length_pos_iff.2 hne
  obtain ⟨g, cap, cur, rfl, hg, hrow, hnc, hcm, hsz, htk⟩ := own_slice own hpos
  have hback := own_string own
  have ROW : Hid (w.heap[p]? = some (.cells (FrV f (.slice (some ⟨g, 0, none⟩) f.own.length cap)) 100 (0, 0))) := row
  clear row own hrow hsz htk hnc hcm hpos hne
  have hlim : ¬ 9223372036854775807 < 1 + f.own.length := by omega
  go_enter Tryz.func181, Tryz.ntmps181
  go_wp2_with (refine Hw.wpList_store_rowP rfl _ _ _ rfl rfl p #[.int .i64 f.bound, .int .i64 0, .int .i64 0, .int .i64 0, .slice none 0 0] rfl rfl _ _ ROW.out size_frames rfl rfl ?_; intro w2 p2; have P2 : Hid (Hw.Put _ _ _ _ w2) := p2; clear p2)
  go_ret
  refine ⟨by congr 2, .slice none 0 0, Put.framesAt (f := Hm.Frs.fresh f.bound) P2.out (World.ownsRow_nil _ _ _ _) (by simp [Value.ownBlock]) lo, Put.stepF P2.out (fun k e => by cases e)⟩
end Go.Proofs.YtdlhbmncbmconaaGreatDoor
namespace Go.Proofs.YtdlhbmncbmconaaGreatDoor
open Go.RowKit
theorem size_stage : (Tryz.prog.info? 98).map (·.size) = some 1 := by kernel_rfl
theorem size_int1 : (Tryz.prog.info? 3).map (·.size) = some 1 := by kernel_rfl
theorem size_bytes : (Tryz.prog.info? 72).map (·.size) = some 1 := by kernel_rfl
theorem byte_ne {c : UInt8} {n : Nat} (h : ¬ c = UInt8.ofNat n) (hn : n < 256) : ¬ (c.toNat : Int) = (n : Int) := fun e => h (UInt8.toNat_inj.1 (by simp; omega))
theorem StepF.refl {p : Nat} {v : Value} {w : World} : StepF p v w v w := ⟨Hw.Kept.refl _ _, fun _ e => .inl e⟩
theorem passOver_any (p : Nat) (f : Hm.Frs) (v : Value) (w : World) (h : FramesAt w p f v) (c : UInt8) :
    Calls Tryz.prog 142 #[.pointer (some ⟨p, 0, none⟩), .int .u8 c.toNat] w fun e w' => (∃ u, e = .returned u) ∧ FramesAt w' p ⟨f.bound, if c = 10 then 0 else f.stage, f.head, f.number, f.own⟩ v ∧ StepF p v w v w' := by
  by_cases hc : c = 10
  · rw [if_pos hc]
    subst hc
    have ROW : Hid (w.heap[p]? = some (.cells (FrV f v) 100 (0, 0))) := h.row
    have HH : Hid (FramesAt w p f v) := h
    clear h
    go_enter Tryz.func142, Tryz.ntmps142
    go_wp2_with (refine Hw.wpList_store_fieldP rfl _ _ _ rfl rfl p 1 (.int .i64 0) rfl rfl _ _ _ ROW.out size_stage (by simp [FrV]) rfl rfl ?_; intro w2 p2; have P2 : Hid (Hw.Put _ _ _ _ w2) := p2; clear p2)
    refine bodyPost_end (results_none rfl _ _ _) rfl ?_
    exact ⟨⟨_, rfl⟩, Put.framesAt (f := ⟨f.bound, 0, f.head, f.number, f.own⟩) P2.out HH.out.own HH.out.ne HH.out.lo, Put.stepF P2.out (fun k e => e)⟩
  · rw [if_neg hc]
    have hc1 := byte_ne (n := 10) hc (by omega)
    have hc2 : ((c.toNat : Int) == 10) = false := beq_eq_false_iff_ne.2 hc1
    clear hc
    have HH : Hid (FramesAt w p f v) := h
    clear h
    go_enter Tryz.func142, Tryz.ntmps142
    go_wp2
    refine bodyPost_end (results_none rfl _ _ _) rfl ?_
    exact ⟨⟨_, rfl⟩, HH.out, StepF.refl⟩
set_option maxRecDepth 20000 in
theorem endBad_any (p : Nat) (f : Hm.Frs) (v : Value) (w : World) (h : FramesAt w p f v) (c : UInt8) :
    Calls Tryz.prog 180 #[.pointer (some ⟨p, 0, none⟩), .int .u8 c.toNat] w fun e w' => e = .returned (.string ⟨(f.endBad c).2.toArray⟩) ∧ ∃ v', FramesAt w' p (f.endBad c).1 v' ∧ StepF p v w v' w' := by
  obtain ⟨c0, c1, c2, c3, c4⟩ := h.cells
  have ROW : Hid (w.heap[p]? = some (.cells (FrV f v) 100 (0, 0))) := h.row
  have HL : Hid (11 ≤ p) := h.lo
  clear h c1 c2 c3 c4
  go_enter Tryz.func180, Tryz.ntmps180
  go_wp2_with (refine Hw.wpList_store_rowP rfl _ _ _ rfl rfl p #[.int .i64 f.bound, .int .i64 4, .int .i64 0, .int .i64 0, .slice none 0 0] rfl rfl _ _ ROW.out size_frames rfl rfl ?_; intro w2 p2; have P2 : Hid (Hw.Put _ _ _ _ w2) := p2; clear p2)
  have F2 : FramesAt w2 p ⟨f.bound, 4, 0, 0, []⟩ (.slice none 0 0) := Put.framesAt (f := ⟨f.bound, 4, 0, 0, []⟩) P2.out (World.ownsRow_nil _ _ _ _) (by simp [Value.ownBlock]) HL.out
  refine (passOver_any p _ _ w2 F2 c).mono ?_
  rintro e w3 ⟨⟨u, rfl⟩, F3, S3⟩
  go_wp2
  go_ret
  exact ⟨rfl, .slice none 0 0, F3, (Put.stepF (v' := .slice none 0 0) P2.out (fun k e => by cases e)).trans S3⟩
theorem FramesAt.cellsH {w : World} {p : Nat} {f : Hm.Frs} {v : Value} (h : w.heap[p]? = some (.cells (FrV f v) 100 (0, 0))) :
    w.cell? ⟨p, 0, none⟩ = some (.int .i64 f.bound) ∧ w.cell? ⟨p, 1, none⟩ = some (.int .i64 f.stage) ∧ w.cell? ⟨p, 2, none⟩ = some (.int .i64 f.head) ∧ w.cell? ⟨p, 3, none⟩ = some (.int .i64 f.number) ∧ w.cell? ⟨p, 4, none⟩ = some v := by
  unfold FrV at h
  refine ⟨?_, ?_, ?_, ?_, ?_⟩ <;> simp [World.cell?, h]
theorem FramesAt.drewN {w : World} {p : Nat} {f : Hm.Frs} {v : Value} (h : FramesAt w p f v) (n : Nat) : FramesAt (w.drewN n) p f v := ⟨h.row, h.own, h.ne, h.lo⟩
theorem StepF.drewN {p : Nat} {v v' : Value} {a b : World} (h : StepF p v a v' b) (n : Nat) : StepF p v a v' (b.drewN n) := ⟨h.kept.next (drew_below ⟨_, rfl⟩), h.lies⟩
set_option maxRecDepth 20000 in
theorem takeOfNumber_any (p : Nat) (f : Hm.Frs) (v : Value) (w : World) (h : FramesAt w p f v) (c : UInt8) (h1 : f.head ≤ 1000) (h2 : f.number ≤ 1000) (h3 : f.bound ≤ 1000) :
    Calls Tryz.prog 139 #[.pointer (some ⟨p, 0, none⟩), .int .u8 c.toNat] w fun e w' => e = .returned (.string ⟨(f.takeNumber c).2.toArray⟩) ∧ ∃ v', FramesAt w' p (f.takeNumber c).1 v' ∧ StepF p v w v' w' := by
  obtain ⟨b, st, hd, nm, ow⟩ := f
  dsimp only at h1 h2 h3
  obtain ⟨c0, c1, c2, c3, c4⟩ := h.cells
  dsimp only at c0 c1 c2 c3 c4
  have ROW : Hid (w.heap[p]? = some (.cells (FrV ⟨b, st, hd, nm, ow⟩ v) 100 (0, 0))) := h.row
  have HH : Hid (FramesAt w p ⟨b, st, hd, nm, ow⟩ v) := h
  clear h
  have HD : Hid (∀ w, Calls Tryz.prog 84 #[.int .u8 c.toNat] w fun e w' => e = .returned (.bool (Hm.dig c)) ∧ w' = w) := fun w => isDigit_any c w
  unfold Hm.Frs.takeNumber
  cases hdg : Hm.dig c
  · rw [if_neg (by simp)]
    rw [hdg] at HD
    clear hdg
    by_cases hc : c = 32
    · rw [if_pos hc]
      subst hc
      go_enter Tryz.func139, Tryz.ntmps139
      go_wp2_with (first
        | (refine Hw.wpList_store_fieldP rfl _ _ _ rfl rfl p 2 _ rfl rfl _ _ _ ROW.out size_int1 (by simp [FrV]) rfl rfl ?_; intro w2 p2; have P2 : Hid (Hw.Put w p 100 (FrV ⟨b, st, hd + 1, nm, ow⟩ v) w2) := p2; clear p2; obtain ⟨d0, d1, d2, d3, d4⟩ := FramesAt.cellsH P2.out.row; dsimp only at d0 d1 d2 d3 d4)
        | (go_at_call 84; refine (HD.out _).mono ?_; rintro e w9 ⟨rfl, rfl⟩)
        | (refine Hw.wpList_store_fieldP rfl _ _ _ rfl rfl p 1 _ rfl rfl _ _ (FrV ⟨b, 2, hd + 1, nm, ow⟩ v) P2.out.row size_stage (by simp [FrV]) rfl rfl ?_; intro w3 p3; have P3 : Hid (Hw.Put _ p 100 (FrV ⟨b, 2, hd + 1, nm, ow⟩ v) w3) := p3; clear p3))
      go_ret
      exact ⟨rfl, v, Put.framesAt (f := ⟨b, 2, hd + 1, nm, ow⟩) P3.out (Put.framesAt (f := ⟨b, st, hd + 1, nm, ow⟩) P2.out HH.out.own HH.out.ne HH.out.lo).own HH.out.ne HH.out.lo, (Put.stepF P2.out (fun k e => e)).trans (Put.stepF P3.out (fun k e => e))⟩
    · rw [if_neg hc]
      have hc1 := byte_ne (n := 32) hc (by omega)
      have hc2 : ((c.toNat : Int) == 32) = false := beq_eq_false_iff_ne.2 hc1
      clear hc
      go_enter Tryz.func139, Tryz.ntmps139
      go_wp2_with (first
        | (refine Hw.wpList_store_fieldP rfl _ _ _ rfl rfl p 2 _ rfl rfl _ _ _ ROW.out size_int1 (by simp [FrV]) rfl rfl ?_; intro w2 p2; have P2 : Hid (Hw.Put w p 100 (FrV ⟨b, st, hd + 1, nm, ow⟩ v) w2) := p2; clear p2; obtain ⟨d0, d1, d2, d3, d4⟩ := FramesAt.cellsH P2.out.row; dsimp only at d0 d1 d2 d3 d4)
        | (go_at_call 84; refine (HD.out _).mono ?_; rintro e w9 ⟨rfl, rfl⟩))
      have F2 := Put.framesAt (f := ⟨b, st, hd + 1, nm, ow⟩) P2.out HH.out.own HH.out.ne HH.out.lo
      refine (endBad_any p _ _ _ F2 c).mono ?_
      rintro e w4 ⟨rfl, v4, F4, S4⟩
      go_wp2
      go_ret
      exact ⟨rfl, v4, F4, (Put.stepF P2.out (fun k e => e)).trans S4⟩
  · rw [if_pos rfl]
    have hdd := (Hm.dig_iff c).1 hdg
    have HQ : Hid (10 * (nm : Int) + ((c.toNat : Int) - 48) % 256 = ((10 * nm + (c.toNat - 48) : Nat) : Int)) := by show _ = _; omega
    have HQl : Hid (10 * nm + (c.toNat - 48) ≤ 20000) := by show _ ≤ _; omega
    rw [hdg] at HD
    clear hdg hdd
    generalize 10 * nm + (c.toNat - 48) = q at HQ HQl ⊢
    by_cases hb : b < q
    · rw [if_pos hb]
      have hb' : (b : Int) < (q : Int) := by omega
      go_enter Tryz.func139, Tryz.ntmps139
      go_wp2_with (first
        | (refine Hw.wpList_store_fieldP rfl _ _ _ rfl rfl p 2 _ rfl rfl _ _ _ ROW.out size_int1 (by simp [FrV]) rfl rfl ?_; intro w2 p2; have P2 : Hid (Hw.Put w p 100 (FrV ⟨b, st, hd + 1, nm, ow⟩ v) w2) := p2; clear p2; obtain ⟨d0, d1, d2, d3, d4⟩ := FramesAt.cellsH P2.out.row; dsimp only at d0 d1 d2 d3 d4)
        | (go_at_call 84; refine (HD.out _).mono ?_; rintro e w9 ⟨rfl, rfl⟩)
        | (refine Hw.wpList_store_fieldP rfl _ _ _ rfl rfl p 3 (.int .i64 (10 * (nm : Int) + ((c.toNat : Int) - 48) % 256)) rfl rfl _ _ (FrV ⟨b, st, hd + 1, q, ow⟩ v) P2.out.row size_int1 (by simp [FrV]) rfl (by rw [HQ.out]; rfl) ?_; intro w3 p3; have P3 : Hid (Hw.Put _ p 100 (FrV ⟨b, st, hd + 1, q, ow⟩ v) w3) := p3; clear p3; obtain ⟨e0, e1, e2, e3, e4⟩ := FramesAt.cellsH P3.out.row; dsimp only at e0 e1 e2 e3 e4; clear d0 d1 d2 d3 d4))
      have F3 := Put.framesAt (f := ⟨b, st, hd + 1, q, ow⟩) P3.out (Put.framesAt (f := ⟨b, st, hd + 1, nm, ow⟩) P2.out HH.out.own HH.out.ne HH.out.lo).own HH.out.ne HH.out.lo
      have S3 : StepF p v w v w3 := (Put.stepF P2.out (fun k e => e)).trans (Put.stepF P3.out (fun k e => e))
      have HF3 : Hid (FramesAt w3 p ⟨b, st, hd + 1, q, ow⟩ v) := F3
      have HS3 : Hid (StepF p v w v w3) := S3
      clear F3 S3 P3 P2 c0 c1 c2 c3 c4
      go_quiet (fail)
      go_wp2_with fail
      refine (endBad_any p _ _ _ (HF3.out.drewN _) c).mono ?_
      rintro e w4 ⟨rfl, v4, F4, S4⟩
      go_wp2
      go_ret
      exact ⟨rfl, v4, F4, (HS3.out.drewN _).trans S4⟩
    · rw [if_neg hb]
      have hb' : ¬ (b : Int) < (q : Int) := by omega
      go_enter Tryz.func139, Tryz.ntmps139
      go_wp2_with (first
        | (refine Hw.wpList_store_fieldP rfl _ _ _ rfl rfl p 2 _ rfl rfl _ _ _ ROW.out size_int1 (by simp [FrV]) rfl rfl ?_; intro w2 p2; have P2 : Hid (Hw.Put w p 100 (FrV ⟨b, st, hd + 1, nm, ow⟩ v) w2) := p2; clear p2; obtain ⟨d0, d1, d2, d3, d4⟩ := FramesAt.cellsH P2.out.row; dsimp only at d0 d1 d2 d3 d4)
        | (go_at_call 84; refine (HD.out _).mono ?_; rintro e w9 ⟨rfl, rfl⟩)
        | (refine Hw.wpList_store_fieldP rfl _ _ _ rfl rfl p 3 (.int .i64 (10 * (nm : Int) + ((c.toNat : Int) - 48) % 256)) rfl rfl _ _ (FrV ⟨b, st, hd + 1, q, ow⟩ v) P2.out.row size_int1 (by simp [FrV]) rfl (by rw [HQ.out]; rfl) ?_; intro w3 p3; have P3 : Hid (Hw.Put _ p 100 (FrV ⟨b, st, hd + 1, q, ow⟩ v) w3) := p3; clear p3; obtain ⟨e0, e1, e2, e3, e4⟩ := FramesAt.cellsH P3.out.row; dsimp only at e0 e1 e2 e3 e4; clear d0 d1 d2 d3 d4))
      have F3 := Put.framesAt (f := ⟨b, st, hd + 1, q, ow⟩) P3.out (Put.framesAt (f := ⟨b, st, hd + 1, nm, ow⟩) P2.out HH.out.own HH.out.ne HH.out.lo).own HH.out.ne HH.out.lo
      have S3 : StepF p v w v w3 := (Put.stepF P2.out (fun k e => e)).trans (Put.stepF P3.out (fun k e => e))
      have HF3 : Hid (FramesAt w3 p ⟨b, st, hd + 1, q, ow⟩ v) := F3
      have HS3 : Hid (StepF p v w v w3) := S3
      clear F3 S3 P3 P2 c0 c1 c2 c3 c4
      go_quiet (fail)
      go_wp2
      go_ret
      exact ⟨rfl, v, HF3.out.drewN _, HS3.out.drewN _⟩
end Go.Proofs.YtdlhbmncbmconaaGreatDoor
namespace Go.Proofs.YtdlhbmncbmconaaGreatDoor
open Go.RowKit Go.Sort
theorem info_u8 : (Tryz.prog.info? 5).map (fun i => (i.zero, i.size, i.bytes)) = some (some (.int .u8 0), 1, 1) := by kernel_rfl
theorem FramesAt.grown_row {w w5 : World} {p : Nat} {f : Hm.Frs} {v : Value} {o : Obj} (h : FramesAt w p f v) (hgrow : (w.alloc o).grownBy w5 v.ownBlock) : w5.heap[p]? = some (.cells (FrV f v) 100 (0, 0)) := by
  have hp : p < w.heap.size := (Array.getElem?_eq_some_iff.1 h.row).1
  exact (hgrow.block p (by simp; omega) (fun e => h.ne e.symm)).trans ((heap_alloc_old w o hp).trans h.row)
theorem FramesAt.appended {w w5 w6 : World} {p : Nat} {b st hd nm : Nat} {ow : List UInt8} {v v' : Value} {c : UInt8} {o : Obj} (h : FramesAt w p ⟨b, st, hd, nm, ow⟩ v)
    (hown' : w5.ownsRow 11 5 1 v' (ow.length + 1) ((ow.map fun b => Value.int .u8 b.toNat) ++ [.int .u8 c.toNat])) (hgrow : (w.alloc o).grownBy w5 v.ownBlock) (hat : v'.ownBlock = v.ownBlock ∨ v'.ownBlock = some (w.alloc o).heap.size)
    (P : Hw.Put w5 p 100 (FrV ⟨b, st, hd, nm, ow⟩ v') w6) : FramesAt w6 p ⟨b, st, hd, nm, ow ++ [c]⟩ v' ∧ StepF p v w v' w6 := by
  have hp : p < w.heap.size := (Array.getElem?_eq_some_iff.1 h.row).1
  have hne : v'.ownBlock ≠ some p := by
    rcases hat with e | e
    · rw [e]; exact h.ne
    · rw [e]; simp; omega
  refine ⟨⟨P.row, ?_, hne, h.lo⟩, ?_, ?_⟩
  · have := Hw.ownsRow_keptS hown' P.kept (fun k e h => hne (by rw [e, h]))
    simpa using this
  · have k1 : Hw.Kept (fun k => k = p ∨ v.ownBlock = some k) w (w.alloc o) := (Hw.Kept.refl _ _).alloc o
    have k2 := k1.trans (Hw.Kept.of_grown hgrow) (fun i _ e => .inr e.symm)
    exact k2.trans P.kept (fun i _ e => .inl e)
  · intro k e
    rcases hat with h | h
    · exact .inl (by rw [← h]; exact e)
    · rw [h] at e; cases e; simp
set_option maxRecDepth 20000 in
theorem takeOfCounted_any (p : Nat) (f : Hm.Frs) (v : Value) (w : World) (h : FramesAt w p f v) (c : UInt8) (h1 : f.own.length ≤ 900) :
    Calls Tryz.prog 140 #[.pointer (some ⟨p, 0, none⟩), .int .u8 c.toNat] w fun e w' => e = .returned (.string ⟨(f.takeCounted c).2.toArray⟩) ∧ ∃ v', FramesAt w' p (f.takeCounted c).1 v' ∧ StepF p v w v' w' := by
  obtain ⟨b, st, hd, nm, ow⟩ := f
  dsimp only at h1
  obtain ⟨c0, c1, c2, c3, c4⟩ := h.cells
  dsimp only at c0 c1 c2 c3 c4
  obtain ⟨i0, hi, hz0, hz1, hz2⟩ := info_parts info_u8
  have HH : Hid (FramesAt w p ⟨b, st, hd, nm, ow⟩ v) := h
  clear h
  unfold Hm.Frs.takeCounted
  dsimp only
  by_cases hb : ow.length + 1 < nm
  · rw [if_pos hb]
    have hb' : (ow.length : Int) + 1 < (nm : Int) := by omega
    go_enter Tryz.func140, Tryz.ntmps140
    go_wp2_with (first
      | (at_builtin; refine wpList_append_own_at _ rfl _ _ 72 rfl 11 5 i0 (.int .u8 0) 1 1 Tryz.underlying72 hi hz0 hz1 hz2 rfl (by decide) _ _ _ rfl (HH.out.own.alloc _) ⟨w.heap.size, 0, none⟩ 1 1 [.int .u8 c.toNat] rfl rfl (cell_one_new _ _ _) (fun x hx => by simp at hx; subst hx; rfl) (by unfold maxLen; dsimp only; omega) (by dsimp only; omega) (by have := (Array.getElem?_eq_some_iff.1 HH.out.row).1; have := HH.out.lo; simp; omega) ?_; intro v' w5 hown' hgrow hnil hat; have HO : Hid (w5.ownsRow 11 5 1 v' (ow.length + 1) ((ow.map fun b => Value.int .u8 b.toNat) ++ [.int .u8 c.toNat])) := hown'; have HG : Hid (World.grownBy _ w5 v.ownBlock) := hgrow; have HA : Hid (_ ∨ _) := hat; obtain ⟨d0, d1, d2, d3, d4⟩ := FramesAt.cellsH (HH.out.grown_row hgrow); dsimp only at d0 d1 d2 d3 d4; obtain ⟨g5, cap5, hv5⟩ : ∃ g5 cap5, v' = .slice (some ⟨g5, 0, none⟩) (ow.length + 1) cap5 := (by rcases hown'.2 with ⟨_, h⟩ | ⟨g5, cap5, _, h, _⟩; omega; exact ⟨g5, cap5, h⟩); subst hv5; clear hown' hgrow hat hnil)
      | (refine Hw.wpList_store_fieldP rfl _ _ _ rfl rfl p 4 (.slice (some ⟨g5, 0, none⟩) (ow.length + 1) cap5) rfl rfl _ _ _ (HH.out.grown_row HG.out) size_bytes (by simp [FrV]) rfl rfl ?_; intro w6 p6; have P6 : Hid (Hw.Put w5 p 100 (FrV ⟨b, st, hd, nm, ow⟩ (.slice (some ⟨g5, 0, none⟩) (ow.length + 1) cap5)) w6) := p6; clear p6; obtain ⟨e0, e1, e2, e3, e4⟩ := FramesAt.cellsH P6.out.row; dsimp only at e0 e1 e2 e3 e4; clear d0 d1 d2 d3 d4))
    have HF : Hid (_ ∧ _) := HH.out.appended HO.out HG.out HA.out P6.out
    clear HO HG HA P6 c0 c1 c2 c3 c4 hi hz0 hz1 hz2
    go_quiet (fail)
    go_wp2
    go_ret
    exact ⟨rfl, _, HF.out.1.drewN _, HF.out.2.drewN _⟩
  · rw [if_neg hb]
    have hb' : ¬ (ow.length : Int) + 1 < (nm : Int) := by omega
    go_enter Tryz.func140, Tryz.ntmps140
    go_wp2_with (first
      | (at_builtin; refine wpList_append_own_at _ rfl _ _ 72 rfl 11 5 i0 (.int .u8 0) 1 1 Tryz.underlying72 hi hz0 hz1 hz2 rfl (by decide) _ _ _ rfl (HH.out.own.alloc _) ⟨w.heap.size, 0, none⟩ 1 1 [.int .u8 c.toNat] rfl rfl (cell_one_new _ _ _) (fun x hx => by simp at hx; subst hx; rfl) (by unfold maxLen; dsimp only; omega) (by dsimp only; omega) (by have := (Array.getElem?_eq_some_iff.1 HH.out.row).1; have := HH.out.lo; simp; omega) ?_; intro v' w5 hown' hgrow hnil hat; have HO : Hid (w5.ownsRow 11 5 1 v' (ow.length + 1) ((ow.map fun b => Value.int .u8 b.toNat) ++ [.int .u8 c.toNat])) := hown'; have HG : Hid (World.grownBy _ w5 v.ownBlock) := hgrow; have HA : Hid (_ ∨ _) := hat; obtain ⟨d0, d1, d2, d3, d4⟩ := FramesAt.cellsH (HH.out.grown_row hgrow); dsimp only at d0 d1 d2 d3 d4; obtain ⟨g5, cap5, hv5⟩ : ∃ g5 cap5, v' = .slice (some ⟨g5, 0, none⟩) (ow.length + 1) cap5 := (by rcases hown'.2 with ⟨_, h⟩ | ⟨g5, cap5, _, h, _⟩; omega; exact ⟨g5, cap5, h⟩); subst hv5; clear hown' hgrow hat hnil)
      | (refine Hw.wpList_store_fieldP rfl _ _ _ rfl rfl p 4 (.slice (some ⟨g5, 0, none⟩) (ow.length + 1) cap5) rfl rfl _ _ _ (HH.out.grown_row HG.out) size_bytes (by simp [FrV]) rfl rfl ?_; intro w6 p6; have P6 : Hid (Hw.Put w5 p 100 (FrV ⟨b, st, hd, nm, ow⟩ (.slice (some ⟨g5, 0, none⟩) (ow.length + 1) cap5)) w6) := p6; clear p6; obtain ⟨e0, e1, e2, e3, e4⟩ := FramesAt.cellsH P6.out.row; dsimp only at e0 e1 e2 e3 e4; clear d0 d1 d2 d3 d4))
    have HF : Hid (_ ∧ _) := HH.out.appended HO.out HG.out HA.out P6.out
    clear HO HG HA P6 c0 c1 c2 c3 c4 hi hz0 hz1 hz2
    go_quiet (fail)
    go_wp2_with fail
    refine (endFrame_any p _ _ _ (HF.out.1.drewN _) (by simp) (by simp; omega)).mono ?_
    rintro e w7 ⟨rfl, v7, F7, S7⟩
    go_wp2
    go_ret
    exact ⟨rfl, v7, F7, (HF.out.2.drewN _).trans S7⟩
theorem own_form {w : World} {base e n : Nat} {v : Value} {xs : List Value} (h : w.ownsRow base e 1 v n xs) : ∃ a cap, v = .slice a n cap := by
  rcases h.2 with ⟨h0, h1⟩ | ⟨g, cap, cur, h1, _⟩
  · exact ⟨none, 0, by rw [h0, h1]⟩
  · exact ⟨_, _, h1⟩
set_option maxRecDepth 20000 in
theorem takeOfLine_any (p : Nat) (f : Hm.Frs) (v : Value) (w : World) (h : FramesAt w p f v) (c : UInt8) (h1 : f.own.length ≤ 900) :
    Calls Tryz.prog 141 #[.pointer (some ⟨p, 0, none⟩), .int .u8 c.toNat] w fun e w' => e = .returned (.string ⟨(f.takeLine c).2.toArray⟩) ∧ ∃ v', FramesAt w' p (f.takeLine c).1 v' ∧ StepF p v w v' w' := by
  obtain ⟨b, st, hd, nm, ow⟩ := f
  dsimp only at h1
  obtain ⟨c0, c1, c2, c3, c4⟩ := h.cells
  dsimp only at c0 c1 c2 c3 c4
  obtain ⟨i0, hi, hz0, hz1, hz2⟩ := info_parts info_u8
  have HH : Hid (FramesAt w p ⟨b, st, hd, nm, ow⟩ v) := h
  obtain ⟨ad, cap, rfl⟩ := own_form h.own
  have HR : Hid (w.heap[p]? = some (.cells (FrV ⟨b, st, hd, nm, ow⟩ (.slice ad ow.length cap)) 100 (0, 0))) := h.row
  dsimp only at c4
  clear h
  unfold Hm.Frs.takeLine
  dsimp only
  by_cases hc : c = 10
  · rw [if_pos hc]
    subst hc
    by_cases ho : ow = []
    · rw [if_pos ho]
      have ho' : ow.length = 0 := by rw [ho]; rfl
      have ho2 : ((ow.length : Int) == 0) = true := by rw [ho']; rfl
      have HO' : Hid (ow = []) := ho
      clear ho hi hz0 hz1 hz2 ho'
      go_enter Tryz.func141, Tryz.ntmps141
      go_wp2_with (refine Hw.wpList_store_fieldP rfl _ _ _ rfl rfl p 1 (.int .i64 0) rfl rfl _ _ (FrV ⟨b, 0, hd, nm, ow⟩ (.slice ad ow.length cap)) HR.out size_stage (by simp [FrV]) rfl rfl ?_; intro w2 p2; have P2 : Hid (Hw.Put _ _ _ _ w2) := p2; clear p2)
      go_ret
      exact ⟨rfl, _, Put.framesAt (f := ⟨b, 0, hd, nm, ow⟩) P2.out HH.out.own HH.out.ne HH.out.lo, Put.stepF P2.out (fun k e => e)⟩
    · rw [if_neg ho]
      have ho' : ¬ ow.length = 0 := fun e => ho (List.eq_nil_of_length_eq_zero e)
      have ho2 : ((ow.length : Int) == 0) = false := beq_eq_false_iff_ne.2 (by omega)
      have ho3 : ¬ (ow.length : Int) = 0 := by omega
      have HO' : Hid (¬ ow = []) := ho
      clear ho hi hz0 hz1 hz2 ho'
      go_enter Tryz.func141, Tryz.ntmps141
      go_wp2_with fail
      refine (endFrame_any p _ _ _ HH.out HO'.out (by dsimp only; omega)).mono ?_
      rintro e w7 ⟨rfl, v7, F7, S7⟩
      go_wp2
      go_ret
      exact ⟨rfl, v7, F7, S7⟩
  · rw [if_neg hc]
    have hc1 := byte_ne (n := 10) hc (by omega)
    have hc2 : ((c.toNat : Int) == 10) = false := beq_eq_false_iff_ne.2 hc1
    clear hc
    by_cases hb : ow.length = b
    · rw [if_pos hb]
      have hb' : ((ow.length : Int) == (b : Int)) = true := by rw [hb]; simp
      have hb3 : (ow.length : Int) = (b : Int) := by omega
      clear hb hi hz0 hz1 hz2
      go_enter Tryz.func141, Tryz.ntmps141
      go_wp2_with fail
      go_quiet (fail)
      go_wp2_with fail
      refine (endBad_any p _ _ _ (HH.out.drewN _) c).mono ?_
      rintro e w7 ⟨rfl, v7, F7, S7⟩
      go_wp2
      go_ret
      exact ⟨rfl, v7, F7, (StepF.refl.drewN _).trans S7⟩
    · rw [if_neg hb]
      have hb' : ((ow.length : Int) == (b : Int)) = false := beq_eq_false_iff_ne.2 (by omega)
      have hb3 : ¬ (ow.length : Int) = (b : Int) := by omega
      clear hb
      go_enter Tryz.func141, Tryz.ntmps141
      go_wp2_with fail
      go_quiet (fail)
      have HH2 : Hid (FramesAt (w.drewN nq) p ⟨b, st, hd, nm, ow⟩ (.slice ad ow.length cap)) := HH.out.drewN nq
      have HS2 : Hid (StepF p (.slice ad ow.length cap) w (.slice ad ow.length cap) (w.drewN nq)) := StepF.refl.drewN nq
      generalize w.drewN nq = w2 at HH2 HS2 ⊢
      obtain ⟨c0, c1, c2, c3, c4⟩ := HH2.out.cells
      dsimp only at c0 c1 c2 c3 c4
      go_wp2_with (first
        | (at_builtin; refine wpList_append_own_at _ rfl _ _ 72 rfl 11 5 i0 (.int .u8 0) 1 1 Tryz.underlying72 hi hz0 hz1 hz2 rfl (by decide) _ _ _ rfl (HH2.out.own.alloc _) ⟨w2.heap.size, 0, none⟩ 1 1 [.int .u8 c.toNat] rfl rfl (cell_one_new _ _ _) (fun x hx => by simp at hx; subst hx; rfl) (by unfold maxLen; dsimp only; omega) (by dsimp only; omega) (by have := (Array.getElem?_eq_some_iff.1 HH2.out.row).1; have := HH2.out.lo; simp; omega) ?_; intro v' w5 hown' hgrow hnil hat; have HO : Hid (w5.ownsRow 11 5 1 v' (ow.length + 1) ((ow.map fun b => Value.int .u8 b.toNat) ++ [.int .u8 c.toNat])) := hown'; have HG : Hid (World.grownBy _ w5 (Value.ownBlock (.slice ad ow.length cap))) := hgrow; have HA : Hid (_ ∨ _) := hat; obtain ⟨d0, d1, d2, d3, d4⟩ := FramesAt.cellsH (HH2.out.grown_row hgrow); dsimp only at d0 d1 d2 d3 d4; obtain ⟨g5, cap5, hv5⟩ : ∃ g5 cap5, v' = .slice (some ⟨g5, 0, none⟩) (ow.length + 1) cap5 := (by rcases hown'.2 with ⟨_, h⟩ | ⟨g5, cap5, _, h, _⟩; omega; exact ⟨g5, cap5, h⟩); subst hv5; clear hown' hgrow hat hnil)
        | (refine Hw.wpList_store_fieldP rfl _ _ _ rfl rfl p 4 (.slice (some ⟨g5, 0, none⟩) (ow.length + 1) cap5) rfl rfl _ _ _ (HH2.out.grown_row HG.out) size_bytes (by simp [FrV]) rfl rfl ?_; intro w6 p6; have P6 : Hid (Hw.Put w5 p 100 (FrV ⟨b, st, hd, nm, ow⟩ (.slice (some ⟨g5, 0, none⟩) (ow.length + 1) cap5)) w6) := p6; clear p6))
      have HF : Hid (_ ∧ _) := HH2.out.appended HO.out HG.out HA.out P6.out
      go_ret
      exact ⟨rfl, _, HF.out.1, HS2.out.trans HF.out.2⟩
end Go.Proofs.YtdlhbmncbmconaaGreatDoor
namespace Go.Proofs.YtdlhbmncbmconaaGreatDoor
open Go.RowKit Go.Sort
def FSmall (f : Hm.Frs) : Prop := f.head ≤ 1000 ∧ f.number ≤ 1000 ∧ f.bound ≤ 1000 ∧ f.own.length ≤ 900 ∧ f.stage ≤ 4
theorem ok_small {f : Hm.Frs} (h : f.Ok) : FSmall f := by
  have := h.head
  have := h.b2
  unfold FSmall
  omega
set_option maxRecDepth 20000 in
theorem take_on (p : Nat) (b st hd nm : Nat) (ow : List UInt8) (v : Value) (w : World) (h : FramesAt w p ⟨b, st, hd, nm, ow⟩ v) (c : UInt8) (hs : FSmall ⟨b, st, hd, nm, ow⟩) (h0 : st ≠ 0) :
    Calls Tryz.prog 94 #[.pointer (some ⟨p, 0, none⟩), .int .u8 c.toNat] w fun e w' => e = .returned (.string ⟨((Hm.Frs.mk b st hd nm ow).goes c).2.toArray⟩) ∧ ∃ v', FramesAt w' p ((Hm.Frs.mk b st hd nm ow).goes c).1 v' ∧ StepF p v w v' w' := by
  obtain ⟨h1, h2, h3, h4, h5⟩ := hs
  dsimp only at h1 h2 h3 h4 h5
  obtain ⟨c0, c1, c2, c3, c4⟩ := h.cells
  dsimp only at c0 c1 c2 c3 c4
  have HH : Hid (FramesAt w p ⟨b, st, hd, nm, ow⟩ v) := h
  clear h c0 c2 c3 c4
  unfold Hm.Frs.goes
  dsimp only
  rcases (by omega : st = 1 ∨ st = 2 ∨ st = 3 ∨ st = 4) with h | h | h | h
  · subst h
    rw [if_pos rfl]
    go_enter Tryz.func94, Tryz.ntmps94
    go_wp2_with fail
    refine (takeOfNumber_any p _ _ _ HH.out c h1 h2 h3).mono ?_
    rintro e w4 ⟨rfl, v4, F4, S4⟩
    go_wp2
    go_ret
    exact ⟨rfl, v4, F4, S4⟩
  · subst h
    rw [if_neg (by decide), if_pos rfl]
    go_enter Tryz.func94, Tryz.ntmps94
    go_wp2_with fail
    refine (takeOfCounted_any p _ _ _ HH.out c h4).mono ?_
    rintro e w4 ⟨rfl, v4, F4, S4⟩
    go_wp2
    go_ret
    exact ⟨rfl, v4, F4, S4⟩
  · subst h
    rw [if_neg (by decide), if_neg (by decide), if_pos rfl]
    go_enter Tryz.func94, Tryz.ntmps94
    go_wp2_with fail
    refine (takeOfLine_any p _ _ _ HH.out c h4).mono ?_
    rintro e w4 ⟨rfl, v4, F4, S4⟩
    go_wp2
    go_ret
    exact ⟨rfl, v4, F4, S4⟩
  · subst h
    rw [if_neg (by decide), if_neg (by decide), if_neg (by decide)]
    have HP : Hid (Calls Tryz.prog 142 #[.pointer (some ⟨p, 0, none⟩), .int .u8 c.toNat] w fun e w' => (∃ u, e = .returned u) ∧ FramesAt w' p ⟨b, if c = 10 then 0 else 4, hd, nm, ow⟩ v ∧ StepF p v w v w') := passOver_any p _ _ _ HH.out c
    generalize (if c = 10 then 0 else 4) = q at HP ⊢
    go_enter Tryz.func94, Tryz.ntmps94
    go_wp2_with fail
    refine HP.out.mono ?_
    rintro e w4 ⟨⟨u, rfl⟩, F4, S4⟩
    go_wp2
    go_ret
    exact ⟨rfl, v, F4, S4⟩
set_option maxRecDepth 20000 in
theorem take_first (p : Nat) (b hd nm : Nat) (ow : List UInt8) (v : Value) (w : World) (h : FramesAt w p ⟨b, 0, hd, nm, ow⟩ v) (c : UInt8) (hs : FSmall ⟨b, 0, hd, nm, ow⟩) :
    Calls Tryz.prog 94 #[.pointer (some ⟨p, 0, none⟩), .int .u8 c.toNat] w fun e w' => e = .returned (.string ⟨((Hm.Frs.mk b 0 hd nm ow).take c).2.toArray⟩) ∧ ∃ v', FramesAt w' p ((Hm.Frs.mk b 0 hd nm ow).take c).1 v' ∧ StepF p v w v' w' := by
  obtain ⟨h1, h2, h3, h4, h5⟩ := hs
  dsimp only at h1 h2 h3 h4 h5
  obtain ⟨c0, c1, c2, c3, c4⟩ := h.cells
  dsimp only at c0 c1 c2 c3 c4
  have HH : Hid (FramesAt w p ⟨b, 0, hd, nm, ow⟩ v) := h
  have ROW : Hid (w.heap[p]? = some (.cells (FrV ⟨b, 0, hd, nm, ow⟩ v) 100 (0, 0))) := h.row
  have HD : Hid (∀ w, Calls Tryz.prog 84 #[.int .u8 c.toNat] w fun e w' => e = .returned (.bool (Hm.dig c)) ∧ w' = w) := fun w => isDigit_any c w
  clear h c0 c2 c3 c4
  unfold Hm.Frs.take Hm.Frs.begun
  dsimp only
  rw [if_pos rfl]
  by_cases hdc : Hm.dig c = true ∧ c ≠ 48
  · rw [if_pos hdc]
    unfold Hm.Frs.goes
    rw [if_pos rfl]
    rw [hdc.1] at HD
    have hc1 := byte_ne (n := 48) hdc.2 (by omega)
    have hc2 : ((c.toNat : Int) == 48) = false := beq_eq_false_iff_ne.2 hc1
    clear hdc
    go_enter Tryz.func94, Tryz.ntmps94
    go_wp2_with (first
      | (refine Hw.wpList_store_fieldP rfl _ _ _ rfl rfl p 1 (.int .i64 3) rfl rfl _ _ (FrV ⟨b, 3, hd, nm, ow⟩ v) ROW.out size_stage (by simp [FrV]) rfl rfl ?_; intro w2 p2; have P2 : Hid (Hw.Put w p 100 (FrV ⟨b, 3, hd, nm, ow⟩ v) w2) := p2; clear p2; obtain ⟨d0, d1, d2, d3, d4⟩ := FramesAt.cellsH P2.out.row; dsimp only at d0 d1 d2 d3 d4)
      | (go_at_call 84; refine (HD.out _).mono ?_; rintro e w9 ⟨rfl, rfl⟩)
      | (refine Hw.wpList_store_fieldP rfl _ _ _ rfl rfl p 1 (.int .i64 1) rfl rfl _ _ (FrV ⟨b, 1, hd, nm, ow⟩ v) P2.out.row size_stage (by simp [FrV]) rfl rfl ?_; intro w3 p3; have P3 : Hid (Hw.Put _ p 100 (FrV ⟨b, 1, hd, nm, ow⟩ v) w3) := p3; clear p3; obtain ⟨e0, e1, e2, e3, e4⟩ := FramesAt.cellsH P3.out.row; dsimp only at e0 e1 e2 e3 e4; clear d0 d1 d2 d3 d4))
    have F3 := Put.framesAt (f := ⟨b, 1, hd, nm, ow⟩) P3.out (Put.framesAt (f := ⟨b, 3, hd, nm, ow⟩) P2.out HH.out.own HH.out.ne HH.out.lo).own HH.out.ne HH.out.lo
    have S3 : StepF p v w v w3 := (Put.stepF P2.out (fun k e => e)).trans (Put.stepF P3.out (fun k e => e))
    refine (takeOfNumber_any p _ _ _ F3 c h1 h2 h3).mono ?_
    rintro e w4 ⟨rfl, v4, F4, S4⟩
    go_wp2
    go_ret
    exact ⟨rfl, v4, F4, S3.trans S4⟩
  · rw [if_neg hdc]
    unfold Hm.Frs.goes
    dsimp only
    rw [if_neg (by decide), if_neg (by decide), if_pos rfl]
    cases hd1 : Hm.dig c
    · rw [hd1] at HD
      clear hdc hd1
      go_enter Tryz.func94, Tryz.ntmps94
      go_wp2_with (first
        | (refine Hw.wpList_store_fieldP rfl _ _ _ rfl rfl p 1 (.int .i64 3) rfl rfl _ _ (FrV ⟨b, 3, hd, nm, ow⟩ v) ROW.out size_stage (by simp [FrV]) rfl rfl ?_; intro w2 p2; have P2 : Hid (Hw.Put w p 100 (FrV ⟨b, 3, hd, nm, ow⟩ v) w2) := p2; clear p2; obtain ⟨d0, d1, d2, d3, d4⟩ := FramesAt.cellsH P2.out.row; dsimp only at d0 d1 d2 d3 d4)
        | (go_at_call 84; refine (HD.out _).mono ?_; rintro e w9 ⟨rfl, rfl⟩))
      refine (takeOfLine_any p _ _ _ (Put.framesAt (f := ⟨b, 3, hd, nm, ow⟩) P2.out HH.out.own HH.out.ne HH.out.lo) c h4).mono ?_
      rintro e w4 ⟨rfl, v4, F4, S4⟩
      go_wp2
      go_ret
      exact ⟨rfl, v4, F4, (Put.stepF P2.out (fun k e => e)).trans S4⟩
    · have hc : c = 48 := Classical.byContradiction fun e => hdc ⟨hd1, e⟩
      rw [hd1] at HD
      clear hdc hd1
      subst hc
      go_enter Tryz.func94, Tryz.ntmps94
      go_wp2_with (first
        | (refine Hw.wpList_store_fieldP rfl _ _ _ rfl rfl p 1 (.int .i64 3) rfl rfl _ _ (FrV ⟨b, 3, hd, nm, ow⟩ v) ROW.out size_stage (by simp [FrV]) rfl rfl ?_; intro w2 p2; have P2 : Hid (Hw.Put w p 100 (FrV ⟨b, 3, hd, nm, ow⟩ v) w2) := p2; clear p2; obtain ⟨d0, d1, d2, d3, d4⟩ := FramesAt.cellsH P2.out.row; dsimp only at d0 d1 d2 d3 d4)
        | (go_at_call 84; refine (HD.out _).mono ?_; rintro e w9 ⟨rfl, rfl⟩))
      refine (takeOfLine_any p _ _ _ (Put.framesAt (f := ⟨b, 3, hd, nm, ow⟩) P2.out HH.out.own HH.out.ne HH.out.lo) 48 h4).mono ?_
      rintro e w4 ⟨rfl, v4, F4, S4⟩
      go_wp2
      go_ret
      exact ⟨rfl, v4, F4, (Put.stepF P2.out (fun k e => e)).trans S4⟩
theorem take_any (p : Nat) (f : Hm.Frs) (v : Value) (w : World) (h : FramesAt w p f v) (c : UInt8) (hs : FSmall f) :
    Calls Tryz.prog 94 #[.pointer (some ⟨p, 0, none⟩), .int .u8 c.toNat] w fun e w' => e = .returned (.string ⟨(f.take c).2.toArray⟩) ∧ ∃ v', FramesAt w' p (f.take c).1 v' ∧ StepF p v w v' w' := by
  obtain ⟨b, st, hd, nm, ow⟩ := f
  by_cases h0 : st = 0
  · subst h0
    exact take_first p b hd nm ow v w h c hs
  · have := take_on p b st hd nm ow v w h c hs h0
    unfold Hm.Frs.take Hm.Frs.begun
    dsimp only
    rw [if_neg h0]
    exact this
end Go.Proofs.YtdlhbmncbmconaaGreatDoor
namespace Go.Proofs.YtdlhbmncbmconaaGreatDoor
open Go.RowKit Go.Shelf
attribute [local go_sem] Oper.semAt_some
theorem found_any (p : Nat) (s : ByteArray) (w : World) :
    Calls Tryz.prog 57 #[.pointer (some ⟨p, 0, none⟩), .string s] w fun e w' => e = .returned (.func (.func 93) #[] #[.pointer (some ⟨w.heap.size + 1, 0, none⟩), .pointer (some ⟨w.heap.size, 0, none⟩)]) ∧
      w' = (w.alloc (.cells #[.pointer (some ⟨p, 0, none⟩)] 45)).alloc (.cells #[.string s] 9) := by
  go_enter Tryz.func57, Tryz.ntmps57
  go_wp2
  go_ret
  exact ⟨rfl, rfl⟩
theorem StepF.others {p : Nat} {f : Hm.Frs} {v v' : Value} {w w' : World} (h : StepF p v w v' w') (hf : FramesAt w p f v) : KeepsOthers w w' :=
  h.kept.others (fun k o hS hk => by
    rcases hS with rfl | e
    · rw [hf.row] at hk; cases hk; rfl
    · obtain ⟨cur, hc⟩ := Hw.ownsRow_cells hf.own e
      rw [hc] at hk; cases hk; rfl)
def encB (x : List UInt8) : Array Value := #[.string ⟨x.toArray⟩]
set_option maxRecDepth 100000 in
set_option maxHeartbeats 1000000 in
theorem found1_all (n : Nat) (hn : 2 ≤ n) (Bb Bf p : Nat) (s : ByteArray) (hs : s.size ≤ 9000000000) (f0 : Hm.Frs) (v0 : Value) (hok : f0.Ok) (J : List (List UInt8) → Value → World → Prop)
    (hJ : ∀ pre f v A v' B, J pre v A → FramesAt A p f v → StepF p v A v' B → J pre v' B)
    (hC : ∀ pre v A, J pre v A → A.cell? ⟨Bf, 0, none⟩ = some (.pointer (some ⟨p, 0, none⟩)) ∧ A.cell? ⟨Bb, 0, none⟩ = some (.string s)) :
    Hw.SeqAll (β := Hm.Frs × Value) Fence.wide n Tryz.prog 93 #[.pointer (some ⟨Bb, 0, none⟩), .pointer (some ⟨Bf, 0, none⟩)] encB (fun pre b W => J pre b.2 W ∧ FramesAt W p b.1 b.2) (f0, v0)
      (fun xs b => xs = (f0.feed s.data.toList).2 ∧ b.1 = (f0.feed s.data.toList).1) s.size := by
  intro l Bk W hBk hY hI hb
  refine callsIn_of_wp Tryz.func93 rfl trivial ?_ rfl
  simp only [Tryz.ntmps93, List.size_toArray, List.length_cons, List.length_nil, Nat.reduceAdd, Nat.reduceSub, Array.replicate_succ, Array.replicate_zero, List.push_toArray, List.append_toArray, List.nil_append, List.cons_append]
  obtain ⟨d0, d1⟩ := hC _ _ _ hI.1
  gi_wp2
  gi_loopw [8] (fun ix wr => ∃ (k : Nat) (pre : List (List UInt8)) (f : Hm.Frs) (v : Value), ix = .int .i64 k ∧ k ≤ s.size ∧ pre.length ≤ k ∧ f.Ok ∧ f0.feed s.data.toList = ((f.feed (s.data.toList.drop k)).1, pre ++ (f.feed (s.data.toList.drop k)).2) ∧ J pre v wr ∧ FramesAt wr p f v ∧ Bk wr)
    (fun ix _ => s.size - (intOf ix).toNat)
  case atStart => exact ⟨0, [], f0, v0, rfl, Nat.zero_le _, Nat.le_refl _, hok, by simp, hI.1, hI.2, hb⟩
  case round =>
    obtain ⟨k, pre, f, v, rfl, hk, hpk, hfo, hfe, hj, hf, hbk⟩ := hrel
    clear d0 d1 hI hb
    obtain ⟨d0, d1⟩ := hC _ _ _ hj
    have HJ : Hid (J pre v wr) := hj
    have HF : Hid (FramesAt wr p f v) := hf
    have HFe : Hid (f0.feed s.data.toList = ((f.feed (s.data.toList.drop k)).1, pre ++ (f.feed (s.data.toList.drop k)).2)) := hfe
    clear hj hf hfe
    by_cases hlt : k < s.size
    · have hki : (k : Int) < (s.size : Int) := by omega
      have HT : Hid (∀ W, FramesAt W p f v → Calls Tryz.prog 94 #[.pointer (some ⟨p, 0, none⟩), .int .u8 s[k].toNat] W fun e w' => e = .returned (.string ⟨(f.take s[k]).2.toArray⟩) ∧ ∃ v', FramesAt w' p (f.take s[k]).1 v' ∧ StepF p v W v' w') := fun W h => take_any p f v W h s[k] (ok_small hfo)
      have hd := List.drop_eq_getElem_cons (l := s.data.toList) (i := k) (by rw [Hm.len]; exact hlt)
      have hg : s.data.toList[k]'(by rw [Hm.len]; exact hlt) = s[k] := by simp; rfl
      rw [hg] at hd
      rw [hd, Hm.Frs.feed] at HFe
      have HO2 : Hid ((f.take s[k]).1.Ok) := Hm.Frs.take_ok hfo s[k]
      clear hd hg
      generalize f.take s[k] = r at HT HFe HO2
      obtain ⟨f', t⟩ := r
      dsimp only at HT HFe HO2
      have hmix := mixed
      cases t with
      | nil =>
        gi_wp2_with fail
        gi_region_with_o (refine ⟨trivial, fun _ => by omega, ?_⟩; refine (callsIn_wide.2 (HT.out wr.drew (show FramesAt wr.drew p f v from ⟨HF.out.row, HF.out.own, HF.out.ne, HF.out.lo⟩))).mono ?_; rintro e w4 ⟨rfl, v4, F4, S4⟩; have HF4 : Hid (FramesAt w4 p f' v4) := F4; have HS4 : Hid (StepF p v wr v4 w4) := (StepF.refl.drewN 1).trans S4; clear F4 S4)
        all_goals gi_wp2
        all_goals refine ⟨fun _ h => (by cases h), ?_⟩
        all_goals gi_wp2
        all_goals (
          go_roundw
          case rel => exact ⟨k + 1, pre, f', v4, int_eq (by simp), by omega, by omega, HO2.out, by rw [HFe.out, if_pos trivial], hJ _ _ _ _ _ _ HJ.out HF.out HS4.out, HF4.out, hBk _ _ (HS4.out.others HF.out) hbk⟩
          case measure => simp [intOf]; omega)
      | cons x t =>
        gi_wp2_with fail
        gi_region_with_o (refine ⟨trivial, fun _ => by omega, ?_⟩; refine (callsIn_wide.2 (HT.out wr.drew (show FramesAt wr.drew p f v from ⟨HF.out.row, HF.out.own, HF.out.ne, HF.out.lo⟩))).mono ?_; rintro e w4 ⟨rfl, v4, F4, S4⟩; have HF4 : Hid (FramesAt w4 p f' v4) := F4; have HS4 : Hid (StepF p v wr v4 w4) := (StepF.refl.drewN 1).trans S4; clear F4 S4)
        all_goals (
          obtain ⟨fn, tmps, assign, body, hy, hR⟩ := hY pre (f', v4) (x :: t) w4 ⟨hJ _ _ _ _ _ _ HJ.out HF.out HS4.out, HF4.out⟩ (hBk _ _ (HS4.out.others HF.out) hbk) (by omega)
          unfold encB at hy
          gi_wp2
          refine ⟨fun _ => by omega, hR.mono ?_⟩
          rintro z w5 ⟨rfl, ⟨hj5, hf5⟩, hbk5⟩
          have HJ5 : Hid (J (pre ++ [x :: t]) v4 w5) := hj5
          have HF5 : Hid (FramesAt w5 p f' v4) := hf5
          clear hj5 hf5
          gi_wp2
          go_roundw
          case rel => exact ⟨k + 1, pre ++ [x :: t], f', v4, int_eq (by simp), by omega, by simp; omega, HO2.out, by rw [HFe.out]; simp, HJ5.out, HF5.out, hbk5⟩
          case measure => simp [intOf]; omega)
    · have hki : ¬ (k : Int) < (s.size : Int) := by omega
      have hdr : s.data.toList.drop k = [] := List.drop_of_length_le (by rw [Hm.len]; omega)
      rw [hdr] at HFe
      clear hdr
      gi_wp2
      refine bodyPost_end (results_none rfl _ _ _) rfl ?_
      exact ⟨⟨_, rfl⟩, pre, f, ⟨by rw [HFe.out]; simp [Hm.Frs.feed], by rw [HFe.out]; rfl⟩, ⟨v, HJ.out, HF.out⟩, hbk⟩
end Go.Proofs.YtdlhbmncbmconaaGreatDoor
namespace Go.Proofs.YtdlhbmncbmconaaGreatDoor
open Go.RowKit Go.Shelf Go.Sort
attribute [local go_sem] Oper.semAt_some
theorem ne_types {w : World} {a b : Nat} {c c' : Array Value} {t t' : TypeId} {fr fr' : Nat × Nat} (h : w.heap[a]? = some (.cells c t fr)) (h' : w.heap[b]? = some (.cells c' t' fr')) (ht : t ≠ t') : a ≠ b := by
  intro e
  subst e
  rw [h] at h'
  cases h'
  exact ht rfl
theorem kept_putObj {W : World} {l : Nat} (o' : Obj) : Hw.Kept (fun k => k = l) W (W.putObj l o') :=
  (Hw.Kept.of_grown (grownBy_putObj' W l o')).mono (fun i _ e => by cases e; rfl)
theorem put_setCell {w : World} {g i : Nat} {t : TypeId} {old : Array Value} (v : Value) (hg : w.heap[g]? = some (.cells old t (0, 0))) : Hw.Put w g t (old.setIfInBounds i v) (w.setCell ⟨g, i, none⟩ v) := by
  rw [setCell_eq_setRow w g i old t (0, 0) v hg]
  exact Hw.put_setRow hg _
theorem own_base {w : World} {base base' : Nat} {e : TypeId} {size : Nat} {v : Value} {n : Nat} {xs : List Value} (h : w.ownsRow base e size v n xs) (hb : base' ≤ base) : w.ownsRow base' e size v n xs :=
  ⟨h.1, h.2.imp id (fun ⟨g, cap, cur, h1, h2, h3⟩ => ⟨g, cap, cur, h1, Nat.le_trans hb h2, h3⟩)⟩
structure FeedJ (w : World) (p : Nat) (v0 : Value) (s : ByteArray) (pre : List (List UInt8)) (v : Value) (W : World) : Prop where
  rt : ∃ tv, W.heap[w.heap.size]? = some (.cells #[tv] 42 (0, 0)) ∧ W.ownsRow (w.heap.size + 3) 9 1 tv pre.length (pre.map strV)
  rf : W.heap[w.heap.size + 1]? = some (.cells #[.pointer (some ⟨p, 0, none⟩)] 45 (0, 0))
  rb : W.heap[w.heap.size + 1 + 1]? = some (.cells #[.string s] 9 (0, 0))
  kept : Hw.Kept (fun k => k = p ∨ v0.ownBlock = some k) w W
  lies : ∀ k, v.ownBlock = some k → v0.ownBlock = some k ∨ w.heap.size ≤ k
theorem FeedJ.cells {w : World} {p : Nat} {v0 v : Value} {s : ByteArray} {pre : List (List UInt8)} {W : World} (h : FeedJ w p v0 s pre v W) :
    W.cell? ⟨w.heap.size + 1, 0, none⟩ = some (.pointer (some ⟨p, 0, none⟩)) ∧ W.cell? ⟨w.heap.size + 1 + 1, 0, none⟩ = some (.string s) := by
  refine ⟨?_, ?_⟩ <;> simp [World.cell?, h.rf, h.rb]
theorem FeedJ.keep {w : World} {p : Nat} {v0 v v' : Value} {s : ByteArray} {pre : List (List UInt8)} {A B : World} {S : Nat → Prop} (h : FeedJ w p v0 s pre v A) (hk : Hw.Kept S A B)
    (hS : ∀ k, S k → ∀ c t, A.heap[k]? = some (.cells c t (0, 0)) → t ≠ 42 ∧ t ≠ 45 ∧ t ≠ 9)
    (hw : ∀ k, k < w.heap.size → S k → k = p ∨ v0.ownBlock = some k) (hl : ∀ k, v'.ownBlock = some k → v.ownBlock = some k ∨ w.heap.size ≤ k) : FeedJ w p v0 s pre v' B where
  rt := by
    obtain ⟨tv, h1, h2⟩ := h.rt
    refine ⟨tv, (hk.block _ (Array.getElem?_eq_some_iff.1 h1).1 (fun e => (hS _ e _ _ h1).1 rfl)).trans h1, Hw.ownsRow_keptS h2 hk (fun k e hs => ?_)⟩
    obtain ⟨cur, hc⟩ := Hw.ownsRow_cells h2 e
    exact (hS _ hs _ _ hc).2.2 rfl
  rf := (hk.block _ (Array.getElem?_eq_some_iff.1 h.rf).1 (fun e => (hS _ e _ _ h.rf).2.1 rfl)).trans h.rf
  rb := (hk.block _ (Array.getElem?_eq_some_iff.1 h.rb).1 (fun e => (hS _ e _ _ h.rb).2.2 rfl)).trans h.rb
  kept := h.kept.trans hk hw
  lies k e := by
    rcases hl k e with e | e
    · exact h.lies k e
    · exact .inr e
theorem FeedJ.step {w : World} {p : Nat} {v0 v v' : Value} {s : ByteArray} {pre : List (List UInt8)} {A B : World} {f : Hm.Frs} (h : FeedJ w p v0 s pre v A) (hf : FramesAt A p f v) (hs : StepF p v A v' B) : FeedJ w p v0 s pre v' B :=
  h.keep hs.kept (fun k e c t hc => by
    rcases e with rfl | e
    · rw [hf.row] at hc; cases hc; decide
    · obtain ⟨cur, hcur⟩ := Hw.ownsRow_cells hf.own e
      rw [hcur] at hc; cases hc; decide)
    (fun k hk e => by
      rcases e with rfl | e
      · exact .inl rfl
      · rcases h.lies k e with e | e
        · exact .inr e
        · omega)
    (fun k e => by
      rcases hs.lies k e with e | e
      · exact .inl e
      · exact .inr (Nat.le_trans h.kept.size e))
theorem FramesAt.keep {p : Nat} {f : Hm.Frs} {v : Value} {A B : World} {S : Nat → Prop} (h : FramesAt A p f v) (hk : Hw.Kept S A B) (h1 : ¬ S p) (h2 : ∀ k, v.ownBlock = some k → ¬ S k) : FramesAt B p f v :=
  ⟨(hk.block _ (Array.getElem?_eq_some_iff.1 h.row).1 h1).trans h.row, Hw.ownsRow_keptS h.own hk h2, h.ne, h.lo⟩
theorem feedJ_row {w : World} {pre : List (List UInt8)} {W w5 : World} {tv : Value} {o : Obj}
    (r1 : W.heap[w.heap.size]? = some (.cells #[tv] 42 (0, 0))) (o1 : W.ownsRow (w.heap.size + 3) 9 1 tv pre.length (pre.map strV)) (hgrow : (W.alloc o).grownBy w5 tv.ownBlock) :
    w5.heap[w.heap.size]? = some (.cells #[tv] 42 (0, 0)) ∧ Hw.Kept (fun k => some k = tv.ownBlock) W w5 := by
  have hk : Hw.Kept (fun k => some k = tv.ownBlock) W w5 := ((Hw.Kept.refl _ W).alloc o).trans (Hw.Kept.of_grown hgrow) (fun _ _ e => e)
  refine ⟨(hk.block _ (Array.getElem?_eq_some_iff.1 r1).1 (fun e => ?_)).trans r1, hk⟩
  obtain ⟨cur, hc⟩ := Hw.ownsRow_cells o1 e.symm
  exact ne_types r1 hc (by decide) rfl
theorem feedJ_append {w : World} {p : Nat} {v0 u : Value} {s : ByteArray} {pre : List (List UInt8)} {W w5 : World} {g : Hm.Frs} {x : List UInt8} {tv v' : Value} {o : Obj} (hj : FeedJ w p v0 s pre u W) (hg : FramesAt W p g u) (hp : p < w.heap.size)
    (r1 : W.heap[w.heap.size]? = some (.cells #[tv] 42 (0, 0))) (o1 : W.ownsRow (w.heap.size + 3) 9 1 tv pre.length (pre.map strV))
    (hown' : w5.ownsRow (w.heap.size + 3) 9 1 v' (pre.length + 1) (pre.map strV ++ [.string ⟨x.toArray⟩])) (hgrow : (W.alloc o).grownBy w5 tv.ownBlock) :
    KeepsOthers W (w5.setCell ⟨w.heap.size, 0, none⟩ v') ∧ FeedJ w p v0 s (pre ++ [x]) u (w5.setCell ⟨w.heap.size, 0, none⟩ v') ∧ FramesAt (w5.setCell ⟨w.heap.size, 0, none⟩ v') p g u := by
  obtain ⟨r5, k5⟩ := feedJ_row r1 o1 hgrow
  have P6 := put_setCell (i := 0) v' r5
  generalize w5.setCell ⟨w.heap.size, 0, none⟩ v' = w6 at P6 ⊢
  have k6 : Hw.Kept (fun k => some k = tv.ownBlock ∨ k = w.heap.size) W w6 := (k5.mono (fun _ _ e => .inl e)).trans P6.kept (fun _ _ e => .inr e)
  have hlt : ∀ k, some k = tv.ownBlock → w.heap.size + 3 ≤ k := fun k e => (o1.lt k e.symm).1
  have hd : ∀ {k : Nat} {c : Array Value} {t : TypeId}, W.heap[k]? = some (.cells c t (0, 0)) → t ≠ 9 → t ≠ 42 → ¬ (some k = tv.ownBlock ∨ k = w.heap.size) := by
    intro k c t hc h1 h2 e
    rcases e with e | e
    · obtain ⟨cur, hc'⟩ := Hw.ownsRow_cells o1 e.symm
      exact ne_types hc hc' h1 rfl
    · subst e
      exact ne_types hc r1 h2 rfl
  have hsm : ∀ k, k < w.heap.size → ¬ (some k = tv.ownBlock ∨ k = w.heap.size) := by
    rintro k hk (e | e)
    · have := hlt k e; omega
    · omega
  have hl2 : ∀ k, w.heap.size < k → k < w.heap.size + 3 → ¬ (some k = tv.ownBlock ∨ k = w.heap.size) := by
    rintro k h1 h2 (e | e)
    · have := hlt k e; omega
    · omega
  refine ⟨k6.others (fun k o e hk => ?_), ⟨⟨v', P6.row, ?_⟩, ?_, ?_, hj.kept.trans k6 (fun k hk e => absurd e (hsm k hk)), hj.lies⟩, hg.keep k6 (hsm p hp) (fun k e => ?_)⟩
  · rcases e with e | e
    · obtain ⟨cur, hc⟩ := Hw.ownsRow_cells o1 e.symm
      rw [hc] at hk; cases hk; rfl
    · subst e; rw [r1] at hk; cases hk; rfl
  · have := Hw.ownsRow_keptS hown' P6.kept (fun k e h => by have := (hown'.lt k e).1; omega)
    simpa [strV] using this
  · exact (k6.block _ (Array.getElem?_eq_some_iff.1 hj.rf).1 (hl2 _ (by omega) (by omega))).trans hj.rf
  · exact (k6.block _ (Array.getElem?_eq_some_iff.1 hj.rb).1 (hl2 _ (by omega) (by omega))).trans hj.rb
  · obtain ⟨cur, hc⟩ := Hw.ownsRow_cells hg.own e
    exact hd hc (by decide) (by decide)
set_option maxRecDepth 100000 in
set_option maxHeartbeats 1000000 in
theorem feed_in (p : Nat) (f : Hm.Frs) (v : Value) (s : ByteArray) (hs : s.size ≤ 9000000000) (w : World) (hf : FramesAt w p f v) (hok : f.Ok) :
    CallsIn Fence.wide 4 Tryz.prog 28 #[.pointer (some ⟨p, 0, none⟩), .string s] w fun e w' => ∃ tv v', e = .returned (.tuple #[tv, .int .i64 ((f.feed s.data.toList).1.head + (f.feed s.data.toList).1.own.length : Nat)]) ∧
      FramesAt w' p (f.feed s.data.toList).1 v' ∧ StepF p v w v' w' ∧ w'.ownsRow w.heap.size 9 1 tv (f.feed s.data.toList).2.length ((f.feed s.data.toList).2.map strV) := by
  have HFo : Hid (∀ w, Calls Tryz.prog 57 #[.pointer (some ⟨p, 0, none⟩), .string s] w fun e w' => e = .returned (.func (.func 93) #[] #[.pointer (some ⟨w.heap.size + 1, 0, none⟩), .pointer (some ⟨w.heap.size, 0, none⟩)]) ∧
      w' = (w.alloc (.cells #[.pointer (some ⟨p, 0, none⟩)] 45)).alloc (.cells #[.string s] 9)) := fun w => found_any p s w
  have HF : Hid (FramesAt w p f v) := hf
  have hp : p < w.heap.size := (Array.getElem?_eq_some_iff.1 hf.row).1
  have hpl : 11 ≤ p := hf.lo
  clear hf
  obtain ⟨i0, hi, hz0, hz1, hz2'⟩ := info_parts info_str
  refine callsIn_of_wp_marks Tryz.func28 rfl trivial ?_ rfl
  simp only [Tryz.ntmps28, List.size_toArray, List.length_cons, List.length_nil, Nat.reduceAdd, Nat.reduceSub, Array.replicate_succ, Array.replicate_zero, List.push_toArray, List.append_toArray, List.nil_append, List.cons_append]
  gi_wp2_with fail
  refine ⟨trivial, ?_⟩
  refine (callsIn_wide.2 (HFo.out _)).mono ?_
  rintro e w' ⟨rfl, rfl⟩
  gi_wp2_with fail
  obtain ⟨W0, hW0⟩ : ∃ W0, (((w.alloc (.cells #[.slice none 0 0] 42)).alloc (.cells #[.pointer (some ⟨p, 0, none⟩)] 45)).alloc (.cells #[.string s] 9)) = W0 := ⟨_, rfl⟩
  have hz : W0.heap.size = w.heap.size + 3 := by subst hW0; simp
  have hB0 : Below w.heap.size w W0 := by
    rw [← hW0]
    exact (((Below.refl _ w).alloc (Nat.le_refl _) _).alloc (by simp) _).alloc (by simp; omega) _
  have J0 : FeedJ w p v s [] v W0 := by
    refine ⟨⟨.slice none 0 0, ?_, World.ownsRow_nil _ _ _ _⟩, ?_, ?_, Hw.Kept.of_below hB0, fun k e => .inl e⟩
    · rw [← hW0]
      exact (heap_alloc_old _ _ (by simp; omega)).trans ((heap_alloc_old _ _ (by simp)).trans (heap_alloc_new _ _))
    · rw [← hW0]
      refine (heap_alloc_old _ _ (by simp)).trans ?_
      have := heap_alloc_new (w.alloc (.cells #[.slice none 0 0] 42)) (.cells #[.pointer (some ⟨p, 0, none⟩)] 45)
      rwa [World.size_alloc] at this
    · rw [← hW0]
      have := heap_alloc_new ((w.alloc (.cells #[.slice none 0 0] 42)).alloc (.cells #[.pointer (some ⟨p, 0, none⟩)] 45)) (.cells #[.string s] 9)
      rwa [World.size_alloc, World.size_alloc] at this
  have F0 : FramesAt W0 p f v := HF.out.keep (S := fun _ => False) (Hw.Kept.of_below hB0) (fun e => e) (fun _ _ e => e)
  rw [hW0]
  clear hW0
  have hownlt : ∀ (A : World) (g : Hm.Frs) (u : Value), FramesAt A p g u → ∀ k, u.ownBlock = some k → ∃ cur, A.heap[k]? = some (.cells cur 5 (0, 0)) := fun A g u h k e => Hw.ownsRow_cells h.own e
  refine Hw.wpIn_rangeFunc_all rfl (by omega) (gf := 93) (lb := #[.pointer (some ⟨w.heap.size + 1 + 1, 0, none⟩), .pointer (some ⟨w.heap.size + 1, 0, none⟩)]) rfl trivial (enters_of Tryz.func93 (by kernel_rfl) rfl)
    (found1_all (4 - 1) (by omega) (w.heap.size + 1 + 1) (w.heap.size + 1) p s hs f v hok (FeedJ w p v s) (fun pre g u A u' B h hg hst => h.step hg hst) (fun pre u A h => h.cells)) (fun _ => rfl) ?put ?start
    (fun x => { tmps := #[.pointer (some ⟨p, 0, none⟩), .string s, undef, undef, .slice none 0 0, .int .i64 0, .pointer (some ⟨w.heap.size, 0, none⟩), .string ⟨x.toArray⟩, .pointer (some ⟨p, 0, none⟩), .bool false, .pointer (some ⟨p, 0, none⟩), .string s, .func (.func 93) #[] #[.pointer (some ⟨w.heap.size + 1 + 1, 0, none⟩), .pointer (some ⟨w.heap.size + 1, 0, none⟩)], .string ⟨x.toArray⟩, undef, undef, undef, undef, undef, undef, undef, undef, undef, undef, undef, undef, undef, undef, undef], defers := [] }) ?assign ?body ?done
  case put =>
    rintro pre ⟨g, u⟩ W l o o' hl ⟨hj, hg⟩ ho hoc
    dsimp only at hj hg ⊢
    refine ⟨hj.keep (kept_putObj o') (fun k e c t hc => ?_) (fun k hk e => ?_) (fun k e => .inl e), hg.keep (kept_putObj o') (fun e => by omega) (fun k e e2 => ?_)⟩
    · subst e; rw [ho] at hc; cases hc; cases hoc
    · subst e; omega
    · subst e2
      obtain ⟨cur, hc⟩ := hownlt _ _ _ hg k e
      rw [ho] at hc; cases hc; cases hoc
  case start =>
    intro o o'
    have hb : Below W0.heap.size W0 ((W0.alloc o).alloc o') := ((Below.refl _ _).alloc (Nat.le_refl _) _).alloc (by simp) _
    exact ⟨J0.keep (S := fun _ => False) (Hw.Kept.of_below hb) (fun _ e => e.elim) (fun _ _ e => e.elim) (fun k e => .inl e), F0.keep (S := fun _ => False) (Hw.Kept.of_below hb) (fun e => e) (fun _ _ e => e)⟩
  case assign =>
    intro l x W K hK
    unfold encB
    gi_wp2
    exact hK
  case body =>
    rintro l pre ⟨g, u⟩ x W ⟨hj, hg⟩ hlen
    dsimp only at hj hg ⊢
    obtain ⟨tv, r1, o1⟩ := hj.rt
    have t1 : W.cell? ⟨w.heap.size, 0, none⟩ = some tv := by simp [World.cell?, r1]
    have f1 : W.frozen? ⟨w.heap.size, 0, none⟩ = false := by simp [World.frozen?, r1]
    have HJ : Hid (FeedJ w p v s pre u W) := hj
    have HG : Hid (FramesAt W p g u) := hg
    have HO : Hid (W.ownsRow (w.heap.size + 3) 9 1 tv pre.length (pre.map strV)) := o1
    have HR : Hid (W.heap[w.heap.size]? = some (.cells #[tv] 42 (0, 0))) := r1
    clear hj hg o1 r1 J0 F0
    have hsz3 : w.heap.size + 3 ≤ W.heap.size := (Array.getElem?_eq_some_iff.1 HJ.out.rb).1
    gi_wp2_with (gi_at_builtin; refine wpListIn_append_own_at _ rfl _ _ 42 rfl (w.heap.size + 3) 9 i0 (.string ByteArray.empty) 1 16 Tryz.underlying42 hi hz0 hz1 hz2' rfl (by decide) _ _ _ rfl (HO.out.alloc _) ⟨W.heap.size, 0, none⟩ 1 1 [.string ⟨x.toArray⟩] rfl rfl (cell_one_new _ _ _) (fun x hx => by simp at hx; subst hx; rfl) (by unfold maxLen; omega) (by omega) (by simp; omega) ?_; intro v' w5 hown' hgrow hnil hat; have HO5 : Hid (w5.ownsRow (w.heap.size + 3) 9 1 v' (pre.length + 1) (pre.map strV ++ [.string ⟨x.toArray⟩])) := hown'; have HG5 : Hid ((W.alloc (.cells #[.string ⟨x.toArray⟩] 9)).grownBy w5 tv.ownBlock) := hgrow; have r5 := (feedJ_row HR.out HO.out hgrow).1; have t5 : w5.cell? ⟨w.heap.size, 0, none⟩ = some tv := (by simp [World.cell?, r5]); have f5 : w5.frozen? ⟨w.heap.size, 0, none⟩ = false := (by simp [World.frozen?, r5]); obtain ⟨g5, cap5, hv5⟩ : ∃ g5 cap5, v' = .slice (some ⟨g5, 0, none⟩) (pre.length + 1) cap5 := (by rcases hown'.2 with ⟨_, h⟩ | ⟨g5, cap5, _, h, _⟩; omega; exact ⟨g5, cap5, h⟩); subst hv5; clear hown' hgrow hat hnil r5)
    exact feedJ_append HJ.out HG.out hp HR.out HO.out HO5.out HG5.out
  case done =>
    rintro D xs ⟨g, u⟩ W hD ⟨rfl, hg1⟩ ⟨hj, hg⟩ hK
    dsimp only at hj hg hg1
    subst hg1
    obtain ⟨tv, r1, o1⟩ := hj.rt
    have t1 : W.cell? ⟨w.heap.size, 0, none⟩ = some tv := by simp [World.cell?, r1]
    obtain ⟨c0, c1, c2, c3, c4⟩ := hg.cells
    obtain ⟨ad, cap, hu⟩ := own_form hg.own
    have hok' := (Hm.Frs.feed_ok s.data.toList hok).head
    have HJ : Hid (FeedJ w p v s (f.feed s.data.toList).2 u W) := hj
    have HG : Hid (FramesAt W p (f.feed s.data.toList).1 u) := hg
    have HO : Hid (W.ownsRow (w.heap.size + 3) 9 1 tv (f.feed s.data.toList).2.length ((f.feed s.data.toList).2.map strV)) := o1
    clear hj hg o1 r1 J0 F0 c0 c1 c3
    obtain ⟨r, hr⟩ : ∃ r, f.feed s.data.toList = r := ⟨_, rfl⟩
    rw [hr] at HJ HG HO c2 hu hok'
    have HRr : Hid (f.feed s.data.toList = r) := hr
    clear hr
    obtain ⟨f', tl⟩ := r
    dsimp only at HJ HG HO c2 c4 hu hok' ⊢
    obtain ⟨b', st', hd', nm', ow'⟩ := f'
    dsimp only at c2 c4 hu hok' ⊢
    subst hu
    have hmix := mixed
    gi_wp2_with fail
    gi_region
    gi_wp2
    have hb200 : b' ≤ 200 := by
      have h1 := Hm.Frs.feed_bound s.data.toList f
      rw [HRr.out] at h1
      have := hok.b2
      dsimp only at h1
      omega
    have hw : wrap64 ((hd' : Int) + (ow'.length : Int)) = ((hd' + ow'.length : Nat) : Int) := by unfold wrap64; omega
    have hKd : W.drew.heap[D]? = some (.deferred (some [])) := hK
    have hk1 : Hw.Kept (fun k => k = D) W.drew (W.drew.putObj D (.deferred none)) := kept_putObj _
    have G1 : FramesAt W.drew p ⟨b', st', hd', nm', ow'⟩ (.slice ad ow'.length cap) := HG.out.drewN 1
    have G2 : FramesAt (W.drew.putObj D (.deferred none)) p ⟨b', st', hd', nm', ow'⟩ (.slice ad ow'.length cap) := G1.keep hk1 (by omega) (fun k e h => by
      obtain ⟨cur, hc⟩ := hownlt _ _ _ G1 k e
      subst h
      rw [hKd] at hc; cases hc)
    have O1 : W.drew.ownsRow (w.heap.size + 3) 9 1 tv tl.length (tl.map strV) := HO.out
    have O2 := Hw.ownsRow_keptS O1 hk1 (fun k e h => by
      obtain ⟨cur, hc⟩ := Hw.ownsRow_cells O1 e
      subst h
      rw [hKd] at hc; cases hc)
    refine ⟨by simp, .inl ⟨_, _, rfl, run_takeDeferred hKd, ?_⟩⟩
    refine ⟨.tuple #[tv, .int .i64 (wrap64 ((hd' : Int) + (ow'.length : Int)))], by simp [results, Tryz.results28, go_sem], ?_⟩
    refine ⟨tv, .slice ad ow'.length cap, by rw [HRr.out, hw], by rw [HRr.out]; exact G2, ⟨?_, HJ.out.lies⟩, ?_⟩
    · exact (HJ.out.kept.next (drew_below ⟨1, rfl⟩)).trans hk1 (fun i hi e => by omega)
    · rw [HRr.out]
      exact own_base O2 (by omega)
theorem Feed_any (p : Nat) (f : Hm.Frs) (v : Value) (s : ByteArray) (hs : s.size ≤ 9000000000) (w : World) (hf : FramesAt w p f v) (hok : f.Ok) :
    Calls Tryz.prog 28 #[.pointer (some ⟨p, 0, none⟩), .string s] w fun e w' => ∃ tv v', e = .returned (.tuple #[tv, .int .i64 ((f.feed s.data.toList).1.head + (f.feed s.data.toList).1.own.length : Nat)]) ∧
      FramesAt w' p (f.feed s.data.toList).1 v' ∧ StepF p v w v' w' ∧ w'.ownsRow w.heap.size 9 1 tv (f.feed s.data.toList).2.length ((f.feed s.data.toList).2.map strV) := callsIn_wide.1 (feed_in p f v s hs w hf hok)
end Go.Proofs.YtdlhbmncbmconaaGreatDoor
namespace Go.Proofs.YtdlhbmncbmconaaGreatDoor
open Go.RowKit Go.Sort
attribute [local go_sem] alloc_drewN setCell_drewN
theorem NewFrames_no (n : Int) (w : World) (h : n < 1 ∨ 200 < n) :
    Calls Tryz.prog 27 #[.int .i64 n] w fun e w' => e = .returned (.tuple #[.pointer none, .int .i64 10]) ∧ w' = w := by
  rcases h with h | h
  · go_enter Tryz.func27, Tryz.ntmps27
    go_wp2
    refine bodyPost_ret (results_tmp2 rfl _ _ _) rfl ?_
    exact ⟨rfl, rfl⟩
  · have h1 : ¬ n < 1 := by omega
    go_enter Tryz.func27, Tryz.ntmps27
    go_wp2
    refine bodyPost_ret (results_tmp2 rfl _ _ _) rfl ?_
    exact ⟨rfl, rfl⟩
theorem NewFrames_any (n : Nat) (w : World) (hw : 11 ≤ w.heap.size) (h1 : 1 ≤ n) (h2 : n ≤ 200) :
    Calls Tryz.prog 27 #[.int .i64 n] w fun e w' => e = .returned (.tuple #[.pointer (some ⟨w.heap.size, 0, none⟩), .int .i64 0]) ∧ FramesAt w' w.heap.size (Hm.Frs.fresh n) (.slice none 0 0) ∧ Below w.heap.size w w' := by
  have i1 : ¬ (n : Int) < 1 := by omega
  have i2 : ¬ 200 < (n : Int) := by omega
  go_enter Tryz.func27, Tryz.ntmps27
  go_wp2
  refine bodyPost_ret (results_tmp2 rfl _ _ _) rfl ?_
  exact ⟨rfl, ⟨heap_alloc_new _ _, World.ownsRow_nil _ _ _ _, by simp [Value.ownBlock], hw⟩, (Below.refl _ _).alloc (Nat.le_refl _) _⟩
end Go.Proofs.YtdlhbmncbmconaaGreatDoor

/- Contracts of the statements' package: step, plays, Messages. -/
import Derived.Test.YtdlhbmncbmconaaGreatDoorDb
import Derived.Test.YtdlhbmncbmconaaGreatDoorDc
namespace Go.Proofs.YtdlhbmncbmconaaGreatDoor
open Go.RowKit Go.Sort
theorem size_op : (Tryz.prog.info? 82).map (·.size) = some 16 := by kernel_rfl
theorem op_row {W wr : World} {b off k : Nat} {o : OpV} (hc : W.rangeAt b (off + k * 16) (opCells o).toList) (hb : Below W.heap.size W wr) :
    wr.cell? ⟨b, off + k * 16, none⟩ = some (.int .i64 o.kind) ∧ wr.cell? ⟨b, off + k * 16 + 1, none⟩ = some (.int .i64 o.w) ∧ wr.cell? ⟨b, off + k * 16 + 2, none⟩ = some (.int .i64 o.v) ∧ wr.cell? ⟨b, off + k * 16 + 3, none⟩ = some (.int .i64 o.u) ∧ wr.cell? ⟨b, off + k * 16 + 4, none⟩ = some (.int .i64 o.n) ∧ wr.cell? ⟨b, off + k * 16 + 5, none⟩ = some (.int .i64 o.m) ∧ wr.cell? ⟨b, off + k * 16 + 6, none⟩ = some (.string ⟨o.s.toArray⟩) ∧ wr.cell? ⟨b, off + k * 16 + 7, none⟩ = some (.int .i64 o.msg.fac) ∧ wr.cell? ⟨b, off + k * 16 + 8, none⟩ = some (.int .i64 o.msg.sev) ∧ wr.cell? ⟨b, off + k * 16 + 9, none⟩ = some (.string ⟨o.msg.time.toArray⟩) ∧ wr.cell? ⟨b, off + k * 16 + 10, none⟩ = some (.string ⟨o.msg.host.toArray⟩) ∧ wr.cell? ⟨b, off + k * 16 + 11, none⟩ = some (.string ⟨o.msg.app.toArray⟩) ∧ wr.cell? ⟨b, off + k * 16 + 12, none⟩ = some (.string ⟨o.msg.proc.toArray⟩) ∧ wr.cell? ⟨b, off + k * 16 + 13, none⟩ = some (.string ⟨o.msg.id.toArray⟩) ∧ wr.cell? ⟨b, off + k * 16 + 14, none⟩ = some (.string ⟨o.msg.data.toArray⟩) ∧ wr.cell? ⟨b, off + k * 16 + 15, none⟩ = some (.string ⟨o.msg.text.toArray⟩) := by
  have h0 := hc 0 _ rfl
  have hl : b < W.heap.size := block_lt_of_cell h0
  have key : ∀ j v, (opCells o).toList[j]? = some v → wr.cell? ⟨b, off + k * 16 + j, none⟩ = some v := fun j v h => (hb.cell (p := ⟨b, off + k * 16 + j, none⟩) hl).trans (hc j v h)
  exact ⟨key 0 _ rfl, key 1 _ rfl, key 2 _ rfl, key 3 _ rfl, key 4 _ rfl, key 5 _ rfl, key 6 _ rfl, key 7 _ rfl, key 8 _ rfl, key 9 _ rfl, key 10 _ rfl, key 11 _ rfl, key 12 _ rfl, key 13 _ rfl, key 14 _ rfl, key 15 _ rfl⟩
theorem messages_op (o : OpV) (hk : o.kind = 1 ∨ o.kind = 2) (hs : o.Small 4000000000) (w : World) (hT : Tabs w) : Calls Tryz.prog 71 #[.agg (opCells o)] w fun r w' => r = .returned (.bool true) ∧ Below w.heap.size w w' := by
  rcases hk with h | h
  · exact messages_read o h hs.s w hT
  · exact messages_line o h hs w hT
set_option maxRecDepth 20000 in
set_option maxHeartbeats 4000000 in
theorem step_any (p : Nat) (o : OpV) (hk : o.kind = 1 ∨ o.kind = 2) (hs : o.Small 4000000000) (w : World) (hT : Tabs w) : Calls Tryz.prog 41 #[.pointer (some ⟨p, 0, none⟩), .agg (opCells o)] w fun r w' => r = .returned (.bool true) ∧ Below w.heap.size w w' := by
  have MS : Hid (∀ w, Tabs w → Calls Tryz.prog 71 #[.agg (opCells o)] w fun r w' => r = .returned (.bool true) ∧ Below w.heap.size w w') := messages_op o hk hs
  clear hs
  obtain ⟨kd, a, b, c, n, q, s, ⟨f, sv, t, h1, h2, h3, h4, d, x⟩⟩ := o
  unfold opCells at MS ⊢
  dsimp only at hk MS ⊢
  rcases hk with h | h
  · subst h
    go_enter Tryz.func41, Tryz.ntmps41
    go_wp2_with (first
      | (refine wpList_load_row rfl _ _ rfl w.heap.size rfl _ _ _ _ (heap_alloc_new _ _) Tryz.underlying82 rfl size_op ?_)
      | fail)
    refine (MS.out _ (hT.alloc _)).mono ?_
    rintro e w1 ⟨rfl, hb1⟩
    have HB1 : Hid (Below w.heap.size w w1) := ((Below.refl _ _).alloc (Nat.le_refl _) _).trans (hb1.mono (by simp))
    clear hb1
    go_wp2
    go_ret
    exact ⟨rfl, HB1.out⟩
  · subst h
    go_enter Tryz.func41, Tryz.ntmps41
    go_wp2_with (first
      | (refine wpList_load_row rfl _ _ rfl w.heap.size rfl _ _ _ _ (heap_alloc_new _ _) Tryz.underlying82 rfl size_op ?_)
      | fail)
    refine (MS.out _ (hT.alloc _)).mono ?_
    rintro e w1 ⟨rfl, hb1⟩
    have HB1 : Hid (Below w.heap.size w w1) := ((Below.refl _ _).alloc (Nat.le_refl _) _).trans (hb1.mono (by simp))
    clear hb1
    go_wp2
    go_ret
    exact ⟨rfl, HB1.out⟩
set_option maxRecDepth 20000 in
set_option maxHeartbeats 4000000 in
theorem plays_messages (ad : Option Addr) (ops : List OpV) (cap : Nat) (w : World) (hT : Tabs w) (hO : OpsAt 4000000000 w ad ops) : Calls Tryz.prog 17 #[.slice ad ops.length cap, .int .i64 1, .int .i64 2] w fun e w' => e = .returned (.bool true) ∧ Below w.heap.size w w' := by
  have BG : Hid (∀ w, Tabs w → Calls Tryz.prog 40 #[.int .i64 1, .int .i64 2] w fun e w' => e = .returned (.pointer (some ⟨w.heap.size, 0, none⟩)) ∧ w'.heap[w.heap.size]? = some (.cells worldZero 142 (0, 0)) ∧ Below w.heap.size w w') := begun_messages
  have KP : Hid (∀ p w, w.heap[p]? = some (.cells worldZero 142 (0, 0)) → Calls Tryz.prog 42 #[.pointer (some ⟨p, 0, none⟩)] w fun e w' => e = .returned (.bool true) ∧ w' = w) := kept_none
  have HO := show Hid _ from hO
  have hmost := hO.most
  clear hO
  go_enter Tryz.func17, Tryz.ntmps17
  go_wp2_with fail
  refine (BG.out _ hT).mono ?_
  rintro e w1 ⟨rfl, hr1, hb1⟩
  have HR1 := show Hid _ from hr1
  have HB1 := show Hid _ from hb1
  clear hr1 hb1
  go_wp2
  go_loopw [8, 9, 10, 11] (fun s8 _ _ _ wr => ∃ k : Nat, k ≤ ops.length ∧ s8 = .int .i64 k ∧ wr.heap[w.heap.size]? = some (.cells worldZero 142 (0, 0)) ∧ Below w.heap.size w wr) (fun s8 _ _ _ _ => ops.length - (intOf s8).toNat)
  case atStart => exact ⟨0, Nat.zero_le _, rfl, HR1.out, HB1.out⟩
  case round =>
    obtain ⟨k, hk, rfl, hr, hb⟩ := hrel
    have HR : Hid (wr.heap[w.heap.size]? = some (.cells worldZero 142 (0, 0))) := hr
    have HB : Hid (Below w.heap.size w wr) := hb
    clear hr hb
    by_cases hlt : k < ops.length
    case neg =>
      have hki : ¬ (k : Int) < (ops.length : Int) := by omega
      go_wp2
      go_ret
      exact ⟨rfl, HB.out⟩
    have hki : (k : Int) < (ops.length : Int) := by omega
    obtain ⟨o, ho⟩ : ∃ o, ops[k]? = some o := ⟨_, List.getElem?_eq_getElem hlt⟩
    obtain ⟨b, off, rfl, hcs⟩ := HO.out.cells k o ho
    have hsm := HO.out.small o (List.mem_of_getElem? ho)
    obtain ⟨d0, d1, d2, d3, d4, d5, d6, d7, d8, d9, d10, d11, d12, d13, d14, d15⟩ := op_row hcs HB.out
    clear hcs ho
    by_cases h1 : o.kind = 1 ∨ o.kind = 2
    · have ST : Hid (∀ w p, Tabs w → Calls Tryz.prog 41 #[.pointer (some ⟨p, 0, none⟩), .agg (opCells o)] w fun r w' => r = .returned (.bool true) ∧ Below w.heap.size w w') := fun w p hT => step_any p o h1 hsm w hT
      unfold opCells at ST
      have l1 : (1 : Int) ≤ o.kind := by omega
      have l2 : o.kind ≤ 2 := by omega
      clear h1 hsm
      generalize o.kind = kd at ST l1 l2 d0
      go_wp2_with fail
      refine (ST.out _ _ (hT.next HB.out)).mono ?_
      rintro e w2 ⟨rfl, hb2⟩
      have hz := (Array.getElem?_eq_some_iff.1 HR.out).1
      have HB2 : Hid (Below w.heap.size w w2) := Below.next HB.out (by omega) hb2
      have HR2 : Hid (w2.heap[w.heap.size]? = some (.cells worldZero 142 (0, 0))) := (hb2.block _ hz).trans HR.out
      clear hb2 d0 d1 d2 d3 d4 d5 d6 d7 d8 d9 d10 d11 d12 d13 d14 d15
      go_wp2_with fail
      refine (KP.out _ _ HR2.out).mono ?_
      rintro e w3 ⟨rfl, hw3⟩
      have hw3 := hw3.symm
      subst hw3
      go_wp2
      go_roundw
      case rel => exact ⟨k + 1, by omega, int_eq (by simp), HR2.out, HB2.out⟩
      case measure => simp [intOf]; omega
    · by_cases h2 : o.kind < 1
      · have l1 : ¬ (1 : Int) ≤ o.kind := by omega
        clear h1 h2 hsm
        go_wp2
        go_roundw
        case rel => exact ⟨k + 1, by omega, int_eq (by simp), HR.out, HB.out⟩
        case measure => simp [intOf]; omega
      · have l1 : (1 : Int) ≤ o.kind := by omega
        have l2 : ¬ o.kind ≤ 2 := by omega
        clear h1 h2 hsm
        go_wp2
        go_roundw
        case rel => exact ⟨k + 1, by omega, int_eq (by simp), HR.out, HB.out⟩
        case measure => simp [intOf]; omega
theorem Messages_any (ad : Option Addr) (ops : List OpV) (cap : Nat) (w : World) (hT : Tabs w) (hO : OpsAt 4000000000 w ad ops) : Calls Tryz.prog 3 #[.slice ad ops.length cap] w fun e w' => e = .returned (.bool true) ∧ Below w.heap.size w w' := by
  have PL : Hid (Calls Tryz.prog 17 #[.slice ad ops.length cap, .int .i64 1, .int .i64 2] w fun e w' => e = .returned (.bool true) ∧ Below w.heap.size w w') := plays_messages ad ops cap w hT hO
  clear hO
  go_enter Tryz.func3, Tryz.ntmps3
  go_wp2_with fail
  refine PL.out.mono ?_
  rintro e w1 ⟨rfl, hb1⟩
  have HB1 := show Hid _ from hb1
  clear hb1
  go_wp2
  go_ret
  exact ⟨rfl, HB1.out⟩
end Go.Proofs.YtdlhbmncbmconaaGreatDoor

/- Contracts of the reference: find, Facility, Severity. -/
import Derived.Test.YtdlhbmncbmconaaGreatDoorEc
import Derived.Test.YtdlhbmncbmconaaGreatDoorBj
namespace Go.Hm
def rfind (c : UInt8) (l : List UInt8) : Int := if (cutB c l).2.2 = true then ((cutB c l).1.length : Int) else -1
theorem rfind_yes {c : UInt8} {l : List UInt8} {i : Nat} (hi : i < l.length) (h : l[i] = c) (hn : c ∉ l.take i) : rfind c l = i := by
  have e : l = l.take i ++ c :: l.drop (i + 1) := by
    rw [← h, ← List.drop_eq_getElem_cons hi]
    exact (List.take_append_drop i l).symm
  have hc : cutB c l = (l.take i, l.drop (i + 1), true) := by
    conv => lhs; rw [e]
    exact cutB_app c _ _ hn
  unfold rfind
  rw [hc, if_pos rfl]
  simp
  omega
theorem rfind_no {c : UInt8} {l : List UInt8} (hn : c ∉ l) : rfind c l = -1 := by
  unfold rfind
  rw [cutB_all c l hn, if_neg (by simp)]
theorem rfind_cut {c : UInt8} {l : List UInt8} : (rfind c l = -1 ∧ cutB c l = (l, [], false)) ∨ ∃ i : Nat, rfind c l = i ∧ i < l.length ∧ cutB c l = (l.take i, l.drop (i + 1), true) := by
  cases h : (cutB c l).2.2 with
  | false => exact .inl ⟨by unfold rfind; rw [h, if_neg (by simp)], cutB_none c l h⟩
  | true =>
    refine .inr ⟨(cutB c l).1.length, by unfold rfind; rw [if_pos h], ?_, ?_⟩
    · have := congrArg List.length (cutB_some c l h)
      simp at this
      omega
    · have e := cutB_some c l h
      generalize cutB c l = X at h e
      obtain ⟨a, b, f⟩ := X
      dsimp only at h e
      subst h
      rw [e]
      simp
theorem findFrom_drop {l : List UInt8} {ns : List (List UInt8)} {k : Nat} {x : List UInt8} (h : ns[k]? = some x) : findFrom l (ns.drop k) k = if x = l then k + 1 else findFrom l (ns.drop (k + 1)) (k + 1) := by
  obtain ⟨hk, hx⟩ := List.getElem?_eq_some_iff.1 h
  rw [List.drop_eq_getElem_cons hk, findFrom, hx]
end Go.Hm
namespace Go.Proofs.YtdlhbmncbmconaaGreatDoor
open Go.RowKit Go.Sort
attribute [local go_sem] app_mk rcut rbyte
theorem rfind_any (l : List UInt8) (hl : l.length ≤ 1000000000000000) (c : UInt8) (w : World) : Calls Tryz.prog 151 #[.string ⟨l.toArray⟩, .int .u8 c.toNat] w fun e w' => e = .returned (.int .i64 (Hm.rfind c l)) ∧ w' = w := by
  obtain ⟨R, hR⟩ : ∃ R, Hm.rfind c l = R := ⟨_, rfl⟩
  rw [hR]
  have HR := show Hid _ from hR
  clear hR
  go_enter Tryz.func151, Tryz.ntmps151
  go_wp2
  go_loopw [5] (fun s5 wr => ∃ i : Nat, s5 = .int .i64 i ∧ i ≤ l.length ∧ c ∉ l.take i ∧ wr = w) (fun s5 _ => l.length - (intOf s5).toNat)
  case atStart => exact ⟨0, rfl, Nat.zero_le _, by simp, rfl⟩
  case round =>
    obtain ⟨i, rfl, hil, hno, hwr⟩ := hrel
    have hwr := hwr.symm
    subst hwr
    have HNO := show Hid _ from hno
    clear hno
    by_cases hlt : i < l.length
    case neg =>
      have hii : ¬ (i : Int) < (l.length : Int) := by omega
      have HE : Hid (R = -1) := by
        show _ = _
        rw [← HR.out]
        have := HNO.out
        rw [List.take_of_length_le (by omega)] at this
        exact Hm.rfind_no this
      go_wp2
      go_ret
      exact ⟨by rw [HE.out]; rfl, rfl⟩
    have hii : (i : Int) < (l.length : Int) := by omega
    by_cases hc : l[i] = c
    · have hcb : ((l[i].toNat : Int) == (c.toNat : Int)) = true := by rw [hc]; simp
      have HE : Hid (R = i) := by show _ = _; rw [← HR.out]; exact Hm.rfind_yes hlt hc HNO.out
      clear hc
      go_wp2
      go_ret
      exact ⟨by rw [HE.out]; rfl, rfl⟩
    · have hcb : ((l[i].toNat : Int) == (c.toNat : Int)) = false := beq_eq_false_iff_ne.2 (fun e => hc (UInt8.toNat_inj.1 (by omega)))
      have HN2 : Hid (c ∉ l.take (i + 1)) := by
        show ¬ _
        rw [List.take_add_one, List.getElem?_eq_getElem hlt]
        intro hm
        rcases List.mem_append.1 hm with hm | hm
        · exact HNO.out hm
        · simp at hm; exact hc hm.symm
      clear hc
      go_wp2
      go_roundw
      case rel => exact ⟨i + 1, int_eq (by simp), by omega, HN2.out, by first | rfl | trivial⟩
      case measure => simp [intOf]; omega
theorem row_at {w : World} {g : Nat} {ns : List (List UInt8)} {t : TypeId} {fr : Nat × Nat} (h : w.heap[g]? = some (.cells (ns.map strV).toArray t fr)) (k : Nat) (x : List UInt8) (hk : ns[k]? = some x) : w.cell? ⟨g, k, none⟩ = some (.string ⟨x.toArray⟩) := by
  simp [World.cell?, h, hk, strV]
set_option maxRecDepth 20000 in
set_option maxHeartbeats 2000000 in
theorem rSeverity_any (l : List UInt8) (w : World) : Calls Tryz.prog 189 #[.string ⟨l.toArray⟩] w fun e w' => e = .returned (.int .i64 ((Hm.findFrom l Hm.severityNames 0 : Nat) - 1 : Int)) ∧ Below w.heap.size w w' := by
  obtain ⟨R, hR⟩ : ∃ R, Hm.findFrom l Hm.severityNames 0 = R := ⟨_, rfl⟩
  rw [hR]
  have HR := show Hid _ from hR
  clear hR
  have hlen : Hm.severityNames.length = 8 := by rfl
  go_enter Tryz.func189, Tryz.ntmps189
  go_wp2
  have HROW : Hid ((w.alloc (.cells (Hm.severityNames.map strV).toArray 9)).heap[w.heap.size]? = some (.cells (Hm.severityNames.map strV).toArray 9 (0, 0))) := heap_alloc_new _ _
  have HB1 : Hid (Below w.heap.size w (w.alloc (.cells (Hm.severityNames.map strV).toArray 9))) := (Below.refl _ _).alloc (Nat.le_refl _) _
  obtain ⟨W, hW⟩ : ∃ W, w.alloc (.cells (Hm.severityNames.map strV).toArray 9) = W := ⟨_, rfl⟩
  rw [hW] at HROW HB1
  have HCE : Hid (∀ k x, Hm.severityNames[k]? = some x → W.cell? ⟨w.heap.size, k, none⟩ = some (.string ⟨x.toArray⟩)) := fun k x h => row_at HROW.out k x h
  go_loopw [4] (fun s4 wr => ∃ k : Nat, s4 = .int .i64 k ∧ k ≤ 8 ∧ R = Hm.findFrom l (Hm.severityNames.drop k) k ∧ wr = W) (fun s4 _ => 8 - (intOf s4).toNat)
  case atStart => exact ⟨0, rfl, Nat.zero_le _, HR.out.symm, hW⟩
  case round =>
    obtain ⟨k, rfl, hk, hf, hwr⟩ := hrel
    have hwr := hwr.symm
    subst hwr
    have HF := show Hid _ from hf
    clear hf hW HROW
    by_cases hlt : k < 8
    case neg =>
      have hki : ¬ (k : Int) < 8 := by omega
      have HE : Hid (R = 0) := by
        show _ = _
        rw [HF.out, List.drop_eq_nil_of_le (by rw [hlen]; omega)]
        rfl
      go_wp2
      go_ret
      exact ⟨by rw [HE.out]; rfl, HB1.out⟩
    have hki : (k : Int) < 8 := by omega
    obtain ⟨x, hx⟩ : ∃ x, Hm.severityNames[k]? = some x := ⟨_, List.getElem?_eq_getElem (by rw [hlen]; exact hlt)⟩
    have hce := HCE.out k x hx
    have HS : Hid (R = if x = l then k + 1 else Hm.findFrom l (Hm.severityNames.drop (k + 1)) (k + 1)) := HF.out.trans (Hm.findFrom_drop hx)
    clear hx
    by_cases he : x = l
    · have HE : Hid (R = k + 1) := HS.out.trans (if_pos he)
      subst he
      go_wp2
      go_ret
      exact ⟨by rw [HE.out]; exact congrArg (fun z => Ending.returned (Value.int .i64 z)) (by omega), HB1.out⟩
    · have heb : (x == l) = false := beq_eq_false_iff_ne.2 he
      have HE : Hid (R = Hm.findFrom l (Hm.severityNames.drop (k + 1)) (k + 1)) := HS.out.trans (if_neg he)
      clear he
      go_wp2
      go_roundw
      case rel => exact ⟨k + 1, int_eq (by simp), by omega, HE.out, by first | rfl | trivial⟩
      case measure => simp [intOf]; omega
set_option maxRecDepth 20000 in
set_option maxHeartbeats 2000000 in
theorem rFacility_any (l : List UInt8) (w : World) : Calls Tryz.prog 188 #[.string ⟨l.toArray⟩] w fun e w' => e = .returned (.int .i64 ((Hm.findFrom l Hm.facNames 0 : Nat) - 1 : Int)) ∧ Below w.heap.size w w' := by
  obtain ⟨R, hR⟩ : ∃ R, Hm.findFrom l Hm.facNames 0 = R := ⟨_, rfl⟩
  rw [hR]
  have HR := show Hid _ from hR
  clear hR
  have hlen : Hm.facNames.length = 24 := by rfl
  go_enter Tryz.func188, Tryz.ntmps188
  go_wp2
  have HROW : Hid ((w.alloc (.cells (Hm.facNames.map strV).toArray 9)).heap[w.heap.size]? = some (.cells (Hm.facNames.map strV).toArray 9 (0, 0))) := heap_alloc_new _ _
  have HB1 : Hid (Below w.heap.size w (w.alloc (.cells (Hm.facNames.map strV).toArray 9))) := (Below.refl _ _).alloc (Nat.le_refl _) _
  obtain ⟨W, hW⟩ : ∃ W, w.alloc (.cells (Hm.facNames.map strV).toArray 9) = W := ⟨_, rfl⟩
  rw [hW] at HROW HB1
  have HCE : Hid (∀ k x, Hm.facNames[k]? = some x → W.cell? ⟨w.heap.size, k, none⟩ = some (.string ⟨x.toArray⟩)) := fun k x h => row_at HROW.out k x h
  go_loopw [4] (fun s4 wr => ∃ k : Nat, s4 = .int .i64 k ∧ k ≤ 24 ∧ R = Hm.findFrom l (Hm.facNames.drop k) k ∧ wr = W) (fun s4 _ => 24 - (intOf s4).toNat)
  case atStart => exact ⟨0, rfl, Nat.zero_le _, HR.out.symm, by rw [← hW]; exact congrArg (fun c => w.alloc (Obj.cells c 9)) (by kernel_rfl)⟩
  case round =>
    obtain ⟨k, rfl, hk, hf, hwr⟩ := hrel
    have hwr := hwr.symm
    subst hwr
    have HF := show Hid _ from hf
    clear hf hW HROW
    by_cases hlt : k < 24
    case neg =>
      have hki : ¬ (k : Int) < 24 := by omega
      have HE : Hid (R = 0) := by
        show _ = _
        rw [HF.out, List.drop_eq_nil_of_le (by rw [hlen]; omega)]
        rfl
      go_wp2
      go_ret
      exact ⟨by rw [HE.out]; rfl, HB1.out⟩
    have hki : (k : Int) < 24 := by omega
    obtain ⟨x, hx⟩ : ∃ x, Hm.facNames[k]? = some x := ⟨_, List.getElem?_eq_getElem (by rw [hlen]; exact hlt)⟩
    have hce := HCE.out k x hx
    have HS : Hid (R = if x = l then k + 1 else Hm.findFrom l (Hm.facNames.drop (k + 1)) (k + 1)) := HF.out.trans (Hm.findFrom_drop hx)
    clear hx
    by_cases he : x = l
    · have HE : Hid (R = k + 1) := HS.out.trans (if_pos he)
      subst he
      go_wp2
      go_ret
      exact ⟨by rw [HE.out]; exact congrArg (fun z => Ending.returned (Value.int .i64 z)) (by omega), HB1.out⟩
    · have heb : (x == l) = false := beq_eq_false_iff_ne.2 he
      have HE : Hid (R = Hm.findFrom l (Hm.facNames.drop (k + 1)) (k + 1)) := HS.out.trans (if_neg he)
      clear he
      go_wp2
      go_roundw
      case rel => exact ⟨k + 1, int_eq (by simp), by omega, HE.out, by first | rfl | trivial⟩
      case measure => simp [intOf]; omega
end Go.Proofs.YtdlhbmncbmconaaGreatDoor

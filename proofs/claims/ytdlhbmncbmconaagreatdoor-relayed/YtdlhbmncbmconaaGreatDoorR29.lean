/- Contract: Relay, over frames of messages that have a line; and Relay with a nil pointer. -/
import Derived.Test.YtdlhbmncbmconaaGreatDoorR28
namespace Go.Proofs.YtdlhbmncbmconaaGreatDoor
open Go.RowKit Go.Shelf Go.Sort
attribute [local go_sem] Oper.semAt_some
theorem kept_others {S : Nat → Prop} {A B : World} (hk : Hw.Kept S A B) (hS : ∀ k, S k → ∃ c t, A.heap[k]? = some (.cells c t (0, 0))) : KeepsOthers A B :=
  hk.others (fun k o e hk => by
    obtain ⟨c, t, h⟩ := hS k e
    rw [h] at hk; cases hk; rfl)
theorem others_trans {A B C : World} (h : KeepsOthers A B) (k : KeepsOthers B C) : KeepsOthers A C :=
  ⟨Nat.le_trans h.size k.size, fun i o hi ho => k.same i o (h.same i o hi ho) ho⟩
theorem tabs_kept {w W : World} {pf pl : Nat} (hT : Tabs w) (h0 : 11 ≤ w.heap.size) (h1 : 11 ≤ pf) (h2 : 11 ≤ pl) (hk : Hw.Kept (fun k => k = pf ∨ k = pl) w W) : Tabs W :=
  hT.below (hk.below (B := 11) (fun k _ e => by rcases e with e | e <;> omega) h0) (Nat.le_refl _)
theorem RelW.logs {w A B : World} {pf pr pl : Nat} {rs : List Hm.Rl} {rlv : Value} {s : ByteArray} {g : Hm.Lg} {txt : List UInt8} {v bv rv wv rv' wv' : Value} (hc : RelC w pf pr pl rlv) (h : RelW w pf pr pl rs rlv s A) (hx : RelX w pl g txt v bv rv wv A) (hs : StepL pl rv wv A rv' wv' B) : RelW w pf pr pl rs rlv s B ∧ KeepsOthers A B := by
  refine ⟨h.keep hs.kept (fun k hk e => ?_) (fun k hk e => ?_), kept_others hs.kept (fun k e => ?_)⟩
  · have h1 := hc.fix hk
    rcases e with e | e | e
    · exact h1.2.1 e
    · have := hx.lr k e; omega
    · have := hx.lw k e; omega
  · rcases e with e | e | e
    · exact .inr e
    · have := hx.lr k e; omega
    · have := hx.lw k e; omega
  · rcases e with e | e | e
    · subst e; exact ⟨_, _, hx.log.row⟩
    · obtain ⟨c, h1⟩ := hx.rt e; exact ⟨_, _, h1⟩
    · obtain ⟨c, h1⟩ := hx.wt e; exact ⟨_, _, h1⟩
theorem RelW.builds {w A B : World} {pf pr pl : Nat} {rs : List Hm.Rl} {rlv : Value} {s : ByteArray} {g : Hm.Lg} {txt : List UInt8} {v bv bv' rv wv : Value} (hc : RelC w pf pr pl rlv) (h : RelW w pf pr pl rs rlv s A) (hx : RelX w pl g txt v bv rv wv A) (hs : StepB (w.heap.size + 3) bv A bv' B) : RelW w pf pr pl rs rlv s B ∧ KeepsOthers A B := by
  refine ⟨h.keep hs.kept (fun k hk e => ?_) (fun k hk e => ?_), kept_others hs.kept (fun k e => ?_)⟩
  · have h1 := hc.fix hk
    rcases e with e | e
    · exact h1.2.2.1 e
    · have := hx.lb k e; omega
  · rcases e with e | e
    · omega
    · have := hx.lb k e; omega
  · rcases e with e | e
    · subst e
      obtain ⟨p, _, hr⟩ := hx.bld.row
      exact ⟨_, _, hr⟩
    · obtain ⟨c, h1⟩ := hx.bt e; exact ⟨_, _, h1⟩
theorem allocs_old : ∀ (os : List Obj) (w : World) (k : Nat), k < w.heap.size → (os.foldl World.alloc w).heap[k]? = w.heap[k]?
  | [], _, _, _ => rfl
  | a :: os, w, k, h => (allocs_old os (w.alloc a) k (by simp; omega)).trans (heap_alloc_old _ _ h)
theorem allocs_row : ∀ (os : List Obj) (w : World) (i : Nat) (o : Obj), os[i]? = some o → (os.foldl World.alloc w).heap[w.heap.size + i]? = some o
  | [], _, _, _, h => by simp at h
  | a :: os, w, 0, o, h => by
    cases h
    exact (allocs_old os (w.alloc a) w.heap.size (by simp)).trans (heap_alloc_new _ _)
  | a :: os, w, i + 1, o, h => by
    have := allocs_row os (w.alloc a) i o (by simpa using h)
    rw [World.size_alloc] at this
    rw [show w.heap.size + (i + 1) = w.heap.size + 1 + i by omega]
    exact this
set_option maxRecDepth 100000 in
set_option maxHeartbeats 2000000 in
theorem relay_in (pf pr pl : Nat) (rs : List Hm.Rl) (rlv : Value) (zs : List OkMsg) (s : ByteArray) (hs : s.size ≤ 9000) (sv : Nat) (w : World) (hT : Tabs w) (hc : RelC w pf pr pl rlv) (hf : FramesAt w pf (Hm.Frs.fresh 200) (.slice none 0 0)) (hr : RulesAt w pr rs rlv) (hrs : ∀ r ∈ rs, r.small) (hn : rs.length ≤ 1000) (hl : LogIn w pl (Hm.Lg.fresh 8) (.slice none 0 0) (.slice none 0 0))
    (hzs : zs.map (fun z => 61 :: (Hm.line z.1).1) = ((Hm.Frs.fresh 200).feed s.data.toList).2) (hk : ∀ x y : Nat, x < 24 → y < 8 → Hm.keeps rs x y = decide (y ≤ sv)) (hzl : zs.length ≤ 20) :
    CallsIn Fence.wide 4 Tryz.prog 39 #[.pointer (some ⟨pf, 0, none⟩), .pointer (some ⟨pr, 0, none⟩), .pointer (some ⟨pl, 0, none⟩), .string s, .int .i64 2000] w fun e w' => e = .returned (.tuple #[.string ⟨(Hm.rel sv (zs.map (·.1))).2.toArray⟩, .int .i64 0]) ∧
      ∃ rv wv, LogIn w' pl (Hm.rel sv (zs.map (·.1))).1 rv wv ∧ Hw.Kept (fun k => k = pf ∨ k = pl) w w' := by
  have HFo : Hid (∀ w, Calls Tryz.prog 57 #[.pointer (some ⟨pf, 0, none⟩), .string s] w fun e w' => e = .returned (.func (.func 93) #[] #[.pointer (some ⟨w.heap.size + 1, 0, none⟩), .pointer (some ⟨w.heap.size, 0, none⟩)]) ∧
      w' = (w.alloc (.cells #[.pointer (some ⟨pf, 0, none⟩)] 45)).alloc (.cells #[.string s] 9)) := fun w => found_any pf s w
  have IY : Hid (∀ w, Calls Tryz.prog 51 #[.int .i64 2000] w fun e w' => e = .returned (.bool true) ∧ w' = w) := fun w => isYear_any 2000 w
  have hok : (Hm.Frs.fresh 200).Ok := Hm.Frs.fresh_ok (by decide) (by decide)
  have HF : Hid (FramesAt w pf (Hm.Frs.fresh 200) (.slice none 0 0)) := hf
  have HR : Hid (RulesAt w pr rs rlv) := hr
  have HL : Hid (LogIn w pl (Hm.Lg.fresh 8) (.slice none 0 0) (.slice none 0 0)) := hl
  have HZ := show Hid _ from hzs
  have HK := show Hid _ from hk
  have HC := show Hid _ from hc
  clear hf hr hl hzs hk
  refine callsIn_of_wp_marks Tryz.func39 rfl trivial ?_ rfl
  simp only [Tryz.ntmps39, List.size_toArray, List.length_cons, List.length_nil, Nat.reduceAdd, Nat.reduceSub, Array.replicate_succ, Array.replicate_zero, List.push_toArray, List.append_toArray, List.nil_append, List.cons_append]
  gi_wp2_with fail
  refine ⟨trivial, ?_⟩
  refine (callsIn_wide.2 (IY.out _)).mono ?_
  rintro e w' ⟨rfl, rfl⟩
  gi_wp2_with fail
  refine ⟨trivial, ?_⟩
  refine (callsIn_wide.2 (HFo.out _)).mono ?_
  rintro e w' ⟨rfl, rfl⟩
  gi_wp2_with fail
  simp only [Nat.add_assoc, Nat.reduceAdd]
  obtain ⟨W0, hW0⟩ : ∃ W0, ((((((w.alloc (.cells #[.pointer (some ⟨pr, 0, none⟩)] 56)).alloc (.cells #[.pointer (some ⟨pl, 0, none⟩)] 63)).alloc (.cells #[.int .i64 2000] 3)).alloc (.cells #[.pointer none, .slice none 0 0] 127)).alloc (.cells #[.pointer (some ⟨pf, 0, none⟩)] 45)).alloc (.cells #[.string s] 9)) = W0 := ⟨_, rfl⟩
  have hz : W0.heap.size = w.heap.size + 6 := by subst hW0; simp
  have hB0 : Below w.heap.size w W0 := by
    rw [← hW0]
    exact ((((((Below.refl _ w).alloc (Nat.le_refl _) _).alloc (by simp) _).alloc (by simp; omega) _).alloc (by simp; omega) _).alloc (by simp; omega) _).alloc (by simp; omega) _
  have hrow : ∀ (i : Nat) (o : Obj), (([.cells #[.pointer (some ⟨pr, 0, none⟩)] 56 (0, 0), .cells #[.pointer (some ⟨pl, 0, none⟩)] 63 (0, 0), .cells #[.int .i64 2000] 3 (0, 0), .cells #[.pointer none, .slice none 0 0] 127 (0, 0), .cells #[.pointer (some ⟨pf, 0, none⟩)] 45 (0, 0), .cells #[.string s] 9 (0, 0)] : List Obj)[i]? = some o) → W0.heap[w.heap.size + i]? = some o := by
    intro i o h
    rw [← hW0]
    exact allocs_row _ w i o h
  have J0 : RelJ w pf pr pl rs rlv s sv [] (.slice none 0 0) W0 := by
    have KF : Hw.Kept (fun _ => False) w W0 := Hw.Kept.of_below hB0
    refine ⟨⟨hrow 0 _ rfl, hrow 1 _ rfl, hrow 2 _ rfl, hrow 4 _ rfl, hrow 5 _ rfl, HR.out.below hB0, KF.mono (fun _ _ e => e.elim)⟩, .slice none 0 0, .slice none 0 0, .slice none 0 0, ⟨⟨⟨_, .inl rfl, hrow 3 _ rfl⟩, World.ownsRow_nil _ _ _ _⟩, HL.out.below hB0, fun _ => rfl, ?_, ?_, ?_, ?_, ?_, ?_⟩⟩ <;> (intro k e; cases e)
  have F0 : FramesAt W0 pf (Hm.Frs.fresh 200) (.slice none 0 0) := HF.out.keep (S := fun _ => False) (Hw.Kept.of_below hB0) (fun e => e) (fun _ _ e => e)
  rw [hW0]
  clear hW0 hrow
  refine Hw.wpIn_rangeFunc_all rfl (by omega) (gf := 93) (lb := #[.pointer (some ⟨w.heap.size + 5, 0, none⟩), .pointer (some ⟨w.heap.size + 4, 0, none⟩)]) rfl trivial (enters_of Tryz.func93 (by kernel_rfl) rfl)
    (found1_of (fun z : OkMsg => 61 :: (Hm.line z.1).1) zs (4 - 1) (by omega) (w.heap.size + 5) (w.heap.size + 4) pf s (by omega) (Hm.Frs.fresh 200) (.slice none 0 0) hok HZ.out (RelJ w pf pr pl rs rlv s sv) (fun pre g u A u' B h hg hst => h.step HC.out hg hst) (fun pre u A h => h.cells)) (fun _ => rfl) ?put ?start
    (fun x => { tmps := #[.pointer (some ⟨pf, 0, none⟩), .pointer (some ⟨pr, 0, none⟩), .pointer (some ⟨pl, 0, none⟩), .string s, .int .i64 2000, undef, .pointer (some ⟨w.heap.size, 0, none⟩), .pointer (some ⟨w.heap.size + 1, 0, none⟩), undef, .pointer (some ⟨w.heap.size + 2, 0, none⟩), .string ⟨#[]⟩, .int .i64 0, .pointer (some ⟨w.heap.size + 3, 0, none⟩), .string ⟨(61 :: (Hm.line x.1).1).toArray⟩,
      .pointer (some ⟨pf, 0, none⟩), .bool false, .bool false, .pointer (some ⟨pr, 0, none⟩), .bool false, .bool false, .bool false, .pointer (some ⟨pl, 0, none⟩), .bool false, .bool false, .bool false, .int .i64 2000, .bool true, .bool false, .bool false, .pointer (some ⟨pf, 0, none⟩), .string s, .func (.func 93) #[] #[.pointer (some ⟨w.heap.size + 5, 0, none⟩), .pointer (some ⟨w.heap.size + 4, 0, none⟩)],
      .string ⟨(61 :: (Hm.line x.1).1).toArray⟩, undef, undef, undef, undef, undef, undef, undef, undef], defers := [] }) ?assign ?body ?done
  case put =>
    rintro pre ⟨g, u⟩ W l o o' hl ⟨hj, hg⟩ ho hoc
    exact RelJ.put (by omega) hj hg ho hoc
  case start =>
    intro o o'
    exact RelJ.below J0 F0 (((Below.refl _ _).alloc (Nat.le_refl _) _).alloc (by simp) _)
  case assign =>
    intro l x W K hK
    unfold encB
    gi_wp2
    exact hK
  case body =>
    rintro l pre ⟨g, u⟩ x W ⟨hj, hg⟩ hlen
    dsimp only at hj hg ⊢
    obtain ⟨hw, bv, rv, wv, hx⟩ := hj
    have t0 : W.cell? ⟨w.heap.size, 0, none⟩ = some (.pointer (some ⟨pr, 0, none⟩)) := by simp [World.cell?, hw.b0]
    have t1 : W.cell? ⟨w.heap.size + 1, 0, none⟩ = some (.pointer (some ⟨pl, 0, none⟩)) := by simp [World.cell?, hw.b1]
    have t2 : W.cell? ⟨w.heap.size + 2, 0, none⟩ = some (.int .i64 2000) := by simp [World.cell?, hw.b2]
    have hms : ∀ m ∈ pre.map (·.1), (Hm.line m).2 = 0 := fun m hm => by
      obtain ⟨z, _, rfl⟩ := List.mem_map.1 hm
      exact z.2.1
    have hro := Hm.rel_good sv hms
    have hlen2 := Hm.rel_short sv hms
    rw [List.length_map] at hlen2
    have hTW : Tabs W := tabs_kept hT HC.out.lo HF.out.lo HL.out.lo hw.kept
    obtain ⟨m, hm1, hm2, hm3⟩ := x
    have RL := relayed_in pr pl rs rlv _ rv wv m hm1 hm2 hm3 W hTW hw.rules hrs hn hx.log ⟨by have := hro.recs; have := hro.wait; omega, by have := hro.wait; omega, by have := hro.had; omega, by have := hro.room; omega⟩ (by unfold Hm.Lg.messages; have := hro.had; have := hro.wait; omega)
    rw [HK.out m.fac.toNat m.sev.toNat (by have := hm2.f0; have := hm2.f1; omega) (by have := hm2.s0; have := hm2.s1; omega), Hm.relTellK_eq sv _ m m.sev.toNat (by have := hm2.s0; omega)] at RL
    have HRL : Hid (Calls Tryz.prog 67 #[.pointer (some ⟨pr, 0, none⟩), .pointer (some ⟨pl, 0, none⟩), .string ⟨(61 :: (Hm.line m).1).toArray⟩, .int .i64 2000] W fun e w' => e = .returned (.string ⟨(Hm.relTell sv (Hm.rel sv (pre.map (·.1))).1 m).2.toArray⟩) ∧ ∃ rv' wv', LogIn w' pl (Hm.relTell sv (Hm.rel sv (pre.map (·.1))).1 m).1 rv' wv' ∧ StepL pl rv wv W rv' wv' w') := RL
    have htl := Hm.tell_len (sv := sv) hro hm1
    have hsn : Hm.rel sv ((pre ++ [(⟨m, hm1, hm2, hm3⟩ : OkMsg)]).map (·.1)) = ((Hm.relTell sv (Hm.rel sv (pre.map (·.1))).1 m).1, (Hm.rel sv (pre.map (·.1))).2 ++ ((Hm.relTell sv (Hm.rel sv (pre.map (·.1))).1 m).2 ++ [10])) := by
      rw [List.map_append, List.map_cons, List.map_nil, Hm.rel_snoc]; rfl
    have HSN := show Hid _ from hsn
    have HW := show Hid _ from hw
    have HX := show Hid _ from hx
    have HG := show Hid _ from hg
    have hts := Hm.tell_some sv (Hm.rel sv (pre.map (·.1))).1 m
    clear hw hx hg RL hsn hro hms
    generalize Hm.relTell sv (Hm.rel sv (pre.map (·.1))).1 m = r at HRL HSN htl hts
    obtain ⟨g2, t2'⟩ := r
    generalize Hm.rel sv (pre.map (·.1)) = r at HX HSN hlen2
    obtain ⟨g1, txt⟩ := r
    dsimp only at HRL HSN htl hts HX hlen2
    gi_wp2_with fail
    refine ⟨trivial, ?_⟩
    refine CallsIn.mono (show CallsIn (Fence.wide.inRound l) 1 _ _ _ _ _ from callsIn_wide.2 HRL.out) ?_
    rintro e W2 ⟨rfl, rv2, wv2, hl2, hs2⟩
    have hX2 := HX.out.logs HC.out HW.out.size HG.out hs2 hl2
    have hW2 := HW.out.logs HC.out HX.out hs2
    have HX2 := show Hid _ from hX2.1
    have HG2 := show Hid _ from hX2.2
    have HW2 := show Hid _ from hW2.1
    have HO2 := show Hid _ from hW2.2
    clear hX2 hW2 hl2 hs2 t0 t1 t2 HX HW HG HRL
    gi_wp2_with fail
    refine ⟨trivial, ?_⟩
    refine CallsIn.mono (show CallsIn (Fence.wide.inRound l) 1 _ _ _ _ _ from callsIn_wide.2 (WriteString_b (w.heap.size + 3) bv txt t2' W2 HX2.out.bld (by omega) (by omega) (by have := HW2.out.size; have := HC.out.lo; omega))) ?_
    rintro e W3 ⟨⟨u3, rfl⟩, bv3, hb3, hs3⟩
    have hX3 := HX2.out.builds HC.out HW2.out.size HG2.out hs3 hb3 (by simp [hts])
    have hW3 := HW2.out.builds HC.out HX2.out hs3
    have HX3 := show Hid _ from hX3.1
    have HG3 := show Hid _ from hX3.2
    have HW3 := show Hid _ from hW3.1
    have HO3 := show Hid _ from others_trans HO2.out hW3.2
    clear hX3 hW3 hb3 hs3 HX2 HW2 HG2 HO2
    gi_wp2_with fail
    refine ⟨trivial, ?_⟩
    refine CallsIn.mono (show CallsIn (Fence.wide.inRound l) 1 _ _ _ _ _ from callsIn_wide.2 (WriteByte_b (w.heap.size + 3) bv3 (txt ++ t2') 10 W3 HX3.out.bld (by rw [List.length_append]; omega) (by have := HW3.out.size; have := HC.out.lo; omega))) ?_
    rintro e W4 ⟨⟨u4, rfl⟩, bv4, hb4, hs4⟩
    have hX4 := HX3.out.builds HC.out HW3.out.size HG3.out hs4 hb4 (by simp)
    have hW4 := HW3.out.builds HC.out HX3.out hs4
    have HX4 := show Hid _ from hX4.1
    have HG4 := show Hid _ from hX4.2
    have HW4 := show Hid _ from hW4.1
    have HO4 := show Hid _ from others_trans HO3.out hW4.2
    clear hX4 hW4 hb4 hs4 HX3 HW3 HG3 HO3
    gi_wp2
    refine ⟨HO4.out, ⟨HW4.out, bv4, rv2, wv2, ?_⟩, HG4.out⟩
    rw [HSN.out]
    have := HX4.out
    rw [List.append_assoc] at this
    exact this
  case done =>
    rintro D xs ⟨g, u⟩ W hD ⟨rfl, hg1⟩ ⟨hj, hg⟩ hK
    dsimp only at hj hg
    obtain ⟨hw, bv, rv, wv, hx⟩ := hj
    have ST : Hid (Calls Tryz.prog 69 #[.pointer (some ⟨w.heap.size + 3, 0, none⟩)] W fun e w' => e = .returned (.string ⟨(Hm.rel sv (xs.map (·.1))).2.toArray⟩) ∧ Hw.Kept (fun k => bv.ownBlock = some k) W w') := by
      by_cases h0 : (Hm.rel sv (xs.map (·.1))).2 = []
      · have hb := hx.bld
        rw [hx.nil h0, h0] at hb
        refine (String_nil_b _ W hb).mono ?_
        rintro e w' ⟨rfl, hk'⟩
        exact ⟨by rw [h0], hk'.mono (fun _ _ e => e.elim)⟩
      · exact String_b _ bv _ W hx.bld h0
    have HX := show Hid _ from hx
    have HW := show Hid _ from hw
    clear hx hw hg J0 F0
    obtain ⟨r, hr⟩ : ∃ r, Hm.rel sv (xs.map (·.1)) = r := ⟨_, rfl⟩
    rw [hr] at ST HX
    have HRR := show Hid _ from hr
    clear hr
    obtain ⟨g1, txt⟩ := r
    dsimp only at ST HX
    gi_wp2_with fail
    refine ⟨trivial, ?_⟩
    refine (callsIn_wide.2 ST.out).mono ?_
    rintro e W2 ⟨rfl, hk2⟩
    gi_wp2
    have noD : ∀ k cs t fr, W.heap[k]? = some (.cells cs t fr) → ¬ k = D := fun k cs t fr hk e => by
      rw [e, hK] at hk
      cases hk
    have hK2 : W2.heap[D]? = some (.deferred (some [])) := (hk2.block _ (Array.getElem?_eq_some_iff.1 hK).1 (fun e => by
      obtain ⟨c, h1⟩ := HX.out.bt e
      exact noD _ _ _ _ h1 rfl)).trans hK
    have hk3 : Hw.Kept (fun k => bv.ownBlock = some k ∨ k = D) W (W2.putObj D (.deferred none)) := (hk2.mono (fun _ _ e => .inl e)).trans ((kept_putObj _).mono (T := fun k => bv.ownBlock = some k ∨ k = D) (fun _ _ e => .inr e)) (fun _ _ e => e)
    refine ⟨by simp, .inl ⟨_, _, rfl, run_takeDeferred hK2, ?_⟩⟩
    refine ⟨.tuple #[.string ⟨txt.toArray⟩, .int .i64 0], by simp [results, Tryz.results39, go_sem], ?_⟩
    have hL := HC.out.l
    rw [HRR.out]
    refine ⟨rfl, rv, wv, HX.out.log.keep hk3 (fun e => ?_) (fun k hk e => ?_) (fun k hk e => ?_), HW.out.kept.trans hk3 (fun k hk e => ?_)⟩
    · rcases e with e | e
      · have := HX.out.lb _ e; omega
      · exact noD _ _ _ _ HX.out.log.row e
    · rcases e with e | e
      · exact (HX.out.s1 k e).1 hk
      · obtain ⟨c, h1⟩ := HX.out.rt hk
        exact noD _ _ _ _ h1 e
    · rcases e with e | e
      · obtain ⟨c, h1⟩ := HX.out.bt e
        obtain ⟨c', h2⟩ := HX.out.wt hk
        exact not_both h1 h2
      · obtain ⟨c, h1⟩ := HX.out.wt hk
        exact noD _ _ _ _ h1 e
    · rcases e with e | e
      · have := HX.out.lb _ e; omega
      · omega
end Go.Proofs.YtdlhbmncbmconaaGreatDoor

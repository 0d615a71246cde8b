/- A slice of elements of one cell that may begin in the midst of its block. -/
import Derived.Test.YtdlhbmncbmconaaGreatDoorWc
import Derived.ArgAppend
import Derived.Lib.SliceRun
namespace Go.Hw
open Go.RowKit
def ownsFrom (w : World) (base : Nat) (e : TypeId) (v : Value) (xs : List Value) : Prop :=
  (v = .slice none 0 0 ∧ xs = []) ∨ ∃ g o cap cur, v = .slice (some ⟨g, o, none⟩) xs.length cap ∧ base ≤ g ∧ w.heap[g]? = some (.cells cur e (0, 0)) ∧ xs.length ≤ cap ∧ cap ≤ maxLen ∧ o + cap ≤ cur.size ∧ (cur.toList.drop o).take xs.length = xs
theorem ownsFrom_row {w : World} {base : Nat} {e : TypeId} {v : Value} {n : Nat} {xs : List Value} (h : w.ownsRow base e 1 v n xs) : ownsFrom w base e v xs := by
  have hn : xs.length = n := by simpa using h.1
  rcases h.2 with ⟨rfl, h0⟩ | ⟨g, cap, cur, rfl, hb, hg, h1, h2, h3, h4⟩
  · exact .inl ⟨rfl, List.eq_nil_of_length_eq_zero (by omega)⟩
  · exact .inr ⟨g, 0, cap, cur, by rw [hn], hb, hg, by omega, h2, by omega, by simpa [hn] using h4⟩
theorem ownsFrom_nil (w : World) (base : Nat) (e : TypeId) : ownsFrom w base e (.slice none 0 0) [] := .inl ⟨rfl, rfl⟩
theorem ownsFrom_keptS {S : Nat → Prop} {w w' : World} {base : Nat} {e : TypeId} {v : Value} {xs : List Value} (h : ownsFrom w base e v xs) (hk : Kept S w w') (hS : ∀ k, v.ownBlock = some k → ¬ S k) : ownsFrom w' base e v xs := by
  rcases h with h | ⟨g, o, cap, cur, rfl, hb, hg, rest⟩
  · exact .inl h
  · exact .inr ⟨g, o, cap, cur, rfl, hb, (hk.block g (Array.getElem?_eq_some_iff.1 hg).1 (hS g rfl)).trans hg, rest⟩
theorem ownsFrom_cells {w : World} {base : Nat} {e : TypeId} {v : Value} {xs : List Value} (h : ownsFrom w base e v xs) {k : Nat} (hk : v.ownBlock = some k) : base ≤ k ∧ ∃ cur, w.heap[k]? = some (.cells cur e (0, 0)) := by
  rcases h with ⟨rfl, _⟩ | ⟨g, o, cap, cur, rfl, hb, hg, _⟩
  · cases hk
  · cases hk
    exact ⟨hb, cur, hg⟩
theorem ownsFrom_form {w : World} {base : Nat} {e : TypeId} {v : Value} {xs : List Value} (h : ownsFrom w base e v xs) : ∃ ad cap, v = .slice ad xs.length cap := by
  rcases h with ⟨rfl, rfl⟩ | ⟨g, o, cap, cur, rfl, _⟩
  · exact ⟨none, 0, rfl⟩
  · exact ⟨_, cap, rfl⟩
theorem drop_take_get {l xs : List Value} {o : Nat} (h : (l.drop o).take xs.length = xs) {j : Nat} {u : Value} (hj : xs[j]? = some u) : l[o + j]? = some u := by
  have hlt := (List.getElem?_eq_some_iff.1 hj).1
  rw [← h, List.getElem?_take, if_pos hlt, List.getElem?_drop] at hj
  exact hj
theorem ownsFrom_at {w : World} {base : Nat} {e : TypeId} {g o n cap : Nat} {xs : List Value} (h : ownsFrom w base e (.slice (some ⟨g, o, none⟩) n cap) xs) {j : Nat} {u : Value} (hj : xs[j]? = some u) : w.cell? ⟨g, o + j, none⟩ = some u := by
  rcases h with ⟨hv, _⟩ | ⟨g', o', cap', cur, hv, _, hg, _, _, hc, ht⟩
  · cases hv
  · cases hv
    have := drop_take_get ht hj
    simp [World.cell?, hg]
    simpa using this
theorem Put.trans {a b c : World} {g : Nat} {t : TypeId} {c1 c2 : Array Value} (h : Put a g t c1 b) (k : Put b g t c2 c) : Put a g t c2 c where
  row := k.row
  other i hi := (k.other i hi).trans (h.other i hi)
  size := k.size.trans h.size
  os := k.os.trans h.os
  tape := k.tape.trans h.tape
  output := k.output.trans h.output
theorem put_setCells {g : Nat} {t : TypeId} : ∀ (vs : List Value) (o : Nat) (w : World) (cur : Array Value), w.heap[g]? = some (.cells cur t (0, 0)) → o + vs.length ≤ cur.size →
    ∃ cur', Put w g t cur' (w.setCells g o vs) ∧ cur'.toList = cur.toList.take o ++ vs ++ cur.toList.drop (o + vs.length)
  | [], o, w, cur, hg, _ => ⟨cur, ⟨hg, fun _ _ => rfl, rfl, rfl, rfl, rfl⟩, by simp⟩
  | v :: r, o, w, cur, hg, hl => by
    simp only [List.length_cons] at hl
    have p1 : Put w g t (cur.setIfInBounds o v) (w.setCell ⟨g, o, none⟩ v) := by
      rw [setCell_eq_setRow w g o cur t (0, 0) v hg]
      exact put_setRow hg _
    obtain ⟨cur', p2, e2⟩ := put_setCells r (o + 1) (w.setCell ⟨g, o, none⟩ v) _ p1.row (by simp; omega)
    refine ⟨cur', p1.trans p2, ?_⟩
    rw [e2]
    have hs : (cur.setIfInBounds o v).toList = cur.toList.take o ++ v :: cur.toList.drop (o + 1) := by
      rw [Array.toList_setIfInBounds, List.set_eq_take_append_cons_drop, if_pos (by simpa using (show o < cur.size by omega))]
    rw [hs]
    have ho : (cur.toList.take o).length = o := by simp; omega
    have t1 : (cur.toList.take o ++ v :: cur.toList.drop (o + 1)).take (o + 1) = cur.toList.take o ++ [v] := by
      rw [List.take_append, ho, List.take_of_length_le (by omega)]
      simp
    have t2 : (cur.toList.take o ++ v :: cur.toList.drop (o + 1)).drop (o + 1 + r.length) = cur.toList.drop (o + (r.length + 1)) := by
      rw [List.drop_append, ho, List.drop_of_length_le (by omega), show o + 1 + r.length - o = r.length + 1 by omega, List.drop_succ_cons, List.drop_drop]
      simp
      congr 1
      omega
    rw [t1, t2]
    simp
section
variable {P : Program}
theorem run_append_from (w : World) (base : Nat) (t ty e : TypeId) (i : TypeInfo) (z : Value) (bytes : Nat) (ht : P.underlying t = some (.slice e)) (hi : P.info? e = some i) (hz : i.zero = some z)
    (hsize : i.size = 1) (hby : i.bytes = bytes) (hzs : z.cells.size = 1) (v : Value) (xs : List Value) (hown : ownsFrom w base e v xs)
    (a : Addr) (m c : Nat) (news : List Value) (hl : news.length = m) (hnews : ∀ j u, news[j]? = some u → w.cell? (a.add j) = some u) (h1 : ∀ u ∈ news, u.oneCell' = true) (hm : 0 < m)
    (h63 : xs.length + m ≤ maxLen) (hbytes : (xs.length + m) * bytes ≤ 140737488355328) (hbase : base ≤ w.heap.size) :
    ∃ ad cap w', (Builtin.append_ #[t, t] ty #[v, .slice (some a) m c]).run P w = .ok (.slice (some ad) (xs.length + m) cap) w' ∧ ownsFrom w' base e (.slice (some ad) (xs.length + m) cap) (xs ++ news) ∧ w.grownBy w' v.ownBlock ∧ (v.ownBlock = some ad.block ∨ w.heap.size = ad.block) := by
  rcases hown with ⟨rfl, rfl⟩ | ⟨g, o, cap, cur, rfl, hb, hg, hc, hcm, hcs, htk⟩
  · obtain ⟨v', w', hr, h2, h3, h4, h5⟩ := run_append_own_at (P := P) w base t ty e i z 1 bytes ht hi hz hsize hby hzs (by decide) (.slice none 0 0) 0 [] (World.ownsRow_nil _ _ _ _) a m c news (by omega) hnews h1 (by simpa using h63) (by simpa using hbytes) hbase
    rcases h2.2 with ⟨rfl, h0⟩ | ⟨g, cap, cur, rfl, _⟩
    · omega
    · refine ⟨_, cap, w', by simpa using hr, ?_, h3, ?_⟩
      · have := ownsFrom_row h2
        simpa using this
      · rcases h5 with h5 | h5
        · cases h5
        · right
          simpa [Value.ownBlock, eq_comm] using h5
  · by_cases hroom : xs.length + m ≤ cap
    · have hin : ∀ j, j < news.length → (w.cell? ⟨g, o + xs.length * i.size + j, none⟩).isSome = true := fun j hj => by
        have : o + xs.length * i.size + j < cur.size := by rw [hsize]; omega
        simp [World.cell?, hg, this]
      have hfr : ∀ j, j < news.length → w.frozen? ⟨g, o + xs.length * i.size + j, none⟩ = false := fun j hj => by simp [World.frozen?, hg]
      have hr := run_append_room_cells (P := P) w t ty e i ht hi g o xs.length cap a m c news (by rw [hsize]; omega) hnews h1 hroom hin hfr
      rw [hsize, Nat.mul_one] at hr
      obtain ⟨cur', p, ec⟩ := put_setCells news (o + xs.length) w cur hg (by omega)
      refine ⟨⟨g, o, none⟩, cap, _, hr, .inr ⟨g, o, cap, cur', by rw [List.length_append, hl], hb, p.row, by rw [List.length_append]; omega, hcm, ?_, ?_⟩, ⟨p.os, p.tape, p.output, by rw [p.size]; exact Nat.le_refl _, fun k _ hk => p.other k (fun e => hk (by simp [Value.ownBlock, e]))⟩, .inl rfl⟩
      · have := congrArg List.length ec
        simp at this
        omega
      · rw [ec]
        have hto : (cur.toList.take (o + xs.length)).drop o = xs := by
          rw [List.drop_take, show o + xs.length - o = xs.length by omega]; exact htk
        rw [List.append_assoc, List.drop_append_of_le_length (by simp; omega), hto, ← List.append_assoc, List.take_left]
    · have holds : ∀ j u, xs[j]? = some u → w.cell? ((⟨g, o, none⟩ : Addr).add j) = some u := fun j u hj => by
        have := drop_take_get htk hj
        have hadd : (⟨g, o, none⟩ : Addr).add j = ⟨g, o + j, none⟩ := by unfold Addr.add; split <;> simp_all
        rw [hadd]
        simp [World.cell?, hg]
        simpa using this
      obtain ⟨v', w', hr, h2, h3⟩ := run_append_arg_grows (P := P) w t ty e i z 1 bytes ht hi hz hsize hby hzs (by decide) ⟨g, o, none⟩ xs.length cap xs (by omega) holds a m c news (by omega) hnews (by omega) h63 hbytes
      rcases h2.2 with ⟨rfl, h0⟩ | ⟨g', cap', cur', rfl, hb', hg', _⟩
      · omega
      · have h2' := ownsFrom_row h2
        have hr' := run_append_grow (P := P) w t ty e i z ht hi hz ⟨g, o, none⟩ xs.length cap xs (by rw [hsize]; omega) holds a m c news (by rw [hsize]; omega) hnews (by omega) (by simp only [maxLen] at h63; omega) (growslice_fits (by omega) (by rw [hby]; exact hbytes))
        rw [hr'] at hr
        have hge : g' = w.heap.size := by
          have := (Result.ok.inj hr).1
          simp at this
          exact this.1.symm
        refine ⟨_, cap', w', by rw [hr', hr], ?_, ⟨h3.os, h3.tape, h3.output, h3.size, fun k hk _ => h3.block k hk (by simp)⟩, .inr hge.symm⟩
        rcases h2' with ⟨hv, _⟩ | ⟨q, q1, q2, q3, hv, q5, q6⟩
        · cases hv
        · exact .inr ⟨q, q1, q2, q3, hv, by omega, q6⟩
theorem wpList_append_from {ops : Array Oper} {rest : List Oper} {o : Oper} {a : Act} {w : World} {Q : Exit → Act → World → Prop} (hgd : o.guard = none) (s x : Operand) (t : TypeId)
    (ho : o.op = .call { callee := .builtin .append, args := #[s, x], argTypes := #[t, t] })
    (base : Nat) (e : TypeId) (i : TypeInfo) (z : Value) (bytes : Nat) (ht : P.underlying t = some (.slice e)) (hi : P.info? e = some i) (hz : i.zero = some z) (hsize : i.size = 1) (hby : i.bytes = bytes) (hzs : z.cells.size = 1)
    (v : Value) (xs : List Value) (hs : a.eval s = v) (hown : ownsFrom w base e v xs)
    (ad : Addr) (m c : Nat) (news : List Value) (hx : a.eval x = .slice (some ad) m c) (hl : news.length = m) (hnews : ∀ j u, news[j]? = some u → w.cell? (ad.add j) = some u) (h1 : ∀ u ∈ news, u.oneCell' = true) (hm : 0 < m)
    (h63 : xs.length + m ≤ maxLen) (hbytes : (xs.length + m) * bytes ≤ 140737488355328) (hbase : base ≤ w.heap.size)
    (h : ∀ ad' cap w', ownsFrom w' base e (.slice (some ad') (xs.length + m) cap) (xs ++ news) → w.grownBy w' v.ownBlock → (v.ownBlock = some ad'.block ∨ w.heap.size = ad'.block) → wpList P ops Q rest (a.put o.dst (.slice (some ad') (xs.length + m) cap)) w') :
    wpList P ops Q (o :: rest) a w := by
  refine wpList_plain hgd fun K hK => ?_
  obtain ⟨ad', cap, w', hr, h2, h3, h4⟩ := run_append_from (P := P) w base t o.type e i z bytes ht hi hz hsize hby hzs v xs hown ad m c news hl hnews h1 hm h63 hbytes hbase
  unfold Oper.wp execOp
  simp only [ho, resolve, invoke, builtin, Sem.run_bind, Sem.run_pure, Result.andThen_ok, List.map_toArray, List.map_cons, List.map_nil, hs, hx, hr]
  exact hK _ _ (h ad' cap w' h2 h3 h4)
end
end Go.Hw

/- Lists that came out: append to one of them leaves the older ones; a cell of one is written. -/
import Derived.Test.YtdlhbmncbmconaaGreatDoorWo
namespace Go.Hw
open Go.RowKit
def Older (e : TypeId) (v : Value) (n : Nat) (w w' : World) : Prop := ∀ u j ys, w.ownsRow 0 e 1 u j ys → (∀ k, u.ownBlock = some k → v.ownBlock = some k → j ≤ n) → w'.ownsRow 0 e 1 u j ys
theorem take_put {l m : List Value} {x : Value} {n j : Nat} {ys : List Value} (hl : n < l.length) (hm : m = l.take n ++ [x] ++ l.drop (n + 1)) (hj : j ≤ n) (h : l.take j = ys) : m.take j = ys := by
  subst hm
  rw [List.append_assoc, List.take_append_of_le_length (by simp; omega), List.take_take, Nat.min_eq_left hj, h]
section
variable {P : Program}
theorem run_append_item (w : World) (t ty e : TypeId) (i : TypeInfo) (z : Value) (bytes : Nat) (ht : P.underlying t = some (.slice e)) (hi : P.info? e = some i) (hz : i.zero = some z)
    (hsize : i.size = 1) (hby : i.bytes = bytes) (hzs : z.cells.size = 1) (v : Value) (n : Nat) (xs : List Value) (hown : w.ownsRow 0 e 1 v n xs)
    (a : Addr) (x : Value) (hnews : ∀ j u, [x][j]? = some u → w.cell? (a.add j) = some u) (h1 : x.oneCell' = true) (h63 : n + 1 ≤ maxLen) (hbytes : (n + 1) * bytes ≤ 140737488355328) :
    ∃ v' w', (Builtin.append_ #[t, t] ty #[v, .slice (some a) 1 1]).run P w = .ok v' w' ∧ w'.ownsRow 0 e 1 v' (n + 1) (xs ++ [x]) ∧ w.grownBy w' v.ownBlock ∧ (v'.ownBlock = v.ownBlock ∨ v'.ownBlock = some w.heap.size) ∧ Older e v n w w' := by
  have h1' : ∀ u ∈ [x], u.oneCell' = true := fun u hu => by simp at hu; subst hu; exact h1
  obtain ⟨v', w', hr, h2, h3, h4, h5⟩ := run_append_own_at (P := P) w 0 t ty e i z 1 bytes ht hi hz hsize hby hzs (by decide) v n xs hown a 1 1 [x] rfl hnews h1' h63 hbytes (Nat.zero_le _)
  refine ⟨v', w', hr, h2, h3, h5, ?_⟩
  intro u j ys hu hj
  have hxl : xs.length = n := by simpa using hown.1
  rcases hown.2 with ⟨rfl, _⟩ | ⟨g, cap, cur, rfl, hb, hg, hnc, hcm, hcs, htk⟩
  · exact ownsRow_keptS hu (Kept.of_grown h3) (fun k _ e => by cases e)
  · have hcs' : cur.size = cap := by simpa using hcs
    by_cases hroom : n + 1 ≤ cap
    · have hin : ∀ j, j < [x].length → (w.cell? ⟨g, 0 + n * i.size + j, none⟩).isSome = true := fun j hj => by
        have hj : j = 0 := by simpa using hj
        subst hj
        have : 0 + n * i.size + 0 < cur.size := by rw [hsize]; omega
        simp [World.cell?, hg, hsize]
        omega
      have hfr : ∀ j, j < [x].length → w.frozen? ⟨g, 0 + n * i.size + j, none⟩ = false := fun j hj => by simp [World.frozen?, hg]
      have hr2 := run_append_room_cells (P := P) w t ty e i ht hi g 0 n cap a 1 1 [x] (by rw [hsize]; rfl) hnews h1' hroom hin hfr
      rw [hsize, Nat.mul_one, Nat.zero_add] at hr2
      obtain ⟨cur', p, ec⟩ := put_setCells [x] n w cur hg (by simp; omega)
      rw [hr2] at hr
      cases hr
      rcases hu.2 with ⟨rfl, h0⟩ | ⟨g2, cap2, cur2, rfl, hb2, hg2, hnc2, hcm2, hcs2, htk2⟩
      · exact ⟨hu.1, .inl ⟨rfl, h0⟩⟩
      · by_cases hgg : g2 = g
        · subst hgg
          rw [hg] at hg2
          cases hg2
          have hjn := hj g2 rfl rfl
          have hs' : cur'.size = cur.size := by
            have := congrArg List.length ec
            simp at this
            omega
          refine ⟨hu.1, .inr ⟨g2, cap2, cur', rfl, hb2, p.row, hnc2, hcm2, by rw [hs']; exact hcs2, ?_⟩⟩
          exact take_put (by simpa using (show n < cur.size by omega)) (by simpa using ec) (by omega) htk2
        · exact ⟨hu.1, .inr ⟨g2, cap2, cur2, rfl, hb2, (p.other g2 hgg).trans hg2, hnc2, hcm2, hcs2, htk2⟩⟩
    · have holds : ∀ j u, xs[j]? = some u → w.cell? ((⟨g, 0, none⟩ : Addr).add j) = some u := fun j u hj => hown.cells (g := g) rfl j u hj
      obtain ⟨v2, w2, hr2, h22, h32⟩ := run_append_arg_grows (P := P) w t ty e i z 1 bytes ht hi hz hsize hby hzs (by decide) ⟨g, 0, none⟩ n cap xs (by omega) holds a 1 1 [x] rfl hnews (by omega) h63 hbytes
      rw [hr2] at hr
      cases hr
      exact ownsRow_keptS hu (Kept.of_grown h32) (fun k _ e => by cases e)
theorem wpList_append_item {ops : Array Oper} {rest : List Oper} {o : Oper} {a : Act} {w : World} {Q : Exit → Act → World → Prop} (hgd : o.guard = none) (s x : Operand) (t : TypeId)
    (ho : o.op = .call { callee := .builtin .append, args := #[s, x], argTypes := #[t, t] })
    (e : TypeId) (i : TypeInfo) (z : Value) (bytes : Nat) (ht : P.underlying t = some (.slice e)) (hi : P.info? e = some i) (hz : i.zero = some z) (hsize : i.size = 1) (hby : i.bytes = bytes) (hzs : z.cells.size = 1)
    (v : Value) (n : Nat) (xs : List Value) (hs : a.eval s = v) (hown : w.ownsRow 0 e 1 v n xs)
    (ad : Addr) (new : Value) (hx : a.eval x = .slice (some ad) 1 1) (hnews : ∀ j u, [new][j]? = some u → w.cell? (ad.add j) = some u) (h1 : new.oneCell' = true)
    (h63 : n + 1 ≤ maxLen) (hbytes : (n + 1) * bytes ≤ 140737488355328)
    (h : ∀ v' w', w'.ownsRow 0 e 1 v' (n + 1) (xs ++ [new]) → w.grownBy w' v.ownBlock → (v'.ownBlock = v.ownBlock ∨ v'.ownBlock = some w.heap.size) → Older e v n w w' → wpList P ops Q rest (a.put o.dst v') w') :
    wpList P ops Q (o :: rest) a w := by
  refine wpList_plain hgd fun K hK => ?_
  obtain ⟨v', w', hr, h2, h3, h4, h5⟩ := run_append_item (P := P) w t o.type e i z bytes ht hi hz hsize hby hzs v n xs hown ad new hnews h1 h63 hbytes
  unfold Oper.wp execOp
  simp only [ho, resolve, invoke, builtin, Sem.run_bind, Sem.run_pure, Result.andThen_ok, List.map_toArray, List.map_cons, List.map_nil, hs, hx, hr]
  exact hK _ _ (h v' w' h2 h3 h4 h5)
end
theorem ownsRow_set {w : World} {e : TypeId} {v : Value} {n : Nat} {xs : List Value} (h : w.ownsRow 0 e 1 v n xs) {i : Nat} (hi : i < n) :
    ∃ g cap cur, v = .slice (some ⟨g, 0, none⟩) n cap ∧ w.heap[g]? = some (.cells cur e (0, 0)) ∧ i < cur.size ∧ ∀ x w2, Put w g e (cur.setIfInBounds i x) w2 → w2.ownsRow 0 e 1 v n (xs.set i x) := by
  rcases h.2 with ⟨rfl, h0⟩ | ⟨g, cap, cur, rfl, hb, hg, hnc, hcm, hcs, htk⟩
  · omega
  · have hcs' : cur.size = cap := by simpa using hcs
    refine ⟨g, cap, cur, rfl, hg, by omega, fun x w2 p => ⟨by simpa using h.1, .inr ⟨g, cap, _, rfl, hb, p.row, hnc, hcm, by simpa using hcs, ?_⟩⟩⟩
    rw [Nat.mul_one] at htk ⊢
    rw [Array.toList_setIfInBounds, List.take_set, htk]
theorem set_next {m : Value} {xs : List Value} {k n : Nat} (hk : k < n) (hn : xs.length = n) : (List.replicate k m ++ xs.drop k).set k m = List.replicate (k + 1) m ++ xs.drop (k + 1) := by
  rw [List.set_append_right _ _ (by simp)]
  simp only [List.length_replicate, Nat.sub_self]
  rw [List.drop_eq_getElem_cons (by omega : k < xs.length), List.set_cons_zero, List.replicate_succ', List.append_assoc]
  rfl
end Go.Hw

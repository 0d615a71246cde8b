/- Slices of structs of whole numbers among the arguments. -/
import Derived.Deep.Slices
import Derived.Deep.MidRow
import Derived.SizedLaws
import Derived.OpenShut
namespace Go.Proofs.YtdlhbmncbmconaaGreatDoor
open Go.ChangeShapes Go.WideShapes
structure RowsAt (k : Nat) (W : World) (ad : Option Addr) (rows : List (List Int)) : Prop where
  cells : ∀ j r, rows[j]? = some r → ∃ b off, ad = some ⟨b, off, none⟩ ∧ W.rangeAt b (off + j * k) (r.map (Value.int .i64))
  len : ∀ r ∈ rows, r.length = k
  lo : ∀ r ∈ rows, ∀ z ∈ r, -9223372036854775808 ≤ z
  hi : ∀ r ∈ rows, ∀ z ∈ r, z ≤ 9223372036854775807
  most : rows.length ≤ 1000000000000000
theorem ints_list : ∀ (cs : List Value), (∀ j, j < cs.length → ∃ z, cs[j]? = some (.int .i64 z) ∧ (Lit.int .i64 z).wf = true) → ∃ r : List Int, cs = r.map (Value.int .i64) ∧ ∀ z ∈ r, (Lit.int .i64 z).wf = true
  | [], _ => ⟨[], rfl, by simp⟩
  | c :: cs, h => by
    obtain ⟨z, hz, hw⟩ := h 0 (by simp)
    obtain ⟨r, hr, hwr⟩ := ints_list cs (fun j hj => by
      obtain ⟨z, h1, h2⟩ := h (j + 1) (by simp; omega)
      exact ⟨z, by simpa using h1, h2⟩)
    refine ⟨z :: r, ?_, ?_⟩
    · simp at hz
      rw [hz, hr]; rfl
    · intro y hy
      rcases List.mem_cons.1 hy with rfl | hy
      · exact hw
      · exact hwr y hy
theorem rows_of {H : Type} {enc : TypeId × Value → H} {P : Program} {W : World} {t e : TypeId} {fs : Array Field} {k : Nat} {v : Value} {d : DataW H} {p : List MemPlace} (ht : P.underlying t = some (.slice e)) (he : P.underlying e = some (.struct fs)) (hk : fs.size = k) (hk0 : 0 < k) (ce : P.cellsOf e = k)
    (hf : ∀ (j : Nat) (f : Field), fs[j]? = some f → f.offset = j ∧ P.underlying f.type = some (.int .i64) ∧ P.cellsOf f.type = 1) (hby : 1 ≤ P.bytesOf e)
    (h : DataW.Trod enc P W 0 (fun _ => true) true t v d p) (hone : v.cells = #[v]) (hd : ∀ n ∈ d.weights P t, n ≤ reachBytes) :
    ∃ (ad : Option Addr) (rows : List (List Int)) (cap : Nat), v = .slice ad rows.length cap ∧ RowsAt k W ad rows := by
  obtain ⟨fuel, hfu⟩ := h
  rw [hone] at hfu
  rcases Go.Deep.open_slice ht hfu with ⟨hcs, hx⟩ | ⟨a, len, cap, m, n, D, Pl, hcs, hb, hl, hm, hmm, hx, hel⟩
  · have hv : v = .slice none 0 0 := by simpa using hcs
    exact ⟨none, [], 0, hv, fun j z hj => by simp at hj, by simp, by simp, by simp, by simp⟩
  · have hv : v = .slice (some a) len cap := by simpa using hcs
    have hd' : d = .slice ((List.range len).map D) ((List.range (m - len)).map fun j => D (len + j)) := congrArg Prod.fst hx
    have hm' : m = cap := by simpa using hmm
    have hlen : len ≤ 1000000000000000 := by
      rw [hd'] at hd
      have h8 := hd ((((List.range len).map D).length + ((List.range (m - len)).map fun j => D (len + j)).length) * P.bytesOf e) (by simp [DataW.weights, ht])
      have := reachBytes_lt
      have h9 : len * 1 ≤ (((List.range len).map D).length + ((List.range (m - len)).map fun j => D (len + j)).length) * P.bytesOf e := Nat.mul_le_mul (by simp) hby
      omega
    have each : ∀ i, i < len → ∃ r : List Int, r.length = k ∧ (∀ j, j < k → W.cell? ((a.add (i * k)).add j) = (r.map (Value.int .i64))[j]?) ∧ ∀ z ∈ r, (Lit.int .i64 z).wf = true := by
      intro i hi
      obtain ⟨cs', h1, h2⟩ := hel i (by omega)
      rw [ce] at h1
      obtain ⟨_, hcl, hcell⟩ := World.cells?_some h1
      obtain ⟨xs, q, _, _, _, hxl, hfld⟩ := DataW.trod_struct he h2
      obtain ⟨r, hr, hw⟩ := ints_list cs' (fun j hj => by
        have hj' : j < fs.size := by omega
        have hfj : fs[j]? = some fs[j] := Array.getElem?_eq_getElem hj'
        obtain ⟨o, u, c⟩ := hf j _ hfj
        have g := hfld j _ hfj
        rw [o, c, List.getElem?_eq_getElem (by omega)] at g
        obtain ⟨z, hz, _, hwz⟩ := DataW.trod_int u g
        refine ⟨z, ?_, hwz⟩
        have := congrArg (fun l => l[0]?) hz
        simpa [List.getElem?_take] using this)
      refine ⟨r, ?_, ?_, hw⟩
      · rw [hr, List.length_map] at hcl; exact hcl
      · intro j hj
        rw [hcell j hj, hr]
    obtain ⟨R, hR⟩ := Go.Deep.choose_lt each
    refine ⟨some a, (List.range len).map R, cap, by simpa using hv, ?_, ?_, ?_, ?_, by simpa using hlen⟩
    · intro j r hj
      have hjl : j < len := by
        have := (List.getElem?_eq_some_iff.1 hj).1
        simpa using this
      rw [List.getElem?_map, List.getElem?_range hjl] at hj
      have hrj : R j = r := by simpa using hj
      obtain ⟨h1, h2, h3⟩ := hR j hjl
      rw [hrj] at h1 h2
      obtain ⟨b, off, spot⟩ := a
      obtain ⟨g1, g2, _⟩ := hR 0 (by omega)
      have h20 := g2 0 hk0
      have hsome : ∃ y, ((R 0).map (Value.int .i64))[0]? = some y := ⟨_, List.getElem?_eq_getElem (by rw [List.length_map]; omega)⟩
      obtain ⟨y, hy⟩ := hsome
      rw [hy] at h20
      have hspot : spot = none := by
        have := World.cell?_spot h20
        simpa [Addr.add] using this
      subst hspot
      refine ⟨b, off, rfl, ?_⟩
      intro j' v' hv'
      have hj' : j' < k := by have := (List.getElem?_eq_some_iff.1 hv').1; rw [List.length_map] at this; omega
      have := h2 j' hj'
      rw [add_plain, add_plain] at this
      rw [this, hv']
    · intro r hr
      obtain ⟨i, hi, rfl⟩ := List.mem_map.1 hr
      exact (hR i (by simpa using hi)).1
    · intro r hr z hz
      obtain ⟨i, hi, rfl⟩ := List.mem_map.1 hr
      exact (bounds_i64 ((hR i (by simpa using hi)).2.2 z hz)).1
    · intro r hr z hz
      obtain ⟨i, hi, rfl⟩ := List.mem_map.1 hr
      exact (bounds_i64 ((hR i (by simpa using hi)).2.2 z hz)).2
end Go.Proofs.YtdlhbmncbmconaaGreatDoor

/- Mathematics: the document's own answer. -/
import Derived.Test.YtdlhbmncbmconaaGreatDoorMb
namespace Go.Hm
def contv : Nat → List UInt8 → Nat → Option Nat
  | 0, _, c => some c
  | _ + 1, [], _ => none
  | n + 1, b :: t, c => if b.toNat < 128 ∨ 191 < b.toNat then none else contv n t (64 * c + b.toNat - 128)
def lead (b : Nat) : Option (Nat × Nat × Nat) :=
  if 192 ≤ b ∧ b < 224 then some (1, 128, b - 192) else if 224 ≤ b ∧ b < 240 then some (2, 2048, b - 224) else if 240 ≤ b ∧ b < 248 then some (3, 65536, b - 240) else none
def runeBad (least v : Nat) : Bool := decide (v < least) || decide (1114111 < v) || (decide (55296 ≤ v) && decide (v ≤ 57343))
theorem plain_low {b : UInt8} {t : List UInt8} (h : b.toNat < 32 ∨ b.toNat = 127) : plain (b :: t) = false := by
  have : low b = true := by simp [low]; omega
  unfold plain
  simp [this]
theorem plain_asc {b : UInt8} {t : List UInt8} (h : ¬ (b.toNat < 32 ∨ b.toNat = 127)) (h2 : b.toNat < 128) : plain (b :: t) = plain t := by
  have : low b = false := by simp [low]; omega
  unfold plain
  rw [Lib.validD_cons b t h2]
  simp [this]
theorem low_cont {b : UInt8} (h : 128 ≤ b.toNat) : low b = false := by simp [low]; omega
theorem plain_go {b : UInt8} {t : List UInt8} {k : Nat} (hb : 128 ≤ b.toNat) (hv : Lib.validD (b :: t) = Lib.validD (t.drop k)) (hk : ∀ c ∈ t.take k, 128 ≤ c.toNat) : plain (b :: t) = plain (t.drop k) := by
  unfold plain
  rw [hv]
  congr 1
  rw [List.all_cons, low_cont hb]
  conv => lhs; rw [← List.take_append_drop k t]
  rw [List.all_append]
  have : (t.take k).all (fun c => !low c) = true := by
    rw [List.all_eq_true]
    intro c hc
    rw [low_cont (hk c hc)]
    rfl
  rw [this]
  simp
theorem plain_no {b : UInt8} {t : List UInt8} (hv : Lib.validD (b :: t) = false) : plain (b :: t) = false := by unfold plain; rw [hv]; simp
def goN (l : List UInt8) : Option Nat → Bool
  | none => false
  | some k => Lib.validD (l.drop k)
set_option maxHeartbeats 4000000 in
theorem plain_lead (b : UInt8) (t : List UInt8) (hb : 128 ≤ b.toNat) : plain (b :: t) = match lead b.toNat with
    | none => false
    | some (n, least, c) => match contv n t c with
      | none => false
      | some v => if runeBad least v = true then false else plain (t.drop n) := by
  have hL : Lib.validD (b :: t) = goN (b :: t) (Lib.checkN (b :: t).length ((b :: t).getD 1 0).toNat ((b :: t).getD 2 0).toNat ((b :: t).getD 3 0).toNat (Lib.firstT ((b :: t).getD 0 0).toNat % 8) (Lib.accLo (Lib.firstT ((b :: t).getD 0 0).toNat / 16)) (Lib.accHi (Lib.firstT ((b :: t).getD 0 0).toNat / 16))) := by
    rw [Lib.validD_lead (b :: t) (by simp) (by simpa using hb)]
    split
    · next e => rw [e]; rfl
    · next e => rw [e]; rfl
  rw [show (b :: t).getD 0 0 = b from rfl, show (b :: t).getD 1 0 = t.getD 0 0 from rfl, show (b :: t).getD 2 0 = t.getD 1 0 from rfl, show (b :: t).getD 3 0 = t.getD 2 0 from rfl] at hL
  have hb256 := b.toNat_lt
  have key : ∀ sz lo hi, Lib.firstT b.toNat % 8 = sz → Lib.accLo (Lib.firstT b.toNat / 16) = lo → Lib.accHi (Lib.firstT b.toNat / 16) = hi →
      Lib.validD (b :: t) = goN (b :: t) (Lib.checkN (b :: t).length (t.getD 0 0).toNat (t.getD 1 0).toNat (t.getD 2 0).toNat sz lo hi) := by
    intro sz lo hi h1 h2 h3
    rw [hL, h1, h2, h3]
  by_cases c0 : b.toNat < 192
  · have : lead b.toNat = none := by unfold lead; rw [if_neg (by omega), if_neg (by omega), if_neg (by omega)]
    rw [this]
    dsimp only
    refine plain_no ?_
    have hf : Lib.firstT b.toNat = 241 := by unfold Lib.firstT; (repeat' split) <;> omega
    rw [hL, hf]
    rfl
  by_cases c1 : b.toNat < 224
  · have hl : lead b.toNat = some (1, 128, b.toNat - 192) := by unfold lead; rw [if_pos (by omega)]
    rw [hl]
    dsimp only
    by_cases c2 : b.toNat < 194
    · have hf : Lib.firstT b.toNat = 241 := by unfold Lib.firstT; (repeat' split) <;> omega
      have hv : Lib.validD (b :: t) = false := by rw [hL, hf]; rfl
      rw [plain_no hv]
      cases t with
      | nil => rfl
      | cons x r =>
        have hx := x.toNat_lt
        simp only [contv]
        by_cases h : x.toNat < 128 ∨ 191 < x.toNat
        · rw [if_pos h]
        · rw [if_neg h]
          dsimp only
          rw [if_pos]
          simp [runeBad]
          omega
    · have hf : Lib.firstT b.toNat = 2 := by unfold Lib.firstT; (repeat' split) <;> omega
      have hv := key 2 128 191 (by rw [hf]) (by rw [hf]; rfl) (by rw [hf]; rfl)
      cases t with
      | nil => rw [plain_no (by rw [hv]; rfl)]; rfl
      | cons x r =>
        have hx := x.toNat_lt
        simp only [contv]
        unfold Lib.checkN at hv
        rw [if_pos rfl] at hv
        simp only [List.getD_cons_zero, List.length_cons] at hv
        by_cases h : x.toNat < 128 ∨ 191 < x.toNat
        · rw [if_pos h]
          dsimp only
          refine plain_no ?_
          rw [hv, if_pos (by omega)]
          rfl
        · rw [if_neg (by omega)] at hv
          rw [if_neg h]
          dsimp only
          rw [if_neg]
          · exact plain_go hb hv (fun c hc => by simp at hc; subst hc; omega)
          · simp [runeBad]
            omega
  by_cases c3 : b.toNat < 240
  · have hl : lead b.toNat = some (2, 2048, b.toNat - 224) := by unfold lead; rw [if_neg (by omega), if_pos (by omega)]
    rw [hl]
    dsimp only
    obtain ⟨lo, hi, hv, hlo⟩ : ∃ lo hi, (Lib.validD (b :: t) = goN (b :: t) (Lib.checkN (b :: t).length (t.getD 0 0).toNat (t.getD 1 0).toNat (t.getD 2 0).toNat 3 lo hi)) ∧ ((b.toNat = 224 ∧ lo = 160 ∧ hi = 191) ∨ (b.toNat = 237 ∧ lo = 128 ∧ hi = 159) ∨ (b.toNat ≠ 224 ∧ b.toNat ≠ 237 ∧ lo = 128 ∧ hi = 191)) := by
      by_cases d0 : b.toNat = 224
      · have hf : Lib.firstT b.toNat = 19 := by rw [d0]; rfl
        exact ⟨160, 191, key 3 160 191 (by rw [hf]) (by rw [hf]; rfl) (by rw [hf]; rfl), .inl ⟨d0, rfl, rfl⟩⟩
      · by_cases d1 : b.toNat = 237
        · have hf : Lib.firstT b.toNat = 35 := by rw [d1]; rfl
          exact ⟨128, 159, key 3 128 159 (by rw [hf]) (by rw [hf]; rfl) (by rw [hf]; rfl), .inr (.inl ⟨d1, rfl, rfl⟩)⟩
        · have hf : Lib.firstT b.toNat = 3 := by unfold Lib.firstT; (repeat' split) <;> omega
          exact ⟨128, 191, key 3 128 191 (by rw [hf]) (by rw [hf]; rfl) (by rw [hf]; rfl), .inr (.inr ⟨d0, d1, rfl, rfl⟩)⟩
    unfold Lib.checkN at hv
    rw [if_neg (by omega), if_pos rfl] at hv
    match t, hv with
    | [], hv => rw [plain_no (by rw [hv, if_pos (by simp)]; rfl)]; rfl
    | [x], hv =>
      rw [plain_no (by rw [hv, if_pos (by simp)]; rfl)]
      simp only [contv]
      by_cases h : x.toNat < 128 ∨ 191 < x.toNat
      · rw [if_pos h]
      · rw [if_neg h]
    | x :: y :: r, hv =>
      have hx := x.toNat_lt
      have hy := y.toNat_lt
      simp only [List.getD_cons_zero, List.getD_cons_succ, List.length_cons] at hv
      simp only [contv]
      by_cases h : x.toNat < 128 ∨ 191 < x.toNat
      · rw [if_pos h]; exact plain_no (by rw [hv, if_pos (by omega)]; rfl)
      · rw [if_neg h]
        by_cases h2 : y.toNat < 128 ∨ 191 < y.toNat
        · rw [if_pos h2]; exact plain_no (by rw [hv, if_pos (by omega)]; rfl)
        · rw [if_neg h2]
          dsimp only
          by_cases hbad : x.toNat < lo ∨ hi < x.toNat
          · rw [plain_no (by rw [hv, if_pos (by omega)]; rfl), if_pos]
            simp [runeBad]
            omega
          · rw [if_neg (by omega)] at hv
            rw [if_neg]
            · exact plain_go (k := 2) hb hv (fun c hc => by simp at hc; rcases hc with rfl | rfl <;> omega)
            · simp [runeBad]
              omega
  by_cases c4 : b.toNat < 248
  · have hl : lead b.toNat = some (3, 65536, b.toNat - 240) := by unfold lead; rw [if_neg (by omega), if_neg (by omega), if_pos (by omega)]
    rw [hl]
    dsimp only
    by_cases c5 : 244 < b.toNat
    · have hf : Lib.firstT b.toNat = 241 := by unfold Lib.firstT; (repeat' split) <;> omega
      have hv : Lib.validD (b :: t) = false := by rw [hL, hf]; rfl
      rw [plain_no hv]
      match t with
      | [] => rfl
      | [x] =>
        simp only [contv]
        by_cases h : x.toNat < 128 ∨ 191 < x.toNat
        · rw [if_pos h]
        · rw [if_neg h]
      | [x, y] =>
        simp only [contv]
        by_cases h : x.toNat < 128 ∨ 191 < x.toNat
        · rw [if_pos h]
        · rw [if_neg h]
          by_cases h2 : y.toNat < 128 ∨ 191 < y.toNat
          · rw [if_pos h2]
          · rw [if_neg h2]
      | x :: y :: z :: r =>
        have hx := x.toNat_lt
        have hy := y.toNat_lt
        have hz := z.toNat_lt
        simp only [contv]
        by_cases h : x.toNat < 128 ∨ 191 < x.toNat
        · rw [if_pos h]
        · rw [if_neg h]
          by_cases h2 : y.toNat < 128 ∨ 191 < y.toNat
          · rw [if_pos h2]
          · rw [if_neg h2]
            by_cases h3 : z.toNat < 128 ∨ 191 < z.toNat
            · rw [if_pos h3]
            · rw [if_neg h3]
              dsimp only
              rw [if_pos]
              simp [runeBad]
              omega
    · obtain ⟨lo, hi, hv, hlo⟩ : ∃ lo hi, (Lib.validD (b :: t) = goN (b :: t) (Lib.checkN (b :: t).length (t.getD 0 0).toNat (t.getD 1 0).toNat (t.getD 2 0).toNat 4 lo hi)) ∧ ((b.toNat = 240 ∧ lo = 144 ∧ hi = 191) ∨ (b.toNat = 244 ∧ lo = 128 ∧ hi = 143) ∨ (b.toNat ≠ 240 ∧ b.toNat ≠ 244 ∧ lo = 128 ∧ hi = 191)) := by
        by_cases d0 : b.toNat = 240
        · have hf : Lib.firstT b.toNat = 52 := by rw [d0]; rfl
          exact ⟨144, 191, key 4 144 191 (by rw [hf]) (by rw [hf]; rfl) (by rw [hf]; rfl), .inl ⟨d0, rfl, rfl⟩⟩
        · by_cases d1 : b.toNat = 244
          · have hf : Lib.firstT b.toNat = 68 := by rw [d1]; rfl
            exact ⟨128, 143, key 4 128 143 (by rw [hf]) (by rw [hf]; rfl) (by rw [hf]; rfl), .inr (.inl ⟨d1, rfl, rfl⟩)⟩
          · have hf : Lib.firstT b.toNat = 4 := by unfold Lib.firstT; (repeat' split) <;> omega
            exact ⟨128, 191, key 4 128 191 (by rw [hf]) (by rw [hf]; rfl) (by rw [hf]; rfl), .inr (.inr ⟨d0, d1, rfl, rfl⟩)⟩
      unfold Lib.checkN at hv
      rw [if_neg (by omega), if_neg (by omega), if_pos rfl] at hv
      match t, hv with
      | [], hv => rw [plain_no (by rw [hv, if_pos (by simp)]; rfl)]; rfl
      | [x], hv =>
        rw [plain_no (by rw [hv, if_pos (by simp)]; rfl)]
        simp only [contv]
        by_cases h : x.toNat < 128 ∨ 191 < x.toNat
        · rw [if_pos h]
        · rw [if_neg h]
      | [x, y], hv =>
        rw [plain_no (by rw [hv, if_pos (by simp)]; rfl)]
        simp only [contv]
        by_cases h : x.toNat < 128 ∨ 191 < x.toNat
        · rw [if_pos h]
        · rw [if_neg h]
          by_cases h2 : y.toNat < 128 ∨ 191 < y.toNat
          · rw [if_pos h2]
          · rw [if_neg h2]
      | x :: y :: z :: r, hv =>
        have hx := x.toNat_lt
        have hy := y.toNat_lt
        have hz := z.toNat_lt
        simp only [List.getD_cons_zero, List.getD_cons_succ, List.length_cons] at hv
        simp only [contv]
        by_cases h : x.toNat < 128 ∨ 191 < x.toNat
        · rw [if_pos h]; exact plain_no (by rw [hv, if_pos (by omega)]; rfl)
        · rw [if_neg h]
          by_cases h2 : y.toNat < 128 ∨ 191 < y.toNat
          · rw [if_pos h2]; exact plain_no (by rw [hv, if_pos (by omega)]; rfl)
          · rw [if_neg h2]
            by_cases h3 : z.toNat < 128 ∨ 191 < z.toNat
            · rw [if_pos h3]; exact plain_no (by rw [hv, if_pos (by omega)]; rfl)
            · rw [if_neg h3]
              dsimp only
              by_cases hbad : x.toNat < lo ∨ hi < x.toNat
              · rw [plain_no (by rw [hv, if_pos (by omega)]; rfl), if_pos]
                simp [runeBad]
                omega
              · rw [if_neg (by omega)] at hv
                rw [if_neg]
                · exact plain_go (k := 3) hb hv (fun c hc => by simp at hc; rcases hc with rfl | rfl | rfl <;> omega)
                · simp [runeBad]
                  omega
  · have : lead b.toNat = none := by unfold lead; rw [if_neg (by omega), if_neg (by omega), if_neg (by omega)]
    rw [this]
    dsimp only
    refine plain_no ?_
    have hf : Lib.firstT b.toNat = 241 := by unfold Lib.firstT; (repeat' split) <;> omega
    rw [hL, hf]
    rfl
end Go.Hm
namespace Go.Hm
def rdigits (l : List UInt8) (a n : Nat) : Nat × Bool := if a + n ≤ l.length ∧ 1 ≤ n ∧ ((l.drop a).take n).all dig = true then (dec ((l.drop a).take n), true) else (0, false)
def rlength (y m : Int) : Int := if m = 2 then (if leap y = true then 29 else 28) else if m = 4 ∨ m = 6 ∨ m = 9 ∨ m = 11 then 30 else 31
theorem rlength_eq {y m : Int} (h1 : 1 ≤ m) (h2 : m ≤ 12) : rlength y m = daysOf y m := by
  unfold rlength daysOf
  rcases (by omega : m = 1 ∨ m = 2 ∨ m = 3 ∨ m = 4 ∨ m = 5 ∨ m = 6 ∨ m = 7 ∨ m = 8 ∨ m = 9 ∨ m = 10 ∨ m = 11 ∨ m = 12) with h | h | h | h | h | h | h | h | h | h | h | h <;> subst h
  case inr.inl =>
    rw [if_pos rfl]
    cases leap y <;> rfl
  all_goals (first | rfl | (simp [monthDays]))
def risDay (y m d : Int) : Bool := decide (1 ≤ y) && decide (y ≤ 9999) && decide (1 ≤ m) && decide (m ≤ 12) && decide (1 ≤ d) && decide (d ≤ daysOf y m)
theorem risDay_iff (y m d : Int) : risDay y m d = true ↔ IsDay (y, m, d) := by
  simp only [risDay, Bool.and_eq_true, decide_eq_true_eq, IsDay]
  constructor
  · rintro ⟨⟨⟨⟨⟨a, b⟩, c⟩, d⟩, e⟩, f⟩; exact ⟨a, b, c, d, e, f⟩
  · rintro ⟨a, b, c, d, e, f⟩; exact ⟨⟨⟨⟨⟨a, b⟩, c⟩, d⟩, e⟩, f⟩
def rday (y m d sec : Int) : (Int × Int × Int) × Int :=
  if sec < 0 then (dayBefore y m d, sec + 86400) else if 86400 ≤ sec then (dayAfter y m d, sec - 86400) else ((y, m, d), sec)
def rshifted (y m d sec : Int) : Option (List UInt8) :=
  if (rday y m d sec).1.1 < 1 ∨ 9999 < (rday y m d sec).1.1 then none else
  some (stampText (rday y m d sec).1.1.toNat (rday y m d sec).1.2.1.toNat (rday y m d sec).1.2.2.toNat ((rday y m d sec).2 / 3600).toNat ((rday y m d sec).2 / 60 % 60).toNat ((rday y m d sec).2 % 60).toNat)
def rclock (l : List UInt8) (a : Nat) : Option Nat :=
  if (rdigits l a 2).2 = false ∨ (rdigits l (a + 3) 2).2 = false ∨ (rdigits l (a + 6) 2).2 = false ∨ ¬ (l.getD (a + 2) 0).toNat = 58 ∨ ¬ (l.getD (a + 5) 0).toNat = 58 ∨ 23 < (rdigits l a 2).1 ∨ 59 < (rdigits l (a + 3) 2).1 ∨ 59 < (rdigits l (a + 6) 2).1 then none else
  some (3600 * (rdigits l a 2).1 + 60 * (rdigits l (a + 3) 2).1 + (rdigits l (a + 6) 2).1)
def rpart (l : List UInt8) : Option (List UInt8 × Nat) :=
  if (l.getD 19 0).toNat = 46 then (if (l.drop 20).takeWhile dig = [] ∨ 6 < ((l.drop 20).takeWhile dig).length then none else some (Lib.trimRightB ((l.drop 20).takeWhile dig) 48, 20 + ((l.drop 20).takeWhile dig).length)) else some ([], 19)
def rdiff (z : List UInt8) : Option Int :=
  if z = [90] then some 0 else
  if ¬ z.length = 6 ∨ (¬ (z.getD 0 0).toNat = 43 ∧ ¬ (z.getD 0 0).toNat = 45) ∨ ¬ (z.getD 3 0).toNat = 58 then none else
  if (rdigits z 1 2).2 = false ∨ (rdigits z 4 2).2 = false ∨ 23 < (rdigits z 1 2).1 ∨ 59 < (rdigits z 4 2).1 then none else
  if (z.getD 0 0).toNat = 43 then some (60 * (rdigits z 1 2).1 + (rdigits z 4 2).1 : Int) else some (-(60 * (rdigits z 1 2).1 + (rdigits z 4 2).1 : Int))
def rtime (l : List UInt8) : Option (List UInt8) :=
  if l.length < 20 ∨ ¬ (l.getD 4 0).toNat = 45 ∨ ¬ (l.getD 7 0).toNat = 45 ∨ ¬ (l.getD 10 0).toNat = 84 then none else
  match rclock l 11 with
  | none => none
  | some sec =>
    if (rdigits l 0 4).2 = false ∨ (rdigits l 5 2).2 = false ∨ (rdigits l 8 2).2 = false ∨ risDay (rdigits l 0 4).1 (rdigits l 5 2).1 (rdigits l 8 2).1 = false then none else
    match rpart l with
    | none => none
    | some pt =>
      match rdiff (l.drop pt.2) with
      | none => none
      | some k =>
        match rshifted (rdigits l 0 4).1 (rdigits l 5 2).1 (rdigits l 8 2).1 (sec - 60 * k) with
        | none => none
        | some t => some (t ++ (if pt.1 = [] then [] else 46 :: pt.1) ++ [90])
theorem rdigits_ok {l : List UInt8} {a n : Nat} (h : (rdigits l a n).2 = true) : a + n ≤ l.length ∧ (∀ c ∈ (l.drop a).take n, dig c = true) ∧ (rdigits l a n).1 = dec ((l.drop a).take n) := by
  unfold rdigits at h ⊢
  split
  · next h1 => exact ⟨h1.1, by simpa using h1.2.2, rfl⟩
  · next h1 => rw [if_neg h1] at h; cases h
theorem rdigits_of {l : List UInt8} {a n : Nat} (h1 : a + n ≤ l.length) (hn : 1 ≤ n) (h : ∀ c ∈ (l.drop a).take n, dig c = true) : rdigits l a n = (dec ((l.drop a).take n), true) := by
  unfold rdigits
  rw [if_pos ⟨h1, hn, by simpa using h⟩]
theorem shape_iff : ∀ (t s : List UInt8), shape t s = true ↔ t.length = s.length ∧ ∀ j, j < s.length → shp (t.getD j 0) (s.getD j 0) = true
  | [], [] => by simp [shape]
  | [], _ :: _ => by simp [shape]
  | _ :: _, [] => by simp [shape]
  | a :: t, b :: s => by
    simp only [shape, Bool.and_eq_true, shape_iff t s, List.length_cons, Nat.add_right_cancel_iff]
    constructor
    · rintro ⟨h1, h2, h3⟩
      refine ⟨h2, fun j hj => ?_⟩
      cases j with
      | zero => exact h1
      | succ j => exact h3 j (by omega)
    · rintro ⟨h1, h2⟩
      exact ⟨h2 0 (by omega), h1, fun j hj => h2 (j + 1) (by omega)⟩
theorem shp_48 {c : UInt8} : shp c 48 = dig c := by simp [shp]
theorem shp_ne48 {c s : UInt8} (h : ¬ s = 48) : shp c s = true ↔ c.toNat = s.toNat := by
  unfold shp
  rw [if_neg h, beq_iff_eq, ← UInt8.toNat_inj]
  exact eq_comm
theorem getD_take {l : List UInt8} {n j : Nat} (h : j < n) : (l.take n).getD j 0 = l.getD j 0 := by
  rw [List.getD_eq_getElem?_getD, List.getD_eq_getElem?_getD, List.getElem?_take, if_pos h]
theorem digits_iff {l : List UInt8} {a n : Nat} (h : a + n ≤ l.length) : (∀ c ∈ (l.drop a).take n, dig c = true) ↔ ∀ j, a ≤ j → j < a + n → dig (l.getD j 0) = true := by
  constructor
  · intro hd j h1 h2
    refine hd _ ?_
    have : ((l.drop a).take n)[j - a]? = some (l.getD j 0) := by
      rw [List.getElem?_take, if_pos (by omega), List.getElem?_drop, show a + (j - a) = j by omega, List.getElem?_eq_getElem (by omega), List.getD_eq_getElem?_getD, List.getElem?_eq_getElem (by omega)]
      rfl
    exact List.mem_of_getElem? this
  · intro hd c hc
    obtain ⟨i, hi⟩ := List.getElem?_of_mem hc
    rw [List.getElem?_take] at hi
    split at hi
    · rw [List.getElem?_drop] at hi
      have := hd (a + i) (by omega) (by omega)
      rw [List.getD_eq_getElem?_getD, hi] at this
      exact this
    · cases hi
theorem moment_iff {l : List UInt8} (h : 19 ≤ l.length) : shape (l.take 19) momentShape = true ↔
    (rdigits l 0 4).2 = true ∧ (rdigits l 5 2).2 = true ∧ (rdigits l 8 2).2 = true ∧ (rdigits l 11 2).2 = true ∧ (rdigits l 14 2).2 = true ∧ (rdigits l 17 2).2 = true ∧
    (l.getD 4 0).toNat = 45 ∧ (l.getD 7 0).toNat = 45 ∧ (l.getD 10 0).toNat = 84 ∧ (l.getD 13 0).toNat = 58 ∧ (l.getD 16 0).toNat = 58 := by
  have hlen : (l.take 19).length = 19 := by simp; omega
  have hr : ∀ a n, a + n ≤ 19 → 1 ≤ n → ((rdigits l a n).2 = true ↔ ∀ j, a ≤ j → j < a + n → dig (l.getD j 0) = true) := by
    intro a n h1 h2
    rw [← digits_iff (by omega)]
    constructor
    · intro hh; exact (rdigits_ok hh).2.1
    · intro hh; rw [rdigits_of (by omega) h2 hh]
  rw [hr 0 4 (by omega) (by omega), hr 5 2 (by omega) (by omega), hr 8 2 (by omega) (by omega), hr 11 2 (by omega) (by omega), hr 14 2 (by omega) (by omega), hr 17 2 (by omega) (by omega), shape_iff]
  have e : ∀ j, j < 19 → (l.take 19).getD j 0 = l.getD j 0 := fun j hj => getD_take hj
  constructor
  · rintro ⟨_, hj⟩
    have hd : ∀ j, j < 19 → momentShape.getD j 0 = 48 → dig (l.getD j 0) = true := by
      intro j h1 h2
      have := hj j h1
      rw [h2, e j h1, shp_48] at this
      exact this
    have hc : ∀ j, j < 19 → ¬ momentShape.getD j 0 = 48 → (l.getD j 0).toNat = (momentShape.getD j 0).toNat := by
      intro j h1 h2
      have := hj j h1
      rw [e j h1, shp_ne48 h2] at this
      exact this
    refine ⟨?_, ?_, ?_, ?_, ?_, ?_, hc 4 (by decide) (by decide), hc 7 (by decide) (by decide), hc 10 (by decide) (by decide), hc 13 (by decide) (by decide), hc 16 (by decide) (by decide)⟩
    all_goals
      intro j h1 h2
      refine hd j (by omega) ?_
    · rcases (by omega : j = 0 ∨ j = 1 ∨ j = 2 ∨ j = 3) with h | h | h | h <;> subst h <;> rfl
    · rcases (by omega : j = 5 ∨ j = 6) with h | h <;> subst h <;> rfl
    · rcases (by omega : j = 8 ∨ j = 9) with h | h <;> subst h <;> rfl
    · rcases (by omega : j = 11 ∨ j = 12) with h | h <;> subst h <;> rfl
    · rcases (by omega : j = 14 ∨ j = 15) with h | h <;> subst h <;> rfl
    · rcases (by omega : j = 17 ∨ j = 18) with h | h <;> subst h <;> rfl
  · rintro ⟨a1, a2, a3, a4, a5, a6, b1, b2, b3, b4, b5⟩
    refine ⟨hlen, fun j hj => ?_⟩
    have hj' : j < 19 := hj
    rw [e j hj']
    have hD : dig (l.getD j 0) = true → momentShape.getD j 0 = 48 → shp (l.getD j 0) (momentShape.getD j 0) = true := fun h1 h2 => by rw [h2, shp_48]; exact h1
    have hC : ∀ c : UInt8, momentShape.getD j 0 = c → ¬ c = 48 → (l.getD j 0).toNat = c.toNat → shp (l.getD j 0) (momentShape.getD j 0) = true := fun c h1 h2 h3 => by rw [h1]; exact (shp_ne48 h2).2 h3
    rcases (by omega : j = 0 ∨ j = 1 ∨ j = 2 ∨ j = 3 ∨ j = 4 ∨ j = 5 ∨ j = 6 ∨ j = 7 ∨ j = 8 ∨ j = 9 ∨ j = 10 ∨ j = 11 ∨ j = 12 ∨ j = 13 ∨ j = 14 ∨ j = 15 ∨ j = 16 ∨ j = 17 ∨ j = 18) with h | h | h | h | h | h | h | h | h | h | h | h | h | h | h | h | h | h | h <;> subst h
    · exact hD (a1 _ (by omega) (by omega)) rfl
    · exact hD (a1 _ (by omega) (by omega)) rfl
    · exact hD (a1 _ (by omega) (by omega)) rfl
    · exact hD (a1 _ (by omega) (by omega)) rfl
    · exact hC 45 rfl (by decide) b1
    · exact hD (a2 _ (by omega) (by omega)) rfl
    · exact hD (a2 _ (by omega) (by omega)) rfl
    · exact hC 45 rfl (by decide) b2
    · exact hD (a3 _ (by omega) (by omega)) rfl
    · exact hD (a3 _ (by omega) (by omega)) rfl
    · exact hC 84 rfl (by decide) b3
    · exact hD (a4 _ (by omega) (by omega)) rfl
    · exact hD (a4 _ (by omega) (by omega)) rfl
    · exact hC 58 rfl (by decide) b4
    · exact hD (a5 _ (by omega) (by omega)) rfl
    · exact hD (a5 _ (by omega) (by omega)) rfl
    · exact hC 58 rfl (by decide) b5
    · exact hD (a6 _ (by omega) (by omega)) rfl
    · exact hD (a6 _ (by omega) (by omega)) rfl
theorem diff_iff {z : List UInt8} (h : z.length = 6) (sg : UInt8) (hs : ¬ sg = 48) : shape z [sg, 48, 48, 58, 48, 48] = true ↔ (z.getD 0 0).toNat = sg.toNat ∧ (z.getD 3 0).toNat = 58 ∧ (rdigits z 1 2).2 = true ∧ (rdigits z 4 2).2 = true := by
  obtain ⟨a, b, c, d, e, f, rfl⟩ : ∃ a b c d e f, z = [a, b, c, d, e, f] := by
    match z, h with
    | [a, b, c, d, e, f], _ => exact ⟨a, b, c, d, e, f, rfl⟩
  have r1 : (rdigits [a, b, c, d, e, f] 1 2).2 = true ↔ dig b = true ∧ dig c = true := by
    unfold rdigits
    simp only [List.drop_succ_cons, List.drop_zero, List.take_succ_cons, List.take_zero, List.all_cons, List.all_nil, Bool.and_true, List.length_cons, List.length_nil, Bool.and_eq_true]
    split
    · next h => exact ⟨fun _ => h.2.2, fun _ => rfl⟩
    · next h => exact ⟨fun e => (by cases e), fun e => (h ⟨by omega, by omega, e⟩).elim⟩
  have r2 : (rdigits [a, b, c, d, e, f] 4 2).2 = true ↔ dig e = true ∧ dig f = true := by
    unfold rdigits
    simp only [List.drop_succ_cons, List.drop_zero, List.take_succ_cons, List.take_zero, List.all_cons, List.all_nil, Bool.and_true, List.length_cons, List.length_nil, Bool.and_eq_true]
    split
    · next h => exact ⟨fun _ => h.2.2, fun _ => rfl⟩
    · next h => exact ⟨fun e => (by cases e), fun e => (h ⟨by omega, by omega, e⟩).elim⟩
  rw [r1, r2]
  simp only [shape, Bool.and_eq_true, Bool.and_true, List.getD_cons_zero, List.getD_cons_succ, shp_48, shp_ne48 hs, shp_ne48 (show ¬ (58 : UInt8) = 48 by decide)]
  constructor
  · rintro ⟨h1, h2, h3, h4, h5, h6⟩; exact ⟨h1, h4, ⟨h2, h3⟩, h5, h6⟩
  · rintro ⟨h1, h4, ⟨h2, h3⟩, h5, h6⟩; exact ⟨h1, h2, h3, h4, h5, h6⟩
theorem rdiff_eq (z : List UInt8) : rdiff z = difference z := by
  unfold rdiff difference
  by_cases h0 : z = [90]
  · rw [if_pos h0, if_pos h0]
  · rw [if_neg h0, if_neg h0]
    by_cases h6 : z.length = 6
    · have hp := diff_iff h6 43 (by decide)
      have hm := diff_iff h6 45 (by decide)
      rw [show plusShape = [43, 48, 48, 58, 48, 48] from rfl, show minusShape = [45, 48, 48, 58, 48, 48] from rfl]
      by_cases hd : ((z.getD 0 0).toNat = 43 ∨ (z.getD 0 0).toNat = 45) ∧ (z.getD 3 0).toNat = 58 ∧ (rdigits z 1 2).2 = true ∧ (rdigits z 4 2).2 = true
      · obtain ⟨hs, h3, d1, d2⟩ := hd
        have e1 := (rdigits_ok d1).2.2
        have e2 := (rdigits_ok d2).2.2
        rw [if_neg (by omega), d1, d2, e1, e2]
        rw [if_neg (c := shape z [43, 48, 48, 58, 48, 48] = false ∧ shape z [45, 48, 48, 58, 48, 48] = false)]
        · by_cases hr : 23 < dec ((z.drop 1).take 2) ∨ 59 < dec ((z.drop 4).take 2)
          · rw [if_pos hr, if_pos (by simpa using hr)]
          · rw [if_neg hr, if_neg (by simpa using hr)]
            by_cases hq : (z.getD 0 0).toNat = 43
            · rw [if_pos hq, if_neg (by omega)]
            · rw [if_neg hq, if_pos (by omega)]
        · rintro ⟨n1, n2⟩
          rcases hs with hs | hs
          · rw [hp.2 ⟨hs, h3, d1, d2⟩] at n1; cases n1
          · rw [hm.2 ⟨hs, h3, d1, d2⟩] at n2; cases n2
      · have n1 : shape z [43, 48, 48, 58, 48, 48] = false := by
          cases hq : shape z [43, 48, 48, 58, 48, 48] with
          | false => rfl
          | true => have := hp.1 hq; exact (hd ⟨.inl this.1, this.2⟩).elim
        have n2 : shape z [45, 48, 48, 58, 48, 48] = false := by
          cases hq : shape z [45, 48, 48, 58, 48, 48] with
          | false => rfl
          | true => have := hm.1 hq; exact (hd ⟨.inr this.1, this.2⟩).elim
        rw [if_pos (c := shape z [43, 48, 48, 58, 48, 48] = false ∧ shape z [45, 48, 48, 58, 48, 48] = false) ⟨n1, n2⟩]
        by_cases hx : ¬ z.length = 6 ∨ (¬ (z.getD 0 0).toNat = 43 ∧ ¬ (z.getD 0 0).toNat = 45) ∨ ¬ (z.getD 3 0).toNat = 58
        · rw [if_pos hx]
        · rw [if_neg hx, if_pos]
          by_cases q1 : (rdigits z 1 2).2 = false
          · exact .inl q1
          · by_cases q2 : (rdigits z 4 2).2 = false
            · exact .inr (.inl q2)
            · exact (hd ⟨by omega, by omega, by simpa using q1, by simpa using q2⟩).elim
    · have n1 : shape z plusShape = false := by
        cases hq : shape z plusShape with
        | false => rfl
        | true => exact (h6 (shape_len _ _ hq)).elim
      have n2 : shape z minusShape = false := by
        cases hq : shape z minusShape with
        | false => rfl
        | true => exact (h6 (shape_len _ _ hq)).elim
      rw [if_pos (.inl h6), if_pos ⟨n1, n2⟩]
end Go.Hm

/- Contract: Old. -/
import Derived.Test.YtdlhbmncbmconaaGreatDoorR7
import Derived.Test.YtdlhbmncbmconaaGreatDoorR4
import Derived.Test.YtdlhbmncbmconaaGreatDoorMb
import Derived.BigRegion
namespace Go.Hm
/-- What an old message is made of. -/
structure OldIn where
  y : Nat
  mo : Nat
  d : Nat
  s : Nat
  n : Nat
  host : List UInt8
  app : List UInt8
  proc : List UInt8
  x : List UInt8
structure OldFits (o : OldIn) : Prop where
  y : 1 ≤ o.y ∧ o.y ≤ 9999
  mo : 1 ≤ o.mo ∧ o.mo ≤ 12
  d : 1 ≤ o.d ∧ (o.d : Int) ≤ daysOf o.y o.mo
  s : o.s < 86400
  n : o.n ≤ 191
  host : word o.host 32 = true ∧ o.host.length ≤ 10
  app : ∃ t, o.app = [97, 112, 112, 47] ++ t ∧ t.length ≤ 10 ∧ ∀ c ∈ t, dig c = true
  proc : o.proc.length ≤ 8 ∧ ∀ c ∈ o.proc, dig c = true
  x : o.x ∈ otexts
def oldLine (o : OldIn) (src st tg : Bool) : List UInt8 := (if src then 60 :: (Lib.decDigits o.n ++ [62]) else []) ++ ((if st then ostamp o.mo o.d o.s o.host else []) ++ ((if tg then otag o.app o.proc else []) ++ o.x))
def oldWant (o : OldIn) (src st tg : Bool) : Msg := ⟨(if src then (o.n : Int) else 13) / 8, (if src then (o.n : Int) else 13) % 8, if st then stampText o.y o.mo o.d (o.s / 3600) (o.s / 60 % 60) (o.s % 60) ++ [90] else [], if st then o.host else [], if tg then o.app else [], if tg then o.proc else [], [], [], o.x⟩
theorem oldLine_read {o : OldIn} (h : OldFits o) (src st tg : Bool) : read (oldLine o src st tg) o.y = (oldWant o src st tg, 0, 0) :=
  read_old h.n src st tg h.y h.mo h.d h.s h.host.1 h.host.2 h.app h.proc.1 h.proc.2 h.x
end Go.Hm
namespace Go.Proofs.YtdlhbmncbmconaaGreatDoor
open Go.RowKit Go.Sort
structure OldC (source day second host tag proc words year : Int) (q1 q2 D q3 s n hq tq pq wq : Nat) (y1 y2 m2 dd h1 h2 h3 dn nn hn tn pn mn x : List UInt8) : Prop where
  P1 : Hid (∀ w, Calls Tryz.prog 22 #[.int .i64 year, .int .i64 9999] w fun e w' => e = .returned (.int .i64 (q1)) ∧ w' = w)
  P2 : Hid (∀ w, Calls Tryz.prog 22 #[.int .i64 day, .int .i64 12] w fun e w' => e = .returned (.int .i64 (q2)) ∧ w' = w)
  P3 : Hid (∀ w, Calls Tryz.prog 25 #[.int .i64 (1 + (q1 : Int)), .int .i64 (1 + (q2 : Int))] w fun e w' => e = .returned (.int .i64 (D)) ∧ w' = w)
  P4 : Hid (∀ w, Calls Tryz.prog 22 #[.int .i64 (day.tdiv 13), .int .i64 D] w fun e w' => e = .returned (.int .i64 (q3)) ∧ w' = w)
  P5 : Hid (∀ w, Calls Tryz.prog 22 #[.int .i64 second, .int .i64 86400] w fun e w' => e = .returned (.int .i64 (s)) ∧ w' = w)
  P6 : Hid (∀ w, Calls Tryz.prog 22 #[.int .i64 source, .int .i64 192] w fun e w' => e = .returned (.int .i64 (n)) ∧ w' = w)
  P7 : Hid (∀ w, Calls Tryz.prog 22 #[.int .i64 host, .int .i64 1000] w fun e w' => e = .returned (.int .i64 (hq)) ∧ w' = w)
  P8 : Hid (∀ w, Calls Tryz.prog 22 #[.int .i64 tag, .int .i64 1000] w fun e w' => e = .returned (.int .i64 (tq)) ∧ w' = w)
  P9 : Hid (∀ w, Calls Tryz.prog 22 #[.int .i64 proc, .int .i64 100000000] w fun e w' => e = .returned (.int .i64 (pq)) ∧ w' = w)
  P10 : Hid (∀ w, Calls Tryz.prog 22 #[.int .i64 words, .int .i64 5] w fun e w' => e = .returned (.int .i64 (wq)) ∧ w' = w)
  T1 : Hid (∀ w, Calls Tryz.prog 24 #[.int .i64 ((1 + (q1 : Int)) / 100)] w fun e w' => e = .returned (.string ⟨(y1).toArray⟩) ∧ Below w.heap.size w w')
  T2 : Hid (∀ w, Calls Tryz.prog 24 #[.int .i64 ((1 + (q1 : Int)) % 100)] w fun e w' => e = .returned (.string ⟨(y2).toArray⟩) ∧ Below w.heap.size w w')
  T3 : Hid (∀ w, Calls Tryz.prog 24 #[.int .i64 (1 + (q2 : Int))] w fun e w' => e = .returned (.string ⟨(m2).toArray⟩) ∧ Below w.heap.size w w')
  T4 : Hid (∀ w, Calls Tryz.prog 24 #[.int .i64 (1 + (q3 : Int))] w fun e w' => e = .returned (.string ⟨(dd).toArray⟩) ∧ Below w.heap.size w w')
  T5 : Hid (∀ w, Calls Tryz.prog 24 #[.int .i64 ((s : Int) / 3600)] w fun e w' => e = .returned (.string ⟨(h1).toArray⟩) ∧ Below w.heap.size w w')
  T6 : Hid (∀ w, Calls Tryz.prog 24 #[.int .i64 ((s : Int) / 60 % 60)] w fun e w' => e = .returned (.string ⟨(h2).toArray⟩) ∧ Below w.heap.size w w')
  T7 : Hid (∀ w, Calls Tryz.prog 24 #[.int .i64 ((s : Int) % 60)] w fun e w' => e = .returned (.string ⟨(h3).toArray⟩) ∧ Below w.heap.size w w')
  D1 : Hid (∀ w, Calls Tryz.prog 26 #[.int .i64 (1 + (q3 : Int))] w fun e w' => e = .returned (.string ⟨(dn).toArray⟩) ∧ w' = w)
  D2 : Hid (∀ w, Calls Tryz.prog 26 #[.int .i64 n] w fun e w' => e = .returned (.string ⟨(nn).toArray⟩) ∧ w' = w)
  D3 : Hid (∀ w, Calls Tryz.prog 26 #[.int .i64 hq] w fun e w' => e = .returned (.string ⟨(hn).toArray⟩) ∧ w' = w)
  D4 : Hid (∀ w, Calls Tryz.prog 26 #[.int .i64 tq] w fun e w' => e = .returned (.string ⟨(tn).toArray⟩) ∧ w' = w)
  D5 : Hid (∀ w, Calls Tryz.prog 26 #[.int .i64 pq] w fun e w' => e = .returned (.string ⟨(pn).toArray⟩) ∧ w' = w)
  AW : Hid (∀ w, Tabs w → Calls Tryz.prog 18 #[] w fun e w' => e = .returned (.bool true) ∧ Below w.heap.size w w')
  b1 : q1 < 9999
  b2 : q2 < 12
  b3 : q3 < 31
  bD : D ≤ 31
  b4 : s < 86400
  b5 : n < 192
  b6 : hq < 1000
  b7 : tq < 1000
  b8 : pq < 100000000
  b9 : wq < 5
  l1 : y1.length = 2
  l2 : y2.length = 2
  l3 : m2.length = 2
  l4 : dd.length = 2
  l5 : h1.length = 2
  l6 : h2.length = 2
  l7 : h3.length = 2
  l8 : dn.length ≤ 2
  l9 : nn.length ≤ 3
  l10 : hn.length ≤ 3
  l11 : tn.length ≤ 3
  l12 : pn.length ≤ 8
  l13 : mn.length = 3
  l14 : x.length ≤ 11
  t13 : -4000000000000000000 ≤ day.tdiv 13 ∧ day.tdiv 13 ≤ 4000000000000000000
  hmn : (⟨#[74, 97, 110, 70, 101, 98, 77, 97, 114, 65, 112, 114, 77, 97, 121, 74, 117, 110, 74, 117, 108, 65, 117, 103, 83, 101, 112, 79, 99, 116, 78, 111, 118, 68, 101, 99]⟩ : ByteArray).extract (3 * (1 + q2) - 3) (3 * (1 + q2)) = ⟨mn.toArray⟩
  hx : Hid (Hm.otexts.getD wq [] = x)
end Go.Proofs.YtdlhbmncbmconaaGreatDoor

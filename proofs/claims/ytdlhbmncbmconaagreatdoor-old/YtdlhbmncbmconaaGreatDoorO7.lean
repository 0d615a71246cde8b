/- Contract: Old. -/
import Derived.Test.YtdlhbmncbmconaaGreatDoorO0
import Derived.Test.YtdlhbmncbmconaaGreatDoorO1
import Derived.Test.YtdlhbmncbmconaaGreatDoorO2
import Derived.Test.YtdlhbmncbmconaaGreatDoorO3
import Derived.Test.YtdlhbmncbmconaaGreatDoorO4
import Derived.Test.YtdlhbmncbmconaaGreatDoorO5
import Derived.Test.YtdlhbmncbmconaaGreatDoorO6
namespace Go.Proofs.YtdlhbmncbmconaaGreatDoor
open Go.RowKit Go.Sort
set_option maxRecDepth 20000 in
set_option maxHeartbeats 4000000 in
theorem Old_any (source day second host tag proc words year : Int) (hb : ∀ z ∈ [source, day, second, host, tag, proc, words, year], -9223372036854775808 ≤ z ∧ z ≤ 9223372036854775807) (w : World) (hT : Tabs w) :
    Calls Tryz.prog 9 #[.int .i64 source, .int .i64 day, .int .i64 second, .int .i64 host, .int .i64 tag, .int .i64 proc, .int .i64 words, .int .i64 year] w fun e w' => e = .returned (.bool true) ∧ Below w.heap.size w w' := by
  have c := oldC_any source day second host tag proc words year hb
  have hpn : ¬ Lib.decDigits (Hm.pick proc 100000000) = [] := fun e => by have := Hm.dd_pos (Hm.pick proc 100000000); rw [e] at this; simp at this
  by_cases s0 : source.tmod 3 = 0
  · by_cases s1 : host.tmod 4 = 0
    · by_cases s2 : tag.tmod 4 = 0
      · refine Old_0000 _ _ _ _ _ _ _ _ _ _ _ _ _ _ _ _ _ _ _ _ _ _ _ _ _ _ _ _ _ _ _ _ w hT c (old_rd (Hm.theOld_fits source day second host tag words year [] ⟨by simp, by simp⟩) false false false ?_ ?_ ?_) (fun w => old_bin (Hm.theOld_fits source day second host tag words year [] ⟨by simp, by simp⟩) false false false ?_ w) s0 s1 s2
        · simp [Hm.oldLine, Hm.theOld]
        · simp [msgCells, Hm.oldWant, Hm.theOld]
        · simp [Hm.theOld]
        · simp [msgCells, Hm.oldWant, Hm.theOld]
      · by_cases s3 : proc.tmod 3 = 0
        · refine Old_0010 _ _ _ _ _ _ _ _ _ _ _ _ _ _ _ _ _ _ _ _ _ _ _ _ _ _ _ _ _ _ _ _ w hT c (old_rd (Hm.theOld_fits source day second host tag words year [] ⟨by simp, by simp⟩) false false true ?_ ?_ ?_) (fun w => old_bin (Hm.theOld_fits source day second host tag words year [] ⟨by simp, by simp⟩) false false true ?_ w) s0 s1 s2 s3
          · simp [Hm.oldLine, Hm.theOld, Hm.otag]
          · simp [msgCells, Hm.oldWant, Hm.theOld]
          · simp [Hm.theOld]
          · simp [msgCells, Hm.oldWant, Hm.theOld]
        · refine Old_0011 _ _ _ _ _ _ _ _ _ _ _ _ _ _ _ _ _ _ _ _ _ _ _ _ _ _ _ _ _ _ _ _ w hT c (old_rd (Hm.theOld_fits source day second host tag words year (Lib.decDigits (Hm.pick proc 100000000)) ⟨Hm.dd_pow 7 _ (Hm.pick_lt proc (by decide)), Hm.dd_digits _⟩) false false true ?_ ?_ ?_) (fun w => old_bin (Hm.theOld_fits source day second host tag words year (Lib.decDigits (Hm.pick proc 100000000)) ⟨Hm.dd_pow 7 _ (Hm.pick_lt proc (by decide)), Hm.dd_digits _⟩) false false true ?_ w) s0 s1 s2 s3
          · simp [Hm.oldLine, Hm.theOld, Hm.otag, hpn]
          · simp [msgCells, Hm.oldWant, Hm.theOld]
          · simp [Hm.theOld]
          · simp [msgCells, Hm.oldWant, Hm.theOld]
    · by_cases s4 : 1 + ((Hm.pick (day.tdiv 13) (Hm.daysOf ((1 + Hm.pick year 9999 : Nat) : Int) ((1 + Hm.pick day 12 : Nat) : Int)).toNat : Nat) : Int) < 10
      · have hday : Hm.oday (1 + Hm.pick (day.tdiv 13) (Hm.daysOf ((1 + Hm.pick year 9999 : Nat) : Int) ((1 + Hm.pick day 12 : Nat) : Int)).toNat) = 32 :: Lib.decDigits (1 + Hm.pick (day.tdiv 13) (Hm.daysOf ((1 + Hm.pick year 9999 : Nat) : Int) ((1 + Hm.pick day 12 : Nat) : Int)).toNat) := by unfold Hm.oday; rw [if_pos (by omega)]
        push_cast at hday
        by_cases s2 : tag.tmod 4 = 0
        · refine Old_0100 _ _ _ _ _ _ _ _ _ _ _ _ _ _ _ _ _ _ _ _ _ _ _ _ _ _ _ _ _ _ _ _ w hT c (old_rd (Hm.theOld_fits source day second host tag words year [] ⟨by simp, by simp⟩) false true false ?_ ?_ ?_) (fun w => old_bin (Hm.theOld_fits source day second host tag words year [] ⟨by simp, by simp⟩) false true false ?_ w) s0 s1 s2 s4
          · simp [Hm.oldLine, Hm.theOld, Hm.ostamp, Hm.oclock, hday]
          · simp [msgCells, Hm.oldWant, Hm.theOld, Hm.stampText, Hm.d4]
          · simp [Hm.theOld]
          · simp [msgCells, Hm.oldWant, Hm.theOld, Hm.stampText, Hm.d4]
        · by_cases s3 : proc.tmod 3 = 0
          · refine Old_0110 _ _ _ _ _ _ _ _ _ _ _ _ _ _ _ _ _ _ _ _ _ _ _ _ _ _ _ _ _ _ _ _ w hT c (old_rd (Hm.theOld_fits source day second host tag words year [] ⟨by simp, by simp⟩) false true true ?_ ?_ ?_) (fun w => old_bin (Hm.theOld_fits source day second host tag words year [] ⟨by simp, by simp⟩) false true true ?_ w) s0 s1 s2 s3 s4
            · simp [Hm.oldLine, Hm.theOld, Hm.ostamp, Hm.oclock, hday, Hm.otag]
            · simp [msgCells, Hm.oldWant, Hm.theOld, Hm.stampText, Hm.d4]
            · simp [Hm.theOld]
            · simp [msgCells, Hm.oldWant, Hm.theOld, Hm.stampText, Hm.d4]
          · refine Old_0111 _ _ _ _ _ _ _ _ _ _ _ _ _ _ _ _ _ _ _ _ _ _ _ _ _ _ _ _ _ _ _ _ w hT c (old_rd (Hm.theOld_fits source day second host tag words year (Lib.decDigits (Hm.pick proc 100000000)) ⟨Hm.dd_pow 7 _ (Hm.pick_lt proc (by decide)), Hm.dd_digits _⟩) false true true ?_ ?_ ?_) (fun w => old_bin (Hm.theOld_fits source day second host tag words year (Lib.decDigits (Hm.pick proc 100000000)) ⟨Hm.dd_pow 7 _ (Hm.pick_lt proc (by decide)), Hm.dd_digits _⟩) false true true ?_ w) s0 s1 s2 s3 s4
            · simp [Hm.oldLine, Hm.theOld, Hm.ostamp, Hm.oclock, hday, Hm.otag, hpn]
            · simp [msgCells, Hm.oldWant, Hm.theOld, Hm.stampText, Hm.d4]
            · simp [Hm.theOld]
            · simp [msgCells, Hm.oldWant, Hm.theOld, Hm.stampText, Hm.d4]
      · have hday : Hm.oday (1 + Hm.pick (day.tdiv 13) (Hm.daysOf ((1 + Hm.pick year 9999 : Nat) : Int) ((1 + Hm.pick day 12 : Nat) : Int)).toNat) = Lib.decDigits (1 + Hm.pick (day.tdiv 13) (Hm.daysOf ((1 + Hm.pick year 9999 : Nat) : Int) ((1 + Hm.pick day 12 : Nat) : Int)).toNat) := by unfold Hm.oday; rw [if_neg (by omega)]
        push_cast at hday
        by_cases s2 : tag.tmod 4 = 0
        · refine Old_0200 _ _ _ _ _ _ _ _ _ _ _ _ _ _ _ _ _ _ _ _ _ _ _ _ _ _ _ _ _ _ _ _ w hT c (old_rd (Hm.theOld_fits source day second host tag words year [] ⟨by simp, by simp⟩) false true false ?_ ?_ ?_) (fun w => old_bin (Hm.theOld_fits source day second host tag words year [] ⟨by simp, by simp⟩) false true false ?_ w) s0 s1 s2 s4
          · simp [Hm.oldLine, Hm.theOld, Hm.ostamp, Hm.oclock, hday]
          · simp [msgCells, Hm.oldWant, Hm.theOld, Hm.stampText, Hm.d4]
          · simp [Hm.theOld]
          · simp [msgCells, Hm.oldWant, Hm.theOld, Hm.stampText, Hm.d4]
        · by_cases s3 : proc.tmod 3 = 0
          · refine Old_0210 _ _ _ _ _ _ _ _ _ _ _ _ _ _ _ _ _ _ _ _ _ _ _ _ _ _ _ _ _ _ _ _ w hT c (old_rd (Hm.theOld_fits source day second host tag words year [] ⟨by simp, by simp⟩) false true true ?_ ?_ ?_) (fun w => old_bin (Hm.theOld_fits source day second host tag words year [] ⟨by simp, by simp⟩) false true true ?_ w) s0 s1 s2 s3 s4
            · simp [Hm.oldLine, Hm.theOld, Hm.ostamp, Hm.oclock, hday, Hm.otag]
            · simp [msgCells, Hm.oldWant, Hm.theOld, Hm.stampText, Hm.d4]
            · simp [Hm.theOld]
            · simp [msgCells, Hm.oldWant, Hm.theOld, Hm.stampText, Hm.d4]
          · refine Old_0211 _ _ _ _ _ _ _ _ _ _ _ _ _ _ _ _ _ _ _ _ _ _ _ _ _ _ _ _ _ _ _ _ w hT c (old_rd (Hm.theOld_fits source day second host tag words year (Lib.decDigits (Hm.pick proc 100000000)) ⟨Hm.dd_pow 7 _ (Hm.pick_lt proc (by decide)), Hm.dd_digits _⟩) false true true ?_ ?_ ?_) (fun w => old_bin (Hm.theOld_fits source day second host tag words year (Lib.decDigits (Hm.pick proc 100000000)) ⟨Hm.dd_pow 7 _ (Hm.pick_lt proc (by decide)), Hm.dd_digits _⟩) false true true ?_ w) s0 s1 s2 s3 s4
            · simp [Hm.oldLine, Hm.theOld, Hm.ostamp, Hm.oclock, hday, Hm.otag, hpn]
            · simp [msgCells, Hm.oldWant, Hm.theOld, Hm.stampText, Hm.d4]
            · simp [Hm.theOld]
            · simp [msgCells, Hm.oldWant, Hm.theOld, Hm.stampText, Hm.d4]
  · by_cases s1 : host.tmod 4 = 0
    · by_cases s2 : tag.tmod 4 = 0
      · refine Old_1000 _ _ _ _ _ _ _ _ _ _ _ _ _ _ _ _ _ _ _ _ _ _ _ _ _ _ _ _ _ _ _ _ w hT c (old_rd (Hm.theOld_fits source day second host tag words year [] ⟨by simp, by simp⟩) true false false ?_ ?_ ?_) (fun w => old_bin (Hm.theOld_fits source day second host tag words year [] ⟨by simp, by simp⟩) true false false ?_ w) s0 s1 s2
        · simp [Hm.oldLine, Hm.theOld]
        · simp [msgCells, Hm.oldWant, Hm.theOld]
        · simp [Hm.theOld]
        · simp [msgCells, Hm.oldWant, Hm.theOld]
      · by_cases s3 : proc.tmod 3 = 0
        · refine Old_1010 _ _ _ _ _ _ _ _ _ _ _ _ _ _ _ _ _ _ _ _ _ _ _ _ _ _ _ _ _ _ _ _ w hT c (old_rd (Hm.theOld_fits source day second host tag words year [] ⟨by simp, by simp⟩) true false true ?_ ?_ ?_) (fun w => old_bin (Hm.theOld_fits source day second host tag words year [] ⟨by simp, by simp⟩) true false true ?_ w) s0 s1 s2 s3
          · simp [Hm.oldLine, Hm.theOld, Hm.otag]
          · simp [msgCells, Hm.oldWant, Hm.theOld]
          · simp [Hm.theOld]
          · simp [msgCells, Hm.oldWant, Hm.theOld]
        · refine Old_1011 _ _ _ _ _ _ _ _ _ _ _ _ _ _ _ _ _ _ _ _ _ _ _ _ _ _ _ _ _ _ _ _ w hT c (old_rd (Hm.theOld_fits source day second host tag words year (Lib.decDigits (Hm.pick proc 100000000)) ⟨Hm.dd_pow 7 _ (Hm.pick_lt proc (by decide)), Hm.dd_digits _⟩) true false true ?_ ?_ ?_) (fun w => old_bin (Hm.theOld_fits source day second host tag words year (Lib.decDigits (Hm.pick proc 100000000)) ⟨Hm.dd_pow 7 _ (Hm.pick_lt proc (by decide)), Hm.dd_digits _⟩) true false true ?_ w) s0 s1 s2 s3
          · simp [Hm.oldLine, Hm.theOld, Hm.otag, hpn]
          · simp [msgCells, Hm.oldWant, Hm.theOld]
          · simp [Hm.theOld]
          · simp [msgCells, Hm.oldWant, Hm.theOld]
    · by_cases s4 : 1 + ((Hm.pick (day.tdiv 13) (Hm.daysOf ((1 + Hm.pick year 9999 : Nat) : Int) ((1 + Hm.pick day 12 : Nat) : Int)).toNat : Nat) : Int) < 10
      · have hday : Hm.oday (1 + Hm.pick (day.tdiv 13) (Hm.daysOf ((1 + Hm.pick year 9999 : Nat) : Int) ((1 + Hm.pick day 12 : Nat) : Int)).toNat) = 32 :: Lib.decDigits (1 + Hm.pick (day.tdiv 13) (Hm.daysOf ((1 + Hm.pick year 9999 : Nat) : Int) ((1 + Hm.pick day 12 : Nat) : Int)).toNat) := by unfold Hm.oday; rw [if_pos (by omega)]
        push_cast at hday
        by_cases s2 : tag.tmod 4 = 0
        · refine Old_1100 _ _ _ _ _ _ _ _ _ _ _ _ _ _ _ _ _ _ _ _ _ _ _ _ _ _ _ _ _ _ _ _ w hT c (old_rd (Hm.theOld_fits source day second host tag words year [] ⟨by simp, by simp⟩) true true false ?_ ?_ ?_) (fun w => old_bin (Hm.theOld_fits source day second host tag words year [] ⟨by simp, by simp⟩) true true false ?_ w) s0 s1 s2 s4
          · simp [Hm.oldLine, Hm.theOld, Hm.ostamp, Hm.oclock, hday]
          · simp [msgCells, Hm.oldWant, Hm.theOld, Hm.stampText, Hm.d4]
          · simp [Hm.theOld]
          · simp [msgCells, Hm.oldWant, Hm.theOld, Hm.stampText, Hm.d4]
        · by_cases s3 : proc.tmod 3 = 0
          · refine Old_1110 _ _ _ _ _ _ _ _ _ _ _ _ _ _ _ _ _ _ _ _ _ _ _ _ _ _ _ _ _ _ _ _ w hT c (old_rd (Hm.theOld_fits source day second host tag words year [] ⟨by simp, by simp⟩) true true true ?_ ?_ ?_) (fun w => old_bin (Hm.theOld_fits source day second host tag words year [] ⟨by simp, by simp⟩) true true true ?_ w) s0 s1 s2 s3 s4
            · simp [Hm.oldLine, Hm.theOld, Hm.ostamp, Hm.oclock, hday, Hm.otag]
            · simp [msgCells, Hm.oldWant, Hm.theOld, Hm.stampText, Hm.d4]
            · simp [Hm.theOld]
            · simp [msgCells, Hm.oldWant, Hm.theOld, Hm.stampText, Hm.d4]
          · refine Old_1111 _ _ _ _ _ _ _ _ _ _ _ _ _ _ _ _ _ _ _ _ _ _ _ _ _ _ _ _ _ _ _ _ w hT c (old_rd (Hm.theOld_fits source day second host tag words year (Lib.decDigits (Hm.pick proc 100000000)) ⟨Hm.dd_pow 7 _ (Hm.pick_lt proc (by decide)), Hm.dd_digits _⟩) true true true ?_ ?_ ?_) (fun w => old_bin (Hm.theOld_fits source day second host tag words year (Lib.decDigits (Hm.pick proc 100000000)) ⟨Hm.dd_pow 7 _ (Hm.pick_lt proc (by decide)), Hm.dd_digits _⟩) true true true ?_ w) s0 s1 s2 s3 s4
            · simp [Hm.oldLine, Hm.theOld, Hm.ostamp, Hm.oclock, hday, Hm.otag, hpn]
            · simp [msgCells, Hm.oldWant, Hm.theOld, Hm.stampText, Hm.d4]
            · simp [Hm.theOld]
            · simp [msgCells, Hm.oldWant, Hm.theOld, Hm.stampText, Hm.d4]
      · have hday : Hm.oday (1 + Hm.pick (day.tdiv 13) (Hm.daysOf ((1 + Hm.pick year 9999 : Nat) : Int) ((1 + Hm.pick day 12 : Nat) : Int)).toNat) = Lib.decDigits (1 + Hm.pick (day.tdiv 13) (Hm.daysOf ((1 + Hm.pick year 9999 : Nat) : Int) ((1 + Hm.pick day 12 : Nat) : Int)).toNat) := by unfold Hm.oday; rw [if_neg (by omega)]
        push_cast at hday
        by_cases s2 : tag.tmod 4 = 0
        · refine Old_1200 _ _ _ _ _ _ _ _ _ _ _ _ _ _ _ _ _ _ _ _ _ _ _ _ _ _ _ _ _ _ _ _ w hT c (old_rd (Hm.theOld_fits source day second host tag words year [] ⟨by simp, by simp⟩) true true false ?_ ?_ ?_) (fun w => old_bin (Hm.theOld_fits source day second host tag words year [] ⟨by simp, by simp⟩) true true false ?_ w) s0 s1 s2 s4
          · simp [Hm.oldLine, Hm.theOld, Hm.ostamp, Hm.oclock, hday]
          · simp [msgCells, Hm.oldWant, Hm.theOld, Hm.stampText, Hm.d4]
          · simp [Hm.theOld]
          · simp [msgCells, Hm.oldWant, Hm.theOld, Hm.stampText, Hm.d4]
        · by_cases s3 : proc.tmod 3 = 0
          · refine Old_1210 _ _ _ _ _ _ _ _ _ _ _ _ _ _ _ _ _ _ _ _ _ _ _ _ _ _ _ _ _ _ _ _ w hT c (old_rd (Hm.theOld_fits source day second host tag words year [] ⟨by simp, by simp⟩) true true true ?_ ?_ ?_) (fun w => old_bin (Hm.theOld_fits source day second host tag words year [] ⟨by simp, by simp⟩) true true true ?_ w) s0 s1 s2 s3 s4
            · simp [Hm.oldLine, Hm.theOld, Hm.ostamp, Hm.oclock, hday, Hm.otag]
            · simp [msgCells, Hm.oldWant, Hm.theOld, Hm.stampText, Hm.d4]
            · simp [Hm.theOld]
            · simp [msgCells, Hm.oldWant, Hm.theOld, Hm.stampText, Hm.d4]
          · refine Old_1211 _ _ _ _ _ _ _ _ _ _ _ _ _ _ _ _ _ _ _ _ _ _ _ _ _ _ _ _ _ _ _ _ w hT c (old_rd (Hm.theOld_fits source day second host tag words year (Lib.decDigits (Hm.pick proc 100000000)) ⟨Hm.dd_pow 7 _ (Hm.pick_lt proc (by decide)), Hm.dd_digits _⟩) true true true ?_ ?_ ?_) (fun w => old_bin (Hm.theOld_fits source day second host tag words year (Lib.decDigits (Hm.pick proc 100000000)) ⟨Hm.dd_pow 7 _ (Hm.pick_lt proc (by decide)), Hm.dd_digits _⟩) true true true ?_ w) s0 s1 s2 s3 s4
            · simp [Hm.oldLine, Hm.theOld, Hm.ostamp, Hm.oclock, hday, Hm.otag, hpn]
            · simp [msgCells, Hm.oldWant, Hm.theOld, Hm.stampText, Hm.d4]
            · simp [Hm.theOld]
            · simp [msgCells, Hm.oldWant, Hm.theOld, Hm.stampText, Hm.d4]
end Go.Proofs.YtdlhbmncbmconaaGreatDoor

/- Messages compared. -/
import Derived.Test.YtdlhbmncbmconaaGreatDoorBe
import Derived.DeepKeys
namespace Go.Proofs.YtdlhbmncbmconaaGreatDoor
open Go.RowKit
structure MsgFits (m : Hm.Msg) : Prop where
  f : (Lit.int .i64 m.fac).wf = true
  s : (Lit.int .i64 m.sev).wf = true
  lt : m.time.length ≤ maxLen
  lh : m.host.length ≤ maxLen
  la : m.app.length ≤ maxLen
  lp : m.proc.length ≤ maxLen
  li : m.id.length ≤ maxLen
  ld : m.data.length ≤ maxLen
  lx : m.text.length ≤ maxLen
theorem cells_int : Tryz.prog.cellsOf 3 = 1 := by kernel_rfl
theorem cells_str : Tryz.prog.cellsOf 9 = 1 := by kernel_rfl
theorem cells_msg : Tryz.prog.cellsOf 29 = 9 := by kernel_rfl
theorem msg_lits (m : Hm.Msg) (h : MsgFits m) : Tryz.prog.keyLits 3 29 (msgCells m).toList = some [.int .i64 m.fac, .int .i64 m.sev, .string m.time, .string m.host, .string m.app, .string m.proc, .string m.id, .string m.data, .string m.text] := by
  obtain ⟨f, s, lt, lh, la, lp, li, ld, lx⟩ := h
  have hs : ∀ l : List UInt8, l.length ≤ maxLen → Tryz.prog.keyLits 2 9 [.string ⟨l.toArray⟩] = some [.string l] := fun l hl => by
    have e : (⟨l.toArray⟩ : ByteArray).size = l.length := by simp [ByteArray.size]
    simp [Program.keyLits, Tryz.underlying9, e, hl]
  have hi : ∀ n : Int, (Lit.int .i64 n).wf = true → Tryz.prog.keyLits 2 3 [.int .i64 n] = some [.int .i64 n] := fun n hn => by
    simp [Program.keyLits, Tryz.underlying3, hn]
  unfold Program.keyLits
  simp only [Tryz.underlying29, cells_msg]
  simp [msgCells, cells_int, cells_str, hs, hi, lt, lh, la, lp, li, ld, lx, f, s]
theorem msg_self (m : Hm.Msg) (h : MsgFits m) (w : World) : (Op.equal 29 (.agg (msgCells m)) (.agg (msgCells m))).run Tryz.prog w = .ok true w := by
  have hf : (Value.agg (msgCells m)).formed Tryz.prog 29 = true := by
    simp [Value.formed, Tryz.underlying29, cells_msg, msgCells]
  obtain ⟨r, hr, hiff⟩ := run_equalIn_deep (P := Tryz.prog) 9997 3 29 (by kernel_rfl) w 3 3 _ _ _ _ hf hf (msg_lits m h) (msg_lits m h)
  rw [hiff.2 rfl] at hr
  exact hr
theorem msg_guard (x y : Operand) (a b : Array Value) (w : World) : (eqGuard .eql 29 x y (.agg a) (.agg b)).run Tryz.prog w = .ok () w := by
  have h : Tryz.prog.eqGuardType Tryz.prog.depth 29 = false := by kernel_rfl
  simp [eqGuard, go_sem, h]
theorem msg_bin (m : Hm.Msg) (h : MsgFits m) (w : World) : (binOp .eql 29 (.agg (msgCells m)) (.agg (msgCells m))).run Tryz.prog w = .ok (.bool true) w := by
  have e : binOp .eql 29 (.agg (msgCells m)) (.agg (msgCells m)) = (do pure (.bool (← Op.equal 29 (.agg (msgCells m)) (.agg (msgCells m))))) := rfl
  rw [e, Sem.run_bind, msg_self m h w]
  rfl
theorem fits_none : MsgFits Hm.Msg.none := by
  refine ⟨by decide, by decide, ?_, ?_, ?_, ?_, ?_, ?_, ?_⟩ <;> simp [Hm.Msg.none]
theorem wf_i64 {n : Int} (h0 : -9223372036854775808 ≤ n) (h1 : n ≤ 9223372036854775807) : (Lit.int .i64 n).wf = true := by
  simp [Lit.wf, IntKind.min, IntKind.max, IntKind.signed, IntKind.bits]
  omega
end Go.Proofs.YtdlhbmncbmconaaGreatDoor

/-
  NARROWER THAN 'FOR EVERY INPUT', by the rows' own cells (each row's printed sentence says how): Messages: laid · Sorted: laid · Logs: laid · Back: laid · Fixed: laid · Shifted: laid · Old: laid · Cuts: laid · Framed: laid · Decided: laid · Logged: laid · Opened: laid · Relayed: laid · All: laid.
  DERIVED. THE GIVEN ROWS OF THIS SEAT. 14 by the template 'for every input the law returns true; each argument reads behind the call as it read before'; 0 by the template 'total and deterministic' (their statements: YtdlhbmncbmconaaGreatDoorTotals.lean).
  GIVEN WITH THE SEED: the statements are not yours to turn. If you find one false, say at which input.
  Laid BY PROGRAM, IN A SANDBOX (cutbox-rows.mjs): the forced cells as the released guide's own fill.sh prints them over the translation 3ae5bcce552d1e63… (all of the seat's roots in one cut). By AI agents, Wed Nov 11 2026. No macro, syntax, notation, axiom, sorry.
-/
import Derived.Test.YtdlhbmncbmconaaGreatDoorChecked
import GoSem.PinnedTables
import GoSem.Claim
import GoSem.ClaimJoined
import GoSem.ClaimMapViews
import Derived.JoinedTies
import Derived.KernelRfl
namespace Go.Proofs.YtdlhbmncbmconaaGreatDoor
/- THE CELL 'sum', in the pinned program and in every row, IS THE sha256 OF THE DUMP (.gsa) THAT YtdlhbmncbmconaaGreatDoorProg.lean LOADS. Nothing in Lean hashes anything: it is a label: what it is worth is what the hold of that sum in a sandbox is worth. -/
noncomputable def Tryz.pinned : Pinned := { name := "ytdlhbmncbmconaagreatdoor", sum := "3ae5bcce552d1e631a4c9fdb71518636fa6d17c5f9b351ecd82b78ce8c522ff7", checked := Tryz.checked }
namespace Rows
def none {H : Type} : Left H := { results := [], args := [] }

/- WHAT THE LISTED PACKAGE-LEVEL VARIABLES READ AS WHEN THE CALL BEGINS. Each datum BY PROGRAM (the guide's laid-datum.mjs) off the statement by which the dump's own 'gosem.cut.vars' lays the variable. In a bare row this is a premise. The card (YtdlhbmncbmconaaGreatDoorCards.lean) ties it to the program's text. -/
def laid_math_bits_deBruijn32tab {H : Type} : DataW H := .agg [.lit (.int .u8 0), .lit (.int .u8 1), .lit (.int .u8 28), .lit (.int .u8 2), .lit (.int .u8 29), .lit (.int .u8 14), .lit (.int .u8 24), .lit (.int .u8 3), .lit (.int .u8 30), .lit (.int .u8 22), .lit (.int .u8 20), .lit (.int .u8 15), .lit (.int .u8 25), .lit (.int .u8 17), .lit (.int .u8 4), .lit (.int .u8 8), .lit (.int .u8 31), .lit (.int .u8 27), .lit (.int .u8 13), .lit (.int .u8 23), .lit (.int .u8 21), .lit (.int .u8 19), .lit (.int .u8 16), .lit (.int .u8 7), .lit (.int .u8 26), .lit (.int .u8 12), .lit (.int .u8 18), .lit (.int .u8 6), .lit (.int .u8 11), .lit (.int .u8 5), .lit (.int .u8 10), .lit (.int .u8 9)]
def laid_math_bits_deBruijn64tab {H : Type} : DataW H := .agg [.lit (.int .u8 0), .lit (.int .u8 1), .lit (.int .u8 56), .lit (.int .u8 2), .lit (.int .u8 57), .lit (.int .u8 49), .lit (.int .u8 28), .lit (.int .u8 3), .lit (.int .u8 61), .lit (.int .u8 58), .lit (.int .u8 42), .lit (.int .u8 50), .lit (.int .u8 38), .lit (.int .u8 29), .lit (.int .u8 17), .lit (.int .u8 4), .lit (.int .u8 62), .lit (.int .u8 47), .lit (.int .u8 59), .lit (.int .u8 36), .lit (.int .u8 45), .lit (.int .u8 43), .lit (.int .u8 51), .lit (.int .u8 22), .lit (.int .u8 53), .lit (.int .u8 39), .lit (.int .u8 33), .lit (.int .u8 30), .lit (.int .u8 24), .lit (.int .u8 18), .lit (.int .u8 12), .lit (.int .u8 5), .lit (.int .u8 63), .lit (.int .u8 55), .lit (.int .u8 48), .lit (.int .u8 27), .lit (.int .u8 60), .lit (.int .u8 41), .lit (.int .u8 37), .lit (.int .u8 16), .lit (.int .u8 46), .lit (.int .u8 35), .lit (.int .u8 44), .lit (.int .u8 21), .lit (.int .u8 52), .lit (.int .u8 32), .lit (.int .u8 23), .lit (.int .u8 11), .lit (.int .u8 54), .lit (.int .u8 26), .lit (.int .u8 40), .lit (.int .u8 15), .lit (.int .u8 34), .lit (.int .u8 20), .lit (.int .u8 31), .lit (.int .u8 10), .lit (.int .u8 25), .lit (.int .u8 14), .lit (.int .u8 19), .lit (.int .u8 9), .lit (.int .u8 13), .lit (.int .u8 8), .lit (.int .u8 7), .lit (.int .u8 6)]
def laid_internal_strconv_uint64pow10 {H : Type} : DataW H := .agg [.lit (.int .u64 1), .lit (.int .u64 10), .lit (.int .u64 100), .lit (.int .u64 1000), .lit (.int .u64 10000), .lit (.int .u64 100000), .lit (.int .u64 1000000), .lit (.int .u64 10000000), .lit (.int .u64 100000000), .lit (.int .u64 1000000000), .lit (.int .u64 10000000000), .lit (.int .u64 100000000000), .lit (.int .u64 1000000000000), .lit (.int .u64 10000000000000), .lit (.int .u64 100000000000000), .lit (.int .u64 1000000000000000), .lit (.int .u64 10000000000000000), .lit (.int .u64 100000000000000000), .lit (.int .u64 1000000000000000000), .lit (.int .u64 10000000000000000000)]
def laid_unicode_utf8_acceptRanges {H : Type} : DataW H := .agg [.agg [.lit (.int .u8 128), .lit (.int .u8 191)], .agg [.lit (.int .u8 160), .lit (.int .u8 191)], .agg [.lit (.int .u8 128), .lit (.int .u8 159)], .agg [.lit (.int .u8 144), .lit (.int .u8 191)], .agg [.lit (.int .u8 128), .lit (.int .u8 143)], .agg [.lit (.int .u8 0), .lit (.int .u8 0)], .agg [.lit (.int .u8 0), .lit (.int .u8 0)], .agg [.lit (.int .u8 0), .lit (.int .u8 0)], .agg [.lit (.int .u8 0), .lit (.int .u8 0)], .agg [.lit (.int .u8 0), .lit (.int .u8 0)], .agg [.lit (.int .u8 0), .lit (.int .u8 0)], .agg [.lit (.int .u8 0), .lit (.int .u8 0)], .agg [.lit (.int .u8 0), .lit (.int .u8 0)], .agg [.lit (.int .u8 0), .lit (.int .u8 0)], .agg [.lit (.int .u8 0), .lit (.int .u8 0)], .agg [.lit (.int .u8 0), .lit (.int .u8 0)]]
def laid_herald_herald_ownNames {H : Type} : DataW H := .agg [.lit (.string [107, 101, 114, 110]), .lit (.string [117, 115, 101, 114]), .lit (.string [109, 97, 105, 108]), .lit (.string [100, 97, 101, 109, 111, 110]), .lit (.string [97, 117, 116, 104]), .lit (.string [115, 121, 115, 108, 111, 103]), .lit (.string [108, 112, 114]), .lit (.string [110, 101, 119, 115]), .lit (.string [117, 117, 99, 112]), .lit (.string [99, 114, 111, 110]), .lit (.string [97, 117, 116, 104, 112, 114, 105, 118]), .lit (.string [102, 116, 112]), .lit (.string [110, 116, 112]), .lit (.string [97, 117, 100, 105, 116]), .lit (.string [97, 108, 101, 114, 116]), .lit (.string [99, 108, 111, 99, 107])]
def laid_herald_herald_severityNames {H : Type} : DataW H := .agg [.lit (.string [101, 109, 101, 114, 103]), .lit (.string [97, 108, 101, 114, 116]), .lit (.string [99, 114, 105, 116]), .lit (.string [101, 114, 114]), .lit (.string [119, 97, 114, 110, 105, 110, 103]), .lit (.string [110, 111, 116, 105, 99, 101]), .lit (.string [105, 110, 102, 111]), .lit (.string [100, 101, 98, 117, 103])]
def laid_herald_herald_monthNames {H : Type} : DataW H := .agg [.lit (.string [74, 97, 110]), .lit (.string [70, 101, 98]), .lit (.string [77, 97, 114]), .lit (.string [65, 112, 114]), .lit (.string [77, 97, 121]), .lit (.string [74, 117, 110]), .lit (.string [74, 117, 108]), .lit (.string [65, 117, 103]), .lit (.string [83, 101, 112]), .lit (.string [79, 99, 116]), .lit (.string [78, 111, 118]), .lit (.string [68, 101, 99])]
def laid_herald_herald_monthDays {H : Type} : DataW H := .agg [.lit (.int .i64 31), .lit (.int .i64 28), .lit (.int .i64 31), .lit (.int .i64 30), .lit (.int .i64 31), .lit (.int .i64 30), .lit (.int .i64 31), .lit (.int .i64 31), .lit (.int .i64 30), .lit (.int .i64 31), .lit (.int .i64 30), .lit (.int .i64 31)]
def laid_herald_herald_wordKinds {H : Type} : DataW H := .agg [.agg [.lit (.int .i64 32), .lit (.int .i64 4)], .agg [.lit (.int .i64 16), .lit (.int .i64 5)], .agg [.lit (.int .i64 16), .lit (.int .i64 6)], .agg [.lit (.int .i64 12), .lit (.int .i64 7)]]
/-- One of Go's own tables, pinned by name: the form's constant. -/
def laid_unicode_utf8_first : DataW Unit := Go.Pinned.utf8First

/-- 'heraldlaw.Messages': WHATEVER THE INPUT: true; the input reads as it did. -/
def messagesSpec : ChangeSpec := { name := "messages", fn := fun _ => fun
  | [d] => { results := [.lit (.bool true)], args := [d] }
  | _ => none }
def messagesRow : OpenClaim := { program := "ytdlhbmncbmconaagreatdoor", sum := "3ae5bcce552d1e631a4c9fdb71518636fa6d17c5f9b351ecd82b78ce8c522ff7", func := "herald/heraldlaw.Messages", spec := "messages", inPlace := ["internal/bytealg.IndexByteString", "internal/bytealg.IndexString", "internal/abi.NoEscape", "internal/bytealg.MakeNoZero", "internal/bytealg.CountString"], unfollowed := true, recurses := true, named := ["herald/herald.wordKinds", "internal/bytealg.MaxLen", "unicode/utf8.first", "unicode/utf8.acceptRanges", "herald/herald.monthDays", "internal/strconv.uint64pow10", "math/bits.deBruijn32tab", "math/bits.deBruijn64tab", "herald/herald.monthNames", "herald/herald.ownNames", "herald/herald.severityNames"], apart := false, laid := [("math/bits.deBruijn32tab", laid_math_bits_deBruijn32tab), ("math/bits.deBruijn64tab", laid_math_bits_deBruijn64tab), ("internal/strconv.uint64pow10", laid_internal_strconv_uint64pow10), ("unicode/utf8.acceptRanges", laid_unicode_utf8_acceptRanges), ("herald/herald.ownNames", laid_herald_herald_ownNames), ("herald/herald.severityNames", laid_herald_herald_severityNames), ("herald/herald.monthNames", laid_herald_herald_monthNames), ("herald/herald.monthDays", laid_herald_herald_monthDays), ("herald/herald.wordKinds", laid_herald_herald_wordKinds), ("unicode/utf8.first", laid_unicode_utf8_first)] }
def MessagesSaid : Prop := messagesRow.holds Tryz.pinned (OpenSpec.ofChange messagesSpec)

/-- ITS FALSE NEIGHBOUR: 'it returns false'. Refute it at one input. -/
def messagesWrong : ChangeSpec := { name := "messages", fn := fun _ => fun
  | [d] => { results := [.lit (.bool false)], args := [d] }
  | _ => none }
def MessagesWrongFalsely : Prop := messagesRow.holds Tryz.pinned (OpenSpec.ofChange messagesWrong)

/-- 'heraldlaw.Sorted': WHATEVER THE INPUT: true; the input reads as it did. -/
def sortedSpec : ChangeSpec := { name := "sorted", fn := fun _ => fun
  | [d] => { results := [.lit (.bool true)], args := [d] }
  | _ => none }
def sortedRow : OpenClaim := { program := "ytdlhbmncbmconaagreatdoor", sum := "3ae5bcce552d1e631a4c9fdb71518636fa6d17c5f9b351ecd82b78ce8c522ff7", func := "herald/heraldlaw.Sorted", spec := "sorted", inPlace := ["internal/bytealg.IndexByteString", "internal/bytealg.IndexString", "internal/abi.NoEscape", "internal/bytealg.MakeNoZero", "internal/bytealg.CountString"], unfollowed := true, recurses := true, named := ["herald/herald.wordKinds", "internal/bytealg.MaxLen", "unicode/utf8.first", "unicode/utf8.acceptRanges", "herald/herald.monthDays", "internal/strconv.uint64pow10", "math/bits.deBruijn32tab", "math/bits.deBruijn64tab", "herald/herald.monthNames", "herald/herald.ownNames", "herald/herald.severityNames"], apart := false, laid := [("math/bits.deBruijn32tab", laid_math_bits_deBruijn32tab), ("math/bits.deBruijn64tab", laid_math_bits_deBruijn64tab), ("internal/strconv.uint64pow10", laid_internal_strconv_uint64pow10), ("unicode/utf8.acceptRanges", laid_unicode_utf8_acceptRanges), ("herald/herald.ownNames", laid_herald_herald_ownNames), ("herald/herald.severityNames", laid_herald_herald_severityNames), ("herald/herald.monthNames", laid_herald_herald_monthNames), ("herald/herald.monthDays", laid_herald_herald_monthDays), ("herald/herald.wordKinds", laid_herald_herald_wordKinds), ("unicode/utf8.first", laid_unicode_utf8_first)] }
def SortedSaid : Prop := sortedRow.holds Tryz.pinned (OpenSpec.ofChange sortedSpec)

/-- ITS FALSE NEIGHBOUR: 'it returns false'. Refute it at one input. -/
def sortedWrong : ChangeSpec := { name := "sorted", fn := fun _ => fun
  | [d] => { results := [.lit (.bool false)], args := [d] }
  | _ => none }
def SortedWrongFalsely : Prop := sortedRow.holds Tryz.pinned (OpenSpec.ofChange sortedWrong)

/-- 'heraldlaw.Logs': WHATEVER THE INPUT: true; the input reads as it did. -/
def logsSpec : ChangeSpec := { name := "logs", fn := fun _ => fun
  | [d] => { results := [.lit (.bool true)], args := [d] }
  | _ => none }
def logsRow : OpenClaim := { program := "ytdlhbmncbmconaagreatdoor", sum := "3ae5bcce552d1e631a4c9fdb71518636fa6d17c5f9b351ecd82b78ce8c522ff7", func := "herald/heraldlaw.Logs", spec := "logs", inPlace := ["internal/bytealg.IndexByteString", "internal/bytealg.IndexString", "internal/abi.NoEscape", "internal/bytealg.MakeNoZero", "internal/bytealg.CountString"], unfollowed := true, recurses := true, named := ["herald/herald.wordKinds", "internal/bytealg.MaxLen", "unicode/utf8.first", "unicode/utf8.acceptRanges", "herald/herald.monthDays", "internal/strconv.uint64pow10", "math/bits.deBruijn32tab", "math/bits.deBruijn64tab", "herald/herald.monthNames", "herald/herald.ownNames", "herald/herald.severityNames"], apart := false, laid := [("math/bits.deBruijn32tab", laid_math_bits_deBruijn32tab), ("math/bits.deBruijn64tab", laid_math_bits_deBruijn64tab), ("internal/strconv.uint64pow10", laid_internal_strconv_uint64pow10), ("unicode/utf8.acceptRanges", laid_unicode_utf8_acceptRanges), ("herald/herald.ownNames", laid_herald_herald_ownNames), ("herald/herald.severityNames", laid_herald_herald_severityNames), ("herald/herald.monthNames", laid_herald_herald_monthNames), ("herald/herald.monthDays", laid_herald_herald_monthDays), ("herald/herald.wordKinds", laid_herald_herald_wordKinds), ("unicode/utf8.first", laid_unicode_utf8_first)] }
def LogsSaid : Prop := logsRow.holds Tryz.pinned (OpenSpec.ofChange logsSpec)

/-- ITS FALSE NEIGHBOUR: 'it returns false'. Refute it at one input. -/
def logsWrong : ChangeSpec := { name := "logs", fn := fun _ => fun
  | [d] => { results := [.lit (.bool false)], args := [d] }
  | _ => none }
def LogsWrongFalsely : Prop := logsRow.holds Tryz.pinned (OpenSpec.ofChange logsWrong)

/-- 'heraldkeep.Back': WHATEVER THE INPUT: true; the input reads as it did. -/
def backSpec : ChangeSpec := { name := "back", fn := fun _ => fun
  | [d1, d2] => { results := [.lit (.bool true)], args := [d1, d2] }
  | _ => none }
def backRow : OpenClaim := { program := "ytdlhbmncbmconaagreatdoor", sum := "3ae5bcce552d1e631a4c9fdb71518636fa6d17c5f9b351ecd82b78ce8c522ff7", func := "herald/heraldkeep.Back", spec := "back", inPlace := ["internal/bytealg.IndexByteString", "internal/bytealg.IndexString", "internal/abi.NoEscape", "internal/bytealg.MakeNoZero", "internal/bytealg.CountString"], unfollowed := true, recurses := true, named := ["herald/herald.wordKinds", "internal/bytealg.MaxLen", "unicode/utf8.first", "unicode/utf8.acceptRanges", "herald/herald.monthDays", "internal/strconv.uint64pow10", "math/bits.deBruijn32tab", "math/bits.deBruijn64tab", "herald/herald.monthNames", "herald/herald.ownNames", "herald/herald.severityNames"], apart := false, laid := [("math/bits.deBruijn32tab", laid_math_bits_deBruijn32tab), ("math/bits.deBruijn64tab", laid_math_bits_deBruijn64tab), ("internal/strconv.uint64pow10", laid_internal_strconv_uint64pow10), ("unicode/utf8.acceptRanges", laid_unicode_utf8_acceptRanges), ("herald/herald.ownNames", laid_herald_herald_ownNames), ("herald/herald.severityNames", laid_herald_herald_severityNames), ("herald/herald.monthNames", laid_herald_herald_monthNames), ("herald/herald.monthDays", laid_herald_herald_monthDays), ("herald/herald.wordKinds", laid_herald_herald_wordKinds), ("unicode/utf8.first", laid_unicode_utf8_first)] }
def BackSaid : Prop := backRow.holds Tryz.pinned (OpenSpec.ofChange backSpec)

/-- ITS FALSE NEIGHBOUR: 'it returns false'. Refute it at one input. -/
def backWrong : ChangeSpec := { name := "back", fn := fun _ => fun
  | [d1, d2] => { results := [.lit (.bool false)], args := [d1, d2] }
  | _ => none }
def BackWrongFalsely : Prop := backRow.holds Tryz.pinned (OpenSpec.ofChange backWrong)

/-- 'heraldkeep.Fixed': WHATEVER THE INPUT: true; the input reads as it did. -/
def fixedSpec : ChangeSpec := { name := "fixed", fn := fun _ => fun
  | [d1, d2] => { results := [.lit (.bool true)], args := [d1, d2] }
  | _ => none }
def fixedRow : OpenClaim := { program := "ytdlhbmncbmconaagreatdoor", sum := "3ae5bcce552d1e631a4c9fdb71518636fa6d17c5f9b351ecd82b78ce8c522ff7", func := "herald/heraldkeep.Fixed", spec := "fixed", inPlace := ["internal/bytealg.IndexByteString", "internal/bytealg.IndexString", "internal/abi.NoEscape", "internal/bytealg.MakeNoZero", "internal/bytealg.CountString"], unfollowed := true, recurses := true, named := ["herald/herald.wordKinds", "internal/bytealg.MaxLen", "unicode/utf8.first", "unicode/utf8.acceptRanges", "herald/herald.monthDays", "internal/strconv.uint64pow10", "math/bits.deBruijn32tab", "math/bits.deBruijn64tab", "herald/herald.monthNames", "herald/herald.ownNames", "herald/herald.severityNames"], apart := false, laid := [("math/bits.deBruijn32tab", laid_math_bits_deBruijn32tab), ("math/bits.deBruijn64tab", laid_math_bits_deBruijn64tab), ("internal/strconv.uint64pow10", laid_internal_strconv_uint64pow10), ("unicode/utf8.acceptRanges", laid_unicode_utf8_acceptRanges), ("herald/herald.ownNames", laid_herald_herald_ownNames), ("herald/herald.severityNames", laid_herald_herald_severityNames), ("herald/herald.monthNames", laid_herald_herald_monthNames), ("herald/herald.monthDays", laid_herald_herald_monthDays), ("herald/herald.wordKinds", laid_herald_herald_wordKinds), ("unicode/utf8.first", laid_unicode_utf8_first)] }
def FixedSaid : Prop := fixedRow.holds Tryz.pinned (OpenSpec.ofChange fixedSpec)

/-- ITS FALSE NEIGHBOUR: 'it returns false'. Refute it at one input. -/
def fixedWrong : ChangeSpec := { name := "fixed", fn := fun _ => fun
  | [d1, d2] => { results := [.lit (.bool false)], args := [d1, d2] }
  | _ => none }
def FixedWrongFalsely : Prop := fixedRow.holds Tryz.pinned (OpenSpec.ofChange fixedWrong)

/-- 'heraldkeep.Shifted': WHATEVER THE INPUT: true; the input reads as it did. -/
def shiftedSpec : ChangeSpec := { name := "shifted", fn := fun _ => fun
  | [d1, d2, d3, d4, d5] => { results := [.lit (.bool true)], args := [d1, d2, d3, d4, d5] }
  | _ => none }
def shiftedRow : OpenClaim := { program := "ytdlhbmncbmconaagreatdoor", sum := "3ae5bcce552d1e631a4c9fdb71518636fa6d17c5f9b351ecd82b78ce8c522ff7", func := "herald/heraldkeep.Shifted", spec := "shifted", inPlace := ["internal/bytealg.IndexByteString", "internal/bytealg.IndexString", "internal/abi.NoEscape", "internal/bytealg.MakeNoZero", "internal/bytealg.CountString"], unfollowed := true, recurses := true, named := ["herald/herald.wordKinds", "internal/bytealg.MaxLen", "unicode/utf8.first", "unicode/utf8.acceptRanges", "herald/herald.monthDays", "internal/strconv.uint64pow10", "math/bits.deBruijn32tab", "math/bits.deBruijn64tab", "herald/herald.monthNames", "herald/herald.ownNames", "herald/herald.severityNames"], apart := false, laid := [("math/bits.deBruijn32tab", laid_math_bits_deBruijn32tab), ("math/bits.deBruijn64tab", laid_math_bits_deBruijn64tab), ("internal/strconv.uint64pow10", laid_internal_strconv_uint64pow10), ("unicode/utf8.acceptRanges", laid_unicode_utf8_acceptRanges), ("herald/herald.ownNames", laid_herald_herald_ownNames), ("herald/herald.severityNames", laid_herald_herald_severityNames), ("herald/herald.monthNames", laid_herald_herald_monthNames), ("herald/herald.monthDays", laid_herald_herald_monthDays), ("herald/herald.wordKinds", laid_herald_herald_wordKinds), ("unicode/utf8.first", laid_unicode_utf8_first)] }
def ShiftedSaid : Prop := shiftedRow.holds Tryz.pinned (OpenSpec.ofChange shiftedSpec)

/-- ITS FALSE NEIGHBOUR: 'it returns false'. Refute it at one input. -/
def shiftedWrong : ChangeSpec := { name := "shifted", fn := fun _ => fun
  | [d1, d2, d3, d4, d5] => { results := [.lit (.bool false)], args := [d1, d2, d3, d4, d5] }
  | _ => none }
def ShiftedWrongFalsely : Prop := shiftedRow.holds Tryz.pinned (OpenSpec.ofChange shiftedWrong)

/-- 'heraldkeep.Old': WHATEVER THE INPUT: true; the input reads as it did. -/
def oldSpec : ChangeSpec := { name := "old", fn := fun _ => fun
  | [d1, d2, d3, d4, d5, d6, d7, d8] => { results := [.lit (.bool true)], args := [d1, d2, d3, d4, d5, d6, d7, d8] }
  | _ => none }
def oldRow : OpenClaim := { program := "ytdlhbmncbmconaagreatdoor", sum := "3ae5bcce552d1e631a4c9fdb71518636fa6d17c5f9b351ecd82b78ce8c522ff7", func := "herald/heraldkeep.Old", spec := "old", inPlace := ["internal/bytealg.IndexByteString", "internal/bytealg.IndexString", "internal/abi.NoEscape", "internal/bytealg.MakeNoZero", "internal/bytealg.CountString"], unfollowed := true, recurses := true, named := ["herald/herald.wordKinds", "internal/bytealg.MaxLen", "unicode/utf8.first", "unicode/utf8.acceptRanges", "herald/herald.monthDays", "internal/strconv.uint64pow10", "math/bits.deBruijn32tab", "math/bits.deBruijn64tab", "herald/herald.monthNames", "herald/herald.ownNames", "herald/herald.severityNames"], apart := false, laid := [("math/bits.deBruijn32tab", laid_math_bits_deBruijn32tab), ("math/bits.deBruijn64tab", laid_math_bits_deBruijn64tab), ("internal/strconv.uint64pow10", laid_internal_strconv_uint64pow10), ("unicode/utf8.acceptRanges", laid_unicode_utf8_acceptRanges), ("herald/herald.ownNames", laid_herald_herald_ownNames), ("herald/herald.severityNames", laid_herald_herald_severityNames), ("herald/herald.monthNames", laid_herald_herald_monthNames), ("herald/herald.monthDays", laid_herald_herald_monthDays), ("herald/herald.wordKinds", laid_herald_herald_wordKinds), ("unicode/utf8.first", laid_unicode_utf8_first)] }
def OldSaid : Prop := oldRow.holds Tryz.pinned (OpenSpec.ofChange oldSpec)

/-- ITS FALSE NEIGHBOUR: 'it returns false'. Refute it at one input. -/
def oldWrong : ChangeSpec := { name := "old", fn := fun _ => fun
  | [d1, d2, d3, d4, d5, d6, d7, d8] => { results := [.lit (.bool false)], args := [d1, d2, d3, d4, d5, d6, d7, d8] }
  | _ => none }
def OldWrongFalsely : Prop := oldRow.holds Tryz.pinned (OpenSpec.ofChange oldWrong)

/-- 'heraldkeep.Cuts': WHATEVER THE INPUT: true; the input reads as it did. -/
def cutsSpec : ChangeSpec := { name := "cuts", fn := fun _ => fun
  | [d1, d2, d3] => { results := [.lit (.bool true)], args := [d1, d2, d3] }
  | _ => none }
def cutsRow : OpenClaim := { program := "ytdlhbmncbmconaagreatdoor", sum := "3ae5bcce552d1e631a4c9fdb71518636fa6d17c5f9b351ecd82b78ce8c522ff7", func := "herald/heraldkeep.Cuts", spec := "cuts", inPlace := ["internal/bytealg.IndexByteString", "internal/bytealg.IndexString", "internal/abi.NoEscape", "internal/bytealg.MakeNoZero", "internal/bytealg.CountString"], unfollowed := true, recurses := true, named := ["herald/herald.wordKinds", "internal/bytealg.MaxLen", "unicode/utf8.first", "unicode/utf8.acceptRanges", "herald/herald.monthDays", "internal/strconv.uint64pow10", "math/bits.deBruijn32tab", "math/bits.deBruijn64tab", "herald/herald.monthNames", "herald/herald.ownNames", "herald/herald.severityNames"], apart := false, laid := [("math/bits.deBruijn32tab", laid_math_bits_deBruijn32tab), ("math/bits.deBruijn64tab", laid_math_bits_deBruijn64tab), ("internal/strconv.uint64pow10", laid_internal_strconv_uint64pow10), ("unicode/utf8.acceptRanges", laid_unicode_utf8_acceptRanges), ("herald/herald.ownNames", laid_herald_herald_ownNames), ("herald/herald.severityNames", laid_herald_herald_severityNames), ("herald/herald.monthNames", laid_herald_herald_monthNames), ("herald/herald.monthDays", laid_herald_herald_monthDays), ("herald/herald.wordKinds", laid_herald_herald_wordKinds), ("unicode/utf8.first", laid_unicode_utf8_first)] }
def CutsSaid : Prop := cutsRow.holds Tryz.pinned (OpenSpec.ofChange cutsSpec)

/-- ITS FALSE NEIGHBOUR: 'it returns false'. Refute it at one input. -/
def cutsWrong : ChangeSpec := { name := "cuts", fn := fun _ => fun
  | [d1, d2, d3] => { results := [.lit (.bool false)], args := [d1, d2, d3] }
  | _ => none }
def CutsWrongFalsely : Prop := cutsRow.holds Tryz.pinned (OpenSpec.ofChange cutsWrong)

/-- 'heraldkeep.Framed': WHATEVER THE INPUT: true; the input reads as it did. -/
def framedSpec : ChangeSpec := { name := "framed", fn := fun _ => fun
  | [d1, d2] => { results := [.lit (.bool true)], args := [d1, d2] }
  | _ => none }
def framedRow : OpenClaim := { program := "ytdlhbmncbmconaagreatdoor", sum := "3ae5bcce552d1e631a4c9fdb71518636fa6d17c5f9b351ecd82b78ce8c522ff7", func := "herald/heraldkeep.Framed", spec := "framed", inPlace := ["internal/bytealg.IndexByteString", "internal/bytealg.IndexString", "internal/abi.NoEscape", "internal/bytealg.MakeNoZero", "internal/bytealg.CountString"], unfollowed := true, recurses := true, named := ["herald/herald.wordKinds", "internal/bytealg.MaxLen", "unicode/utf8.first", "unicode/utf8.acceptRanges", "herald/herald.monthDays", "internal/strconv.uint64pow10", "math/bits.deBruijn32tab", "math/bits.deBruijn64tab", "herald/herald.monthNames", "herald/herald.ownNames", "herald/herald.severityNames"], apart := false, laid := [("math/bits.deBruijn32tab", laid_math_bits_deBruijn32tab), ("math/bits.deBruijn64tab", laid_math_bits_deBruijn64tab), ("internal/strconv.uint64pow10", laid_internal_strconv_uint64pow10), ("unicode/utf8.acceptRanges", laid_unicode_utf8_acceptRanges), ("herald/herald.ownNames", laid_herald_herald_ownNames), ("herald/herald.severityNames", laid_herald_herald_severityNames), ("herald/herald.monthNames", laid_herald_herald_monthNames), ("herald/herald.monthDays", laid_herald_herald_monthDays), ("herald/herald.wordKinds", laid_herald_herald_wordKinds), ("unicode/utf8.first", laid_unicode_utf8_first)] }
def FramedSaid : Prop := framedRow.holds Tryz.pinned (OpenSpec.ofChange framedSpec)

/-- ITS FALSE NEIGHBOUR: 'it returns false'. Refute it at one input. -/
def framedWrong : ChangeSpec := { name := "framed", fn := fun _ => fun
  | [d1, d2] => { results := [.lit (.bool false)], args := [d1, d2] }
  | _ => none }
def FramedWrongFalsely : Prop := framedRow.holds Tryz.pinned (OpenSpec.ofChange framedWrong)

/-- 'heraldkeep.Decided': WHATEVER THE INPUT: true; the input reads as it did. -/
def decidedSpec : ChangeSpec := { name := "decided", fn := fun _ => fun
  | [d1, d2, d3] => { results := [.lit (.bool true)], args := [d1, d2, d3] }
  | _ => none }
def decidedRow : OpenClaim := { program := "ytdlhbmncbmconaagreatdoor", sum := "3ae5bcce552d1e631a4c9fdb71518636fa6d17c5f9b351ecd82b78ce8c522ff7", func := "herald/heraldkeep.Decided", spec := "decided", inPlace := ["internal/bytealg.IndexByteString", "internal/bytealg.IndexString", "internal/abi.NoEscape", "internal/bytealg.MakeNoZero", "internal/bytealg.CountString"], unfollowed := true, recurses := true, named := ["herald/herald.wordKinds", "internal/bytealg.MaxLen", "unicode/utf8.first", "unicode/utf8.acceptRanges", "herald/herald.monthDays", "internal/strconv.uint64pow10", "math/bits.deBruijn32tab", "math/bits.deBruijn64tab", "herald/herald.monthNames", "herald/herald.ownNames", "herald/herald.severityNames"], apart := false, laid := [("math/bits.deBruijn32tab", laid_math_bits_deBruijn32tab), ("math/bits.deBruijn64tab", laid_math_bits_deBruijn64tab), ("internal/strconv.uint64pow10", laid_internal_strconv_uint64pow10), ("unicode/utf8.acceptRanges", laid_unicode_utf8_acceptRanges), ("herald/herald.ownNames", laid_herald_herald_ownNames), ("herald/herald.severityNames", laid_herald_herald_severityNames), ("herald/herald.monthNames", laid_herald_herald_monthNames), ("herald/herald.monthDays", laid_herald_herald_monthDays), ("herald/herald.wordKinds", laid_herald_herald_wordKinds), ("unicode/utf8.first", laid_unicode_utf8_first)] }
def DecidedSaid : Prop := decidedRow.holds Tryz.pinned (OpenSpec.ofChange decidedSpec)

/-- ITS FALSE NEIGHBOUR: 'it returns false'. Refute it at one input. -/
def decidedWrong : ChangeSpec := { name := "decided", fn := fun _ => fun
  | [d1, d2, d3] => { results := [.lit (.bool false)], args := [d1, d2, d3] }
  | _ => none }
def DecidedWrongFalsely : Prop := decidedRow.holds Tryz.pinned (OpenSpec.ofChange decidedWrong)

/-- 'heraldkeep.Logged': WHATEVER THE INPUT: true; the input reads as it did. -/
def loggedSpec : ChangeSpec := { name := "logged", fn := fun _ => fun
  | [d1, d2, d3] => { results := [.lit (.bool true)], args := [d1, d2, d3] }
  | _ => none }
def loggedRow : OpenClaim := { program := "ytdlhbmncbmconaagreatdoor", sum := "3ae5bcce552d1e631a4c9fdb71518636fa6d17c5f9b351ecd82b78ce8c522ff7", func := "herald/heraldkeep.Logged", spec := "logged", inPlace := ["internal/bytealg.IndexByteString", "internal/bytealg.IndexString", "internal/abi.NoEscape", "internal/bytealg.MakeNoZero", "internal/bytealg.CountString"], unfollowed := true, recurses := true, named := ["herald/herald.wordKinds", "internal/bytealg.MaxLen", "unicode/utf8.first", "unicode/utf8.acceptRanges", "herald/herald.monthDays", "internal/strconv.uint64pow10", "math/bits.deBruijn32tab", "math/bits.deBruijn64tab", "herald/herald.monthNames", "herald/herald.ownNames", "herald/herald.severityNames"], apart := false, laid := [("math/bits.deBruijn32tab", laid_math_bits_deBruijn32tab), ("math/bits.deBruijn64tab", laid_math_bits_deBruijn64tab), ("internal/strconv.uint64pow10", laid_internal_strconv_uint64pow10), ("unicode/utf8.acceptRanges", laid_unicode_utf8_acceptRanges), ("herald/herald.ownNames", laid_herald_herald_ownNames), ("herald/herald.severityNames", laid_herald_herald_severityNames), ("herald/herald.monthNames", laid_herald_herald_monthNames), ("herald/herald.monthDays", laid_herald_herald_monthDays), ("herald/herald.wordKinds", laid_herald_herald_wordKinds), ("unicode/utf8.first", laid_unicode_utf8_first)] }
def LoggedSaid : Prop := loggedRow.holds Tryz.pinned (OpenSpec.ofChange loggedSpec)

/-- ITS FALSE NEIGHBOUR: 'it returns false'. Refute it at one input. -/
def loggedWrong : ChangeSpec := { name := "logged", fn := fun _ => fun
  | [d1, d2, d3] => { results := [.lit (.bool false)], args := [d1, d2, d3] }
  | _ => none }
def LoggedWrongFalsely : Prop := loggedRow.holds Tryz.pinned (OpenSpec.ofChange loggedWrong)

/-- 'heraldkeep.Opened': WHATEVER THE INPUT: true; the input reads as it did. -/
def openedSpec : ChangeSpec := { name := "opened", fn := fun _ => fun
  | [d1, d2, d3, d4] => { results := [.lit (.bool true)], args := [d1, d2, d3, d4] }
  | _ => none }
def openedRow : OpenClaim := { program := "ytdlhbmncbmconaagreatdoor", sum := "3ae5bcce552d1e631a4c9fdb71518636fa6d17c5f9b351ecd82b78ce8c522ff7", func := "herald/heraldkeep.Opened", spec := "opened", inPlace := ["internal/bytealg.IndexByteString", "internal/bytealg.IndexString", "internal/abi.NoEscape", "internal/bytealg.MakeNoZero", "internal/bytealg.CountString"], unfollowed := true, recurses := true, named := ["herald/herald.wordKinds", "internal/bytealg.MaxLen", "unicode/utf8.first", "unicode/utf8.acceptRanges", "herald/herald.monthDays", "internal/strconv.uint64pow10", "math/bits.deBruijn32tab", "math/bits.deBruijn64tab", "herald/herald.monthNames", "herald/herald.ownNames", "herald/herald.severityNames"], apart := false, laid := [("math/bits.deBruijn32tab", laid_math_bits_deBruijn32tab), ("math/bits.deBruijn64tab", laid_math_bits_deBruijn64tab), ("internal/strconv.uint64pow10", laid_internal_strconv_uint64pow10), ("unicode/utf8.acceptRanges", laid_unicode_utf8_acceptRanges), ("herald/herald.ownNames", laid_herald_herald_ownNames), ("herald/herald.severityNames", laid_herald_herald_severityNames), ("herald/herald.monthNames", laid_herald_herald_monthNames), ("herald/herald.monthDays", laid_herald_herald_monthDays), ("herald/herald.wordKinds", laid_herald_herald_wordKinds), ("unicode/utf8.first", laid_unicode_utf8_first)] }
def OpenedSaid : Prop := openedRow.holds Tryz.pinned (OpenSpec.ofChange openedSpec)

/-- ITS FALSE NEIGHBOUR: 'it returns false'. Refute it at one input. -/
def openedWrong : ChangeSpec := { name := "opened", fn := fun _ => fun
  | [d1, d2, d3, d4] => { results := [.lit (.bool false)], args := [d1, d2, d3, d4] }
  | _ => none }
def OpenedWrongFalsely : Prop := openedRow.holds Tryz.pinned (OpenSpec.ofChange openedWrong)

/-- 'heraldkeep.Relayed': WHATEVER THE INPUT: true; the input reads as it did. -/
def relayedSpec : ChangeSpec := { name := "relayed", fn := fun _ => fun
  | [d1, d2] => { results := [.lit (.bool true)], args := [d1, d2] }
  | _ => none }
def relayedRow : OpenClaim := { program := "ytdlhbmncbmconaagreatdoor", sum := "3ae5bcce552d1e631a4c9fdb71518636fa6d17c5f9b351ecd82b78ce8c522ff7", func := "herald/heraldkeep.Relayed", spec := "relayed", inPlace := ["internal/bytealg.IndexByteString", "internal/bytealg.IndexString", "internal/abi.NoEscape", "internal/bytealg.MakeNoZero", "internal/bytealg.CountString"], unfollowed := true, recurses := true, named := ["herald/herald.wordKinds", "internal/bytealg.MaxLen", "unicode/utf8.first", "unicode/utf8.acceptRanges", "herald/herald.monthDays", "internal/strconv.uint64pow10", "math/bits.deBruijn32tab", "math/bits.deBruijn64tab", "herald/herald.monthNames", "herald/herald.ownNames", "herald/herald.severityNames"], apart := false, laid := [("math/bits.deBruijn32tab", laid_math_bits_deBruijn32tab), ("math/bits.deBruijn64tab", laid_math_bits_deBruijn64tab), ("internal/strconv.uint64pow10", laid_internal_strconv_uint64pow10), ("unicode/utf8.acceptRanges", laid_unicode_utf8_acceptRanges), ("herald/herald.ownNames", laid_herald_herald_ownNames), ("herald/herald.severityNames", laid_herald_herald_severityNames), ("herald/herald.monthNames", laid_herald_herald_monthNames), ("herald/herald.monthDays", laid_herald_herald_monthDays), ("herald/herald.wordKinds", laid_herald_herald_wordKinds), ("unicode/utf8.first", laid_unicode_utf8_first)] }
def RelayedSaid : Prop := relayedRow.holds Tryz.pinned (OpenSpec.ofChange relayedSpec)

/-- ITS FALSE NEIGHBOUR: 'it returns false'. Refute it at one input. -/
def relayedWrong : ChangeSpec := { name := "relayed", fn := fun _ => fun
  | [d1, d2] => { results := [.lit (.bool false)], args := [d1, d2] }
  | _ => none }
def RelayedWrongFalsely : Prop := relayedRow.holds Tryz.pinned (OpenSpec.ofChange relayedWrong)

/-- 'heraldlaw.All': WHATEVER THE INPUT: true; the input reads as it did. -/
def allSpec : ChangeSpec := { name := "all", fn := fun _ => fun
  | [d] => { results := [.lit (.bool true)], args := [d] }
  | _ => none }
def allRow : OpenClaim := { program := "ytdlhbmncbmconaagreatdoor", sum := "3ae5bcce552d1e631a4c9fdb71518636fa6d17c5f9b351ecd82b78ce8c522ff7", func := "herald/heraldlaw.All", spec := "all", inPlace := ["internal/bytealg.IndexByteString", "internal/bytealg.IndexString", "internal/abi.NoEscape", "internal/bytealg.MakeNoZero", "internal/bytealg.CountString"], unfollowed := true, recurses := true, named := ["herald/herald.wordKinds", "internal/bytealg.MaxLen", "unicode/utf8.first", "unicode/utf8.acceptRanges", "herald/herald.monthDays", "internal/strconv.uint64pow10", "math/bits.deBruijn32tab", "math/bits.deBruijn64tab", "herald/herald.monthNames", "herald/herald.ownNames", "herald/herald.severityNames"], apart := false, laid := [("math/bits.deBruijn32tab", laid_math_bits_deBruijn32tab), ("math/bits.deBruijn64tab", laid_math_bits_deBruijn64tab), ("internal/strconv.uint64pow10", laid_internal_strconv_uint64pow10), ("unicode/utf8.acceptRanges", laid_unicode_utf8_acceptRanges), ("herald/herald.ownNames", laid_herald_herald_ownNames), ("herald/herald.severityNames", laid_herald_herald_severityNames), ("herald/herald.monthNames", laid_herald_herald_monthNames), ("herald/herald.monthDays", laid_herald_herald_monthDays), ("herald/herald.wordKinds", laid_herald_herald_wordKinds), ("unicode/utf8.first", laid_unicode_utf8_first)] }
def AllSaid : Prop := allRow.holds Tryz.pinned (OpenSpec.ofChange allSpec)

/-- ITS FALSE NEIGHBOUR: 'it returns false'. Refute it at one input. -/
def allWrong : ChangeSpec := { name := "all", fn := fun _ => fun
  | [d] => { results := [.lit (.bool false)], args := [d] }
  | _ => none }
def AllWrongFalsely : Prop := allRow.holds Tryz.pinned (OpenSpec.ofChange allWrong)

/- THE SECOND FORM. 'bulk': how many values and letters a reading holds, each counted each time it is reached (what is shared counts as often as it is met; a slice's spare places count too). A statement '..UptoSaid' is the law's where the arguments, and the package variables that the reading takes, are together of bulk at most 1048576: NARROWER than '..Said'. Prove '..Said' where nothing that the law and all that it calls make is longer than what came in: it says more and counts as full. Else prove '..UptoSaid'. A law counts once. -/
mutual
def uptoBulk {H : Type} : DataW H → Nat
  | .lit (.string bytes) => bytes.length + 1
  | .lit _ => 1
  | .nil => 1
  | .ptr d => uptoBulk d + 1
  | .slice elems spare => uptoBulkAll elems + uptoBulkAll spare + 1
  | .agg parts => uptoBulkAll parts + 1
  | .iface _ d => uptoBulk d + 1
  | .map entries => uptoBulkEntries entries + 1
  | .held _ => 1
def uptoBulkAll {H : Type} : List (DataW H) → Nat
  | [] => 0
  | d :: r => uptoBulk d + uptoBulkAll r
def uptoBulkEntries {H : Type} : List (Lit × DataW H) → Nat
  | [] => 0
  | x :: r => uptoBulkEntry x + uptoBulkEntries r
def uptoBulkEntry {H : Type} : Lit × DataW H → Nat
  | (.string bytes, d) => bytes.length + uptoBulk d + 1
  | (_, d) => uptoBulk d + 1
 end
def uptoSmall : (H : Type) → List (DataW H) → Bool := fun _ ds => decide (uptoBulkAll ds ≤ 1048576)
def OpenSpec.upto (s : _root_.Go.ChangeSpec) : _root_.Go.OpenSpec := { _root_.Go.OpenSpec.ofChange s with cond := some uptoSmall }

/-- 'heraldlaw.Messages', WHERE WHAT IT READS IS OF BULK AT MOST 1048576: true; the input reads as it did. -/
def messagesUptoRow : OpenClaim := { program := "ytdlhbmncbmconaagreatdoor", sum := "3ae5bcce552d1e631a4c9fdb71518636fa6d17c5f9b351ecd82b78ce8c522ff7", func := "herald/heraldlaw.Messages", spec := "messages", inPlace := ["internal/bytealg.IndexByteString", "internal/bytealg.IndexString", "internal/abi.NoEscape", "internal/bytealg.MakeNoZero", "internal/bytealg.CountString"], unfollowed := true, recurses := true, named := ["herald/herald.wordKinds", "internal/bytealg.MaxLen", "unicode/utf8.first", "unicode/utf8.acceptRanges", "herald/herald.monthDays", "internal/strconv.uint64pow10", "math/bits.deBruijn32tab", "math/bits.deBruijn64tab", "herald/herald.monthNames", "herald/herald.ownNames", "herald/herald.severityNames"], apart := false, laid := [("math/bits.deBruijn32tab", laid_math_bits_deBruijn32tab), ("math/bits.deBruijn64tab", laid_math_bits_deBruijn64tab), ("internal/strconv.uint64pow10", laid_internal_strconv_uint64pow10), ("unicode/utf8.acceptRanges", laid_unicode_utf8_acceptRanges), ("herald/herald.ownNames", laid_herald_herald_ownNames), ("herald/herald.severityNames", laid_herald_herald_severityNames), ("herald/herald.monthNames", laid_herald_herald_monthNames), ("herald/herald.monthDays", laid_herald_herald_monthDays), ("herald/herald.wordKinds", laid_herald_herald_wordKinds), ("unicode/utf8.first", laid_unicode_utf8_first)], narrowed := true }
def MessagesUptoSaid : Prop := messagesUptoRow.holds Tryz.pinned (OpenSpec.upto messagesSpec)

/-- 'heraldlaw.Sorted', WHERE WHAT IT READS IS OF BULK AT MOST 1048576: true; the input reads as it did. -/
def sortedUptoRow : OpenClaim := { program := "ytdlhbmncbmconaagreatdoor", sum := "3ae5bcce552d1e631a4c9fdb71518636fa6d17c5f9b351ecd82b78ce8c522ff7", func := "herald/heraldlaw.Sorted", spec := "sorted", inPlace := ["internal/bytealg.IndexByteString", "internal/bytealg.IndexString", "internal/abi.NoEscape", "internal/bytealg.MakeNoZero", "internal/bytealg.CountString"], unfollowed := true, recurses := true, named := ["herald/herald.wordKinds", "internal/bytealg.MaxLen", "unicode/utf8.first", "unicode/utf8.acceptRanges", "herald/herald.monthDays", "internal/strconv.uint64pow10", "math/bits.deBruijn32tab", "math/bits.deBruijn64tab", "herald/herald.monthNames", "herald/herald.ownNames", "herald/herald.severityNames"], apart := false, laid := [("math/bits.deBruijn32tab", laid_math_bits_deBruijn32tab), ("math/bits.deBruijn64tab", laid_math_bits_deBruijn64tab), ("internal/strconv.uint64pow10", laid_internal_strconv_uint64pow10), ("unicode/utf8.acceptRanges", laid_unicode_utf8_acceptRanges), ("herald/herald.ownNames", laid_herald_herald_ownNames), ("herald/herald.severityNames", laid_herald_herald_severityNames), ("herald/herald.monthNames", laid_herald_herald_monthNames), ("herald/herald.monthDays", laid_herald_herald_monthDays), ("herald/herald.wordKinds", laid_herald_herald_wordKinds), ("unicode/utf8.first", laid_unicode_utf8_first)], narrowed := true }
def SortedUptoSaid : Prop := sortedUptoRow.holds Tryz.pinned (OpenSpec.upto sortedSpec)

/-- 'heraldlaw.Logs', WHERE WHAT IT READS IS OF BULK AT MOST 1048576: true; the input reads as it did. -/
def logsUptoRow : OpenClaim := { program := "ytdlhbmncbmconaagreatdoor", sum := "3ae5bcce552d1e631a4c9fdb71518636fa6d17c5f9b351ecd82b78ce8c522ff7", func := "herald/heraldlaw.Logs", spec := "logs", inPlace := ["internal/bytealg.IndexByteString", "internal/bytealg.IndexString", "internal/abi.NoEscape", "internal/bytealg.MakeNoZero", "internal/bytealg.CountString"], unfollowed := true, recurses := true, named := ["herald/herald.wordKinds", "internal/bytealg.MaxLen", "unicode/utf8.first", "unicode/utf8.acceptRanges", "herald/herald.monthDays", "internal/strconv.uint64pow10", "math/bits.deBruijn32tab", "math/bits.deBruijn64tab", "herald/herald.monthNames", "herald/herald.ownNames", "herald/herald.severityNames"], apart := false, laid := [("math/bits.deBruijn32tab", laid_math_bits_deBruijn32tab), ("math/bits.deBruijn64tab", laid_math_bits_deBruijn64tab), ("internal/strconv.uint64pow10", laid_internal_strconv_uint64pow10), ("unicode/utf8.acceptRanges", laid_unicode_utf8_acceptRanges), ("herald/herald.ownNames", laid_herald_herald_ownNames), ("herald/herald.severityNames", laid_herald_herald_severityNames), ("herald/herald.monthNames", laid_herald_herald_monthNames), ("herald/herald.monthDays", laid_herald_herald_monthDays), ("herald/herald.wordKinds", laid_herald_herald_wordKinds), ("unicode/utf8.first", laid_unicode_utf8_first)], narrowed := true }
def LogsUptoSaid : Prop := logsUptoRow.holds Tryz.pinned (OpenSpec.upto logsSpec)

/-- 'heraldkeep.Back', WHERE WHAT IT READS IS OF BULK AT MOST 1048576: true; the input reads as it did. -/
def backUptoRow : OpenClaim := { program := "ytdlhbmncbmconaagreatdoor", sum := "3ae5bcce552d1e631a4c9fdb71518636fa6d17c5f9b351ecd82b78ce8c522ff7", func := "herald/heraldkeep.Back", spec := "back", inPlace := ["internal/bytealg.IndexByteString", "internal/bytealg.IndexString", "internal/abi.NoEscape", "internal/bytealg.MakeNoZero", "internal/bytealg.CountString"], unfollowed := true, recurses := true, named := ["herald/herald.wordKinds", "internal/bytealg.MaxLen", "unicode/utf8.first", "unicode/utf8.acceptRanges", "herald/herald.monthDays", "internal/strconv.uint64pow10", "math/bits.deBruijn32tab", "math/bits.deBruijn64tab", "herald/herald.monthNames", "herald/herald.ownNames", "herald/herald.severityNames"], apart := false, laid := [("math/bits.deBruijn32tab", laid_math_bits_deBruijn32tab), ("math/bits.deBruijn64tab", laid_math_bits_deBruijn64tab), ("internal/strconv.uint64pow10", laid_internal_strconv_uint64pow10), ("unicode/utf8.acceptRanges", laid_unicode_utf8_acceptRanges), ("herald/herald.ownNames", laid_herald_herald_ownNames), ("herald/herald.severityNames", laid_herald_herald_severityNames), ("herald/herald.monthNames", laid_herald_herald_monthNames), ("herald/herald.monthDays", laid_herald_herald_monthDays), ("herald/herald.wordKinds", laid_herald_herald_wordKinds), ("unicode/utf8.first", laid_unicode_utf8_first)], narrowed := true }
def BackUptoSaid : Prop := backUptoRow.holds Tryz.pinned (OpenSpec.upto backSpec)

/-- 'heraldkeep.Fixed', WHERE WHAT IT READS IS OF BULK AT MOST 1048576: true; the input reads as it did. -/
def fixedUptoRow : OpenClaim := { program := "ytdlhbmncbmconaagreatdoor", sum := "3ae5bcce552d1e631a4c9fdb71518636fa6d17c5f9b351ecd82b78ce8c522ff7", func := "herald/heraldkeep.Fixed", spec := "fixed", inPlace := ["internal/bytealg.IndexByteString", "internal/bytealg.IndexString", "internal/abi.NoEscape", "internal/bytealg.MakeNoZero", "internal/bytealg.CountString"], unfollowed := true, recurses := true, named := ["herald/herald.wordKinds", "internal/bytealg.MaxLen", "unicode/utf8.first", "unicode/utf8.acceptRanges", "herald/herald.monthDays", "internal/strconv.uint64pow10", "math/bits.deBruijn32tab", "math/bits.deBruijn64tab", "herald/herald.monthNames", "herald/herald.ownNames", "herald/herald.severityNames"], apart := false, laid := [("math/bits.deBruijn32tab", laid_math_bits_deBruijn32tab), ("math/bits.deBruijn64tab", laid_math_bits_deBruijn64tab), ("internal/strconv.uint64pow10", laid_internal_strconv_uint64pow10), ("unicode/utf8.acceptRanges", laid_unicode_utf8_acceptRanges), ("herald/herald.ownNames", laid_herald_herald_ownNames), ("herald/herald.severityNames", laid_herald_herald_severityNames), ("herald/herald.monthNames", laid_herald_herald_monthNames), ("herald/herald.monthDays", laid_herald_herald_monthDays), ("herald/herald.wordKinds", laid_herald_herald_wordKinds), ("unicode/utf8.first", laid_unicode_utf8_first)], narrowed := true }
def FixedUptoSaid : Prop := fixedUptoRow.holds Tryz.pinned (OpenSpec.upto fixedSpec)

/-- 'heraldkeep.Shifted', WHERE WHAT IT READS IS OF BULK AT MOST 1048576: true; the input reads as it did. -/
def shiftedUptoRow : OpenClaim := { program := "ytdlhbmncbmconaagreatdoor", sum := "3ae5bcce552d1e631a4c9fdb71518636fa6d17c5f9b351ecd82b78ce8c522ff7", func := "herald/heraldkeep.Shifted", spec := "shifted", inPlace := ["internal/bytealg.IndexByteString", "internal/bytealg.IndexString", "internal/abi.NoEscape", "internal/bytealg.MakeNoZero", "internal/bytealg.CountString"], unfollowed := true, recurses := true, named := ["herald/herald.wordKinds", "internal/bytealg.MaxLen", "unicode/utf8.first", "unicode/utf8.acceptRanges", "herald/herald.monthDays", "internal/strconv.uint64pow10", "math/bits.deBruijn32tab", "math/bits.deBruijn64tab", "herald/herald.monthNames", "herald/herald.ownNames", "herald/herald.severityNames"], apart := false, laid := [("math/bits.deBruijn32tab", laid_math_bits_deBruijn32tab), ("math/bits.deBruijn64tab", laid_math_bits_deBruijn64tab), ("internal/strconv.uint64pow10", laid_internal_strconv_uint64pow10), ("unicode/utf8.acceptRanges", laid_unicode_utf8_acceptRanges), ("herald/herald.ownNames", laid_herald_herald_ownNames), ("herald/herald.severityNames", laid_herald_herald_severityNames), ("herald/herald.monthNames", laid_herald_herald_monthNames), ("herald/herald.monthDays", laid_herald_herald_monthDays), ("herald/herald.wordKinds", laid_herald_herald_wordKinds), ("unicode/utf8.first", laid_unicode_utf8_first)], narrowed := true }
def ShiftedUptoSaid : Prop := shiftedUptoRow.holds Tryz.pinned (OpenSpec.upto shiftedSpec)

/-- 'heraldkeep.Old', WHERE WHAT IT READS IS OF BULK AT MOST 1048576: true; the input reads as it did. -/
def oldUptoRow : OpenClaim := { program := "ytdlhbmncbmconaagreatdoor", sum := "3ae5bcce552d1e631a4c9fdb71518636fa6d17c5f9b351ecd82b78ce8c522ff7", func := "herald/heraldkeep.Old", spec := "old", inPlace := ["internal/bytealg.IndexByteString", "internal/bytealg.IndexString", "internal/abi.NoEscape", "internal/bytealg.MakeNoZero", "internal/bytealg.CountString"], unfollowed := true, recurses := true, named := ["herald/herald.wordKinds", "internal/bytealg.MaxLen", "unicode/utf8.first", "unicode/utf8.acceptRanges", "herald/herald.monthDays", "internal/strconv.uint64pow10", "math/bits.deBruijn32tab", "math/bits.deBruijn64tab", "herald/herald.monthNames", "herald/herald.ownNames", "herald/herald.severityNames"], apart := false, laid := [("math/bits.deBruijn32tab", laid_math_bits_deBruijn32tab), ("math/bits.deBruijn64tab", laid_math_bits_deBruijn64tab), ("internal/strconv.uint64pow10", laid_internal_strconv_uint64pow10), ("unicode/utf8.acceptRanges", laid_unicode_utf8_acceptRanges), ("herald/herald.ownNames", laid_herald_herald_ownNames), ("herald/herald.severityNames", laid_herald_herald_severityNames), ("herald/herald.monthNames", laid_herald_herald_monthNames), ("herald/herald.monthDays", laid_herald_herald_monthDays), ("herald/herald.wordKinds", laid_herald_herald_wordKinds), ("unicode/utf8.first", laid_unicode_utf8_first)], narrowed := true }
def OldUptoSaid : Prop := oldUptoRow.holds Tryz.pinned (OpenSpec.upto oldSpec)

/-- 'heraldkeep.Cuts', WHERE WHAT IT READS IS OF BULK AT MOST 1048576: true; the input reads as it did. -/
def cutsUptoRow : OpenClaim := { program := "ytdlhbmncbmconaagreatdoor", sum := "3ae5bcce552d1e631a4c9fdb71518636fa6d17c5f9b351ecd82b78ce8c522ff7", func := "herald/heraldkeep.Cuts", spec := "cuts", inPlace := ["internal/bytealg.IndexByteString", "internal/bytealg.IndexString", "internal/abi.NoEscape", "internal/bytealg.MakeNoZero", "internal/bytealg.CountString"], unfollowed := true, recurses := true, named := ["herald/herald.wordKinds", "internal/bytealg.MaxLen", "unicode/utf8.first", "unicode/utf8.acceptRanges", "herald/herald.monthDays", "internal/strconv.uint64pow10", "math/bits.deBruijn32tab", "math/bits.deBruijn64tab", "herald/herald.monthNames", "herald/herald.ownNames", "herald/herald.severityNames"], apart := false, laid := [("math/bits.deBruijn32tab", laid_math_bits_deBruijn32tab), ("math/bits.deBruijn64tab", laid_math_bits_deBruijn64tab), ("internal/strconv.uint64pow10", laid_internal_strconv_uint64pow10), ("unicode/utf8.acceptRanges", laid_unicode_utf8_acceptRanges), ("herald/herald.ownNames", laid_herald_herald_ownNames), ("herald/herald.severityNames", laid_herald_herald_severityNames), ("herald/herald.monthNames", laid_herald_herald_monthNames), ("herald/herald.monthDays", laid_herald_herald_monthDays), ("herald/herald.wordKinds", laid_herald_herald_wordKinds), ("unicode/utf8.first", laid_unicode_utf8_first)], narrowed := true }
def CutsUptoSaid : Prop := cutsUptoRow.holds Tryz.pinned (OpenSpec.upto cutsSpec)

/-- 'heraldkeep.Framed', WHERE WHAT IT READS IS OF BULK AT MOST 1048576: true; the input reads as it did. -/
def framedUptoRow : OpenClaim := { program := "ytdlhbmncbmconaagreatdoor", sum := "3ae5bcce552d1e631a4c9fdb71518636fa6d17c5f9b351ecd82b78ce8c522ff7", func := "herald/heraldkeep.Framed", spec := "framed", inPlace := ["internal/bytealg.IndexByteString", "internal/bytealg.IndexString", "internal/abi.NoEscape", "internal/bytealg.MakeNoZero", "internal/bytealg.CountString"], unfollowed := true, recurses := true, named := ["herald/herald.wordKinds", "internal/bytealg.MaxLen", "unicode/utf8.first", "unicode/utf8.acceptRanges", "herald/herald.monthDays", "internal/strconv.uint64pow10", "math/bits.deBruijn32tab", "math/bits.deBruijn64tab", "herald/herald.monthNames", "herald/herald.ownNames", "herald/herald.severityNames"], apart := false, laid := [("math/bits.deBruijn32tab", laid_math_bits_deBruijn32tab), ("math/bits.deBruijn64tab", laid_math_bits_deBruijn64tab), ("internal/strconv.uint64pow10", laid_internal_strconv_uint64pow10), ("unicode/utf8.acceptRanges", laid_unicode_utf8_acceptRanges), ("herald/herald.ownNames", laid_herald_herald_ownNames), ("herald/herald.severityNames", laid_herald_herald_severityNames), ("herald/herald.monthNames", laid_herald_herald_monthNames), ("herald/herald.monthDays", laid_herald_herald_monthDays), ("herald/herald.wordKinds", laid_herald_herald_wordKinds), ("unicode/utf8.first", laid_unicode_utf8_first)], narrowed := true }
def FramedUptoSaid : Prop := framedUptoRow.holds Tryz.pinned (OpenSpec.upto framedSpec)

/-- 'heraldkeep.Decided', WHERE WHAT IT READS IS OF BULK AT MOST 1048576: true; the input reads as it did. -/
def decidedUptoRow : OpenClaim := { program := "ytdlhbmncbmconaagreatdoor", sum := "3ae5bcce552d1e631a4c9fdb71518636fa6d17c5f9b351ecd82b78ce8c522ff7", func := "herald/heraldkeep.Decided", spec := "decided", inPlace := ["internal/bytealg.IndexByteString", "internal/bytealg.IndexString", "internal/abi.NoEscape", "internal/bytealg.MakeNoZero", "internal/bytealg.CountString"], unfollowed := true, recurses := true, named := ["herald/herald.wordKinds", "internal/bytealg.MaxLen", "unicode/utf8.first", "unicode/utf8.acceptRanges", "herald/herald.monthDays", "internal/strconv.uint64pow10", "math/bits.deBruijn32tab", "math/bits.deBruijn64tab", "herald/herald.monthNames", "herald/herald.ownNames", "herald/herald.severityNames"], apart := false, laid := [("math/bits.deBruijn32tab", laid_math_bits_deBruijn32tab), ("math/bits.deBruijn64tab", laid_math_bits_deBruijn64tab), ("internal/strconv.uint64pow10", laid_internal_strconv_uint64pow10), ("unicode/utf8.acceptRanges", laid_unicode_utf8_acceptRanges), ("herald/herald.ownNames", laid_herald_herald_ownNames), ("herald/herald.severityNames", laid_herald_herald_severityNames), ("herald/herald.monthNames", laid_herald_herald_monthNames), ("herald/herald.monthDays", laid_herald_herald_monthDays), ("herald/herald.wordKinds", laid_herald_herald_wordKinds), ("unicode/utf8.first", laid_unicode_utf8_first)], narrowed := true }
def DecidedUptoSaid : Prop := decidedUptoRow.holds Tryz.pinned (OpenSpec.upto decidedSpec)

/-- 'heraldkeep.Logged', WHERE WHAT IT READS IS OF BULK AT MOST 1048576: true; the input reads as it did. -/
def loggedUptoRow : OpenClaim := { program := "ytdlhbmncbmconaagreatdoor", sum := "3ae5bcce552d1e631a4c9fdb71518636fa6d17c5f9b351ecd82b78ce8c522ff7", func := "herald/heraldkeep.Logged", spec := "logged", inPlace := ["internal/bytealg.IndexByteString", "internal/bytealg.IndexString", "internal/abi.NoEscape", "internal/bytealg.MakeNoZero", "internal/bytealg.CountString"], unfollowed := true, recurses := true, named := ["herald/herald.wordKinds", "internal/bytealg.MaxLen", "unicode/utf8.first", "unicode/utf8.acceptRanges", "herald/herald.monthDays", "internal/strconv.uint64pow10", "math/bits.deBruijn32tab", "math/bits.deBruijn64tab", "herald/herald.monthNames", "herald/herald.ownNames", "herald/herald.severityNames"], apart := false, laid := [("math/bits.deBruijn32tab", laid_math_bits_deBruijn32tab), ("math/bits.deBruijn64tab", laid_math_bits_deBruijn64tab), ("internal/strconv.uint64pow10", laid_internal_strconv_uint64pow10), ("unicode/utf8.acceptRanges", laid_unicode_utf8_acceptRanges), ("herald/herald.ownNames", laid_herald_herald_ownNames), ("herald/herald.severityNames", laid_herald_herald_severityNames), ("herald/herald.monthNames", laid_herald_herald_monthNames), ("herald/herald.monthDays", laid_herald_herald_monthDays), ("herald/herald.wordKinds", laid_herald_herald_wordKinds), ("unicode/utf8.first", laid_unicode_utf8_first)], narrowed := true }
def LoggedUptoSaid : Prop := loggedUptoRow.holds Tryz.pinned (OpenSpec.upto loggedSpec)

/-- 'heraldkeep.Opened', WHERE WHAT IT READS IS OF BULK AT MOST 1048576: true; the input reads as it did. -/
def openedUptoRow : OpenClaim := { program := "ytdlhbmncbmconaagreatdoor", sum := "3ae5bcce552d1e631a4c9fdb71518636fa6d17c5f9b351ecd82b78ce8c522ff7", func := "herald/heraldkeep.Opened", spec := "opened", inPlace := ["internal/bytealg.IndexByteString", "internal/bytealg.IndexString", "internal/abi.NoEscape", "internal/bytealg.MakeNoZero", "internal/bytealg.CountString"], unfollowed := true, recurses := true, named := ["herald/herald.wordKinds", "internal/bytealg.MaxLen", "unicode/utf8.first", "unicode/utf8.acceptRanges", "herald/herald.monthDays", "internal/strconv.uint64pow10", "math/bits.deBruijn32tab", "math/bits.deBruijn64tab", "herald/herald.monthNames", "herald/herald.ownNames", "herald/herald.severityNames"], apart := false, laid := [("math/bits.deBruijn32tab", laid_math_bits_deBruijn32tab), ("math/bits.deBruijn64tab", laid_math_bits_deBruijn64tab), ("internal/strconv.uint64pow10", laid_internal_strconv_uint64pow10), ("unicode/utf8.acceptRanges", laid_unicode_utf8_acceptRanges), ("herald/herald.ownNames", laid_herald_herald_ownNames), ("herald/herald.severityNames", laid_herald_herald_severityNames), ("herald/herald.monthNames", laid_herald_herald_monthNames), ("herald/herald.monthDays", laid_herald_herald_monthDays), ("herald/herald.wordKinds", laid_herald_herald_wordKinds), ("unicode/utf8.first", laid_unicode_utf8_first)], narrowed := true }
def OpenedUptoSaid : Prop := openedUptoRow.holds Tryz.pinned (OpenSpec.upto openedSpec)

/-- 'heraldkeep.Relayed', WHERE WHAT IT READS IS OF BULK AT MOST 1048576: true; the input reads as it did. -/
def relayedUptoRow : OpenClaim := { program := "ytdlhbmncbmconaagreatdoor", sum := "3ae5bcce552d1e631a4c9fdb71518636fa6d17c5f9b351ecd82b78ce8c522ff7", func := "herald/heraldkeep.Relayed", spec := "relayed", inPlace := ["internal/bytealg.IndexByteString", "internal/bytealg.IndexString", "internal/abi.NoEscape", "internal/bytealg.MakeNoZero", "internal/bytealg.CountString"], unfollowed := true, recurses := true, named := ["herald/herald.wordKinds", "internal/bytealg.MaxLen", "unicode/utf8.first", "unicode/utf8.acceptRanges", "herald/herald.monthDays", "internal/strconv.uint64pow10", "math/bits.deBruijn32tab", "math/bits.deBruijn64tab", "herald/herald.monthNames", "herald/herald.ownNames", "herald/herald.severityNames"], apart := false, laid := [("math/bits.deBruijn32tab", laid_math_bits_deBruijn32tab), ("math/bits.deBruijn64tab", laid_math_bits_deBruijn64tab), ("internal/strconv.uint64pow10", laid_internal_strconv_uint64pow10), ("unicode/utf8.acceptRanges", laid_unicode_utf8_acceptRanges), ("herald/herald.ownNames", laid_herald_herald_ownNames), ("herald/herald.severityNames", laid_herald_herald_severityNames), ("herald/herald.monthNames", laid_herald_herald_monthNames), ("herald/herald.monthDays", laid_herald_herald_monthDays), ("herald/herald.wordKinds", laid_herald_herald_wordKinds), ("unicode/utf8.first", laid_unicode_utf8_first)], narrowed := true }
def RelayedUptoSaid : Prop := relayedUptoRow.holds Tryz.pinned (OpenSpec.upto relayedSpec)

/-- 'heraldlaw.All', WHERE WHAT IT READS IS OF BULK AT MOST 1048576: true; the input reads as it did. -/
def allUptoRow : OpenClaim := { program := "ytdlhbmncbmconaagreatdoor", sum := "3ae5bcce552d1e631a4c9fdb71518636fa6d17c5f9b351ecd82b78ce8c522ff7", func := "herald/heraldlaw.All", spec := "all", inPlace := ["internal/bytealg.IndexByteString", "internal/bytealg.IndexString", "internal/abi.NoEscape", "internal/bytealg.MakeNoZero", "internal/bytealg.CountString"], unfollowed := true, recurses := true, named := ["herald/herald.wordKinds", "internal/bytealg.MaxLen", "unicode/utf8.first", "unicode/utf8.acceptRanges", "herald/herald.monthDays", "internal/strconv.uint64pow10", "math/bits.deBruijn32tab", "math/bits.deBruijn64tab", "herald/herald.monthNames", "herald/herald.ownNames", "herald/herald.severityNames"], apart := false, laid := [("math/bits.deBruijn32tab", laid_math_bits_deBruijn32tab), ("math/bits.deBruijn64tab", laid_math_bits_deBruijn64tab), ("internal/strconv.uint64pow10", laid_internal_strconv_uint64pow10), ("unicode/utf8.acceptRanges", laid_unicode_utf8_acceptRanges), ("herald/herald.ownNames", laid_herald_herald_ownNames), ("herald/herald.severityNames", laid_herald_herald_severityNames), ("herald/herald.monthNames", laid_herald_herald_monthNames), ("herald/herald.monthDays", laid_herald_herald_monthDays), ("herald/herald.wordKinds", laid_herald_herald_wordKinds), ("unicode/utf8.first", laid_unicode_utf8_first)], narrowed := true }
def AllUptoSaid : Prop := allUptoRow.holds Tryz.pinned (OpenSpec.upto allSpec)

end Rows
end Go.Proofs.YtdlhbmncbmconaaGreatDoor

/-
  DERIVED. GIVEN WITH THE SEED: THE CARDS: each row of YtdlhbmncbmconaaGreatDoorRows.lean that lists a variable, with what it lists TIED to the program's text (the seventh form; the later family's looks); each row that meets fmt, with fmt's text TOLD by the authors' own Lean function (tested against real Go, not proved from fmt's source: count such statements apart). THE CARD IS WHAT COUNTS. Prove the row's statement (the work); the ties are given (YtdlhbmncbmconaaGreatDoorTie.lean); close each card by the builder's one call (the guide's Derived/Test/ToyasCard.lean, 'card_holds'). Laid BY PROGRAM, IN A SANDBOX (cutbox-door.mjs). By AI agents, Wed Nov 11 2026. No macro, syntax, notation, axiom, sorry.
-/
import Derived.Test.YtdlhbmncbmconaaGreatDoorRows
import GoSem.ClaimSeven
namespace Go.Proofs.YtdlhbmncbmconaaGreatDoor
namespace Rows

/-- THE TIED CARD OF 'heraldlaw.Messages'. -/
def messagesCard : Claim7 := { stood := { row := messagesRow, standIns := [], harness := (true, "a36a7379a9cc0c2b30196a437df927381828a124c5e396477e3dd80cc5ec5b07"), looks := false }, kinds := [], alts := [], laidByText := true, laidKinds := [.data, .data, .data, .data, .data, .data, .data, .data, .data, .pinned], laidTests := true, laidLooks := .later }
def MessagesCardSaid : Prop := Claim7.holds Tryz.pinned (.plain (OpenSpec.ofChange messagesSpec)) messagesCard

/-- THE TIED CARD OF 'heraldlaw.Sorted'. -/
def sortedCard : Claim7 := { stood := { row := sortedRow, standIns := [], harness := (true, "a36a7379a9cc0c2b30196a437df927381828a124c5e396477e3dd80cc5ec5b07"), looks := false }, kinds := [], alts := [], laidByText := true, laidKinds := [.data, .data, .data, .data, .data, .data, .data, .data, .data, .pinned], laidTests := true, laidLooks := .later }
def SortedCardSaid : Prop := Claim7.holds Tryz.pinned (.plain (OpenSpec.ofChange sortedSpec)) sortedCard

/-- THE TIED CARD OF 'heraldlaw.Logs'. -/
def logsCard : Claim7 := { stood := { row := logsRow, standIns := [], harness := (true, "a36a7379a9cc0c2b30196a437df927381828a124c5e396477e3dd80cc5ec5b07"), looks := false }, kinds := [], alts := [], laidByText := true, laidKinds := [.data, .data, .data, .data, .data, .data, .data, .data, .data, .pinned], laidTests := true, laidLooks := .later }
def LogsCardSaid : Prop := Claim7.holds Tryz.pinned (.plain (OpenSpec.ofChange logsSpec)) logsCard

/-- THE TIED CARD OF 'heraldkeep.Back'. -/
def backCard : Claim7 := { stood := { row := backRow, standIns := [], harness := (true, "a36a7379a9cc0c2b30196a437df927381828a124c5e396477e3dd80cc5ec5b07"), looks := false }, kinds := [], alts := [], laidByText := true, laidKinds := [.data, .data, .data, .data, .data, .data, .data, .data, .data, .pinned], laidTests := true, laidLooks := .later }
def BackCardSaid : Prop := Claim7.holds Tryz.pinned (.plain (OpenSpec.ofChange backSpec)) backCard

/-- THE TIED CARD OF 'heraldkeep.Fixed'. -/
def fixedCard : Claim7 := { stood := { row := fixedRow, standIns := [], harness := (true, "a36a7379a9cc0c2b30196a437df927381828a124c5e396477e3dd80cc5ec5b07"), looks := false }, kinds := [], alts := [], laidByText := true, laidKinds := [.data, .data, .data, .data, .data, .data, .data, .data, .data, .pinned], laidTests := true, laidLooks := .later }
def FixedCardSaid : Prop := Claim7.holds Tryz.pinned (.plain (OpenSpec.ofChange fixedSpec)) fixedCard

/-- THE TIED CARD OF 'heraldkeep.Shifted'. -/
def shiftedCard : Claim7 := { stood := { row := shiftedRow, standIns := [], harness := (true, "a36a7379a9cc0c2b30196a437df927381828a124c5e396477e3dd80cc5ec5b07"), looks := false }, kinds := [], alts := [], laidByText := true, laidKinds := [.data, .data, .data, .data, .data, .data, .data, .data, .data, .pinned], laidTests := true, laidLooks := .later }
def ShiftedCardSaid : Prop := Claim7.holds Tryz.pinned (.plain (OpenSpec.ofChange shiftedSpec)) shiftedCard

/-- THE TIED CARD OF 'heraldkeep.Old'. -/
def oldCard : Claim7 := { stood := { row := oldRow, standIns := [], harness := (true, "a36a7379a9cc0c2b30196a437df927381828a124c5e396477e3dd80cc5ec5b07"), looks := false }, kinds := [], alts := [], laidByText := true, laidKinds := [.data, .data, .data, .data, .data, .data, .data, .data, .data, .pinned], laidTests := true, laidLooks := .later }
def OldCardSaid : Prop := Claim7.holds Tryz.pinned (.plain (OpenSpec.ofChange oldSpec)) oldCard

/-- THE TIED CARD OF 'heraldkeep.Cuts'. -/
def cutsCard : Claim7 := { stood := { row := cutsRow, standIns := [], harness := (true, "a36a7379a9cc0c2b30196a437df927381828a124c5e396477e3dd80cc5ec5b07"), looks := false }, kinds := [], alts := [], laidByText := true, laidKinds := [.data, .data, .data, .data, .data, .data, .data, .data, .data, .pinned], laidTests := true, laidLooks := .later }
def CutsCardSaid : Prop := Claim7.holds Tryz.pinned (.plain (OpenSpec.ofChange cutsSpec)) cutsCard

/-- THE TIED CARD OF 'heraldkeep.Framed'. -/
def framedCard : Claim7 := { stood := { row := framedRow, standIns := [], harness := (true, "a36a7379a9cc0c2b30196a437df927381828a124c5e396477e3dd80cc5ec5b07"), looks := false }, kinds := [], alts := [], laidByText := true, laidKinds := [.data, .data, .data, .data, .data, .data, .data, .data, .data, .pinned], laidTests := true, laidLooks := .later }
def FramedCardSaid : Prop := Claim7.holds Tryz.pinned (.plain (OpenSpec.ofChange framedSpec)) framedCard

/-- THE TIED CARD OF 'heraldkeep.Decided'. -/
def decidedCard : Claim7 := { stood := { row := decidedRow, standIns := [], harness := (true, "a36a7379a9cc0c2b30196a437df927381828a124c5e396477e3dd80cc5ec5b07"), looks := false }, kinds := [], alts := [], laidByText := true, laidKinds := [.data, .data, .data, .data, .data, .data, .data, .data, .data, .pinned], laidTests := true, laidLooks := .later }
def DecidedCardSaid : Prop := Claim7.holds Tryz.pinned (.plain (OpenSpec.ofChange decidedSpec)) decidedCard

/-- THE TIED CARD OF 'heraldkeep.Logged'. -/
def loggedCard : Claim7 := { stood := { row := loggedRow, standIns := [], harness := (true, "a36a7379a9cc0c2b30196a437df927381828a124c5e396477e3dd80cc5ec5b07"), looks := false }, kinds := [], alts := [], laidByText := true, laidKinds := [.data, .data, .data, .data, .data, .data, .data, .data, .data, .pinned], laidTests := true, laidLooks := .later }
def LoggedCardSaid : Prop := Claim7.holds Tryz.pinned (.plain (OpenSpec.ofChange loggedSpec)) loggedCard

/-- THE TIED CARD OF 'heraldkeep.Opened'. -/
def openedCard : Claim7 := { stood := { row := openedRow, standIns := [], harness := (true, "a36a7379a9cc0c2b30196a437df927381828a124c5e396477e3dd80cc5ec5b07"), looks := false }, kinds := [], alts := [], laidByText := true, laidKinds := [.data, .data, .data, .data, .data, .data, .data, .data, .data, .pinned], laidTests := true, laidLooks := .later }
def OpenedCardSaid : Prop := Claim7.holds Tryz.pinned (.plain (OpenSpec.ofChange openedSpec)) openedCard

/-- THE TIED CARD OF 'heraldkeep.Relayed'. -/
def relayedCard : Claim7 := { stood := { row := relayedRow, standIns := [], harness := (true, "a36a7379a9cc0c2b30196a437df927381828a124c5e396477e3dd80cc5ec5b07"), looks := false }, kinds := [], alts := [], laidByText := true, laidKinds := [.data, .data, .data, .data, .data, .data, .data, .data, .data, .pinned], laidTests := true, laidLooks := .later }
def RelayedCardSaid : Prop := Claim7.holds Tryz.pinned (.plain (OpenSpec.ofChange relayedSpec)) relayedCard

/-- THE TIED CARD OF 'heraldlaw.All'. -/
def allCard : Claim7 := { stood := { row := allRow, standIns := [], harness := (true, "a36a7379a9cc0c2b30196a437df927381828a124c5e396477e3dd80cc5ec5b07"), looks := false }, kinds := [], alts := [], laidByText := true, laidKinds := [.data, .data, .data, .data, .data, .data, .data, .data, .data, .pinned], laidTests := true, laidLooks := .later }
def AllCardSaid : Prop := Claim7.holds Tryz.pinned (.plain (OpenSpec.ofChange allSpec)) allCard

/-- THE SECOND FORM's CARD OF 'heraldlaw.Messages'. -/
def messagesUptoCard : Claim7 := { stood := { row := messagesUptoRow, standIns := [], harness := (true, "a36a7379a9cc0c2b30196a437df927381828a124c5e396477e3dd80cc5ec5b07"), looks := false }, kinds := [], alts := [], laidByText := true, laidKinds := [.data, .data, .data, .data, .data, .data, .data, .data, .data, .pinned], laidTests := true, laidLooks := .later }
def MessagesUptoCardSaid : Prop := Claim7.holds Tryz.pinned (.plain (OpenSpec.upto messagesSpec)) messagesUptoCard

/-- THE SECOND FORM's CARD OF 'heraldlaw.Sorted'. -/
def sortedUptoCard : Claim7 := { stood := { row := sortedUptoRow, standIns := [], harness := (true, "a36a7379a9cc0c2b30196a437df927381828a124c5e396477e3dd80cc5ec5b07"), looks := false }, kinds := [], alts := [], laidByText := true, laidKinds := [.data, .data, .data, .data, .data, .data, .data, .data, .data, .pinned], laidTests := true, laidLooks := .later }
def SortedUptoCardSaid : Prop := Claim7.holds Tryz.pinned (.plain (OpenSpec.upto sortedSpec)) sortedUptoCard

/-- THE SECOND FORM's CARD OF 'heraldlaw.Logs'. -/
def logsUptoCard : Claim7 := { stood := { row := logsUptoRow, standIns := [], harness := (true, "a36a7379a9cc0c2b30196a437df927381828a124c5e396477e3dd80cc5ec5b07"), looks := false }, kinds := [], alts := [], laidByText := true, laidKinds := [.data, .data, .data, .data, .data, .data, .data, .data, .data, .pinned], laidTests := true, laidLooks := .later }
def LogsUptoCardSaid : Prop := Claim7.holds Tryz.pinned (.plain (OpenSpec.upto logsSpec)) logsUptoCard

/-- THE SECOND FORM's CARD OF 'heraldkeep.Back'. -/
def backUptoCard : Claim7 := { stood := { row := backUptoRow, standIns := [], harness := (true, "a36a7379a9cc0c2b30196a437df927381828a124c5e396477e3dd80cc5ec5b07"), looks := false }, kinds := [], alts := [], laidByText := true, laidKinds := [.data, .data, .data, .data, .data, .data, .data, .data, .data, .pinned], laidTests := true, laidLooks := .later }
def BackUptoCardSaid : Prop := Claim7.holds Tryz.pinned (.plain (OpenSpec.upto backSpec)) backUptoCard

/-- THE SECOND FORM's CARD OF 'heraldkeep.Fixed'. -/
def fixedUptoCard : Claim7 := { stood := { row := fixedUptoRow, standIns := [], harness := (true, "a36a7379a9cc0c2b30196a437df927381828a124c5e396477e3dd80cc5ec5b07"), looks := false }, kinds := [], alts := [], laidByText := true, laidKinds := [.data, .data, .data, .data, .data, .data, .data, .data, .data, .pinned], laidTests := true, laidLooks := .later }
def FixedUptoCardSaid : Prop := Claim7.holds Tryz.pinned (.plain (OpenSpec.upto fixedSpec)) fixedUptoCard

/-- THE SECOND FORM's CARD OF 'heraldkeep.Shifted'. -/
def shiftedUptoCard : Claim7 := { stood := { row := shiftedUptoRow, standIns := [], harness := (true, "a36a7379a9cc0c2b30196a437df927381828a124c5e396477e3dd80cc5ec5b07"), looks := false }, kinds := [], alts := [], laidByText := true, laidKinds := [.data, .data, .data, .data, .data, .data, .data, .data, .data, .pinned], laidTests := true, laidLooks := .later }
def ShiftedUptoCardSaid : Prop := Claim7.holds Tryz.pinned (.plain (OpenSpec.upto shiftedSpec)) shiftedUptoCard

/-- THE SECOND FORM's CARD OF 'heraldkeep.Old'. -/
def oldUptoCard : Claim7 := { stood := { row := oldUptoRow, standIns := [], harness := (true, "a36a7379a9cc0c2b30196a437df927381828a124c5e396477e3dd80cc5ec5b07"), looks := false }, kinds := [], alts := [], laidByText := true, laidKinds := [.data, .data, .data, .data, .data, .data, .data, .data, .data, .pinned], laidTests := true, laidLooks := .later }
def OldUptoCardSaid : Prop := Claim7.holds Tryz.pinned (.plain (OpenSpec.upto oldSpec)) oldUptoCard

/-- THE SECOND FORM's CARD OF 'heraldkeep.Cuts'. -/
def cutsUptoCard : Claim7 := { stood := { row := cutsUptoRow, standIns := [], harness := (true, "a36a7379a9cc0c2b30196a437df927381828a124c5e396477e3dd80cc5ec5b07"), looks := false }, kinds := [], alts := [], laidByText := true, laidKinds := [.data, .data, .data, .data, .data, .data, .data, .data, .data, .pinned], laidTests := true, laidLooks := .later }
def CutsUptoCardSaid : Prop := Claim7.holds Tryz.pinned (.plain (OpenSpec.upto cutsSpec)) cutsUptoCard

/-- THE SECOND FORM's CARD OF 'heraldkeep.Framed'. -/
def framedUptoCard : Claim7 := { stood := { row := framedUptoRow, standIns := [], harness := (true, "a36a7379a9cc0c2b30196a437df927381828a124c5e396477e3dd80cc5ec5b07"), looks := false }, kinds := [], alts := [], laidByText := true, laidKinds := [.data, .data, .data, .data, .data, .data, .data, .data, .data, .pinned], laidTests := true, laidLooks := .later }
def FramedUptoCardSaid : Prop := Claim7.holds Tryz.pinned (.plain (OpenSpec.upto framedSpec)) framedUptoCard

/-- THE SECOND FORM's CARD OF 'heraldkeep.Decided'. -/
def decidedUptoCard : Claim7 := { stood := { row := decidedUptoRow, standIns := [], harness := (true, "a36a7379a9cc0c2b30196a437df927381828a124c5e396477e3dd80cc5ec5b07"), looks := false }, kinds := [], alts := [], laidByText := true, laidKinds := [.data, .data, .data, .data, .data, .data, .data, .data, .data, .pinned], laidTests := true, laidLooks := .later }
def DecidedUptoCardSaid : Prop := Claim7.holds Tryz.pinned (.plain (OpenSpec.upto decidedSpec)) decidedUptoCard

/-- THE SECOND FORM's CARD OF 'heraldkeep.Logged'. -/
def loggedUptoCard : Claim7 := { stood := { row := loggedUptoRow, standIns := [], harness := (true, "a36a7379a9cc0c2b30196a437df927381828a124c5e396477e3dd80cc5ec5b07"), looks := false }, kinds := [], alts := [], laidByText := true, laidKinds := [.data, .data, .data, .data, .data, .data, .data, .data, .data, .pinned], laidTests := true, laidLooks := .later }
def LoggedUptoCardSaid : Prop := Claim7.holds Tryz.pinned (.plain (OpenSpec.upto loggedSpec)) loggedUptoCard

/-- THE SECOND FORM's CARD OF 'heraldkeep.Opened'. -/
def openedUptoCard : Claim7 := { stood := { row := openedUptoRow, standIns := [], harness := (true, "a36a7379a9cc0c2b30196a437df927381828a124c5e396477e3dd80cc5ec5b07"), looks := false }, kinds := [], alts := [], laidByText := true, laidKinds := [.data, .data, .data, .data, .data, .data, .data, .data, .data, .pinned], laidTests := true, laidLooks := .later }
def OpenedUptoCardSaid : Prop := Claim7.holds Tryz.pinned (.plain (OpenSpec.upto openedSpec)) openedUptoCard

/-- THE SECOND FORM's CARD OF 'heraldkeep.Relayed'. -/
def relayedUptoCard : Claim7 := { stood := { row := relayedUptoRow, standIns := [], harness := (true, "a36a7379a9cc0c2b30196a437df927381828a124c5e396477e3dd80cc5ec5b07"), looks := false }, kinds := [], alts := [], laidByText := true, laidKinds := [.data, .data, .data, .data, .data, .data, .data, .data, .data, .pinned], laidTests := true, laidLooks := .later }
def RelayedUptoCardSaid : Prop := Claim7.holds Tryz.pinned (.plain (OpenSpec.upto relayedSpec)) relayedUptoCard

/-- THE SECOND FORM's CARD OF 'heraldlaw.All'. -/
def allUptoCard : Claim7 := { stood := { row := allUptoRow, standIns := [], harness := (true, "a36a7379a9cc0c2b30196a437df927381828a124c5e396477e3dd80cc5ec5b07"), looks := false }, kinds := [], alts := [], laidByText := true, laidKinds := [.data, .data, .data, .data, .data, .data, .data, .data, .data, .pinned], laidTests := true, laidLooks := .later }
def AllUptoCardSaid : Prop := Claim7.holds Tryz.pinned (.plain (OpenSpec.upto allSpec)) allUptoCard
end Rows
end Go.Proofs.YtdlhbmncbmconaaGreatDoor

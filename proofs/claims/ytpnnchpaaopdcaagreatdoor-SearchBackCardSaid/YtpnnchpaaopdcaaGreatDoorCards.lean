/-
  DERIVED. GIVEN WITH THE SEED: THE CARDS: each row of YtpnnchpaaopdcaaGreatDoorRows.lean that lists a variable, with what it lists TIED to the program's text (the seventh form; the later family's looks); each row that meets fmt, with fmt's text TOLD by the authors' own Lean function (tested against real Go, not proved from fmt's source: count such statements apart). THE CARD IS WHAT COUNTS. Prove the row's statement (the work); the ties are given (YtpnnchpaaopdcaaGreatDoorTie.lean); close each card by the builder's one call (the guide's Derived/Test/ToyasCard.lean, 'card_holds'). Laid BY PROGRAM, IN A SANDBOX (cutbox-door.mjs). By AI agents, Wed Nov 11 2026. No macro, syntax, notation, axiom, sorry.
-/
import Derived.Test.YtpnnchpaaopdcaaGreatDoorRows
import GoSem.ClaimSeven
namespace Go.Proofs.YtpnnchpaaopdcaaGreatDoor
namespace Rows

/-- THE TIED CARD OF 'postchaiselaw14.SearchTells'. -/
def searchTellsCard : Claim7 := { stood := { row := searchTellsRow, standIns := [], harness := (true, "7c9bcc3504fdb663d287cc29e347763f33ca12ea0749d3c6e8a3ad60d713e389"), looks := true }, kinds := [], alts := [], laidByText := true, laidKinds := [.data, .data, .data, .data, .sentinel, .sentinel, .data, .data, .pinned], laidTests := true, laidLooks := .later }
def SearchTellsCardSaid : Prop := Claim7.holds Tryz.pinned (.plain (OpenSpec.ofChange searchTellsSpec)) searchTellsCard

/-- THE TIED CARD OF 'postchaiselaw14.SearchReads'. -/
def searchReadsCard : Claim7 := { stood := { row := searchReadsRow, standIns := [], harness := (true, "7c9bcc3504fdb663d287cc29e347763f33ca12ea0749d3c6e8a3ad60d713e389"), looks := true }, kinds := [], alts := [], laidByText := true, laidKinds := [.data, .data, .data, .data, .sentinel, .sentinel, .data, .data, .pinned], laidTests := true, laidLooks := .later }
def SearchReadsCardSaid : Prop := Claim7.holds Tryz.pinned (.plain (OpenSpec.ofChange searchReadsSpec)) searchReadsCard

/-- THE TIED CARD OF 'postchaiselaw14.SearchBack'. -/
def searchBackCard : Claim7 := { stood := { row := searchBackRow, standIns := [], harness := (true, "7c9bcc3504fdb663d287cc29e347763f33ca12ea0749d3c6e8a3ad60d713e389"), looks := true }, kinds := [], alts := [], laidByText := true, laidKinds := [.data, .data, .data, .data, .sentinel, .sentinel, .data, .data, .pinned], laidTests := true, laidLooks := .later }
def SearchBackCardSaid : Prop := Claim7.holds Tryz.pinned (.plain (OpenSpec.ofChange searchBackSpec)) searchBackCard

/-- THE TIED CARD OF 'postchaiselaw14.SearchLogic'. -/
def searchLogicCard : Claim7 := { stood := { row := searchLogicRow, standIns := [], harness := (true, "7c9bcc3504fdb663d287cc29e347763f33ca12ea0749d3c6e8a3ad60d713e389"), looks := true }, kinds := [], alts := [], laidByText := true, laidKinds := [.data, .data, .data, .data, .sentinel, .sentinel, .data, .data, .pinned], laidTests := true, laidLooks := .later }
def SearchLogicCardSaid : Prop := Claim7.holds Tryz.pinned (.plain (OpenSpec.ofChange searchLogicSpec)) searchLogicCard

/-- THE TIED CARD OF 'postchaiselaw15.CommandTells'. -/
def commandTellsCard : Claim7 := { stood := { row := commandTellsRow, standIns := [], harness := (true, "7c9bcc3504fdb663d287cc29e347763f33ca12ea0749d3c6e8a3ad60d713e389"), looks := true }, kinds := [], alts := [], laidByText := true, laidKinds := [.data, .data, .data, .data, .sentinel, .sentinel, .data, .data, .data, .data, .data, .data, .pinned], laidTests := true, laidLooks := .later }
def CommandTellsCardSaid : Prop := Claim7.holds Tryz.pinned (.plain (OpenSpec.ofChange commandTellsSpec)) commandTellsCard

/-- THE TIED CARD OF 'postchaiselaw15.CommandParses'. -/
def commandParsesCard : Claim7 := { stood := { row := commandParsesRow, standIns := [], harness := (true, "7c9bcc3504fdb663d287cc29e347763f33ca12ea0749d3c6e8a3ad60d713e389"), looks := true }, kinds := [], alts := [], laidByText := true, laidKinds := [.data, .data, .data, .data, .sentinel, .sentinel, .data, .data, .data, .data, .data, .data, .pinned], laidTests := true, laidLooks := .later }
def CommandParsesCardSaid : Prop := Claim7.holds Tryz.pinned (.plain (OpenSpec.ofChange commandParsesSpec)) commandParsesCard

/-- THE TIED CARD OF 'postchaiselaw15.CommandBack'. -/
def commandBackCard : Claim7 := { stood := { row := commandBackRow, standIns := [], harness := (true, "7c9bcc3504fdb663d287cc29e347763f33ca12ea0749d3c6e8a3ad60d713e389"), looks := true }, kinds := [], alts := [], laidByText := true, laidKinds := [.data, .data, .data, .data, .sentinel, .sentinel, .data, .data, .data, .data, .data, .data, .pinned], laidTests := true, laidLooks := .later }
def CommandBackCardSaid : Prop := Claim7.holds Tryz.pinned (.plain (OpenSpec.ofChange commandBackSpec)) commandBackCard

/-- THE TIED CARD OF 'postchaiselaw16.FeedCommands'. -/
def feedCommandsCard : Claim7 := { stood := { row := feedCommandsRow, standIns := [], harness := (true, "7c9bcc3504fdb663d287cc29e347763f33ca12ea0749d3c6e8a3ad60d713e389"), looks := true }, kinds := [], alts := [], laidByText := true, laidKinds := [.data, .data, .data, .data, .sentinel, .sentinel, .data, .data, .data, .data, .data, .data, .pinned], laidTests := true, laidLooks := .later }
def FeedCommandsCardSaid : Prop := Claim7.holds Tryz.pinned (.plain (OpenSpec.ofChange feedCommandsSpec)) feedCommandsCard

/-- THE SECOND FORM's CARD OF 'postchaiselaw14.SearchTells'. -/
def searchTellsUptoCard : Claim7 := { stood := { row := searchTellsUptoRow, standIns := [], harness := (true, "7c9bcc3504fdb663d287cc29e347763f33ca12ea0749d3c6e8a3ad60d713e389"), looks := true }, kinds := [], alts := [], laidByText := true, laidKinds := [.data, .data, .data, .data, .sentinel, .sentinel, .data, .data, .pinned], laidTests := true, laidLooks := .later }
def SearchTellsUptoCardSaid : Prop := Claim7.holds Tryz.pinned (.plain (OpenSpec.upto searchTellsSpec)) searchTellsUptoCard

/-- THE SECOND FORM's CARD OF 'postchaiselaw14.SearchReads'. -/
def searchReadsUptoCard : Claim7 := { stood := { row := searchReadsUptoRow, standIns := [], harness := (true, "7c9bcc3504fdb663d287cc29e347763f33ca12ea0749d3c6e8a3ad60d713e389"), looks := true }, kinds := [], alts := [], laidByText := true, laidKinds := [.data, .data, .data, .data, .sentinel, .sentinel, .data, .data, .pinned], laidTests := true, laidLooks := .later }
def SearchReadsUptoCardSaid : Prop := Claim7.holds Tryz.pinned (.plain (OpenSpec.upto searchReadsSpec)) searchReadsUptoCard

/-- THE SECOND FORM's CARD OF 'postchaiselaw14.SearchBack'. -/
def searchBackUptoCard : Claim7 := { stood := { row := searchBackUptoRow, standIns := [], harness := (true, "7c9bcc3504fdb663d287cc29e347763f33ca12ea0749d3c6e8a3ad60d713e389"), looks := true }, kinds := [], alts := [], laidByText := true, laidKinds := [.data, .data, .data, .data, .sentinel, .sentinel, .data, .data, .pinned], laidTests := true, laidLooks := .later }
def SearchBackUptoCardSaid : Prop := Claim7.holds Tryz.pinned (.plain (OpenSpec.upto searchBackSpec)) searchBackUptoCard

/-- THE SECOND FORM's CARD OF 'postchaiselaw14.SearchLogic'. -/
def searchLogicUptoCard : Claim7 := { stood := { row := searchLogicUptoRow, standIns := [], harness := (true, "7c9bcc3504fdb663d287cc29e347763f33ca12ea0749d3c6e8a3ad60d713e389"), looks := true }, kinds := [], alts := [], laidByText := true, laidKinds := [.data, .data, .data, .data, .sentinel, .sentinel, .data, .data, .pinned], laidTests := true, laidLooks := .later }
def SearchLogicUptoCardSaid : Prop := Claim7.holds Tryz.pinned (.plain (OpenSpec.upto searchLogicSpec)) searchLogicUptoCard

/-- THE SECOND FORM's CARD OF 'postchaiselaw15.CommandTells'. -/
def commandTellsUptoCard : Claim7 := { stood := { row := commandTellsUptoRow, standIns := [], harness := (true, "7c9bcc3504fdb663d287cc29e347763f33ca12ea0749d3c6e8a3ad60d713e389"), looks := true }, kinds := [], alts := [], laidByText := true, laidKinds := [.data, .data, .data, .data, .sentinel, .sentinel, .data, .data, .data, .data, .data, .data, .pinned], laidTests := true, laidLooks := .later }
def CommandTellsUptoCardSaid : Prop := Claim7.holds Tryz.pinned (.plain (OpenSpec.upto commandTellsSpec)) commandTellsUptoCard

/-- THE SECOND FORM's CARD OF 'postchaiselaw15.CommandParses'. -/
def commandParsesUptoCard : Claim7 := { stood := { row := commandParsesUptoRow, standIns := [], harness := (true, "7c9bcc3504fdb663d287cc29e347763f33ca12ea0749d3c6e8a3ad60d713e389"), looks := true }, kinds := [], alts := [], laidByText := true, laidKinds := [.data, .data, .data, .data, .sentinel, .sentinel, .data, .data, .data, .data, .data, .data, .pinned], laidTests := true, laidLooks := .later }
def CommandParsesUptoCardSaid : Prop := Claim7.holds Tryz.pinned (.plain (OpenSpec.upto commandParsesSpec)) commandParsesUptoCard

/-- THE SECOND FORM's CARD OF 'postchaiselaw15.CommandBack'. -/
def commandBackUptoCard : Claim7 := { stood := { row := commandBackUptoRow, standIns := [], harness := (true, "7c9bcc3504fdb663d287cc29e347763f33ca12ea0749d3c6e8a3ad60d713e389"), looks := true }, kinds := [], alts := [], laidByText := true, laidKinds := [.data, .data, .data, .data, .sentinel, .sentinel, .data, .data, .data, .data, .data, .data, .pinned], laidTests := true, laidLooks := .later }
def CommandBackUptoCardSaid : Prop := Claim7.holds Tryz.pinned (.plain (OpenSpec.upto commandBackSpec)) commandBackUptoCard

/-- THE SECOND FORM's CARD OF 'postchaiselaw16.FeedCommands'. -/
def feedCommandsUptoCard : Claim7 := { stood := { row := feedCommandsUptoRow, standIns := [], harness := (true, "7c9bcc3504fdb663d287cc29e347763f33ca12ea0749d3c6e8a3ad60d713e389"), looks := true }, kinds := [], alts := [], laidByText := true, laidKinds := [.data, .data, .data, .data, .sentinel, .sentinel, .data, .data, .data, .data, .data, .data, .pinned], laidTests := true, laidLooks := .later }
def FeedCommandsUptoCardSaid : Prop := Claim7.holds Tryz.pinned (.plain (OpenSpec.upto feedCommandsSpec)) feedCommandsUptoCard
end Rows
end Go.Proofs.YtpnnchpaaopdcaaGreatDoor

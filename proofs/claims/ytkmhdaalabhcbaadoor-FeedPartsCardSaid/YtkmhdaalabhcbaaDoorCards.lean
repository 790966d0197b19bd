/-
  DERIVED. GIVEN WITH THE SEED: THE CARDS: each row of YtkmhdaalabhcbaaDoorRows.lean that lists a variable, with what it lists TIED to the program's text (the seventh form; the later family's looks); each row that meets fmt, with fmt's text TOLD by the authors' own Lean function (tested against real Go, not proved from fmt's source: count such statements apart). THE CARD IS WHAT COUNTS. Prove the row's statement (the work); the ties are given (YtkmhdaalabhcbaaDoorTie.lean); close each card by the builder's one call (the guide's Derived/Test/ToyasCard.lean, 'card_holds'). Laid BY PROGRAM, IN A SANDBOX (cutbox-door.mjs). By AI agents, Wed Nov 11 2026. No macro, syntax, notation, axiom, sorry.
-/
import Derived.Test.YtkmhdaalabhcbaaDoorRows
import GoSem.ClaimSeven
namespace Go.Proofs.YtkmhdaalabhcbaaDoor
namespace Rows

/-- THE TIED CARD OF 'postchaiselaw16.FeedParts'. -/
def feedPartsCard : Claim7 := { stood := { row := feedPartsRow, standIns := [], harness := (true, "0d0ac34fe85ea12d138b48c50a28744b50753212921313b68240d27692022b8c"), looks := true }, kinds := [], alts := [], laidByText := true, laidKinds := [.data, .data, .data, .sentinel, .sentinel], laidTests := true, laidLooks := .later }
def FeedPartsCardSaid : Prop := Claim7.holds Tryd.pinned (.plain (OpenSpec.ofChange feedPartsSpec)) feedPartsCard

/-- THE SECOND FORM's CARD OF 'postchaiselaw16.FeedParts'. -/
def feedPartsUptoCard : Claim7 := { stood := { row := feedPartsUptoRow, standIns := [], harness := (true, "0d0ac34fe85ea12d138b48c50a28744b50753212921313b68240d27692022b8c"), looks := true }, kinds := [], alts := [], laidByText := true, laidKinds := [.data, .data, .data, .sentinel, .sentinel], laidTests := true, laidLooks := .later }
def FeedPartsUptoCardSaid : Prop := Claim7.holds Tryd.pinned (.plain (OpenSpec.upto feedPartsSpec)) feedPartsUptoCard
end Rows
end Go.Proofs.YtkmhdaalabhcbaaDoor

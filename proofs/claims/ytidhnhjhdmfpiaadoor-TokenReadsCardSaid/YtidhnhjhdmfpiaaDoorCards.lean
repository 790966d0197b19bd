/-
  DERIVED. GIVEN WITH THE SEED: THE CARDS: each row of YtidhnhjhdmfpiaaDoorRows.lean that lists a variable, with what it lists TIED to the program's text (the seventh form; the later family's looks); each row that meets fmt, with fmt's text TOLD by the authors' own Lean function (tested against real Go, not proved from fmt's source: count such statements apart). THE CARD IS WHAT COUNTS. Prove the row's statement (the work); the ties are given (YtidhnhjhdmfpiaaDoorTie.lean); close each card by the builder's one call (the guide's Derived/Test/ToyasCard.lean, 'card_holds'). Laid BY PROGRAM, IN A SANDBOX (cutbox-door.mjs). By AI agents, Wed Nov 11 2026. No macro, syntax, notation, axiom, sorry.
-/
import Derived.Test.YtidhnhjhdmfpiaaDoorRows
import GoSem.ClaimSeven
namespace Go.Proofs.YtidhnhjhdmfpiaaDoor
namespace Rows

/-- THE TIED CARD OF 'postchaiselaw12.TokenReads'. -/
def tokenReadsCard : Claim7 := { stood := { row := tokenReadsRow, standIns := [], harness := (true, "8a3b87edcf68dff6639374eb759d9ba4bb6e9b2102fa3ec23b11381b65afe32f"), looks := true }, kinds := [], alts := [], laidByText := true, laidKinds := [.data, .data, .data, .sentinel, .sentinel], laidTests := true, laidLooks := .later }
def TokenReadsCardSaid : Prop := Claim7.holds Tryd.pinned (.plain (OpenSpec.ofChange tokenReadsSpec)) tokenReadsCard

/-- THE TIED CARD OF 'postchaiselaw12.TokenGivesUp'. -/
def tokenGivesUpCard : Claim7 := { stood := { row := tokenGivesUpRow, standIns := [], harness := (true, "8a3b87edcf68dff6639374eb759d9ba4bb6e9b2102fa3ec23b11381b65afe32f"), looks := true }, kinds := [], alts := [], laidByText := true, laidKinds := [.data, .data, .data, .sentinel, .sentinel], laidTests := true, laidLooks := .later }
def TokenGivesUpCardSaid : Prop := Claim7.holds Tryd.pinned (.plain (OpenSpec.ofChange tokenGivesUpSpec)) tokenGivesUpCard

/-- THE SECOND FORM's CARD OF 'postchaiselaw12.TokenReads'. -/
def tokenReadsUptoCard : Claim7 := { stood := { row := tokenReadsUptoRow, standIns := [], harness := (true, "8a3b87edcf68dff6639374eb759d9ba4bb6e9b2102fa3ec23b11381b65afe32f"), looks := true }, kinds := [], alts := [], laidByText := true, laidKinds := [.data, .data, .data, .sentinel, .sentinel], laidTests := true, laidLooks := .later }
def TokenReadsUptoCardSaid : Prop := Claim7.holds Tryd.pinned (.plain (OpenSpec.upto tokenReadsSpec)) tokenReadsUptoCard

/-- THE SECOND FORM's CARD OF 'postchaiselaw12.TokenGivesUp'. -/
def tokenGivesUpUptoCard : Claim7 := { stood := { row := tokenGivesUpUptoRow, standIns := [], harness := (true, "8a3b87edcf68dff6639374eb759d9ba4bb6e9b2102fa3ec23b11381b65afe32f"), looks := true }, kinds := [], alts := [], laidByText := true, laidKinds := [.data, .data, .data, .sentinel, .sentinel], laidTests := true, laidLooks := .later }
def TokenGivesUpUptoCardSaid : Prop := Claim7.holds Tryd.pinned (.plain (OpenSpec.upto tokenGivesUpSpec)) tokenGivesUpUptoCard
end Rows
end Go.Proofs.YtidhnhjhdmfpiaaDoor

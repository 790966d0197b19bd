/-
  strings.Replacer: what builds the bytes' replacer: contract.
-/
import Derived.Test.YtpnnchpaaopdcaaGreatDoorZR04
import Derived.Test.YtpnnchpaaopdcaaGreatDoorZR13
import Derived.WalkSpells
set_option linter.unusedVariables false
set_option linter.unusedSimpArgs false
namespace Go.Proofs.YtpnnchpaaopdcaaGreatDoor
open Go Go.RowKit
variable {W : World} {g q cp : Nat}
end Go.Proofs.YtpnnchpaaopdcaaGreatDoor

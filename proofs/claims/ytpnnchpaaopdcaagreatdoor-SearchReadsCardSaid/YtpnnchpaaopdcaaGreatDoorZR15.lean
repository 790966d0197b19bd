/-
  strings.Replacer: made of four texts; built, once: contracts.
  The bytes' replacer: a text with each of two bytes escaped; how many there are: lists, the counting.
  A quoted text is read as it was: lists alone.
  A literal is read as it was: lists alone.
-/
import Derived.Test.YtpnnchpaaopdcaaGreatDoorZR04
import Derived.Test.YtpnnchpaaopdcaaGreatDoorZR14
import Derived.Test.YtpnnchpaaopdcaaGreatDoorZR01
import Derived.Deep.QuietTactic
import Derived.BigQuiet
import Derived.Test.YtpnnchpaaopdcaaGreatDoorZR06
import Derived.Lib.ItoaNum
set_option linter.unusedVariables false
set_option linter.unusedSimpArgs false
namespace Go.Proofs.YtpnnchpaaopdcaaGreatDoor
open Go Go.RowKit
variable {W : World} {g q cp : Nat}
end Go.Proofs.YtpnnchpaaopdcaaGreatDoor
namespace Go.Proofs.YtpnnchpaaopdcaaGreatDoor
open Go Go.RowKit
end Go.Proofs.YtpnnchpaaopdcaaGreatDoor

/-
  search.Walk's iterator.
-/
import Derived.Test.YtpnnchpaaopdcaaGreatDoorZR04
import Derived.Test.YtpnnchpaaopdcaaGreatDoorZR21
set_option linter.unusedVariables false
set_option linter.unusedSimpArgs false
namespace Go.Proofs.YtpnnchpaaopdcaaGreatDoor
open Go Go.RowKit
attribute [local go_sem] Oper.semAt_some wide_fnK wide_depthK
end Go.Proofs.YtpnnchpaaopdcaaGreatDoor

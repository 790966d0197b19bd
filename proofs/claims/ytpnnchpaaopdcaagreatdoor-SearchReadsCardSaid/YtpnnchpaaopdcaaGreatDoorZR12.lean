/-
  strings.Replacer: its sync.Once, not yet done, the lock free, one goroutine: contracts.
-/
import Derived.Test.YtpnnchpaaopdcaaGreatDoorZR04
import Derived.Tactics
import Derived.Tactics2
import Derived.Defers
import Derived.Laws.Pointers
import Derived.Laws.LoneSync
import Derived.RegionTactic
import Derived.RegionCalls
set_option linter.unusedVariables false
set_option linter.unusedSimpArgs false
namespace Go.Proofs.YtpnnchpaaopdcaaGreatDoor
open Go Go.RowKit
end Go.Proofs.YtpnnchpaaopdcaaGreatDoor

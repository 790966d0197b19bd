/-
  strings.Replacer.Replace: contract.
  Quote: contract, given those of strings.ContainsAny and strconv.Itoa at the text.
  What is written, round by round: lists alone.
  The document's row of an atom; its numbers, written: contracts (out of XTkB and XQNum, for a seat without the document's reader).
  The document's Quote: contract.
  The document's text of a key: contract. MADE by wip/tools/mkKy6.py.
  A key of at most two hundred keys: its text is short: lists alone.
  What is decoded out of a text, at a byte that is no sign: a rune that is none, and only such bytes are taken.
  strings.IndexRune of a row's two signs at a rune that is no sign; strings.IndexAny and ContainsAny of a text of at most 100 bytes and the two: contracts.
  strings.IndexAny and ContainsAny of a text of at most 100 bytes and a row's two signs; strconv.Itoa at a text's length: contracts.
  strings.ContainsAny of a text of at most 100 bytes and a row's two signs; strconv.Itoa at a text's length: contracts.
-/
import Derived.Test.YtpnnchpaaopdcaaGreatDoorZR04
import Derived.Test.YtpnnchpaaopdcaaGreatDoorZR16
import Derived.Deep.OwnRows
import Derived.Test.YtpnnchpaaopdcaaGreatDoorZR15
import Derived.Deep.QuietTactic
import Derived.BigQuiet
import Derived.Test.YtpnnchpaaopdcaaGreatDoorZR06
import Derived.Lib.Join
import Derived.Laws.RangeString
import Derived.Test.YtpnnchpaaopdcaaGreatDoorZR01
import Derived.Lib.AppendIntMem
import Derived.Lib.LaidTab
import Derived.Lib.OthersKept
import Derived.Shelf.Strings.IndexAny
set_option linter.unusedVariables false
set_option linter.unusedSimpArgs false
namespace Go.Proofs.YtpnnchpaaopdcaaGreatDoor
open Go Go.RowKit
variable {W : World} {g q cp : Nat}
end Go.Proofs.YtpnnchpaaopdcaaGreatDoor
namespace Go.Proofs.YtpnnchpaaopdcaaGreatDoor
open Go Go.RowKit
abbrev PowTab (W : World) : Prop := Lib.TabIs Tryz.prog W "internal/strconv.uint64pow10" .u64 Lib.pow10Tab
end Go.Proofs.YtpnnchpaaopdcaaGreatDoor


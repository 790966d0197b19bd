/-
  The document's Number and end: contracts.
-/
import Derived.Test.YtpnnchpaaopdcaaGreatDoorZB02
set_option linter.unusedVariables false
set_option linter.unusedSimpArgs false
namespace Go.Proofs.YtpnnchpaaopdcaaGreatDoor
open Go Go.RowKit
theorem head_eq {s : ByteArray} (h : 0 < s.size) : s.data.toList.head? = some s[0] := by
  rw [List.head?_eq_getElem?]
  show s.data.toList[0]? = some (s.data[0]'h)
  rw [Array.getElem?_toList]; exact Array.getElem?_eq_getElem h
theorem numV_cons (a : Nat) (c : UInt8) (r : List UInt8) : numV a (c :: r) = if dig c then numV (10 * a + (c.toNat - 48)) r else none := rfl
end Go.Proofs.YtpnnchpaaopdcaaGreatDoor

/-
  What does not depend on where a key lies; how many keys a walk hands out: lists alone.
-/
import Derived.Test.YtpnnchpaaopdcaaGreatDoorZR04
import Derived.Test.YtpnnchpaaopdcaaGreatDoorZR25
import Derived.Test.YtpnnchpaaopdcaaGreatDoorZR17
import Derived.Test.YtpnnchpaaopdcaaGreatDoorZR05
import Derived.Test.YtpnnchpaaopdcaaGreatDoorZR11
set_option linter.unusedVariables false
set_option linter.unusedSimpArgs false
namespace Go.Proofs.YtpnnchpaaopdcaaGreatDoor
open Go Go.RowKit
mutual
theorem sameK_bare : ∀ a b : KT, sameK (bareK a) (bareK b) = sameK a b
  | .mk kd fl set n s kids _ _ _ _, .mk kd' fl' set' n' s' kids' _ _ _ _ => by
    rw [bareK, bareK, sameK, sameK, sameL_bare kids kids']
theorem sameL_bare : ∀ a b : List KT, sameL (bareL a) (bareL b) = sameL a b
  | [], [] => by rw [bareL]
  | a :: r, b :: r' => by rw [bareL, bareL, sameL, sameL, sameK_bare a b, sameL_bare r r']
  | [], b :: r' => by rw [bareL, bareL, sameL, sameL]
  | a :: r, [] => by rw [bareL, bareL, sameL, sameL]
end
mutual
theorem sameK_refl : ∀ a : KT, sameK a a = true
  | .mk kd fl set n s kids _ _ _ _ => by
    rw [sameK, sameL_refl kids]
    simp
theorem sameL_refl : ∀ a : List KT, sameL a a = true
  | [] => by rw [sameL]
  | a :: r => by rw [sameL, sameK_refl a, sameL_refl r]; rfl
end
theorem same_of_bare {a b a' b' : KT} (h : bareK a = bareK a') (h' : bareK b = bareK b') : sameK a b = sameK a' b' := by
  rw [← sameK_bare, h, h', sameK_bare]
end Go.Proofs.YtpnnchpaaopdcaaGreatDoor

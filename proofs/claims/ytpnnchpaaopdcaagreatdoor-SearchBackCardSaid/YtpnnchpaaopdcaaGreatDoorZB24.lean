/-
  The document's reading of a key, at any depth, and the whole of it: contracts; how long the rows of a key that was read are; two sets alike.
-/
import Derived.Test.YtpnnchpaaopdcaaGreatDoorZB04
import Derived.Test.YtpnnchpaaopdcaaGreatDoorZB22
import Derived.Test.YtpnnchpaaopdcaaGreatDoorZB23
set_option linter.unusedVariables false
set_option linter.unusedSimpArgs false
namespace Go.Proofs.YtpnnchpaaopdcaaGreatDoor
open Go Go.RowKit
variable {W : World} {g : Nat} {s : RS} {S : List UInt8}
mutual
theorem shortN_bare (N : Nat) : ∀ k : KT, ShortN N (bareK k) ↔ ShortN N k
  | .mk kind flag set n s kids sp scap kp kcap => by
    rw [bareK]
    unfold ShortN
    rw [shortNL_bare N kids, bareL_map, List.length_map]
theorem shortNL_bare (N : Nat) : ∀ l : List KT, ShortNL N (bareL l) ↔ ShortNL N l
  | [] => by rw [bareL]
  | k :: r => by
    rw [bareL]
    unfold ShortNL
    rw [shortN_bare N k, shortNL_bare N r]
end
theorem RgV.other {a D : Nat} {wq : World} {val : KT → List Value} {c : Nat} {K : KT → World → Prop} {k : KT} {L : Nat → Bool} {vs : Nat → Value} {w : World} (h : RgV a D wq val c K k L vs w) {j : Nat} {v : Value} (hj : j < a) : RgV a D wq val c K k L (upV vs j v) w :=
  ⟨h.b, fun i hi => by unfold upV; rw [if_neg (by omega)]; exact h.l i hi, h.k⟩
end Go.Proofs.YtpnnchpaaopdcaaGreatDoor

/-
  What does not depend on where a key lies; how many keys a walk hands out: lists alone.
-/
import Derived.Test.YtpnnchpaaopdcaaGreatDoorZT04
import Derived.Test.YtpnnchpaaopdcaaGreatDoorZT22
import Derived.Test.YtpnnchpaaopdcaaGreatDoorZT17
import Derived.Test.YtpnnchpaaopdcaaGreatDoorZT05
import Derived.Test.YtpnnchpaaopdcaaGreatDoorZT11
set_option linter.unusedVariables false
set_option linter.unusedSimpArgs false
namespace Go.Proofs.YtpnnchpaaopdcaaGreatDoor
open Go Go.RowKit
mutual
theorem sameK_bare : ∀ a b : KT, sameK (bareK a) (bareK b) = sameK a b
  | .mk kd fl set n s kids _ _ _ _, .mk kd' fl' set' n' s' kids' _ _ _ _ => by
    rw [bareK, bareK, sameK, sameK, sameL_bare kids kids']
theorem sameL_bare : ∀ a b : List KT, sameL (bareL a) (bareL b) = sameL a b
  | [], [] => by rw [bareL]
  | a :: r, b :: r' => by rw [bareL, bareL, sameL, sameL, sameK_bare a b, sameL_bare r r']
  | [], b :: r' => by rw [bareL, bareL, sameL, sameL]
  | a :: r, [] => by rw [bareL, bareL, sameL, sameL]
end
mutual
theorem sameK_refl : ∀ a : KT, sameK a a = true
  | .mk kd fl set n s kids _ _ _ _ => by
    rw [sameK, sameL_refl kids]
    simp
theorem sameL_refl : ∀ a : List KT, sameL a a = true
  | [] => by rw [sameL]
  | a :: r => by rw [sameL, sameK_refl a, sameL_refl r]; rfl
end
theorem same_of_bare {a b a' b' : KT} (h : bareK a = bareK a') (h' : bareK b = bareK b') : sameK a b = sameK a' b' := by
  rw [← sameK_bare, h, h', sameK_bare]
mutual
theorem textK_bare : ∀ k : KT, textK (bareK k) = textK k
  | .mk kind flag set n s kids _ _ _ _ => by rw [bareK, textK, textK, textsK_bare kids]
theorem textsK_bare : ∀ l : List KT, textsK (bareL l) = textsK l
  | [] => by rw [bareL]
  | k :: r => by rw [bareL, textsK, textsK, textK_bare k, textsK_bare r]
end
mutual
theorem okT_bare : ∀ k : KT, okT (bareK k) ↔ okT k
  | .mk kind flag set n s kids _ _ _ _ => by
    rw [bareK]
    unfold okT
    rw [textsK_bare kids, okTs_bare kids]
theorem okTs_bare : ∀ l : List KT, okTs (bareL l) ↔ okTs l
  | [] => by rw [bareL]
  | k :: r => by
    rw [bareL]
    unfold okTs
    rw [okT_bare k, okTs_bare r]
end
theorem ok_of_bare {a b : KT} (h : bareK a = bareK b) (hb : okT b) : okT a := (okT_bare a).1 (by rw [h]; exact (okT_bare b).2 hb)
theorem text_of_bare {a b : KT} (h : bareK a = bareK b) : textK a = textK b := by rw [← textK_bare, h, textK_bare]
theorem rightK_of_bare {a b : KT} (h : bareK a = bareK b) (d : Int) : rightK a d = rightK b d := by rw [← rightK_bare, h, rightK_bare]
mutual
theorem sizeK_bare : ∀ k : KT, sizeK (bareK k) = sizeK k
  | .mk kind flag set n s kids _ _ _ _ => by rw [bareK, sizeK, sizeK, sizeR_bare kids]
theorem sizeR_bare : ∀ (l : List KT) (n : Nat), sizeR (bareL l) n = sizeR l n
  | [], n => by rw [bareL]
  | k :: r, n => by rw [bareL, sizeR, sizeR, sizeK_bare k, sizeR_bare r]
end
theorem size_of_bare {a b : KT} (h : bareK a = bareK b) : sizeK a = sizeK b := by rw [← sizeK_bare, h, sizeK_bare]
theorem preKs_len : ∀ l : List KT, (∀ k ∈ l, sizeK k ≤ 200 → (preK k).length = sizeK k) → sumK l ≤ 199 → (preKs l).length = sumK l
  | [], _, _ => by rw [preKs, sumK]; rfl
  | k :: r, h, hs => by
    rw [sumK] at hs ⊢
    rw [preKs, List.length_append, h k (by simp) (by omega), preKs_len r (fun x hx => h x (by simp [hx])) (by omega)]
theorem preK_len (k : KT) : sizeK k ≤ 200 → (preK k).length = sizeK k := by
  refine KT.ind (P := fun k => sizeK k ≤ 200 → (preK k).length = sizeK k) ?_ k
  intro kind flag set n s kids sp scap kp kcap ih h
  obtain ⟨_, _, h3⟩ := size_sum h
  rw [preK, List.length_cons, preKs_len kids ih (by omega), h3]
  omega
theorem stepW_first {k x : KT} {W : World} (h : stepW k [] x W) : bareK x = bareK k := by
  obtain ⟨_, t, ht⟩ := h
  rw [preK_eq] at ht
  simp at ht
  exact ht.1
theorem stepW_len {k x : KT} {pre : List KT} {W : World} (h : stepW k pre x W) : pre.length + 1 ≤ (preK k).length := by
  have := h.2.length_le
  simpa using this
end Go.Proofs.YtpnnchpaaopdcaaGreatDoor

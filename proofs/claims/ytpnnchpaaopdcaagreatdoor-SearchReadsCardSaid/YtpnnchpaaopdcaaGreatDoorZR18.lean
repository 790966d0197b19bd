/-
  The law's Own of a key: contract.
-/
import Derived.Test.YtpnnchpaaopdcaaGreatDoorZR04
import Derived.Test.YtpnnchpaaopdcaaGreatDoorZR11
import Derived.Test.YtpnnchpaaopdcaaGreatDoorZR17
import Derived.Deep.RegionLaw
set_option linter.unusedVariables false
set_option linter.unusedSimpArgs false
namespace Go.Proofs.YtpnnchpaaopdcaaGreatDoor
open Go Go.RowKit
variable {W : World}
theorem grown_of_below {A A' : World} (h : Below A.heap.size A A') (row : Option Nat) : A.grownBy A' row := ⟨h.os, h.tape, h.output, h.size, fun k hk _ => h.block k hk⟩
theorem grown_drew (w : World) (r : Option Nat) : w.grownBy w.drew r := grown_of_below (Below.refl _ w).drew r
theorem grown_trans {a b c : World} {r : Option Nat} (h : a.grownBy b r) (h' : b.grownBy c r) : a.grownBy c r :=
  ⟨h'.os.trans h.os, h'.tape.trans h.tape, h'.output.trans h.output, Nat.le_trans h.size h'.size, fun k hk hn => (h'.block k (Nat.lt_of_lt_of_le hk h.size) hn).trans (h.block k hk hn)⟩
mutual
theorem KeyQ.and {Q Q' : Nat → Prop} : ∀ {k : KT}, KeyQ Q k → KeyQ Q' k → KeyQ (fun b => Q b ∧ Q' b) k
  | .mk _ _ set _ _ kids sp _ kp _, h, h' => by
    unfold KeyQ at h h' ⊢
    exact ⟨fun h1 a e => ⟨h.1 h1 a e, h'.1 h1 a e⟩, fun h1 a e => ⟨h.2.1 h1 a e, h'.2.1 h1 a e⟩, KidsQ.and h.2.2 h'.2.2⟩
theorem KidsQ.and {Q Q' : Nat → Prop} : ∀ {r : List KT}, KidsQ Q r → KidsQ Q' r → KidsQ (fun b => Q b ∧ Q' b) r
  | [], h, h' => by unfold KidsQ; trivial
  | k :: r, h, h' => by
    unfold KidsQ at h h' ⊢
    exact ⟨KeyQ.and h.1 h'.1, KidsQ.and h.2 h'.2⟩
end
theorem grown_at9 {a b : World} {r : Option Nat} (h : a.grownBy b r) {k : Nat} (hk : k < a.heap.size) (hr : r ≠ some k) : b.heap[k]? = a.heap[k]? := h.block k hk (fun e => hr e.symm)
theorem own_grown {a b : World} {r : Option Nat} {B e sz n : Nat} {v : Value} {xs : List Value} (h : a.ownsRow B e sz v n xs) (hg : a.grownBy b r) (hv : ∀ q, v.ownBlock = some q → r ≠ some q) : b.ownsRow B e sz v n xs := by
  refine ⟨h.1, ?_⟩
  rcases h.2 with h2 | ⟨q, cap, cur, h1, h2, h3, h4⟩
  · exact .inl h2
  · have hb : v.ownBlock = some q := by rw [h1]; rfl
    exact .inr ⟨q, cap, cur, h1, h2, (grown_at9 hg (Array.getElem?_eq_some_iff.1 h3).1 (hv q hb)).trans h3, h4⟩
end Go.Proofs.YtpnnchpaaopdcaaGreatDoor

/-
  The law FlagsTells: plain mathematics.
-/
import Derived.Test.YtkgjjdgcmhhifaaDoorPure2
set_option linter.unusedVariables false
set_option linter.unusedSimpArgs false
namespace Go.Proofs.YtkgjjdgcmhhifaaDoor
open Go Go.RowKit

theorem seqOf_gap {s n x : Nat} (hnx : n ≤ x) (h : ∀ j, n ≤ j → j < x → bit s j = false) : seqOf s x = seqOf s n := by
  induction x with
  | zero => obtain rfl : n = 0 := by omega
            rfl
  | succ x ih =>
    by_cases e : n = x + 1
    · rw [e]
    · rw [seqOf_succ, h x (by omega) (by omega)]
      exact ih (by omega) (fun j h1 h2 => h j h1 (by omega))
theorem next_facts {s n x : Nat} (hs : s < 256) (hn : n ≤ 5) (h : seqOf s n ++ [x] <+: seqOf s 5) : n ≤ x ∧ x < 5 ∧ bit s x = true ∧ (∀ j, n ≤ j → j < x → bit s j = false) ∧ seqOf s (x + 1) = seqOf s n ++ [x] := by
  have hx : x < 5 := (mem_seqOf (List.IsPrefix.subset h (show x ∈ seqOf s n ++ [x] by simp))).1
  have key : ∀ n < 6, ∀ x < 5, ∀ s < 256, (seqOf s n ++ [x]).isPrefixOf (seqOf s 5) = true → (decide (n ≤ x) && bit s x && (List.range 5).all fun j => !(decide (n ≤ j) && decide (j < x) && bit s j)) = true := by decide +kernel
  have h2 := key n (by omega) x hx s hs (List.isPrefixOf_iff_prefix.2 h)
  simp only [Bool.and_eq_true, decide_eq_true_eq, List.all_eq_true, List.mem_range] at h2
  obtain ⟨⟨h3, h4⟩, h5⟩ := h2
  have h6 : ∀ j, n ≤ j → j < x → bit s j = false := fun j h1 h2 => by
    have := h5 j (by omega)
    simpa [h1, h2] using this
  exact ⟨h3, hx, h4, h6, by rw [seqOf_succ, if_pos h4, seqOf_gap h3 h6]⟩
theorem rest_off {s n : Nat} (hs : s < 256) (hn : n ≤ 5) (h : seqOf s n = seqOf s 5) (j : Nat) (h1 : n ≤ j) (h2 : j < 5) : bit s j = false := by
  have key : ∀ n < 6, ∀ s < 256, (seqOf s n).length = (seqOf s 5).length → ((List.range 5).all fun j => !(decide (n ≤ j) && bit s j)) = true := by decide +kernel
  have h3 := key n (by omega) s hs (by rw [h])
  simp only [List.all_eq_true, List.mem_range] at h3
  have := h3 j h2
  simpa [h1] using this
/-- Has a set all flags of another one: told of the first k. -/
def hasTo (s o : Nat) : Nat → Bool
  | 0 => true
  | k + 1 => hasTo s o k && (!bit o k || bit s k)
theorem hasTo_all (s o : Nat) (hs : s < 256) (ho : o < 256) : sHas s o = hasTo s o 5 := by
  have m1 : sHas s o = sHas (s % 32) (o % 32) := by
    have key : ∀ y < 32, ∀ x < 256, (y &&& (255 - x)) = (y &&& (255 - x % 32)) := by decide +kernel
    unfold sHas
    rw [Nat.mod_mod, key (o % 32) (by omega) s hs]
  have m2 : hasTo s o 5 = hasTo (s % 32) (o % 32) 5 := by
    simp only [hasTo]
    rw [bit_mod32 s 0 (by omega), bit_mod32 s 1 (by omega), bit_mod32 s 2 (by omega), bit_mod32 s 3 (by omega), bit_mod32 s 4 (by omega), bit_mod32 o 0 (by omega), bit_mod32 o 1 (by omega), bit_mod32 o 2 (by omega), bit_mod32 o 3 (by omega), bit_mod32 o 4 (by omega)]
  rw [m1, m2]
  have key : ∀ s < 32, ∀ o < 32, sHas s o = hasTo s o 5 := by decide +kernel
  exact key _ (by omega) _ (by omega)
end Go.Proofs.YtkgjjdgcmhhifaaDoor

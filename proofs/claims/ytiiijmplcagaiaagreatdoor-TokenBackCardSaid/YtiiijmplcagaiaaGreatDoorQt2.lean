/-
  A quoted text is read as it was: lists alone.
-/
import Derived.Test.YtiiijmplcagaiaaGreatDoorRp7
import Derived.Test.YtiiijmplcagaiaaGreatDoorQt1
set_option linter.unusedVariables false
set_option linter.unusedSimpArgs false
namespace Go.Proofs.YtiiijmplcagaiaaGreatDoor
open Go Go.RowKit
theorem qd_esc (l r : List UInt8) (h : ∀ c ∈ l, c ≠ 13 ∧ c ≠ 10) : qd (escL l ++ 34 :: r) = some (l, r) := by
  induction l with
  | nil =>
    show qd (34 :: r) = _
    rw [qd.eq_def]
    simp
  | cons a t ih =>
    have e : escL (a :: t) = escB a ++ escL t := by simp [escL]
    have hi := ih (fun c hc => h c (List.mem_cons_of_mem _ hc))
    obtain ⟨h13, h10⟩ := h a (List.mem_cons_self ..)
    rw [e, List.append_assoc]
    by_cases h1 : a = 34
    · subst h1
      have : escB 34 = [92, 34] := by decide
      rw [this]
      simp [qd, hi]
    · by_cases h2 : a = 92
      · subst h2
        have : escB 92 = [92, 92] := by decide
        rw [this]
        simp [qd, hi]
      · have : escB a = [a] := by simp [escB, isE, h1, h2]
        rw [this]
        show qd (a :: (escL t ++ 34 :: r)) = _
        rw [qd.eq_def]
        simp [h1, h2, h13, h10, hi]
theorem strV_esc (l r : List UInt8) (f : Bool) (h : ∀ c ∈ l, c ≠ 13 ∧ c ≠ 10) : strV ⟨34 :: (escL l ++ 34 :: r), f⟩ = l ∧ strS ⟨34 :: (escL l ++ 34 :: r), f⟩ = ⟨r, f⟩ := by
  unfold strV strS
  simp [qd_esc l r h]
theorem isAtomB_true {l : List UInt8} (h : isAtomB l = true) : l ≠ [] ∧ ∀ c ∈ l, atomB c = true := by
  unfold isAtomB atomS at h
  dsimp only at h
  split at h
  · simp [RS.gone] at h
  · rename_i hz
    refine ⟨fun e => by rw [e] at hz; simp at hz, fun c hc => ?_⟩
    have hd : l.dropWhile atomB = [] := by simpa using h
    have := List.takeWhile_append_dropWhile (p := atomB) (l := l)
    rw [hd, List.append_nil] at this
    rw [← this] at hc
    exact List.all_eq_true.1 List.all_takeWhile c hc
theorem atom_not {c : UInt8} (h : atomB c = true) : c ≠ 34 ∧ c ≠ 123 := by
  refine ⟨fun e => ?_, fun e => ?_⟩ <;> (subst e; revert h; decide)
theorem strV_atom (l r : List UInt8) (f : Bool) (h : isAtomB l = true) (hr : ∀ c, r.head? = some c → atomB c = false) : strV ⟨l ++ r, f⟩ = l ∧ strS ⟨l ++ r, f⟩ = ⟨r, f⟩ := by
  obtain ⟨h0, h1⟩ := isAtomB_true h
  have ht : (l ++ r).takeWhile atomB = l := by
    rw [List.takeWhile_append_of_pos h1]
    cases r with
    | nil => simp
    | cons a t => simp [hr a rfl]
  have hd : (l ++ r).dropWhile atomB = r := by
    rw [List.dropWhile_append_of_pos h1]
    cases r with
    | nil => simp
    | cons a t => simp [hr a rfl]
  cases l with
  | nil => exact absurd rfl h0
  | cons a t =>
    obtain ⟨n1, n2⟩ := atom_not (h1 a (List.mem_cons_self ..))
    unfold strV strS atomV atomS
    rw [ht, hd]
    simp [n1, n2]
end Go.Proofs.YtiiijmplcagaiaaGreatDoor

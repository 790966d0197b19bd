/-
  What is written, round by round: lists alone.
-/
import Derived.Test.YtiiijmplcagaiaaGreatDoorQt4
set_option linter.unusedVariables false
set_option linter.unusedSimpArgs false
namespace Go.Proofs.YtiiijmplcagaiaaGreatDoor
open Go Go.RowKit
theorem clean_next {l : List UInt8} {k : Nat} (hk : k < l.length) : cleanB (l.take (k + 1)) = (cleanB (l.take k) && !(l[k] == 13 || l[k] == 10)) := by
  unfold cleanB
  rw [List.take_succ_eq_append_getElem hk, List.any_append]
  simp
theorem clean_end {l : List UInt8} {k : Nat} (h : cleanB (l.take k) = false) : cleanB l = false := by
  have e := List.take_append_drop k l
  have h2 : (l.take k).any (fun c => c == 13 || c == 10) = true := by
    unfold cleanB at h
    cases hx : (l.take k).any (fun c => c == 13 || c == 10) with
    | true => rfl
    | false => rw [hx] at h; cases h
  have h3 : l.any (fun c => c == 13 || c == 10) = true := by rw [← e, List.any_append, h2]; rfl
  unfold cleanB
  rw [h3]; rfl
theorem escL_next9 {l : List UInt8} {k : Nat} (hk : k < l.length) : escL (l.take (k + 1)) = escL (l.take k) ++ escB l[k] := escL_next hk
theorem isAtomB_row (l : List UInt8) : isAtomB l = (!l.isEmpty && ((l.takeWhile atomB).length == l.length)) := by
  unfold isAtomB atomS
  have e := List.takeWhile_append_dropWhile (p := atomB) (l := l)
  have el := congrArg List.length e
  rw [List.length_append] at el
  dsimp only
  by_cases h : l.takeWhile atomB = []
  · rw [if_pos h, h]
    cases l <;> simp [RS.gone]
  · rw [if_neg h]
    have h1 : l.isEmpty = false := by cases l with
      | nil => simp at h
      | cons a t => rfl
    rw [h1]
    cases hd : l.dropWhile atomB with
    | nil => rw [hd] at el; simp at el; simp [el]
    | cons a t => rw [hd] at el; simp at el; simp; omega
end Go.Proofs.YtiiijmplcagaiaaGreatDoor

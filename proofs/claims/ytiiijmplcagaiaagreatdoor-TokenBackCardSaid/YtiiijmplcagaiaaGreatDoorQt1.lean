/-
  isAtom: contract.
-/
import Derived.Test.YtiiijmplcagaiaaGreatDoorTk6
set_option linter.unusedVariables false
set_option linter.unusedSimpArgs false
namespace Go.Proofs.YtiiijmplcagaiaaGreatDoor
open Go Go.RowKit
/-- Is all of a text one atom? -/
def isAtomB (l : List UInt8) : Bool := !(atomS ⟨l, false⟩).f && (atomS ⟨l, false⟩).l.isEmpty
theorem tkisAtom_c (l : List UInt8) (hl : l.length ≤ 100000) (W : World) : Calls Tryz.prog 14 #[.string (txt l)] W fun e w' => e = .returned (.bool (isAtomB l)) ∧ Below W.heap.size W w' := by
  have C := Lib.hid (tkRead_c l W)
  obtain ⟨B, hB⟩ : ∃ B, txt l = B := ⟨_, rfl⟩
  rw [hB] at C ⊢
  go_enter Tryz.func14, Tryz.ntmps14
  go_wp2_with (first | (refine C.out.mono ?_; rintro e w1 ⟨rfl, hp, hb⟩; have C2 := Lib.hid (tkAtom_c hp (fun h => by cases h) hl); have HB := Lib.hid hb; clear hp hb) | (refine C2.out.mono ?_; rintro e w2 ⟨rfl, hp, hk⟩; have C3 := Lib.hid (tkEnd_c hp); have HD := Lib.hid hk; clear hp hk) | (refine C3.out.mono ?_; rintro e w3 ⟨rfl, rfl⟩))
  go_ret
  exact ⟨rfl, HB.out.trans (HD.out.below (Nat.le_refl _) HB.out.size)⟩
end Go.Proofs.YtiiijmplcagaiaaGreatDoor

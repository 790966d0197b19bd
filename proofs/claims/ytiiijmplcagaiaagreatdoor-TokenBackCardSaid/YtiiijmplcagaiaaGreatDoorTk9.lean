/-
  The program's reader: strings: contract; the chapter's examples.
-/
import Derived.Test.YtiiijmplcagaiaaGreatDoorTk8
set_option linter.unusedVariables false
set_option linter.unusedSimpArgs false
namespace Go.Proofs.YtiiijmplcagaiaaGreatDoor
open Go Go.RowKit
variable {W : World} {g : Nat} {s : RS}

set_option maxRecDepth 100000 in
set_option maxHeartbeats 1000000 in
theorem tkString_c (h : PR W g s) (hok : s.Ok) (hl : s.l.length ≤ 100000) (hE : Errs W) (hg : Away g) : Calls Tryz.prog 11 #[pt g] W (Does W g (.string (txt (strV s))) (strS s)) := by
  have N1 := tkNext_c h 34 34 rfl
  have N2 := tkNext_c h 123 123 rfl
  unfold nextB at N1 N2
  rw [show ((34 : Nat) : Int) = 34 from rfl] at N1
  rw [show ((123 : Nat) : Int) = 123 from rfl] at N2
  by_cases h1 : s.l.head? = some 34
  · have hf : s.f = false := by
      cases hf : s.f with
      | false => rfl
      | true => rw [hok hf] at h1; cases h1
    have C := tkquoted_c h hf hl
    have hv : strV s = qV (qd s.l.tail) := by unfold strV; rw [if_pos h1]; rfl
    have hs : strS s = qS (qd s.l.tail) := by unfold strS qS; rw [if_pos h1]; cases qd s.l.tail <;> simp [hf]
    rw [hv, hs]
    rw [show (s.l.head? == some 34) = true by rw [h1]; rfl] at N1
    obtain ⟨V, hV⟩ : ∃ V, txt (qV (qd s.l.tail)) = V := ⟨_, rfl⟩
    obtain ⟨T, hT⟩ : ∃ T, qS (qd s.l.tail) = T := ⟨_, rfl⟩
    rw [hV, hT] at C ⊢
    have C := Lib.hid C
    have N1 := Lib.hid N1
    clear h hV hT hv hs h1 N2
    go_enter Tryz.func11, Tryz.ntmps11
    go_wp2_with fail
    refine N1.out.mono ?_
    rintro e w1 ⟨rfl, rfl⟩
    go_wp2_with fail
    refine C.out.mono ?_
    rintro e w2 ⟨rfl, h2, k2⟩
    have H2 := Lib.hid h2
    have K2 := Lib.hid k2
    clear h2 k2
    go_wp2_with fail
    go_ret
    exact ⟨rfl, H2.out, K2.out⟩
  · rw [show (s.l.head? == some 34) = false by rw [beq_eq_false_iff_ne]; exact h1] at N1
    by_cases h2 : s.l.head? = some 123
    · have C := tkLiteral_c h hok hl hE hg
      have hv : strV s = litV s := by unfold strV; rw [if_neg h1, if_pos h2]
      have hs : strS s = litS s := by unfold strS; rw [if_neg h1, if_pos h2]
      rw [hv, hs]
      rw [show (s.l.head? == some 123) = true by rw [h2]; rfl] at N2
      obtain ⟨V, hV⟩ : ∃ V, txt (litV s) = V := ⟨_, rfl⟩
      obtain ⟨T, hT⟩ : ∃ T, litS s = T := ⟨_, rfl⟩
      rw [hV, hT] at C ⊢
      have C := Lib.hid C
      have N1 := Lib.hid N1
      have N2 := Lib.hid N2
      clear h hV hT hv hs h1 h2
      go_enter Tryz.func11, Tryz.ntmps11
      go_wp2_with fail
      refine N1.out.mono ?_
      rintro e w1 ⟨rfl, rfl⟩
      go_wp2_with fail
      refine N2.out.mono ?_
      rintro e w1 ⟨rfl, rfl⟩
      go_wp2_with fail
      refine C.out.mono ?_
      rintro e w2 ⟨rfl, h2, k2⟩
      have H2 := Lib.hid h2
      have K2 := Lib.hid k2
      clear h2 k2
      go_wp2_with fail
      go_ret
      exact ⟨rfl, H2.out, K2.out⟩
    · have C := tkAtom_c h hok hl
      have hv : strV s = atomV s := by unfold strV; rw [if_neg h1, if_neg h2]
      have hs : strS s = atomS s := by unfold strS; rw [if_neg h1, if_neg h2]
      rw [hv, hs]
      rw [show (s.l.head? == some 123) = false by rw [beq_eq_false_iff_ne]; exact h2] at N2
      obtain ⟨V, hV⟩ : ∃ V, txt (atomV s) = V := ⟨_, rfl⟩
      obtain ⟨T, hT⟩ : ∃ T, atomS s = T := ⟨_, rfl⟩
      rw [hV, hT] at C ⊢
      have C := Lib.hid C
      have N1 := Lib.hid N1
      have N2 := Lib.hid N2
      clear h hV hT hv hs h1 h2
      go_enter Tryz.func11, Tryz.ntmps11
      go_wp2_with fail
      refine N1.out.mono ?_
      rintro e w1 ⟨rfl, rfl⟩
      go_wp2_with fail
      refine N2.out.mono ?_
      rintro e w1 ⟨rfl, rfl⟩
      go_wp2_with fail
      refine C.out.mono ?_
      rintro e w2 ⟨rfl, h2, k2⟩
      have H2 := Lib.hid h2
      have K2 := Lib.hid k2
      clear h2 k2
      go_wp2_with fail
      go_ret
      exact ⟨rfl, H2.out, K2.out⟩
end Go.Proofs.YtiiijmplcagaiaaGreatDoor

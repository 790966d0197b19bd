/-
  Acts: Step. What the step itself does is the caller's contract.
-/
import Derived.Test.YtefmojohabdjcaaAct1
import Derived.Shelf.Abstract
set_option linter.unusedVariables false
set_option linter.unusedSimpArgs false
namespace Go.Proofs.Ytefmojohabdjcaa
open Go Go.RowKit

def isNil : Value → Bool
  | .nilFunc => true
  | _ => false
/-- A step, or none. -/
def StepV (v : Value) : Prop := v = .nilFunc ∨ ∃ g lb, v = fv g lb

theorem aStep_nil (w : World) : Calls Try.prog 29 #[.pointer none] w fun e w' => e = .returned (.bool true) ∧ w' = w := by
  go_enter Try.func29, Try.ntmps29
  go_wp2_with (go_at_call 24; refine (over_nil w).mono ?_; rintro e w' ⟨rfl, rfl⟩)
  go_ret
  exact ⟨rfl, rfl⟩
theorem aStep_over (B c : Nat) (w : World) (h : ActAt w B .nilFunc c) : Calls Try.prog 29 #[pa B] w fun e w' => e = .returned (.bool true) ∧ w' = w := by
  have C := over_none B c w h
  unfold pa at C ⊢
  go_enter Try.func29, Try.ntmps29
  go_wp2_with (go_at_call 24; refine C.mono ?_; rintro e w' ⟨rfl, rfl⟩)
  go_ret
  exact ⟨rfl, rfl⟩

theorem aStep_some (B c g : Nat) (lb : Array Value) (hc : c < 1000000000) (eg : Enters Try.prog g) (W : World) (h : ActAt W B (fv g lb) c) (R : Value → World → Prop)
    (hcall : Calls Try.prog g lb (W.setCell ⟨B, 0, none⟩ .nilFunc) fun e w' => ∃ v, e = .returned v ∧ StepV v ∧ ActAt w' B .nilFunc c ∧ R v w') :
    Calls Try.prog 29 #[pa B] W fun e w' => ∃ v w1, R v w1 ∧ StepV v ∧ ActAt w1 B .nilFunc c ∧ w' = (w1.setCell ⟨B, 0, none⟩ v).setCell ⟨B, 1, none⟩ (.int .i64 ((c + 1 : Nat) : Int)) ∧ e = .returned (.bool (isNil v)) := by
  have C := over_some B c g lb W h
  have eg2 : ∀ args w, (callFunc g args).run Try.prog w = .ok (.enter g args) w := eg
  obtain ⟨c0, c1, f0, f1⟩ := h.cell
  unfold pa at C
  unfold fv at c0
  unfold pa
  have q : (c : Int) + 1 < 9223372036854775808 := by omega
  go_enter Try.func29, Try.ntmps29
  go_wp2_with (go_at_call 24; refine C.mono ?_; rintro e w' ⟨rfl, rfl⟩)
  clear C
  go_wp2_with fail
  refine hcall.mono ?_
  rintro e w1 ⟨v, rfl, hv, h1, hr⟩
  clear c0 c1 f0 f1 h hcall
  obtain ⟨c0, c1, f0, f1⟩ := h1.cell
  rcases hv with rfl | ⟨g', lb', rfl⟩
  · have h2 := (h1.set0 .nilFunc).set1 (c + 1)
    have C := over_none B (c + 1) _ h2
    unfold pa at C
    go_wp2_with fail
    refine C.mono ?_
    rintro e w' ⟨rfl, rfl⟩
    go_wp2_with fail
    go_ret
    exact ⟨_, w1, hr, .inl rfl, h1, rfl, rfl⟩
  · have h2 := (h1.set0 (fv g' lb')).set1 (c + 1)
    have C := over_some B (c + 1) g' lb' _ h2
    unfold pa at C
    unfold fv at hr ⊢
    go_wp2_with fail
    refine C.mono ?_
    rintro e w' ⟨rfl, rfl⟩
    go_wp2_with fail
    go_ret
    exact ⟨_, w1, hr, .inr ⟨g', lb', rfl⟩, h1, rfl, rfl⟩
end Go.Proofs.Ytefmojohabdjcaa

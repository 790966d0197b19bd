/-
  epoch.New of what there can't be; readers that there are not.
-/
import Derived.Test.YtpooieeeicffpaaAwake6
set_option linter.unusedVariables false
set_option linter.unusedSimpArgs false
namespace Go.Proofs.Ytpooieeeicffpaa
open Go Go.RowKit

variable {p : EP} {s : ES} {W W' : World}
def NoE (W : World) (e : Ending) (w' : World) : Prop := e = .returned (.tuple #[.pointer none, .int .i64 11]) ∧ w' = W
theorem words_any (r : Int) (w : World) : ∃ k : Int, (k = 0 ∨ (k = r + 1 ∧ 1 ≤ r ∧ r ≤ 8)) ∧ Calls Try.prog 37 #[.int .i64 r] w fun e w' => e = .returned (.int .i64 k) ∧ w' = w := by
  by_cases h : 1 ≤ r ∧ r ≤ 8
  · obtain ⟨R, rfl⟩ : ∃ R : Nat, r = R := ⟨r.toNat, by omega⟩
    exact ⟨_, .inr ⟨by omega, h⟩, words_yes R (by omega) (by omega) w⟩
  · exact ⟨0, .inl rfl, words_no r (by omega) w⟩
theorem eNew_nil (word r : Int) (W : World) : Calls Try.prog 35 #[.pointer none, .int .i64 word, .int .i64 r] W fun e w' => NoE W e w' := by
  obtain ⟨k, hk, hw⟩ := words_any r W
  have CW := Lib.hid hw
  clear hw
  go_enter Try.func35, Try.ntmps35
  go_wp2_with (go_at_call 37; refine CW.out.mono ?_; rintro e w' ⟨rfl, hw⟩; rw [hw]; clear hw w')
  go_ret2
  exact ⟨rfl, rfl⟩
theorem eNew_bad (M n t : Nat) (ws cs : Nat → Nat) (hm : MemAt W M n t ws cs) (hn : n ≤ 8192) (word r : Int) (hbad : (r < 1 ∨ 8 < r) ∨ word < 0 ∨ (n : Int) - (r + 1) < word) :
    Calls Try.prog 35 #[pm M, .int .i64 word, .int .i64 r] W fun e w' => NoE W e w' := by
  have CL := Lib.hid ((mLen_c M n t ws cs W hm).mono (fun e w' h => (⟨h.1, h.2.symm⟩ : e = .returned (.int .i64 n) ∧ w' = W)))
  unfold pm at *
  by_cases hr : r < 1 ∨ 8 < r
  · have CW := Lib.hid (words_no r hr W)
    go_enter Try.func35, Try.ntmps35
    go_wp2_with (first | (go_at_call 37; refine CW.out.mono ?_; rintro e w' ⟨rfl, hw⟩; rw [hw]; clear hw w') | (go_at_call 52; refine CL.out.mono ?_; rintro e w' ⟨rfl, hw⟩; rw [hw]; clear hw w'))
    go_ret2
    exact ⟨rfl, rfl⟩
  · obtain ⟨R, rfl⟩ : ∃ R : Nat, r = R := ⟨r.toNat, by omega⟩
    have CW := Lib.hid (words_yes R (by omega) (by omega) W)
    have q2 : (((R + 1 : Nat) : Int) == 0) = false := by rw [beq_eq_false_iff_ne]; omega
    by_cases hw : word < 0
    · obtain ⟨R1, hR1⟩ : ∃ R1, R + 1 = R1 := ⟨_, rfl⟩
      rw [hR1] at CW q2
      go_enter Try.func35, Try.ntmps35
      go_wp2_with (first | (go_at_call 37; refine CW.out.mono ?_; rintro e w' ⟨rfl, hw⟩; rw [hw]; clear hw w') | (go_at_call 52; refine CL.out.mono ?_; rintro e w' ⟨rfl, hw⟩; rw [hw]; clear hw w'))
      go_ret2
      exact ⟨rfl, rfl⟩
    · have q4 : (n : Int) - ((R + 1 : Nat) : Int) < word := by omega
      have q5 : -9223372036854775808 ≤ (n : Int) - ((R + 1 : Nat) : Int) ∧ (n : Int) - ((R + 1 : Nat) : Int) ≤ 9223372036854775807 := by omega
      obtain ⟨R1, hR1⟩ : ∃ R1, R + 1 = R1 := ⟨_, rfl⟩
      rw [hR1] at CW q2 q4 q5
      have hR9 : R1 ≤ 9 := by omega
      have HH := Lib.hid hR1
      clear hR1 hbad hr
      go_enter Try.func35, Try.ntmps35
      go_wp2_with (first | (go_at_call 37; refine CW.out.mono ?_; rintro e w' ⟨rfl, hw⟩; rw [hw]; clear hw w') | (go_at_call 52; refine CL.out.mono ?_; rintro e w' ⟨rfl, hw⟩; rw [hw]; clear hw w'))
      go_ret2
      exact ⟨rfl, rfl⟩
def NilB (W : World) (e : Ending) (w' : World) : Prop := e = .returned (.pointer none) ∧ Below W.heap.size W w'
theorem pin_no (h : EpAt p s W) (who : Int) (hw : who < 0 ∨ (p.R : Int) ≤ who) : Calls Try.prog 40 #[pE p, .int .i64 who] W fun e w' => NilB W e w' := by
  obtain ⟨k0, k1, hbel⟩ := boxes2 (p := p) W who
  have C := Lib.hid (has_no (h.below hbel) who hw)
  have e0 := k0.cell
  have e1 := k1.cell
  have HBe := Lib.hid hbel
  unfold pE at *
  clear h k0 k1 hbel hw
  go_enter Try.func40, Try.ntmps40
  go_wp2_with (go_at_call 55; refine C.out.mono ?_; rintro e w' ⟨rfl, hw⟩; rw [hw]; clear hw w')
  go_ret
  exact ⟨rfl, HBe.out⟩
theorem unpin_no (h : EpAt p s W) (who : Int) (hw : who < 0 ∨ (p.R : Int) ≤ who) : Calls Try.prog 41 #[pE p, .int .i64 who] W fun e w' => NilB W e w' := by
  obtain ⟨k0, k1, hbel⟩ := boxes2 (p := p) W who
  have C := Lib.hid (has_no (h.below hbel) who hw)
  have e0 := k0.cell
  have e1 := k1.cell
  have HBe := Lib.hid hbel
  unfold pE at *
  clear h k0 k1 hbel hw
  go_enter Try.func41, Try.ntmps41
  go_wp2_with (go_at_call 55; refine C.out.mono ?_; rintro e w' ⟨rfl, hw⟩; rw [hw]; clear hw w')
  go_ret
  exact ⟨rfl, HBe.out⟩
theorem pinned_no (h : EpAt p s W) (who : Int) (hw : who < 0 ∨ (p.R : Int) ≤ who) : Calls Try.prog 39 #[pE p, .int .i64 who] W fun e w' => e = .returned (.tuple #[.int .u64 0, .bool false]) ∧ w' = W := by
  have C := Lib.hid (has_no h who hw)
  unfold pE at *
  clear h hw
  go_enter Try.func39, Try.ntmps39
  go_wp2_with (go_at_call 55; refine C.out.mono ?_; rintro e w' ⟨rfl, hw⟩; rw [hw]; clear hw w')
  go_ret2
  exact ⟨rfl, rfl⟩
end Go.Proofs.Ytpooieeeicffpaa

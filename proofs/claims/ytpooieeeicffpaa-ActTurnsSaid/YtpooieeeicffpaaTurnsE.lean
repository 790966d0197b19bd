/-
  The law ActTurns, where it lets the input go.
-/
import Derived.Test.YtpooieeeicffpaaTurnsP
set_option linter.unusedVariables false
set_option linter.unusedSimpArgs false
namespace Go.Proofs.Ytpooieeeicffpaa
open Go Go.RowKit
attribute [local go_sem] Oper.semAt_some wide_fnG wide_depthG

set_option maxHeartbeats 1000000 in
set_option maxRecDepth 100000 in
theorem turns_easy (la pa' : Option Addr) (N lc Np pc : Nat) (limit : Int) (h : 10 < N ∨ 200 < Np ∨ 60 < limit) (w : World) :
    Calls Try.prog 3 #[.slice la N lc, .slice pa' Np pc, .int .i64 limit] w fun e w' => e = .returned (.bool true) ∧ Below w.heap.size w w' := by
  refine (callsIn_wide (n := 3)).1 ?_
  refine callsIn_of_wp_marks Try.func3 rfl trivial ?_
  simp only [Try.ntmps3, List.size_toArray, List.length_cons, List.length_nil, Nat.reduceAdd, Nat.reduceSub, Array.replicate_succ, Array.replicate_zero, List.push_toArray, List.append_toArray, List.nil_append, List.cons_append]
  refine wpIn_wide.2 ?_
  have hBL : Below w.heap.size w (w.alloc (.cells #[.bool true] 4)) := (Below.refl _ _).alloc (Nat.le_refl _) _
  have HBL := Lib.hid hBL
  clear hBL
  by_cases h1 : 10 < N
  · have q1 : (10 : Int) < N := by omega
    go_wp2_with fail
    refine ⟨.bool true, ?_, rfl, HBL.out⟩
    simp [results, Try.f3, go_sem]
  · have q1 : ¬ (10 : Int) < N := by omega
    by_cases h2 : 200 < Np
    · have q2 : (200 : Int) < Np := by omega
      go_wp2_with fail
      refine ⟨.bool true, ?_, rfl, HBL.out⟩
      simp [results, Try.f3, go_sem]
    · have q2 : ¬ (200 : Int) < Np := by omega
      have q3 : (60 : Int) < limit := by omega
      go_wp2_with fail
      refine ⟨.bool true, ?_, rfl, HBL.out⟩
      simp [results, Try.f3, go_sem]
end Go.Proofs.Ytpooieeeicffpaa

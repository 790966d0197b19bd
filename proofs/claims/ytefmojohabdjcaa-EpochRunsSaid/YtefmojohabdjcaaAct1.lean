/-
  Acts: New, Over, Count, Step. A step is a call of a function value: its contract is the caller's.
-/
import Derived.Test.YtefmojohabdjcaaBase
import Derived.LoopTactic
import Derived.Laws.EntriesVeiled
set_option linter.unusedVariables false
set_option linter.unusedSimpArgs false
namespace Go.Proofs.Ytefmojohabdjcaa
open Go Go.RowKit

/-- The block of an act: what comes next, how many steps it did. -/
def ActAt (W : World) (B : Nat) (nx : Value) (c : Nat) : Prop := W.heap[B]? = some (.cells #[nx, .int .i64 c] 106 (0, 0))
def pa (B : Nat) : Value := .pointer (some ⟨B, 0, none⟩)
def fv (g : Nat) (lb : Array Value) : Value := .func (.func g) #[] lb
theorem ActAt.lt {W : World} {B : Nat} {nx : Value} {c : Nat} (h : ActAt W B nx c) : B < W.heap.size := (Array.getElem?_eq_some_iff.1 h).1
theorem ActAt.cell {W : World} {B : Nat} {nx : Value} {c : Nat} (h : ActAt W B nx c) :
    W.cell? ⟨B, 0, none⟩ = some nx ∧ W.cell? ⟨B, 1, none⟩ = some (.int .i64 c) ∧ W.frozen? ⟨B, 0, none⟩ = false ∧ W.frozen? ⟨B, 1, none⟩ = false := by
  have h' : W.heap[B]? = _ := h
  refine ⟨?_, ?_, ?_, ?_⟩
  all_goals simp [World.cell?, World.frozen?, h']
theorem ActAt.set0 {W : World} {B : Nat} {nx : Value} {c : Nat} (v : Value) (h : ActAt W B nx c) : ActAt (W.setCell ⟨B, 0, none⟩ v) B v c := by
  obtain ⟨hlt, hk⟩ := Array.getElem?_eq_some_iff.1 h
  show (W.heap.modify B _)[B]? = _
  rw [Array.getElem?_eq_getElem (by rw [Array.size_modify]; exact hlt), Array.getElem_modify_self, hk]
  rfl
theorem ActAt.set1 {W : World} {B : Nat} {nx : Value} {c : Nat} (n : Nat) (h : ActAt W B nx c) : ActAt (W.setCell ⟨B, 1, none⟩ (.int .i64 n)) B nx n := by
  obtain ⟨hlt, hk⟩ := Array.getElem?_eq_some_iff.1 h
  show (W.heap.modify B _)[B]? = _
  rw [Array.getElem?_eq_getElem (by rw [Array.size_modify]; exact hlt), Array.getElem_modify_self, hk]
  rfl
theorem ActAt.later {W W' : World} {B : Nat} {nx : Value} {c : Nat} (h : ActAt W B nx c) (hb : W'.heap[B]? = W.heap[B]?) : ActAt W' B nx c := hb.trans h
theorem ActAt.below {W W' : World} {B D : Nat} {nx : Value} {c : Nat} (h : ActAt W B nx c) (hb : Below D W W') (hB : B < D) : ActAt W' B nx c := (hb.block B hB).trans h

theorem eq_fv (g : Nat) (lb : Array Value) (W : World) : (binOp .eql 89 (fv g lb) Value.nilFunc).run Try.prog W = .ok (.bool false) W := by kernel_rfl
theorem eq_nf (W : World) : (binOp .eql 89 Value.nilFunc Value.nilFunc).run Try.prog W = .ok (.bool true) W := by kernel_rfl

theorem over_some (B c g : Nat) (lb : Array Value) (w : World) (h : ActAt w B (fv g lb) c) : Calls Try.prog 24 #[pa B] w fun e w' => e = .returned (.bool false) ∧ w' = w := by
  obtain ⟨c0, c1, f0, f1⟩ := h.cell
  have hq := eq_fv g lb
  unfold fv at c0 hq
  unfold pa
  go_enter Try.func24, Try.ntmps24
  go_wp2_with fail
  go_ret
  exact ⟨rfl, rfl⟩
theorem over_none (B c : Nat) (w : World) (h : ActAt w B .nilFunc c) : Calls Try.prog 24 #[pa B] w fun e w' => e = .returned (.bool true) ∧ w' = w := by
  obtain ⟨c0, c1, f0, f1⟩ := h.cell
  have hq := eq_nf
  unfold pa
  go_enter Try.func24, Try.ntmps24
  go_wp2_with fail
  go_ret
  exact ⟨rfl, rfl⟩
theorem over_nil (w : World) : Calls Try.prog 24 #[.pointer none] w fun e w' => e = .returned (.bool true) ∧ w' = w := by
  go_enter Try.func24, Try.ntmps24
  go_wp2_with fail
  go_ret
  exact ⟨rfl, rfl⟩
theorem count_some (B c : Nat) (nx : Value) (w : World) (h : ActAt w B nx c) : Calls Try.prog 25 #[pa B] w fun e w' => e = .returned (.int .i64 c) ∧ w' = w := by
  obtain ⟨c0, c1, f0, f1⟩ := h.cell
  unfold pa
  go_enter Try.func25, Try.ntmps25
  go_wp2_with fail
  go_ret
  exact ⟨rfl, rfl⟩
theorem count_nil (w : World) : Calls Try.prog 25 #[.pointer none] w fun e w' => e = .returned (.int .i64 0) ∧ w' = w := by
  go_enter Try.func25, Try.ntmps25
  go_wp2_with fail
  go_ret
  exact ⟨rfl, rfl⟩
theorem aNew_some (g : Nat) (lb : Array Value) (w : World) : Calls Try.prog 32 #[fv g lb] w fun e w' => e = .returned (pa w.heap.size) ∧ w' = w.alloc (.cells #[fv g lb, .int .i64 0] 106) := by
  unfold pa fv
  go_enter Try.func32, Try.ntmps32
  go_wp2_with fail
  go_ret
  exact ⟨rfl, rfl⟩
theorem aNew_none (w : World) : Calls Try.prog 32 #[.nilFunc] w fun e w' => e = .returned (pa w.heap.size) ∧ w' = w.alloc (.cells #[.nilFunc, .int .i64 0] 106) := by
  unfold pa
  go_enter Try.func32, Try.ntmps32
  go_wp2_with fail
  go_ret
  exact ⟨rfl, rfl⟩
end Go.Proofs.Ytefmojohabdjcaa

/-
  A block of four cells.
-/
import Derived.Test.YtebkpejiloabnaaBase
set_option linter.unusedVariables false
namespace Go.Proofs.Ytebkpejiloabnaa
open Go Go.RowKit

def Quad (W : World) (B : Nat) (t : TypeId) (a b c d : Value) : Prop := W.heap[B]? = some (.cells #[a, b, c, d] t (0, 0))
theorem Quad.new (W : World) (t : TypeId) (a b c d : Value) : Quad (W.alloc (.cells #[a, b, c, d] t)) W.heap.size t a b c d := heap_alloc_new W _
theorem Quad.lt {W : World} {B : Nat} {t : TypeId} {a b c d : Value} (h : Quad W B t a b c d) : B < W.heap.size := (Array.getElem?_eq_some_iff.1 h).1
theorem Quad.cell {W : World} {B : Nat} {t : TypeId} {a b c d : Value} (h : Quad W B t a b c d) :
    W.cell? ⟨B, 0, none⟩ = some a ∧ W.cell? ⟨B, 1, none⟩ = some b ∧ W.cell? ⟨B, 2, none⟩ = some c ∧ W.cell? ⟨B, 3, none⟩ = some d := by
  have h' : W.heap[B]? = _ := h
  refine ⟨?_, ?_, ?_, ?_⟩
  all_goals simp [World.cell?, h']
theorem Quad.later {W W' : World} {B : Nat} {t : TypeId} {a b c d : Value} (h : Quad W B t a b c d) (hb : W'.heap[B]? = W.heap[B]?) : Quad W' B t a b c d := hb.trans h
theorem Quad.below {W W' : World} {B D : Nat} {t : TypeId} {a b c d : Value} (h : Quad W B t a b c d) (hb : Below D W W') (hB : B < D) : Quad W' B t a b c d := (hb.block B hB).trans h
end Go.Proofs.Ytebkpejiloabnaa

/-
  A block of three cells.
-/
import Derived.Test.YtaomekmfgjgpmaaDoorBase
set_option linter.unusedVariables false
namespace Go.Proofs.YtaomekmfgjgpmaaDoor
open Go Go.RowKit

def Tri (W : World) (B : Nat) (t : TypeId) (a b c : Value) : Prop := W.heap[B]? = some (.cells #[a, b, c] t (0, 0))
theorem Tri.new (W : World) (t : TypeId) (a b c : Value) : Tri (W.alloc (.cells #[a, b, c] t)) W.heap.size t a b c := heap_alloc_new W _
theorem Tri.lt {W : World} {B : Nat} {t : TypeId} {a b c : Value} (h : Tri W B t a b c) : B < W.heap.size := (Array.getElem?_eq_some_iff.1 h).1
theorem Tri.cell {W : World} {B : Nat} {t : TypeId} {a b c : Value} (h : Tri W B t a b c) :
    W.cell? ⟨B, 0, none⟩ = some a ∧ W.cell? ⟨B, 1, none⟩ = some b ∧ W.cell? ⟨B, 2, none⟩ = some c ∧ W.frozen? ⟨B, 0, none⟩ = false ∧ W.frozen? ⟨B, 1, none⟩ = false ∧ W.frozen? ⟨B, 2, none⟩ = false := by
  have h' : W.heap[B]? = _ := h
  refine ⟨?_, ?_, ?_, ?_, ?_, ?_⟩
  all_goals simp [World.cell?, World.frozen?, h']
theorem Tri.set0 {W : World} {B : Nat} {t : TypeId} {a b c : Value} (v : Value) (h : Tri W B t a b c) : Tri (W.setCell ⟨B, 0, none⟩ v) B t v b c := by
  obtain ⟨hlt, hk⟩ := Array.getElem?_eq_some_iff.1 h
  show (W.heap.modify B _)[B]? = _
  rw [Array.getElem?_eq_getElem (by rw [Array.size_modify]; exact hlt), Array.getElem_modify_self, hk]
  rfl
theorem Tri.set1 {W : World} {B : Nat} {t : TypeId} {a b c : Value} (v : Value) (h : Tri W B t a b c) : Tri (W.setCell ⟨B, 1, none⟩ v) B t a v c := by
  obtain ⟨hlt, hk⟩ := Array.getElem?_eq_some_iff.1 h
  show (W.heap.modify B _)[B]? = _
  rw [Array.getElem?_eq_getElem (by rw [Array.size_modify]; exact hlt), Array.getElem_modify_self, hk]
  rfl
theorem Tri.set2 {W : World} {B : Nat} {t : TypeId} {a b c : Value} (v : Value) (h : Tri W B t a b c) : Tri (W.setCell ⟨B, 2, none⟩ v) B t a b v := by
  obtain ⟨hlt, hk⟩ := Array.getElem?_eq_some_iff.1 h
  show (W.heap.modify B _)[B]? = _
  rw [Array.getElem?_eq_getElem (by rw [Array.size_modify]; exact hlt), Array.getElem_modify_self, hk]
  rfl
theorem Tri.later {W W' : World} {B : Nat} {t : TypeId} {a b c : Value} (h : Tri W B t a b c) (hb : W'.heap[B]? = W.heap[B]?) : Tri W' B t a b c := hb.trans h
theorem Tri.below {W W' : World} {B D : Nat} {t : TypeId} {a b c : Value} (h : Tri W B t a b c) (hb : Below D W W') (hB : B < D) : Tri W' B t a b c := (hb.block B hB).trans h
end Go.Proofs.YtaomekmfgjgpmaaDoor

/-
  Blocks of cells, rows, boxes: what all machines share.
-/
import Derived.Test.YtefmojohabdjcaaMach
import Derived.Deep.AppendLies
import Derived.Deep.DrawnRows
import Derived.Deep.RegionHeld3
import Derived.RegionTactic
import Derived.Deep.RegionLaw
import Derived.OwnWalk
set_option linter.unusedVariables false
set_option linter.unusedSimpArgs false
namespace Go.Proofs.Ytefmojohabdjcaa
open Go Go.RowKit

/-- A block of cells. -/
def Cells (W : World) (B : Nat) (t : TypeId) (cur : Array Value) : Prop := W.heap[B]? = some (.cells cur t (0, 0))
theorem Cells.lt {W : World} {B : Nat} {t : TypeId} {cur : Array Value} (h : Cells W B t cur) : B < W.heap.size := (Array.getElem?_eq_some_iff.1 h).1
theorem Cells.cell {W : World} {B : Nat} {t : TypeId} {cur : Array Value} (h : Cells W B t cur) {i : Nat} {v : Value} (hi : cur[i]? = some v) : W.cell? ⟨B, i, none⟩ = some v := by
  have h' : W.heap[B]? = _ := h
  simp [World.cell?, h', hi]
theorem Cells.frozen {W : World} {B : Nat} {t : TypeId} {cur : Array Value} (h : Cells W B t cur) (i : Nat) : W.frozen? ⟨B, i, none⟩ = false := by
  have h' : W.heap[B]? = _ := h
  simp [World.frozen?, h']
theorem Cells.set {W : World} {B : Nat} {t : TypeId} {cur : Array Value} (h : Cells W B t cur) (i : Nat) (v : Value) : Cells (W.setCell ⟨B, i, none⟩ v) B t (cur.setIfInBounds i v) := by
  obtain ⟨hlt, hk⟩ := Array.getElem?_eq_some_iff.1 h
  show (W.heap.modify B _)[B]? = _
  rw [Array.getElem?_eq_getElem (by rw [Array.size_modify]; exact hlt), Array.getElem_modify_self, hk]
  rfl
theorem Cells.later {W W' : World} {B : Nat} {t : TypeId} {cur : Array Value} (h : Cells W B t cur) (hb : W'.heap[B]? = W.heap[B]?) : Cells W' B t cur := hb.trans h

def put1 {α : Type} (f : Nat → α) (i : Nat) (v : α) : Nat → α := fun j => if j = i then v else f j
theorem put1_same {α : Type} (f : Nat → α) (i : Nat) (v : α) : put1 f i v i = v := by simp [put1]
theorem put1_other {α : Type} (f : Nat → α) {i j : Nat} (v : α) (h : j ≠ i) : put1 f i v j = f j := by simp [put1, h]
theorem own_same {A B : World} {base e size n : Nat} {v : Value} {xs : List Value} (h : A.ownsRow base e size v n xs) (hp : ∀ k, v.ownBlock = some k → B.heap[k]? = A.heap[k]?) : B.ownsRow base e size v n xs := by
  refine ⟨h.1, ?_⟩
  rcases h.2 with hn | ⟨g, cap, cur, rfl, hg, hgg, rest⟩
  · exact .inl hn
  · exact .inr ⟨g, cap, cur, rfl, hg, (hp g rfl).trans hgg, rest⟩
theorem own_cells {A : World} {base e size n : Nat} {v : Value} {xs : List Value} (h : A.ownsRow base e size v n xs) {k : Nat} (hk : v.ownBlock = some k) : ∃ cur, Cells A k e cur := by
  rcases h.2 with ⟨rfl, _⟩ | ⟨g, cap, cur, rfl, hg, hgg, rest⟩
  · cases hk
  · cases hk; exact ⟨cur, hgg⟩

theorem size_setCell (W : World) (a : Addr) (v : Value) : (W.setCell a v).heap.size = W.heap.size := by show (W.heap.modify _ _).size = _; rw [Array.size_modify]

/-- Two blocks of two types are two blocks. -/
theorem block_ne {W : World} {k l : Nat} {c c' : Array Value} {e e' : TypeId} {fz fz' : Nat × Nat} (h : W.heap[k]? = some (.cells c e fz)) (h' : W.heap[l]? = some (.cells c' e' fz')) (hne : e ≠ e') : k ≠ l := by
  intro hk
  subst hk
  rw [h] at h'
  cases h'
  exact hne rfl

end Go.Proofs.Ytefmojohabdjcaa

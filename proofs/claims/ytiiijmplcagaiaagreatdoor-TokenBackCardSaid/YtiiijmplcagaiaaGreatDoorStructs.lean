/-
  An argument that is a slice of structs whose fields take one cell each: its cells.
-/
import Derived.Test.YtiiijmplcagaiaaGreatDoorRow
import Derived.Deep.Slices
import Derived.Deep.Fields
set_option linter.unusedVariables false
namespace Go.Proofs.YtiiijmplcagaiaaGreatDoor
open Go Go.ChangeShapes Go.WideShapes Go.Deep Go.RowKit

theorem open_structs {H : Type} {enc : TypeId × Value → H} {P : Program} {W : World} {base : Nat} {t e : TypeId} {fs : Array Field} {v : Value} {d : DataW H} {p : List MemPlace}
    (ht : P.underlying t = some (.slice e)) (he : P.underlying e = some (.struct fs)) (h1 : oneCellFields P fs = true) (hC : P.cellsOf e = fs.size) (h0 : 0 < fs.size)
    (hv : Value.okWide P W .any base t v) (h : DataW.Trod enc P W 0 (fun _ => true) true t v d p) :
    v = .slice none 0 0 ∨ ∃ (a : Addr) (len cap : Nat), v = .slice (some a) len cap ∧ len ≤ cap ∧ cap ≤ maxLen ∧
      ∀ i, i < len → ∃ b off, a = ⟨b, off, none⟩ ∧ b < W.heap.size ∧ ∀ (j : Nat) (f : Field), fs[j]? = some f →
        ∃ (x : Value) (y : DataW H × List MemPlace) (n : Nat), W.cell? ⟨b, off + i * fs.size + j, none⟩ = some x ∧ DataW.trod enc P W 0 (fun _ => true) true n f.type [x] = some y := by
  obtain ⟨a0, len0, cap0, rfl⟩ := okWide_slice ht hv
  obtain ⟨fuel, hf⟩ := h
  rcases open_slice ht hf with ⟨hcs, _⟩ | ⟨a, len, cap, m, n, D, Pl, hcs, _, hl, hm, hmm, _, hi⟩
  · exact .inl (by simpa [Value.cells] using hcs)
  · refine .inr ⟨a, len, cap, by simpa [Value.cells] using hcs, hl, hm, fun i hil => ?_⟩
    simp only [if_true] at hmm
    have row : ∀ i', i' < len → ∀ (j : Nat) (f : Field), fs[j]? = some f → ∃ (x : Value) (y : DataW H × List MemPlace) (k : Nat), W.cell? (a.add (i' * fs.size + j)) = some x ∧ DataW.trod enc P W 0 (fun _ => true) true k f.type [x] = some y := by
      intro i' hi' j f hj
      obtain ⟨cells, hcells, htr⟩ := hi i' (by omega)
      rw [hC] at hcells
      obtain ⟨_, hlen, hat⟩ := World.cells?_some hcells
      obtain ⟨ys, k, _, _, _, hys, hfield⟩ := DataW.trod_struct he htr
      have hjs : j < fs.size := (Array.getElem?_eq_some_iff.1 hj).1
      obtain ⟨ho, hk⟩ := hone_of h1 j f hj
      have hx := hfield j f hj
      rw [ho, hk, List.drop_eq_getElem_cons (by omega)] at hx
      have hone : (cells[j]'(by omega) :: cells.drop (j + 1)).take 1 = [cells[j]'(by omega)] := rfl
      rw [hone, List.getElem?_eq_getElem (by omega)] at hx
      refine ⟨cells[j]'(by omega), _, k, ?_, hx⟩
      rw [← Go.Deep.add_add, hat j hjs, List.getElem?_eq_getElem (by omega)]
    obtain ⟨b, o, s⟩ := a
    obtain ⟨f0, hf0⟩ : ∃ f, fs[0]? = some f := ⟨fs[0], Array.getElem?_eq_getElem h0⟩
    obtain ⟨x, y, k, hx, _⟩ := row 0 (by omega) 0 f0 hf0
    have hs := (block_of_cell hx).2
    have hb := (block_of_cell hx).1
    simp only [Nat.zero_mul, Nat.add_zero, Addr.add, if_true] at hs hb
    subst hs
    refine ⟨b, o, rfl, hb, fun j f hj => ?_⟩
    obtain ⟨x, y, k, hx, hy⟩ := row i hil j f hj
    refine ⟨x, y, k, ?_, hy⟩
    rw [← hx]
    congr 1
    unfold Addr.add
    split
    · rename_i e; rw [Nat.add_assoc, e]; rfl
    · rw [Nat.add_assoc]
end Go.Proofs.YtiiijmplcagaiaaGreatDoor

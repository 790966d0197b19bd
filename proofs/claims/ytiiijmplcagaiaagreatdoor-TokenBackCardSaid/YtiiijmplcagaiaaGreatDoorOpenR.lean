/-
  An argument that is a slice of structs, whatever their fields: its cells.
-/
import Derived.Test.YtiiijmplcagaiaaGreatDoorRow
import Derived.Deep.Slices
import Derived.Deep.Fields
set_option linter.unusedVariables false
namespace Go.Proofs.YtiiijmplcagaiaaGreatDoor
open Go Go.ChangeShapes Go.WideShapes Go.Deep Go.RowKit

theorem open_rows {H : Type} {enc : TypeId × Value → H} {P : Program} {W : World} {base C : Nat} {t e : TypeId} {v : Value} {d : DataW H} {p : List MemPlace}
    (ht : P.underlying t = some (.slice e)) (hC : P.cellsOf e = C) (h0 : 0 < C)
    (hv : Value.okWide P W .any base t v) (h : DataW.Trod enc P W 0 (fun _ => true) true t v d p) :
    v = .slice none 0 0 ∨ ∃ (a : Addr) (len cap : Nat), v = .slice (some a) len cap ∧ len ≤ cap ∧ cap ≤ maxLen ∧
      ∀ i, i < len → ∃ b off, a = ⟨b, off, none⟩ ∧ b < W.heap.size ∧ ∃ (cells : List Value) (n : Nat) (y : DataW H × List MemPlace), cells.length = C ∧ (∀ k u, cells[k]? = some u → W.cell? ⟨b, off + i * C + k, none⟩ = some u) ∧
        DataW.trod enc P W 0 (fun _ => true) true n e cells = some y := by
  obtain ⟨a0, len0, cap0, rfl⟩ := okWide_slice ht hv
  obtain ⟨fuel, hf⟩ := h
  rcases open_slice ht hf with ⟨hcs, _⟩ | ⟨a, len, cap, m, n, D, Pl, hcs, _, hl, hm, hmm, _, hi⟩
  · exact .inl (by simpa [Value.cells] using hcs)
  · refine .inr ⟨a, len, cap, by simpa [Value.cells] using hcs, hl, hm, fun i hil => ?_⟩
    simp only [if_true] at hmm
    have row : ∀ i', i' < len → ∃ (cells : List Value) (y : DataW H × List MemPlace), cells.length = C ∧ (∀ k u, cells[k]? = some u → W.cell? (a.add (i' * C + k)) = some u) ∧ DataW.trod enc P W 0 (fun _ => true) true n e cells = some y := by
      intro i' hi'
      obtain ⟨cells, hcells, htr⟩ := hi i' (by omega)
      rw [hC] at hcells
      obtain ⟨_, hlen, hat⟩ := World.cells?_some hcells
      refine ⟨cells, _, hlen, fun k u hk => ?_, htr⟩
      have hkl : k < C := by have := (List.getElem?_eq_some_iff.1 hk).1; omega
      rw [← Go.Deep.add_add, hat k hkl, hk]
    obtain ⟨b, o, s⟩ := a
    obtain ⟨cells0, y0, hl0, hc0, _⟩ := row 0 (by omega)
    obtain ⟨u0, hu0⟩ : ∃ u, cells0[0]? = some u := ⟨_, List.getElem?_eq_getElem (by omega)⟩
    have hx := hc0 0 u0 hu0
    have hs := (block_of_cell hx).2
    have hb := (block_of_cell hx).1
    simp only [Nat.zero_mul, Nat.add_zero, Addr.add, if_true] at hs hb
    subst hs
    obtain ⟨cells, y, hlc, hc, htr⟩ := row i hil
    refine ⟨b, o, rfl, hb, cells, n, y, hlc, fun k u hk => ?_, htr⟩
    rw [← hc k u hk]
    congr 1
    unfold Addr.add
    split
    · rename_i e; rw [Nat.add_assoc, e]; rfl
    · rw [Nat.add_assoc]
end Go.Proofs.YtiiijmplcagaiaaGreatDoor

/-
  Arguments that are slices of integers, as lists.
-/
import Derived.Test.YtefmojohabdjcaaRow
import Derived.Test.YtefmojohabdjcaaTurnC
set_option linter.unusedVariables false
set_option linter.unusedSimpArgs false
namespace Go.Proofs.Ytefmojohabdjcaa
open Go Go.ChangeShapes Go.WideShapes Go.ChangeAt Go.WideElems Go.RowKit

/-- An argument that is a slice of integers. -/
theorem open_slice_int {H : Type} {enc : TypeId × Value → H} {P : Program} {W : World} {base : Nat} {t e : TypeId} {k : IntKind} {v : Value} {d : DataW H} {p : List MemPlace}
    (ht : P.underlying t = some (.slice e)) (he : P.underlying e = some (.int k)) (hc : P.cellsOf e = 1)
    (hv : Value.okWide P W .any base t v) (h : DataW.Trod enc P W 0 (fun _ => true) true t v d p) :
    ∃ l : List Int, RowAt W v (l.map fun n : Int => Value.int k n) ∧ ∀ n ∈ l, (Lit.int k n).wf = true := by
  obtain ⟨a0, len0, cap0, rfl⟩ := okWide_slice ht hv
  obtain ⟨fuel, hf⟩ := h
  rcases open_ints ht he hc hf with ⟨hcs, _⟩ | ⟨a, len, cap, zs, hcs, _, hl, hm, hz, _, hcell, hwz⟩
  · exact ⟨[], .inl ⟨by simpa [Value.cells] using hcs, rfl⟩, fun n hn => by cases hn⟩
  · simp only [if_true] at hz
    have hv2 : Value.slice a0 len0 cap0 = .slice (some a) len cap := by simpa [Value.cells] using hcs
    rw [hv2]
    have hwf2 : ∀ n ∈ zs.take len, (Lit.int k n).wf = true := fun n hn => hwz n (List.mem_of_mem_take hn)
    refine ⟨zs.take len, .inr ⟨a, cap, ?_, fun j u hj => ?_⟩, hwf2⟩
    · congr 1
      simp only [List.length_map, List.length_take]
      omega
    · rw [List.getElem?_map, Option.map_eq_some_iff] at hj
      obtain ⟨n, hn, rfl⟩ := hj
      obtain ⟨hjl, hn2⟩ := List.getElem?_eq_some_iff.1 hn
      rw [List.length_take] at hjl
      rw [List.getElem_take] at hn2
      have h1 := hcell j (by omega)
      have e : zs.getD j 0 = n := by rw [List.getD_eq_getElem?_getD, List.getElem?_eq_getElem (by omega)]; exact hn2
      rw [e] at h1
      obtain ⟨b, o, s⟩ := a
      cases s with
      | none => exact ⟨b, o, rfl, by rw [addr_add] at h1; exact (block_of_cell h1).1, by rw [addr_add] at h1; exact h1⟩
      | some x =>
        have h2 := (block_of_cell (hcell 0 (by omega))).2
        simp [Addr.add] at h2
/-- .. of bytes. -/
theorem open_slice_bytes {H : Type} {enc : TypeId × Value → H} {P : Program} {W : World} {base : Nat} {t e : TypeId} {v : Value} {d : DataW H} {p : List MemPlace}
    (ht : P.underlying t = some (.slice e)) (he : P.underlying e = some (.int .u8)) (hc : P.cellsOf e = 1)
    (hv : Value.okWide P W .any base t v) (h : DataW.Trod enc P W 0 (fun _ => true) true t v d p) :
    ∃ l : List Nat, RowAt W v (l.map fun n : Nat => Value.int .u8 n) ∧ ∀ n ∈ l, n < 256 := by
  obtain ⟨l, h1, h2⟩ := open_slice_int ht he hc hv h
  have e1 : (l.map Int.toNat).map (fun n : Nat => Value.int .u8 n) = l.map fun n : Int => Value.int .u8 n := by
    rw [List.map_map]
    refine List.map_congr_left fun n hn => ?_
    obtain ⟨m, rfl, _⟩ := nat_u8 (h2 n hn)
    rfl
  refine ⟨l.map Int.toNat, by rw [e1]; exact h1, fun n hn => ?_⟩
  rw [List.mem_map] at hn
  obtain ⟨m, hm, rfl⟩ := hn
  obtain ⟨q, rfl, hq⟩ := nat_u8 (h2 m hm)
  exact hq
end Go.Proofs.Ytefmojohabdjcaa

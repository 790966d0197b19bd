/-
  The law FeedParts' arguments: bytes, lengths of parts.
-/
import Derived.Test.YtkmhdaalabhcbaaDoorFd9
import Derived.Test.YtkmhdaalabhcbaaDoorRow
set_option linter.unusedVariables false
set_option linter.unusedSimpArgs false
namespace Go.Proofs.YtkmhdaalabhcbaaDoor
open Go Go.ChangeShapes Go.WideShapes Go.ChangeAt Go.WideElems Go.RowKit

theorem nat_u8F {a : Int} (h : (Lit.int .u8 a).wf = true) : ∃ n : Nat, a = n ∧ n < 256 := by
  have h2 : 0 ≤ a ∧ a < 256 := by
    simp [Lit.wf, IntKind.min, IntKind.max, IntKind.bits, IntKind.signed] at h
    omega
  exact ⟨a.toNat, by omega, by omega⟩
theorem nat_u16F {a : Int} (h : (Lit.int .u16 a).wf = true) : ∃ n : Nat, a = n ∧ n < 65536 := by
  have h2 : 0 ≤ a ∧ a < 65536 := by
    simp [Lit.wf, IntKind.min, IntKind.max, IntKind.bits, IntKind.signed] at h
    omega
  exact ⟨a.toNat, by omega, by omega⟩
theorem open_bytesF {H : Type} {enc : TypeId × Value → H} {P : Program} {W : World} {base : Nat} {t e : TypeId} {v : Value} {d : DataW H} {p : List MemPlace}
    (ht : P.underlying t = some (.slice e)) (he : P.underlying e = some (.int .u8)) (hc : P.cellsOf e = 1)
    (hv : Value.okWide P W .any base t v) (h : DataW.Trod enc P W 0 (fun _ => true) true t v d p) :
    ∃ (ad : Option Addr) (cap : Nat) (l : List UInt8), v = .slice ad l.length cap ∧ ArgB W ad l.length cap l := by
  obtain ⟨a0, len0, cap0, rfl⟩ := okWide_slice ht hv
  obtain ⟨fuel, hf⟩ := h
  rcases open_ints ht he hc hf with ⟨hcs, _⟩ | ⟨a, len, cap, zs, hcs, _, hl, hm, hz, _, hcell, hwz⟩
  · refine ⟨none, 0, [], by simpa [Value.cells] using hcs, rfl, Nat.le_refl _, fun j c hj => by simp at hj, .inl rfl⟩
  · simp only [if_true] at hz
    have hv2 : Value.slice a0 len0 cap0 = .slice (some a) len cap := by simpa [Value.cells] using hcs
    rw [hv2]
    obtain ⟨l, hl2⟩ : ∃ l : List UInt8, l = (zs.take len).map fun z => UInt8.ofNat z.toNat := ⟨_, rfl⟩
    have hll : l.length = len := by rw [hl2, List.length_map, List.length_take]; omega
    have hb0 : cap ≠ 0 → ∃ b off, a = ⟨b, off, none⟩ ∧ b < W.heap.size := fun h0 => by
      have h2 := block_of_cell (hcell 0 (by omega))
      obtain ⟨b, o, s⟩ := a
      cases s with
      | none => exact ⟨b, o, rfl, h2.1⟩
      | some x => have := h2.2; simp [Addr.add] at this
    refine ⟨some a, cap, l, by rw [hll], rfl, by rw [hll]; exact hl, fun j c hj => ?_, ?_⟩
    · have hjl : j < len := by rw [← hll]; exact (List.getElem?_eq_some_iff.1 hj).1
      obtain ⟨b, off, rfl, hbl⟩ := hb0 (by omega)
      refine ⟨b, off, rfl, hbl, ?_⟩
      have h1 := hcell j (by omega)
      rw [addr_add, List.getD_eq_getElem?_getD, List.getElem?_eq_getElem (by omega)] at h1
      rw [h1]
      obtain ⟨n, hn, hn9⟩ := nat_u8F (hwz _ (List.getElem_mem (l := zs) (n := j) (by omega)))
      rw [hl2, List.getElem?_map, List.getElem?_take, if_pos hjl, List.getElem?_eq_getElem (by omega), hn] at hj
      simp only [Option.map_some, Option.some.injEq] at hj
      rw [← hj]
      show some (Value.int .u8 (zs[j]'(by omega))) = _
      rw [hn]
      congr 2
      simp
      omega
    · by_cases h0 : cap = 0
      · exact .inl h0
      · obtain ⟨b, off, rfl, hbl⟩ := hb0 h0
        exact .inr ⟨b, off, rfl, hbl⟩
theorem open_u16F {H : Type} {enc : TypeId × Value → H} {P : Program} {W : World} {base : Nat} {t e : TypeId} {v : Value} {d : DataW H} {p : List MemPlace}
    (ht : P.underlying t = some (.slice e)) (he : P.underlying e = some (.int .u16)) (hc : P.cellsOf e = 1)
    (hv : Value.okWide P W .any base t v) (h : DataW.Trod enc P W 0 (fun _ => true) true t v d p) :
    ∃ ps : List Nat, RowAt W v (u16V ps) ∧ ∀ n ∈ ps, n < 65536 := by
  obtain ⟨a0, len0, cap0, rfl⟩ := okWide_slice ht hv
  obtain ⟨fuel, hf⟩ := h
  rcases open_ints ht he hc hf with ⟨hcs, _⟩ | ⟨a, len, cap, zs, hcs, _, hl, hm, hz, _, hcell, hwz⟩
  · exact ⟨[], .inl ⟨by simpa [Value.cells] using hcs, rfl⟩, fun n hn => by cases hn⟩
  · simp only [if_true] at hz
    have hv2 : Value.slice a0 len0 cap0 = .slice (some a) len cap := by simpa [Value.cells] using hcs
    rw [hv2]
    obtain ⟨ps, hps⟩ : ∃ ps : List Nat, ps = (zs.take len).map Int.toNat := ⟨_, rfl⟩
    have hll : ps.length = len := by rw [hps, List.length_map, List.length_take]; omega
    refine ⟨ps, .inr ⟨a, cap, by rw [u16V_len, hll], fun j u hj => ?_⟩, fun n hn => ?_⟩
    · have hjl : j < len := by have := (List.getElem?_eq_some_iff.1 hj).1; rw [u16V_len, hll] at this; exact this
      have h1 := hcell j (by omega)
      obtain ⟨b, o, s⟩ := a
      cases s with
      | some x => have h2 := (block_of_cell (hcell 0 (by omega))).2; simp [Addr.add] at h2
      | none =>
        rw [addr_add] at h1
        refine ⟨b, o, rfl, (block_of_cell h1).1, ?_⟩
        rw [h1, List.getD_eq_getElem?_getD, List.getElem?_eq_getElem (by omega)]
        obtain ⟨n, hn, hn9⟩ := nat_u16F (hwz _ (List.getElem_mem (l := zs) (n := j) (by omega)))
        unfold u16V at hj
        rw [hps, List.map_map, List.getElem?_map, List.getElem?_take, if_pos hjl, List.getElem?_eq_getElem (by omega)] at hj
        simp only [Option.map_some, Option.some.injEq, Function.comp] at hj
        rw [← hj, hn]
        rfl
    · rw [hps, List.mem_map] at hn
      obtain ⟨z, hz1, rfl⟩ := hn
      obtain ⟨n, hn, hn9⟩ := nat_u16F (hwz z (List.mem_of_mem_take hz1))
      rw [hn]; exact hn9
end Go.Proofs.YtkmhdaalabhcbaaDoor

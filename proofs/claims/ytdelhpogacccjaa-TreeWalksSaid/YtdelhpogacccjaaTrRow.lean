/-
  An argument that is a slice of messages.
-/
import Derived.Test.YtdelhpogacccjaaStructs
import Derived.Test.YtdelhpogacccjaaTrW2
set_option linter.unusedVariables false
set_option linter.unusedSimpArgs false
namespace Go.Proofs.Ytdelhpogacccjaa
open Go Go.ChangeShapes Go.WideShapes Go.ChangeAt Go.RowKit

set_option maxRecDepth 100000 in
/-- An argument that is a slice of messages. -/
theorem open_recs {H : Type} {enc : TypeId × Value → H} {W : World} {base : Nat} {v : Value} {d : DataW H} {p : List MemPlace} (hv : Value.okWide Try.prog W .any base 22 v) (h : DataW.Trod enc Try.prog W 0 (fun _ => true) true 22 v d p) :
    ∃ l : List R7, RecRow W v l ∧ (∀ r, r ∈ l → r.uid < 4294967296) ∧ ∀ r, r ∈ l → r.tx.size ≤ 9223372036854775807 := by
  rcases open_structs Try.underlying22 Try.underlying50 (by kernel_rfl) (by kernel_rfl) (by decide) hv h with rfl | ⟨ad, len, cap, rfl, hl, hm, hc⟩
  · exact ⟨[], .inl ⟨rfl, rfl⟩, by simp, by simp⟩
  · have hq : ∀ i, ∃ q : R7, i < len → (∃ b off, ad = ⟨b, off, none⟩ ∧ b < W.heap.size ∧ W.cell? ⟨b, off + i * 3, none⟩ = some (.int .u32 q.uid) ∧ W.cell? ⟨b, off + i * 3 + 1, none⟩ = some (.int .u8 q.fl) ∧ W.cell? ⟨b, off + i * 3 + 2, none⟩ = some (.string q.tx)) ∧ q.uid < 4294967296 ∧ q.tx.size ≤ 9223372036854775807 := by
      intro i
      by_cases hi : i < len
      · obtain ⟨b, off, hab, hb, hf⟩ := hc i hi
        obtain ⟨x0, y0, n0, e0, t0⟩ := hf 0 _ rfl
        obtain ⟨x1, y1, n1, e1, t1⟩ := hf 1 _ rfl
        obtain ⟨x2, y2, n2, e2, t2⟩ := hf 2 _ rfl
        obtain ⟨m0, hm0, _, wf0⟩ := DataW.trod_int Try.underlying37 t0
        obtain ⟨m1, hm1, _, wf1⟩ := DataW.trod_int Try.underlying5 t1
        obtain ⟨s2, hs2, _, ws2⟩ := DataW.trod_string Try.underlying9 t2
        obtain rfl := List.cons.inj hm0 |>.1
        obtain rfl := List.cons.inj hm1 |>.1
        obtain rfl := List.cons.inj hs2 |>.1
        obtain ⟨u0, rfl, hu0⟩ := nat_u32 wf0
        obtain ⟨u1, rfl, hu1⟩ := nat_u8 wf1
        exact ⟨⟨u0, u1, s2⟩, fun _ => ⟨⟨b, off, hab, hb, e0, e1, e2⟩, hu0, ws2⟩⟩
      · exact ⟨noR, fun h => absurd h hi⟩
    obtain ⟨f, hf⟩ := Classical.skolem.1 hq
    refine ⟨(List.range len).map f, .inr ⟨ad, cap, by simp, fun j r hj => ?_⟩, fun r hr => ?_, fun r hr => ?_⟩
    · rw [List.getElem?_map, Option.map_eq_some_iff] at hj
      obtain ⟨i, hi, rfl⟩ := hj
      obtain ⟨hi1, hi2⟩ := List.getElem?_eq_some_iff.1 hi
      rw [List.getElem_range] at hi2
      subst hi2
      exact (hf j (by simpa using hi1)).1
    · obtain ⟨i, hi, rfl⟩ := List.mem_map.1 hr
      exact (hf i (List.mem_range.1 hi)).2.1
    · obtain ⟨i, hi, rfl⟩ := List.mem_map.1 hr
      exact (hf i (List.mem_range.1 hi)).2.2
end Go.Proofs.Ytdelhpogacccjaa

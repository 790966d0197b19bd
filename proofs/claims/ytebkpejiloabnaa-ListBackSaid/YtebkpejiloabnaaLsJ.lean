/-
  Arguments that are lists, or notes.
-/
import Derived.Test.YtebkpejiloabnaaLsI
import Derived.Test.YtebkpejiloabnaaOpenR
import Derived.OpenShut
set_option linter.unusedVariables false
set_option linter.unusedSimpArgs false
namespace Go.Proofs.Ytebkpejiloabnaa
open Go Go.ChangeShapes Go.WideShapes Go.ChangeAt Go.RowKit

/-- An entry's cells. -/
theorem trod_ent {H : Type} {enc : TypeId × Value → H} {W : World} {n : Nat} {cells : List Value} {y : DataW H × List MemPlace} (h : DataW.trod enc Try.prog W 0 (fun _ => true) true n 40 cells = some y) :
    ∃ e : EL, cells = encE e ∧ e.uid < 4294967296 ∧ e.fl < 256 := by
  have k32 : Try.prog.cellsOf 32 = 1 := by kernel_rfl
  have k8 : Try.prog.cellsOf 5 = 1 := by kernel_rfl
  have kE : Try.prog.cellsOf 40 = 2 := by kernel_rfl
  obtain ⟨xs, m, _, _, hlen, hxs, hf⟩ := DataW.trod_struct Try.underlying40 h
  rw [kE] at hlen
  match cells, hlen with
  | [c0, c1], _ =>
    have h0 := hf 0 _ rfl
    have h1 := hf 1 _ rfl
    rw [List.getElem?_eq_getElem (by rw [hxs]; decide)] at h0
    rw [List.getElem?_eq_getElem (by rw [hxs]; decide)] at h1
    change DataW.trod enc Try.prog W 0 _ true m 32 (([c0, c1].drop 0).take (Try.prog.cellsOf 32)) = _ at h0
    change DataW.trod enc Try.prog W 0 _ true m 5 (([c0, c1].drop 1).take (Try.prog.cellsOf 5)) = _ at h1
    rw [k32] at h0
    rw [k8] at h1
    obtain ⟨m0, hm0, _, wf0⟩ := DataW.trod_int Try.underlying32 h0
    obtain ⟨m1, hm1, _, wf1⟩ := DataW.trod_int Try.underlying5 h1
    obtain rfl := List.cons.inj hm0 |>.1
    obtain rfl := List.cons.inj hm1 |>.1
    obtain ⟨u0, rfl, hu0⟩ := nat_u32 wf0
    obtain ⟨u1, rfl, hu1⟩ := nat_u8 wf1
    exact ⟨⟨u0, u1⟩, rfl, hu0, hu1⟩
theorem trod_note {H : Type} {enc : TypeId × Value → H} {W : World} {n : Nat} {cells : List Value} {y : DataW H × List MemPlace} (h : DataW.trod enc Try.prog W 0 (fun _ => true) true n 42 cells = some y) :
    ∃ e : NL, cells = encN e ∧ -9223372036854775808 ≤ e.seq ∧ e.seq ≤ 9223372036854775807 := by
  have kI : Try.prog.cellsOf 3 = 1 := by kernel_rfl
  have kE : Try.prog.cellsOf 40 = 2 := by kernel_rfl
  have kN : Try.prog.cellsOf 42 = 4 := by kernel_rfl
  obtain ⟨xs, m, _, _, hlen, hxs, hf⟩ := DataW.trod_struct Try.underlying42 h
  rw [kN] at hlen
  match cells, hlen with
  | [c0, c1, c2, c3], _ =>
    have h0 := hf 0 _ rfl
    have h1 := hf 1 _ rfl
    have h2 := hf 2 _ rfl
    rw [List.getElem?_eq_getElem (by rw [hxs]; decide)] at h0
    rw [List.getElem?_eq_getElem (by rw [hxs]; decide)] at h1
    rw [List.getElem?_eq_getElem (by rw [hxs]; decide)] at h2
    change DataW.trod enc Try.prog W 0 _ true m 3 (([c0, c1, c2, c3].drop 0).take (Try.prog.cellsOf 3)) = _ at h0
    change DataW.trod enc Try.prog W 0 _ true m 3 (([c0, c1, c2, c3].drop 1).take (Try.prog.cellsOf 3)) = _ at h1
    change DataW.trod enc Try.prog W 0 _ true m 40 (([c0, c1, c2, c3].drop 2).take (Try.prog.cellsOf 40)) = _ at h2
    rw [kI] at h0 h1
    rw [kE] at h2
    obtain ⟨m0, hm0, _, wf0⟩ := DataW.trod_int Try.underlying3 h0
    obtain ⟨m1, hm1, _, wf1⟩ := DataW.trod_int Try.underlying3 h1
    obtain rfl := List.cons.inj hm0 |>.1
    obtain rfl := List.cons.inj hm1 |>.1
    obtain ⟨e, he, _, _⟩ := trod_ent h2
    obtain ⟨rfl, he2⟩ := List.cons.inj he
    obtain ⟨rfl, _⟩ := List.cons.inj he2
    have hb := bd_i64 wf1
    exact ⟨⟨m0, m1, e⟩, rfl, hb.1, hb.2⟩
/-- An argument that is a row: as it is read. -/
theorem open_rowK {α : Type} {C : Nat} {enc2 : α → List Value} {Good : α → Prop} (a0 : α) {H : Type} {enc : TypeId × Value → H} {W : World} {base : Nat} {t e : TypeId} {v : Value} {d : DataW H} {p : List MemPlace}
    (ht : Try.prog.underlying t = some (.slice e)) (hC : Try.prog.cellsOf e = C) (h0 : 0 < C)
    (hg : ∀ n cells y, DataW.trod enc Try.prog W 0 (fun _ => true) true n e cells = some y → ∃ x, cells = enc2 x ∧ Good x)
    (hv : Value.okWide Try.prog W .any base t v) (h : DataW.Trod enc Try.prog W 0 (fun _ => true) true t v d p) : ∃ l : List α, RowK C enc2 W v l ∧ ∀ x ∈ l, Good x := by
  rcases open_rows ht hC h0 hv h with rfl | ⟨ad, len, cap, rfl, hl, hm, hc⟩
  · exact ⟨[], .inl ⟨rfl, rfl⟩, by simp⟩
  · have hq : ∀ i, ∃ x : α, i < len → Good x ∧ ∃ b off, ad = ⟨b, off, none⟩ ∧ b < W.heap.size ∧ ∀ k u, (enc2 x)[k]? = some u → W.cell? ⟨b, off + i * C + k, none⟩ = some u := by
      intro i
      by_cases hi : i < len
      · obtain ⟨b, off, hab, hb, cells, n, y, hlc, hcs, htr⟩ := hc i hi
        obtain ⟨x, rfl, hx⟩ := hg n cells y htr
        exact ⟨x, fun _ => ⟨hx, b, off, hab, hb, hcs⟩⟩
      · exact ⟨a0, fun h => absurd h hi⟩
    obtain ⟨f, hf⟩ := Classical.skolem.1 hq
    refine ⟨(List.range len).map f, .inr ⟨ad, cap, by simp, fun j r hj => ?_⟩, fun r hr => ?_⟩
    · rw [List.getElem?_map, Option.map_eq_some_iff] at hj
      obtain ⟨i, hi, rfl⟩ := hj
      obtain ⟨hi1, hi2⟩ := List.getElem?_eq_some_iff.1 hi
      rw [List.getElem_range] at hi2
      subst hi2
      exact (hf j (by simpa using hi1)).2
    · obtain ⟨i, hi, rfl⟩ := List.mem_map.1 hr
      exact (hf i (List.mem_range.1 hi)).1
theorem open_ents {H : Type} {enc : TypeId × Value → H} {W : World} {base : Nat} {v : Value} {d : DataW H} {p : List MemPlace} (hv : Value.okWide Try.prog W .any base 22 v) (h : DataW.Trod enc Try.prog W 0 (fun _ => true) true 22 v d p) :
    ∃ l : List EL, EntRow W v l := by
  obtain ⟨l, hl, _⟩ := open_rowK (C := 2) (enc2 := encE) (Good := fun _ => True) noE Try.underlying22 (by kernel_rfl) (by decide) (fun n cells y ht => by obtain ⟨e, he, _⟩ := trod_ent ht; exact ⟨e, he, trivial⟩) hv h
  exact ⟨l, hl⟩
theorem open_notes {H : Type} {enc : TypeId × Value → H} {W : World} {base : Nat} {v : Value} {d : DataW H} {p : List MemPlace} (hv : Value.okWide Try.prog W .any base 30 v) (h : DataW.Trod enc Try.prog W 0 (fun _ => true) true 30 v d p) :
    ∃ l : List NL, NoteRow W v l ∧ ∀ n ∈ l, -9223372036854775808 ≤ n.seq ∧ n.seq ≤ 9223372036854775807 :=
  open_rowK (C := 4) (enc2 := encN) ⟨0, 0, noE⟩ Try.underlying30 (by kernel_rfl) (by decide) (fun n cells y ht => trod_note ht) hv h
end Go.Proofs.Ytebkpejiloabnaa

/-
  An argument that is a row of asks.
-/
import Derived.Test.YtidhnhjhdmfpiaaDoorLs1
import Derived.Test.YtidhnhjhdmfpiaaDoorOpenR
import Derived.Test.YtidhnhjhdmfpiaaDoorTk1
import Derived.OpenShut
import Derived.ChangeMaps5
set_option linter.unusedVariables false
set_option linter.unusedSimpArgs false
namespace Go.Proofs.YtidhnhjhdmfpiaaDoor
open Go Go.ChangeShapes Go.WideShapes Go.ChangeAt Go.RowKit Go.ChangeMaps

theorem trod_ask {H : Type} {enc : TypeId × Value → H} {W : World} {n : Nat} {cells : List Value} {y : DataW H × List MemPlace} (h : DataW.trod enc Tryd.prog W 0 (fun _ => true) true n 29 cells = some y) :
    ∃ a : Nat × List UInt8, cells = [.int .u8 a.1, .string (txt a.2)] ∧ a.1 < 256 := by
  have k8 : Tryd.prog.cellsOf 5 = 1 := by kernel_rfl
  have kS : Tryd.prog.cellsOf 9 = 1 := by kernel_rfl
  have kE : Tryd.prog.cellsOf 29 = 2 := by kernel_rfl
  obtain ⟨xs, m, _, _, hlen, hxs, hf⟩ := DataW.trod_struct Tryd.underlying29 h
  rw [kE] at hlen
  match cells, hlen with
  | [c0, c1], _ =>
    have h0 := hf 0 _ rfl
    have h1 := hf 1 _ rfl
    rw [List.getElem?_eq_getElem (by rw [hxs]; decide)] at h0
    rw [List.getElem?_eq_getElem (by rw [hxs]; decide)] at h1
    change DataW.trod enc Tryd.prog W 0 _ true m 5 (([c0, c1].drop 0).take (Tryd.prog.cellsOf 5)) = _ at h0
    change DataW.trod enc Tryd.prog W 0 _ true m 9 (([c0, c1].drop 1).take (Tryd.prog.cellsOf 9)) = _ at h1
    rw [k8] at h0
    rw [kS] at h1
    obtain ⟨m0, hm0, _, wf0⟩ := DataW.trod_int Tryd.underlying5 h0
    obtain ⟨s1, hs1, _, _⟩ := DataW.trod_string Tryd.underlying9 h1
    obtain rfl := List.cons.inj hm0 |>.1
    obtain rfl := List.cons.inj hs1 |>.1
    obtain ⟨u0, rfl, hu0⟩ := nat_u8 wf0
    exact ⟨⟨u0, s1.data.toList⟩, by rw [txt_data], hu0⟩
theorem open_asks {H : Type} {enc : TypeId × Value → H} {W : World} {base : Nat} {v : Value} {d : DataW H} {p : List MemPlace} (hv : Value.okWide Tryd.prog W .any base 22 v) (h : DataW.Trod enc Tryd.prog W 0 (fun _ => true) true 22 v d p) :
    ∃ l : List (Nat × List UInt8), RowK 2 (fun a => [.int .u8 a.1, .string (txt a.2)]) W v l ∧ ∀ a ∈ l, a.1 < 256 := by
  rcases open_rows Tryd.underlying22 (C := 2) (by kernel_rfl) (by decide) hv h with rfl | ⟨ad, len, cap, rfl, hl, hm, hc⟩
  · exact ⟨[], .inl ⟨rfl, rfl⟩, by simp⟩
  · have hq : ∀ i, ∃ x : Nat × List UInt8, i < len → x.1 < 256 ∧ ∃ b off, ad = ⟨b, off, none⟩ ∧ b < W.heap.size ∧ ∀ k u, ([.int .u8 x.1, .string (txt x.2)] : List Value)[k]? = some u → W.cell? ⟨b, off + i * 2 + k, none⟩ = some u := by
      intro i
      by_cases hi : i < len
      · obtain ⟨b, off, hab, hb, cells, n, y, hlc, hcs, htr⟩ := hc i hi
        obtain ⟨x, rfl, hx⟩ := trod_ask htr
        exact ⟨x, fun _ => ⟨hx, b, off, hab, hb, hcs⟩⟩
      · exact ⟨(0, []), fun h => absurd h hi⟩
    obtain ⟨f, hf⟩ := Classical.skolem.1 hq
    refine ⟨(List.range len).map f, .inr ⟨ad, cap, by simp, fun j r hj => ?_⟩, fun r hr => ?_⟩
    · rw [List.getElem?_map, Option.map_eq_some_iff] at hj
      obtain ⟨i, hi, rfl⟩ := hj
      obtain ⟨hi1, hi2⟩ := List.getElem?_eq_some_iff.1 hi
      rw [List.getElem_range] at hi2
      subst hi2
      exact (hf j (by simpa using hi1)).2
    · obtain ⟨i, hi, rfl⟩ := List.mem_map.1 hr
      exact (hf i (List.mem_range.1 hi)).1
end Go.Proofs.YtidhnhjhdmfpiaaDoor

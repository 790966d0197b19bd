/-
  PROVED: for every number of readers, all lists of what each does and every list of picks the law EpochRuns returns true: however the steps come, who is pinned is so at the epoch, or one less; the epoch rises by each that moved it, and by nothing else; nothing that was taken away is ready as long as anyone is pinned who was so then. No condition.
-/
import Derived.Test.YtefmojohabdjcaaRow4
import Derived.Test.YtefmojohabdjcaaRnW
import Derived.Test.YtefmojohabdjcaaRnM
import Derived.Deep.Slices
set_option linter.unusedVariables false
set_option linter.unusedSimpArgs false
namespace Go.Proofs.Ytefmojohabdjcaa
open Go Go.ChangeShapes Go.WideShapes Go.ChangeAt Go.RowKit Go.Deep

theorem arr3 {α : Type} (cs : Array α) (h : cs.size = 3) : ∃ a b c, cs = #[a, b, c] := by
  obtain ⟨l⟩ := cs
  match l, h with
  | [a, b, c], _ => exact ⟨a, b, c, rfl⟩
theorem stepC : StepC := fun W0 B C s w n hI hL hn who hw la lc l hl hl8 hlv => step_c hI hL hn who hw la lc l hl hl8 hlv
/-- A cell that reads as a slice of integers. -/
theorem open_cell_ints {H : Type} {enc : TypeId × Value → H} {P : Program} {W : World} {t e : TypeId} {k : IntKind} {v : Value} {y : DataW H × List MemPlace} {n : Nat}
    (ht : P.underlying t = some (.slice e)) (he : P.underlying e = some (.int k)) (hc : P.cellsOf e = 1)
    (hf : DataW.trod enc P W 0 (fun _ => true) true n t [v] = some y) :
    ∃ l : List Int, RowAt W v (l.map fun n : Int => Value.int k n) ∧ ∀ n ∈ l, (Lit.int k n).wf = true := by
  rcases open_ints ht he hc hf with ⟨hcs, _⟩ | ⟨a, len, cap, zs, hcs, _, hl, hm, hz, _, hcell, hwz⟩
  · exact ⟨[], .inl ⟨by simpa [Value.cells] using hcs, rfl⟩, fun n hn => by cases hn⟩
  · simp only [if_true] at hz
    have hv2 : v = .slice (some a) len cap := by simpa [Value.cells] using hcs
    rw [hv2]
    have hwf2 : ∀ n ∈ zs.take len, (Lit.int k n).wf = true := fun n hn => hwz n (List.mem_of_mem_take hn)
    refine ⟨zs.take len, .inr ⟨a, cap, ?_, fun j u hj => ?_⟩, hwf2⟩
    · congr 1
      simp only [List.length_map, List.length_take]
      omega
    · rw [List.getElem?_map, Option.map_eq_some_iff] at hj
      obtain ⟨n, hn, rfl⟩ := hj
      obtain ⟨hjl, hn2⟩ := List.getElem?_eq_some_iff.1 hn
      rw [List.length_take] at hjl
      rw [List.getElem_take] at hn2
      have h1 := hcell j (by omega)
      have e : zs.getD j 0 = n := by rw [List.getD_eq_getElem?_getD, List.getElem?_eq_getElem (by omega)]; exact hn2
      rw [e] at h1
      obtain ⟨b, o, s⟩ := a
      cases s with
      | none => exact ⟨b, o, rfl, by rw [addr_add] at h1; exact (block_of_cell h1).1, by rw [addr_add] at h1; exact h1⟩
      | some x =>
        have h2 := (block_of_cell (hcell 0 (by omega))).2
        simp [Addr.add] at h2
/-- A cell that reads as a slice whose elements are a cell each. -/
theorem open_cell_rows {H : Type} {enc : TypeId × Value → H} {P : Program} {W : World} {t e : TypeId} {v : Value} {y : DataW H × List MemPlace} {n : Nat}
    (ht : P.underlying t = some (.slice e)) (hc : P.cellsOf e = 1) (hf : DataW.trod enc P W 0 (fun _ => true) true n t [v] = some y) :
    ∃ vs : List Value, RowAt W v vs ∧ ∀ x, x ∈ vs → ∃ k z, DataW.trod enc P W 0 (fun _ => true) true k e [x] = some z := by
  rcases open_slice1 ht hc hf with ⟨hcs, _⟩ | ⟨a, len, cap, m, k, V, D, Pl, hcs, _, hl, hm, hmm, _, hx⟩
  · exact ⟨[], .inl ⟨by simpa using hcs, rfl⟩, fun x hx => by cases hx⟩
  · simp only [if_true] at hmm
    have hv : v = .slice (some a) len cap := by simpa using hcs
    refine ⟨(List.range len).map V, .inr ⟨a, cap, by rw [hv, List.length_map, List.length_range], fun j u hj => ?_⟩, fun x hx' => ?_⟩
    · have hj2 : j < len := by have := (List.getElem?_eq_some_iff.1 hj).1; simpa using this
      have hu : u = V j := by simpa [hj2] using hj.symm
      subst hu
      have h1 := (hx j (by omega)).1
      obtain ⟨b, o, s⟩ := a
      cases s with
      | none => exact ⟨b, o, rfl, by rw [addr_add] at h1; exact (block_of_cell h1).1, by rw [addr_add] at h1; exact h1⟩
      | some q =>
        have h2 := (block_of_cell (hx 0 (by omega)).1).2
        simp [Addr.add] at h2
    · rw [List.mem_map] at hx'
      obtain ⟨j, hj, rfl⟩ := hx'
      have hj2 := List.mem_range.1 hj
      exact ⟨k, _, (hx j (by omega)).2⟩

set_option maxRecDepth 100000 in
set_option maxHeartbeats 1000000 in
theorem runs_lifted (os : Os) (started : os.Started) (H : Type) (enc : TypeId × Value → H) :
    ReturnsInHanded {} Try.checked os 3 .any (Rows.epochRunsSpec.pre6 enc Try.prog Try.f3 Rows.epochRunsRow.domain false) (Rows.epochRunsSpec.post enc Try.prog Try.f3 false true false false) := by
  refine returnsInHanded_of_change (C := Try.checked) own started (by kernel_rfl) Try.func3
    (ChangeSpec.witness6 (enc := enc) (C := Try.checked) false ⟨#[], #[.agg #[.int .i64 0, .slice none 0 0, .slice none 0 0]], []⟩ 8 (by kernel_rfl) (by kernel_rfl) (by kernel_rfl) (by kernel_rfl)) ?_
  intro W base args ds gs before hval0 hW hcnd _
  have hval : ∀ (j : Nat) t v, Try.f3.params[j]? = some t → args[j]? = some v → Value.okWide Try.prog W .any base t v := hval0
  have hW' := hW
  obtain ⟨p, q, hA0, hV, rfl, hfz, hnd⟩ := hW
  have hA : DataW.TrodAll enc Try.prog W 0 (fun _ => true) true Try.f3.params.toList args.toList ds p := hA0
  rw [Try.params3] at hA hval
  obtain ⟨v0, vs0, d0, ds0, p0, q0, hargs, rfl, rfl, h0, r0⟩ := trodAll_cons hA
  obtain ⟨rfl, rfl, rfl⟩ := trodAll_nil r0
  obtain rfl : args = #[v0] := by cases args; simp_all
  obtain ⟨rfl, rfl⟩ := trodVars_none hV
  have hwalk : Calls Try.prog 3 #[v0] W fun e w' => e = .returned (.bool true) ∧ Below W.heap.size W w' := by
    obtain ⟨cs, rfl, hcs⟩ := okWide_struct Try.underlying25 (hval 0 25 v0 rfl rfl)
    have h3 : Try.prog.cellsOf 25 = 3 := by kernel_rfl
    rw [h3] at hcs
    obtain ⟨c0, c1, c2, rfl⟩ := arr3 cs hcs
    obtain ⟨fuel, hf⟩ := h0
    obtain ⟨ys, k, _, _, _, hys, hfield⟩ := DataW.trod_struct Try.underlying25 hf
    have o1 : Try.prog.cellsOf 3 = 1 := by kernel_rfl
    have o2 : Try.prog.cellsOf 22 = 1 := by kernel_rfl
    have o3 : Try.prog.cellsOf 23 = 1 := by kernel_rfl
    have o4 : Try.prog.cellsOf 26 = 1 := by kernel_rfl
    have o5 : Try.prog.cellsOf 77 = 1 := by kernel_rfl
    have hy : ys.length = 3 := hys
    have t0 : DataW.trod enc Try.prog W 0 (fun _ => true) true k 3 (List.take (Try.prog.cellsOf 3) (List.drop 0 [c0, c1, c2])) = ys[0]? := hfield 0 _ rfl
    have t1 : DataW.trod enc Try.prog W 0 (fun _ => true) true k 22 (List.take (Try.prog.cellsOf 22) (List.drop 1 [c0, c1, c2])) = ys[1]? := hfield 1 _ rfl
    have t2 : DataW.trod enc Try.prog W 0 (fun _ => true) true k 23 (List.take (Try.prog.cellsOf 23) (List.drop 2 [c0, c1, c2])) = ys[2]? := hfield 2 _ rfl
    rw [o1, List.getElem?_eq_getElem (by omega)] at t0
    rw [o2, List.getElem?_eq_getElem (by omega)] at t1
    rw [o3, List.getElem?_eq_getElem (by omega)] at t2
    obtain ⟨r, hr, _, wf0⟩ := DataW.trod_int Try.underlying3 t0
    obtain rfl : c0 = .int .i64 r := by simpa [Value.cells] using hr
    obtain ⟨vs, hvs, hin⟩ := open_cell_rows (v := c1) Try.underlying22 o4 t1
    obtain ⟨picks, hp, hpw⟩ := open_cell_ints (v := c2) Try.underlying23 Try.underlying3 o1 t2
    have hacts : ∃ ls, ActsAt W c1 ls ∧ ls.length = vs.length := by
      have hq : ∀ x, ∃ l : List Nat, x ∈ vs → RowAt W x (l.map fun n : Nat => Value.int .u8 n) ∧ ∀ y, y ∈ l → y < 256 := by
        intro x
        by_cases hx : x ∈ vs
        · obtain ⟨k2, z2, hz2⟩ := hin x hx
          obtain ⟨us, hus, huin⟩ := open_cell_rows Try.underlying26 o5 hz2
          have hq2 : ∀ u, ∃ n : Nat, u ∈ us → u = .int .u8 n ∧ n < 256 := by
            intro u
            by_cases hu : u ∈ us
            · obtain ⟨k3, z3, hz3⟩ := huin u hu
              obtain ⟨ys2, k4, _, _, _, hys2, hfield2⟩ := DataW.trod_struct Try.underlying77 hz3
              have hy2 : ys2.length = 1 := hys2
              have s0 : DataW.trod enc Try.prog W 0 (fun _ => true) true k4 5 (List.take (Try.prog.cellsOf 5) (List.drop 0 [u])) = ys2[0]? := hfield2 0 _ rfl
              have o6 : Try.prog.cellsOf 5 = 1 := by kernel_rfl
              rw [o6, List.getElem?_eq_getElem (by omega)] at s0
              obtain ⟨n, hn, _, wfn⟩ := DataW.trod_int Try.underlying5 s0
              obtain ⟨m, rfl, hm⟩ := nat_u8 wfn
              exact ⟨m, fun _ => ⟨by simpa using hn, hm⟩⟩
            · exact ⟨0, fun h => absurd h hu⟩
          obtain ⟨g, hg⟩ := Classical.skolem.1 hq2
          refine ⟨us.map g, fun _ => ⟨?_, fun y hy => ?_⟩⟩
          · have e : (us.map g).map (fun n : Nat => Value.int .u8 n) = us := by
              rw [List.map_map]
              conv => rhs; rw [← List.map_id us]
              exact List.map_congr_left fun u hu => (hg u hu).1.symm
            rw [e]; exact hus
          · rw [List.mem_map] at hy
            obtain ⟨u, hu, rfl⟩ := hy
            exact (hg u hu).2
        · exact ⟨[], fun h => absurd h hx⟩
      obtain ⟨g, hg⟩ := Classical.skolem.1 hq
      refine ⟨vs.map g, ⟨vs, by rw [List.length_map], hvs, fun i x l hx hl => ?_⟩, by rw [List.length_map]⟩
      rw [List.getElem?_map, hx] at hl
      cases hl
      exact hg x (List.mem_of_getElem? hx)
    obtain ⟨ls, hls, hll⟩ := hacts
    by_cases hh : r < 1 ∨ 8 < r ∨ 8 < ls.length ∨ 800 < picks.length
    · obtain ⟨ap, ac, hap⟩ := hvs.form
      obtain ⟨pp, pc, hpp⟩ := hp.form
      rw [hap, hpp]
      rw [List.length_map]
      exact runs_easy r ap _ ac pp _ pc (by rw [← hll]; exact hh)
    · obtain ⟨R, rfl⟩ : ∃ R : Nat, r = R := ⟨r.toNat, by omega⟩
      exact runs_walk stepC R (by omega) (by omega) c1 ls (by omega) c2 picks (by omega) (fun x hx => bd_i64 (hpw x hx)) hls hp
  refine hwalk.mono fun e W' ⟨he, hw⟩ => ?_
  subst he
  exact ⟨_, rfl, law_post (by kernel_rfl) (by kernel_rfl) Try.underlying4 (by kernel_rfl) rfl hW' (by simp [Rows.epochRunsSpec]) hw⟩

theorem epochruns_holds : Rows.EpochRunsSaid :=
  OpenClaim.holds_of_wide 3 Try.f3 rfl rfl rfl rfl rfl rfl rfl ⟨rfl, rfl, rfl, rfl, rfl⟩ rfl rfl rfl rfl rfl (by kernel_rfl) Try.func3 (by kernel_rfl)
    (of_decide_eq_true (by kernel_rfl)) (by unfold Func.isWrapper; first | (rw [if_pos (by decide +kernel)]; kernel_rfl) | (rw [if_neg (by decide +kernel)]; exact ⟨rfl, rfl⟩))
    (fun os started H enc _ => runs_lifted os started H enc)
#print axioms epochruns_holds
end Go.Proofs.Ytefmojohabdjcaa

/-
  PROVED: for every list of slots with their epochs, and of epochs at which it is asked, the law EpochLimbo returns true: what is ready is handed out in its order, what is not is kept, and how many are kept is told. No condition.
-/
import Derived.Test.YtefmojohabdjcaaRow4
import Derived.Test.YtefmojohabdjcaaStructs
import Derived.Test.YtefmojohabdjcaaLimbo4
set_option linter.unusedVariables false
set_option linter.unusedSimpArgs false
namespace Go.Proofs.Ytefmojohabdjcaa
open Go Go.ChangeShapes Go.WideShapes Go.ChangeAt Go.RowKit

/-- A cell that reads as a slice of integers. -/
theorem open_cell_int {H : Type} {enc : TypeId × Value → H} {P : Program} {W : World} {t e : TypeId} {k : IntKind} {v : Value} {y : DataW H × List MemPlace} {n : Nat}
    (ht : P.underlying t = some (.slice e)) (he : P.underlying e = some (.int k)) (hc : P.cellsOf e = 1)
    (hf : DataW.trod enc P W 0 (fun _ => true) true n t [v] = some y) :
    ∃ l : List Int, RowAt W v (l.map fun n : Int => Value.int k n) ∧ ∀ n ∈ l, (Lit.int k n).wf = true := by
  rcases open_ints ht he hc hf with ⟨hcs, _⟩ | ⟨a, len, cap, zs, hcs, _, hl, hm, hz, _, hcell, hwz⟩
  · exact ⟨[], .inl ⟨by simpa [Value.cells] using hcs, rfl⟩, fun n hn => by cases hn⟩
  · simp only [if_true] at hz
    have hv2 : v = .slice (some a) len cap := by simpa [Value.cells] using hcs
    rw [hv2]
    have hwf2 : ∀ n ∈ zs.take len, (Lit.int k n).wf = true := fun n hn => hwz n (List.mem_of_mem_take hn)
    refine ⟨zs.take len, .inr ⟨a, cap, ?_, fun j u hj => ?_⟩, hwf2⟩
    · congr 1
      simp only [List.length_map, List.length_take]
      omega
    · rw [List.getElem?_map, Option.map_eq_some_iff] at hj
      obtain ⟨n, hn, rfl⟩ := hj
      obtain ⟨hjl, hn2⟩ := List.getElem?_eq_some_iff.1 hn
      rw [List.length_take] at hjl
      rw [List.getElem_take] at hn2
      have h1 := hcell j (by omega)
      have e : zs.getD j 0 = n := by rw [List.getD_eq_getElem?_getD, List.getElem?_eq_getElem (by omega)]; exact hn2
      rw [e] at h1
      obtain ⟨b, o, s⟩ := a
      cases s with
      | none => exact ⟨b, o, rfl, by rw [addr_add] at h1; exact (block_of_cell h1).1, by rw [addr_add] at h1; exact h1⟩
      | some x =>
        have h2 := (block_of_cell (hcell 0 (by omega))).2
        simp [Addr.add] at h2

set_option maxRecDepth 100000 in
theorem limbo_lifted (os : Os) (started : os.Started) (H : Type) (enc : TypeId × Value → H) :
    ReturnsInHanded {} Try.checked os 4 .any (Rows.epochLimboSpec.pre6 enc Try.prog Try.f4 Rows.epochLimboRow.domain false) (Rows.epochLimboSpec.post enc Try.prog Try.f4 false true false false) := by
  refine returnsInHanded_of_change (C := Try.checked) own started (by kernel_rfl) Try.func4
    (ChangeSpec.witness6 (enc := enc) (C := Try.checked) false ⟨#[], #[.slice none 0 0], []⟩ 8 (by kernel_rfl) (by kernel_rfl) (by kernel_rfl) (by kernel_rfl)) ?_
  intro W base args ds gs before hval0 hW hcnd _
  have hval : ∀ (j : Nat) t v, Try.f4.params[j]? = some t → args[j]? = some v → Value.okWide Try.prog W .any base t v := hval0
  have hW' := hW
  obtain ⟨p, q, hA0, hV, rfl, hfz, hnd⟩ := hW
  have hA : DataW.TrodAll enc Try.prog W 0 (fun _ => true) true Try.f4.params.toList args.toList ds p := hA0
  rw [Try.params4] at hA hval
  obtain ⟨v0, vs0, d0, ds0, p0, q0, hargs, rfl, rfl, h0, r0⟩ := trodAll_cons hA
  obtain ⟨rfl, rfl, rfl⟩ := trodAll_nil r0
  obtain rfl : args = #[v0] := by cases args; simp_all
  obtain ⟨rfl, rfl⟩ := trodVars_none hV
  have hwalk : Calls Try.prog 4 #[v0] W fun e w' => e = .returned (.bool true) ∧ Below W.heap.size W w' := by
    rcases open_structs Try.underlying38 Try.underlying44 (by kernel_rfl) (by kernel_rfl) (by decide) (hval 0 38 v0 rfl rfl) h0 with rfl | ⟨ad, len, cap, rfl, hl, hm, hc⟩
    · exact limbo_walk none 0 0 (by omega) (fun _ => 0) (fun _ => 0) (fun _ => .slice none 0 0) (fun _ => []) W (fun i hi => absurd hi (by omega))
    · by_cases h40 : 40 < len
      · exact limbo_great _ len cap h40 W
      have hq : ∀ i, ∃ q : Nat × Nat × Value × List Int, i < len → ∃ b off, some ad = some ⟨b, off, none⟩ ∧ b < W.heap.size ∧ W.cell? ⟨b, off + i * 3, none⟩ = some (.int .u64 q.1) ∧ W.cell? ⟨b, off + i * 3 + 1, none⟩ = some q.2.2.1 ∧
          W.cell? ⟨b, off + i * 3 + 2, none⟩ = some (.int .u64 q.2.1) ∧ q.1 < 18446744073709551616 ∧ q.2.1 < 18446744073709551616 ∧ RowAt W q.2.2.1 (intsV q.2.2.2) := by
        intro i
        by_cases hi : i < len
        · obtain ⟨b, off, rfl, hb, hf⟩ := hc i hi
          obtain ⟨x0, y0, n0, e0, t0⟩ := hf 0 _ rfl
          obtain ⟨x1, y1, n1, e1, t1⟩ := hf 1 _ rfl
          obtain ⟨x2, y2, n2, e2, t2⟩ := hf 2 _ rfl
          obtain ⟨m0, hm0, _, wf0⟩ := DataW.trod_int Try.underlying32 t0
          obtain ⟨m2, hm2, _, wf2⟩ := DataW.trod_int Try.underlying32 t2
          obtain ⟨l, hl1, _⟩ := open_cell_int Try.underlying23 Try.underlying3 (by kernel_rfl) t1
          obtain rfl := List.cons.inj hm0 |>.1
          obtain rfl := List.cons.inj hm2 |>.1
          obtain ⟨u0, rfl, hu0⟩ := nat_u64 wf0
          obtain ⟨u2, rfl, hu2⟩ := nat_u64 wf2
          exact ⟨(u0, u2, x1, l), fun _ => ⟨b, off, rfl, hb, e0, e1, e2, hu0, hu2, hl1⟩⟩
        · exact ⟨(0, 0, .nilFunc, []), fun h => absurd h hi⟩
      obtain ⟨f, hf⟩ := Classical.skolem.1 hq
      exact limbo_walk (some ad) len cap (by omega) (fun i => (f i).1) (fun i => (f i).2.1) (fun i => (f i).2.2.1) (fun i => (f i).2.2.2) W hf
  refine hwalk.mono fun e W' ⟨he, hw⟩ => ?_
  subst he
  exact ⟨_, rfl, law_post (by kernel_rfl) (by kernel_rfl) Try.underlying4 (by kernel_rfl) rfl hW' (by simp [Rows.epochLimboSpec]) hw⟩

theorem epochlimbo_holds : Rows.EpochLimboSaid :=
  OpenClaim.holds_of_wide 4 Try.f4 rfl rfl rfl rfl rfl rfl rfl ⟨rfl, rfl, rfl, rfl, rfl⟩ rfl rfl rfl rfl rfl (by kernel_rfl) Try.func4 (by kernel_rfl)
    (of_decide_eq_true (by kernel_rfl)) (by unfold Func.isWrapper; first | (rw [if_pos (by decide +kernel)]; kernel_rfl) | (rw [if_neg (by decide +kernel)]; exact ⟨rfl, rfl⟩))
    (fun os started H enc _ => limbo_lifted os started H enc)
#print axioms epochlimbo_holds
end Go.Proofs.Ytefmojohabdjcaa

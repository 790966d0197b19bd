/-
  PROVED: for every number of words and every list of accesses the law MemRuns returns true: each access answers as the document's memory does, and so do the time, the length and the times of the last changes; no memory is made of a number of words that can't be. No condition.
-/
import Derived.Test.YtmfpfebnlflfiabStructs
import Derived.Test.YtmfpfebnlflfiabRunsW
set_option linter.unusedVariables false
set_option linter.unusedSimpArgs false
namespace Go.Proofs.Ytmfpfebnlflfiab
open Go Go.ChangeShapes Go.WideShapes Go.ChangeAt Go.RowKit

theorem memruns_walk (i : Int) (p : Option Addr) (N cap : Nat) (hm : N ≤ maxLen) (kd : Nat → Nat) (at' : Nat → Int) (od vv : Nat → Nat) (w : World) (ho : OpsAt w p N kd at' od vv) :
    Calls Try.prog 3 #[.int .i64 i, .slice p N cap] w fun e w' => e = .returned (.bool true) ∧ Below w.heap.size w w' := by
  by_cases hN : 200 < N
  · exact memruns_great i p N cap hm hN w
  · by_cases hi : i < 1 ∨ 8192 < i
    · exact memruns_no i hi p N cap (by omega) w
    · obtain ⟨n, rfl⟩ := Int.eq_ofNat_of_zero_le (show 0 ≤ i by omega)
      exact memruns_yes n (by omega) (by omega) p N cap (by omega) kd at' od vv w ho

set_option maxRecDepth 100000 in
theorem memruns_lifted (os : Os) (started : os.Started) (H : Type) (enc : TypeId × Value → H) :
    ReturnsInHanded {} Try.checked os 3 .any (Rows.memRunsSpec.pre6 enc Try.prog Try.f3 Rows.memRunsRow.domain false) (Rows.memRunsSpec.post enc Try.prog Try.f3 false true false false) := by
  refine returnsInHanded_of_change (C := Try.checked) own started (by kernel_rfl) Try.func3
    (ChangeSpec.witness6 (enc := enc) (C := Try.checked) false ⟨#[], #[.int .i64 0, .slice none 0 0], []⟩ 8 (by kernel_rfl) (by kernel_rfl) (by kernel_rfl) (by kernel_rfl)) ?_
  intro W base args ds gs before hval0 hW hcnd _
  have hval : ∀ (j : Nat) t v, Try.f3.params[j]? = some t → args[j]? = some v → Value.okWide Try.prog W .any base t v := hval0
  have hW' := hW
  obtain ⟨p, q, hA0, hV, rfl, hfz, hnd⟩ := hW
  have hA : DataW.TrodAll enc Try.prog W 0 (fun _ => true) true Try.f3.params.toList args.toList ds p := hA0
  rw [Try.params3] at hA hval
  obtain ⟨v0, vs0, d0, ds0, p0, q0, hargs, rfl, rfl, h0, r0⟩ := trodAll_cons hA
  obtain ⟨v1, vs1, d1, ds1, p1, q1, rfl, rfl, rfl, h1, r1⟩ := trodAll_cons r0
  obtain ⟨rfl, rfl, rfl⟩ := trodAll_nil r1
  obtain rfl : args = #[v0, v1] := by cases args; simp_all
  obtain ⟨rfl, rfl⟩ := trodVars_none hV
  obtain ⟨i, rfl, rfl, rfl, w0⟩ := open_int Try.underlying3 (hval 0 3 v0 rfl rfl) h0
  have hwalk : Calls Try.prog 3 #[.int .i64 i, v1] W fun e w' => e = .returned (.bool true) ∧ Below W.heap.size W w' := by
    rcases open_structs Try.underlying22 Try.underlying31 (by kernel_rfl) (by kernel_rfl) (by decide) (hval 1 22 v1 rfl rfl) h1 with rfl | ⟨ad, len, cap, rfl, hl, hm, hc⟩
    · exact memruns_walk i none 0 0 (by omega) (fun _ => 0) (fun _ => 0) (fun _ => 0) (fun _ => 0) W (fun i hi => absurd hi (by omega))
    · have hq : ∀ i, ∃ q : Nat × Int × Nat × Nat, i < len → ∃ b off, some ad = some ⟨b, off, none⟩ ∧ b < W.heap.size ∧ W.cell? ⟨b, off + i * 4, none⟩ = some (.int .u8 q.1) ∧ W.cell? ⟨b, off + i * 4 + 1, none⟩ = some (.int .i64 q.2.1) ∧
          W.cell? ⟨b, off + i * 4 + 2, none⟩ = some (.int .u64 q.2.2.1) ∧ W.cell? ⟨b, off + i * 4 + 3, none⟩ = some (.int .u64 q.2.2.2) ∧ q.1 < 256 := by
        intro i
        by_cases hi : i < len
        · obtain ⟨b, off, rfl, hb, hf⟩ := hc i hi
          obtain ⟨x0, y0, n0, e0, t0⟩ := hf 0 _ rfl
          obtain ⟨x1, y1, n1, e1, t1⟩ := hf 1 _ rfl
          obtain ⟨x2, y2, n2, e2, t2⟩ := hf 2 _ rfl
          obtain ⟨x3, y3, n3, e3, t3⟩ := hf 3 _ rfl
          obtain ⟨m0, hm0, _, wf0⟩ := DataW.trod_int Try.underlying5 t0
          obtain ⟨m1, hm1, _, wf1⟩ := DataW.trod_int Try.underlying3 t1
          obtain ⟨m2, hm2, _, wf2⟩ := DataW.trod_int Try.underlying26 t2
          obtain ⟨m3, hm3, _, wf3⟩ := DataW.trod_int Try.underlying26 t3
          obtain rfl := List.cons.inj hm0 |>.1
          obtain rfl := List.cons.inj hm1 |>.1
          obtain rfl := List.cons.inj hm2 |>.1
          obtain rfl := List.cons.inj hm3 |>.1
          obtain ⟨u0, rfl, hu0⟩ := nat_u8 wf0
          obtain ⟨u2, rfl, _⟩ := nat_u64 wf2
          obtain ⟨u3, rfl, _⟩ := nat_u64 wf3
          exact ⟨(u0, m1, u2, u3), fun _ => ⟨b, off, rfl, hb, e0, e1, e2, e3, hu0⟩⟩
        · exact ⟨(0, 0, 0, 0), fun h => absurd h hi⟩
      obtain ⟨f, hf⟩ := Classical.skolem.1 hq
      exact memruns_walk i (some ad) len cap (by omega) (fun i => (f i).1) (fun i => (f i).2.1) (fun i => (f i).2.2.1) (fun i => (f i).2.2.2) W hf
  refine hwalk.mono fun e W' ⟨he, hw⟩ => ?_
  subst he
  exact ⟨_, rfl, law_post (by kernel_rfl) (by kernel_rfl) Try.underlying4 (by kernel_rfl) rfl hW' (by simp [Rows.memRunsSpec]) hw⟩

theorem memruns_holds : Rows.MemRunsSaid :=
  OpenClaim.holds_of_wide 3 Try.f3 rfl rfl rfl rfl rfl rfl rfl ⟨rfl, rfl, rfl, rfl, rfl⟩ rfl rfl rfl rfl rfl (by kernel_rfl) Try.func3 (by kernel_rfl)
    (of_decide_eq_true (by kernel_rfl)) (by unfold Func.isWrapper; first | (rw [if_pos (by decide +kernel)]; kernel_rfl) | (rw [if_neg (by decide +kernel)]; exact ⟨rfl, rfl⟩))
    (fun os started H enc _ => memruns_lifted os started H enc)
#print axioms memruns_holds
end Go.Proofs.Ytmfpfebnlflfiab

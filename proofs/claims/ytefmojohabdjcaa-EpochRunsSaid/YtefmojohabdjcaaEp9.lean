/-
  Advance: contract.
-/
import Derived.Test.YtefmojohabdjcaaEp8
set_option linter.unusedVariables false
set_option linter.unusedSimpArgs false
namespace Go.Proofs.Ytefmojohabdjcaa
open Go Go.RowKit
attribute [local go_sem ↓] Go.wp_at_zero Go.wp_at_succ

variable {p : EP} {s : ES} {W W' : World}
/-- An Advance, as it is made. -/
def NewM (p : EP) (W : World) (e : Ending) (w' : World) : Prop :=
  ∃ V A b c, e = .returned (.pointer (some ⟨V, 0, none⟩)) ∧ W.heap.size ≤ V ∧ W.heap.size ≤ A ∧ W.heap.size ≤ b ∧ W.heap.size ≤ c ∧ MvAt w' V (pa A) false ∧ ActAt w' A (fv 46 (capV b c)) 0 ∧ AB p w' b c V ∧ Below W.heap.size W w'

set_option maxRecDepth 20000 in
set_option maxHeartbeats 1000000 in
theorem adv_c (W : World) : Calls Try.prog 28 #[pE p] W fun e w' => NewM p W e w' := by
  obtain ⟨D, hD⟩ : ∃ D, W.heap.size = D := ⟨_, rfl⟩
  have hW3 : ∃ W3, ((W.alloc (.cells #[pE p] 28)).alloc (.cells #[.pointer none, .bool false] 80)).alloc (.cells #[.pointer (some ⟨D + 1, 0, none⟩)] 73) = W3 ∧ Boxed W3 D 28 (pE p) ∧ MvAt W3 (D + 1) (.pointer none) false ∧ Boxed W3 (D + 1 + 1) 73 (.pointer (some ⟨D + 1, 0, none⟩)) ∧ Below D W W3 ∧ W3.heap.size = D + 3 := by
    refine ⟨_, rfl, ?_, ?_, ?_, ?_, by simp; omega⟩
    · have := ((Boxed.new W 28 (pE p)).alloc (.cells #[.pointer none, .bool false] 80)).alloc (.cells #[.pointer (some ⟨D + 1, 0, none⟩)] 73)
      rw [hD] at this; exact this
    · have h := heap_alloc_new (W.alloc (.cells #[pE p] 28)) (.cells #[.pointer none, .bool false] 80)
      rw [World.size_alloc, hD] at h
      exact (Below.heap_alloc _ _ _ (by simp; omega)).trans h
    · have h := Boxed.new ((W.alloc (.cells #[pE p] 28)).alloc (.cells #[.pointer none, .bool false] 80)) 73 (.pointer (some ⟨D + 1, 0, none⟩))
      rw [World.size_alloc, World.size_alloc, hD] at h
      exact h
    · exact (((Below.refl _ _).alloc (by omega) _).alloc (by simp; omega) _).alloc (by simp; omega) _
  obtain ⟨W3, hW3e, hb, hm, hc, hbel, hsz⟩ := hW3
  have HW3 := Lib.hid hW3e
  have HB := Lib.hid hb
  have HM := Lib.hid hm
  have HC := Lib.hid hc
  have HBE := Lib.hid hbel
  have HZ := Lib.hid hsz
  have HD := Lib.hid hD
  clear hW3e hb hm hc hbel hsz
  unfold pE at *
  go_enter Try.func28, Try.ntmps28
  go_wp2_with fail
  clear hD
  rw [HW3.out]
  -- the act
  obtain ⟨o, ho⟩ : ∃ o : Obj, (.cells #[fv 46 (capV D (D + 1 + 1)), .int .i64 0] 106) = o := ⟨_, rfl⟩
  obtain ⟨X, hX⟩ : ∃ X, W3.setCell ⟨D + 1, 0, none⟩ (pa (D + 3)) = X := ⟨_, rfl⟩
  have hXs : X.heap.size = D + 3 := by rw [← hX, size_setCell]; exact HZ.out
  have hXk : ∀ k, k ≠ D + 1 → X.heap[k]? = W3.heap[k]? := fun k hk => by rw [← hX]; exact Below.heap_setCell _ ⟨D + 1, 0, none⟩ _ k hk
  have hXm : MvAt X (D + 1) (pa (D + 3)) false := by rw [← hX]; exact HM.out.set0 _
  have hXb : Below D W X := by rw [← hX]; exact HBE.out.setCell (p := ⟨D + 1, 0, none⟩) (by show D ≤ D + 1; omega) _
  have hbX : Below X.heap.size X (X.alloc o) := (Below.refl _ _).alloc (Nat.le_refl _) _
  have hA : ActAt (X.alloc o) (D + 3) (fv 46 (capV D (D + 1 + 1))) 0 := by
    have h := heap_alloc_new X o
    rw [hXs, ← ho] at h
    rw [← ho]; exact h
  have hcX : Boxed X (D + 1 + 1) 73 (.pointer (some ⟨D + 1, 0, none⟩)) := (hXk _ (by omega)).trans HC.out
  have hbX0 : Boxed X D 28 (.pointer (some ⟨p.E, 0, none⟩)) := (hXk _ (by omega)).trans HB.out
  have hcB : Boxed (X.alloc o) (D + 1 + 1) 73 (.pointer (some ⟨D + 1, 0, none⟩)) := hcX.alloc _
  have hmB : MvAt (X.alloc o) (D + 1) (pa (D + 3)) false := (hbX.block _ hXm.lt).trans hXm
  have hAB := hA
  have hbB : Boxed (X.alloc o) D 28 (.pointer (some ⟨p.E, 0, none⟩)) := hbX0.alloc _
  have hbelB : Below D W (X.alloc o) := hXb.alloc (by omega) _
  have hcA : Boxed (W3.alloc o) (D + 1 + 1) 73 (.pointer (some ⟨D + 1, 0, none⟩)) := HC.out.alloc _
  have HX := Lib.hid hX
  have x0 := HC.out.cell
  have x1 := hcA.cell
  have x2 := hcB.cell
  rw [← hX] at x2
  obtain ⟨m0, m1, m2, m3⟩ := HM.out.cell
  have m4 := HM.out.lt
  have H1 := Lib.hid hmB
  have H2 := Lib.hid hAB
  have H3 := Lib.hid hbB
  have H4 := Lib.hid hcB
  have H5 := Lib.hid hbelB
  have CA := Lib.hid (fun W' => aNew_some 46 (capV D (D + 1 + 1)) W')
  rw [ho] at CA
  have H0 := Lib.hid ho
  have hsz3 := HZ.out
  clear hX hXs hXk hXm hXb hbX hA hcX hbX0 hcA hcB hmB hAB hbB hbelB ho
  unfold fv capV at CA
  unfold pa at x2 CA
  go_region_held3 (fun w' => w'.cell? ⟨D + 1 + 1, 0, none⟩ = some (.pointer (some ⟨D + 1, 0, none⟩)))
    (first | exact x0 | exact x1 | exact x2)
    ((go_at_call 32; refine (CA.out _).mono ?_; rintro e w' ⟨rfl, rfl⟩))
  all_goals
    have hX := HX.out
    unfold pa at hX
    rw [hX]
    have y0 := (show Boxed (X.alloc o) (D + 1 + 1) 73 _ from H4.out).cell
    have y1 := H4.out.lt
    clear x0 x1 x2 m0 m1 m2 m3 m4 hX
    obtain ⟨Y, hY⟩ : ∃ Y, X.alloc o = Y := ⟨_, rfl⟩
    rw [hY] at y0 y1 H1 H2 H3 H4 H5 ⊢
    clear hY
    go_wp2_with fail
    go_ret
    refine ⟨D + 1, D + 3, D, D + 1 + 1, rfl, by rw [HD.out]; omega, by rw [HD.out]; omega, by rw [HD.out]; exact Nat.le_refl _, by rw [HD.out]; omega, H1.out, H2.out, ⟨H3.out, H4.out⟩, ?_⟩
    rw [HD.out]
    exact H5.out.trans ⟨rfl, rfl, rfl, Nat.le_refl _, fun _ _ => rfl⟩
end Go.Proofs.Ytefmojohabdjcaa

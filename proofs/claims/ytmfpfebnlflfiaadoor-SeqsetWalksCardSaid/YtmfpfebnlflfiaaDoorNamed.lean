/-
  The flag of a name: a walk over all flags, left at the first whose name is alike.
-/
import Derived.Test.YtmfpfebnlflfiaaDoorBase
import Derived.Test.YtmfpfebnlflfiaaDoorFlagIt2
import Derived.Test.YtmfpfebnlflfiaaDoorCut
set_option linter.unusedVariables false
set_option linter.unusedSimpArgs false
namespace Go.Proofs.YtmfpfebnlflfiaaDoor
open Go Go.RowKit Go.Shelf
attribute [local go_sem] Oper.semAt_some wide_fn wide_depth

theorem seq31 : seqOf 31 5 = [0, 1, 2, 3, 4] := by decide
theorem mem31 {i : Nat} (hi : i < 5) : i ∈ seqOf 31 5 := by
  have : ∀ i < 5, i ∈ seqOf 31 5 := by decide
  exact this i hi
theorem pow_flag {l : List UInt8} {i : Nat} (hi : i < 5) (h : alikeB l (nm i) = true) : (2 : Int) ^ i % 256 = (flagOf l : Int) := by
  rw [flagOf_at hi h, pow_mod hi]

set_option maxRecDepth 100000 in
set_option maxHeartbeats 4000000 in
theorem named_c (A : ByteArray) (hA : A.size ≤ 9223372036854775806) (w : World) (hN : Names w) : Calls Tryd.prog 39 #[.string A] w fun e w' => e = .returned (.int .u8 (flagOf A.data.toList)) ∧ Below w.heap.size w w' := by
  refine (callsIn_wide (n := 3)).1 ?_
  refine callsIn_of_wp_marks Tryd.func39 rfl trivial ?_
  simp only [Tryd.ntmps39, List.size_toArray, List.length_cons, List.length_nil, Nat.reduceAdd, Nat.reduceSub, Array.replicate_succ, Array.replicate_zero, List.push_toArray, List.append_toArray, List.nil_append, List.cons_append]
  have HN := Lib.hid hN
  clear hN
  gi_wp2_with (gi_at_call 33; refine CallsIn.w (flags_c _ _) ?_; rintro e w' ⟨rfl, rfl⟩)
  have bA := ((Boxed.new w 9 (.string A)).alloc (.cells #[.int .u8 0] 24)).alloc (.cells #[.int .u8 31] 24)
  have bR := (Boxed.new (w.alloc (.cells #[.string A] 9)) 24 (.int .u8 0)).alloc (.cells #[.int .u8 31] 24)
  have bS := Boxed.new ((w.alloc (.cells #[.string A] 9)).alloc (.cells #[.int .u8 0] 24)) 24 (.int .u8 31)
  have hB0 : Below w.heap.size w (((w.alloc (.cells #[.string A] 9)).alloc (.cells #[.int .u8 0] 24)).alloc (.cells #[.int .u8 31] 24)) := (((Below.refl _ w).alloc (Nat.le_refl _) _).alloc (by simp) _).alloc (by simp; omega) _
  have hsz : (((w.alloc (.cells #[.string A] 9)).alloc (.cells #[.int .u8 0] 24)).alloc (.cells #[.int .u8 31] 24)).heap.size = w.heap.size + 3 := by simp
  simp only [World.size_alloc] at bR bS
  obtain ⟨W0, hW0⟩ : ∃ W0, ((w.alloc (.cells #[.string A] 9)).alloc (.cells #[.int .u8 0] 24)).alloc (.cells #[.int .u8 31] 24) = W0 := ⟨_, rfl⟩
  rw [hW0] at bA bR bS hB0 hsz ⊢
  clear hW0
  refine wpIn_rangeIter (gf := 49) (lb := #[.pointer (some ⟨w.heap.size + 1 + 1, 0, none⟩)]) rfl (enters_of Tryd.func49 (by kernel_rfl) rfl) (flags1_iter 31 (w.heap.size + 1 + 1) (by omega)) (fun _ => False) (fun _ h => h.elim) (fun _ => rfl)
    (fun k hk => by subst hk; omega) (fun W' hW' => ⟨HN.out.later ((hB0.trans (hW'.mono (by omega))).mono HN.out.lt), (hW'.block _ (by omega)).trans bS⟩)
    (fun pre W' => (∀ i ∈ pre, alikeB A.data.toList (nm i) = false) ∧ Boxed W' w.heap.size 9 (.string A) ∧ Boxed W' (w.heap.size + 1) 24 (.int .u8 0) ∧ Below w.heap.size w W')
    (fun c pre W' => c = .ret ∧ Boxed W' (w.heap.size + 1) 24 (.int .u8 (flagOf A.data.toList)) ∧ Below w.heap.size w W')
    (fun s' X Y h hAB => ⟨h.1, hAB.boxed h.2.1 (.inl (by omega)), hAB.boxed h.2.2.1 (.inl (by omega)), h.2.2.2.trans (hAB.toBelow.mono (by omega))⟩)
    (fun c s' X Y h hAB => ⟨h.1, hAB.boxed h.2.1 (.inl (by omega)), h.2.2.trans (hAB.toBelow.mono (by omega))⟩)
    ⟨by simp, bA, bR, hB0⟩ ?round ?done ?stop
  case round =>
    rintro l' pre x W1 hl ⟨hp, ha, hr, hb⟩ hst
    have hx5 : x < 5 := by
      have := (List.IsPrefix.subset hst) (show x ∈ pre ++ [x] by simp)
      exact (mem_seqOf this).1
    gi_wp2
    refine ⟨Keeps.refl _ _ _ _, fun W2 hits hsz2 hrec hoth => ?_⟩
    have ha2 := hits.boxed ha (.inl (by omega))
    have hr2 := hits.boxed hr (.inl (by omega))
    have hb2 := hb.trans (hits.toBelow.mono (show w.heap.size ≤ W0.heap.size by omega))
    have ca := ha2.cell
    have HA := Lib.hid ha2
    have HR := Lib.hid hr2
    have HB := Lib.hid hb2
    have HP := Lib.hid hp
    clear hp ha hr hb hst hits hrec hoth hsz2 ha2 hr2 hb2
    have hnx : (nmB x).size ≤ 9223372036854775806 := Nat.le_trans (nmB_size' x) (by omega)
    cases hal : alikeB A.data.toList (nm x) with
    | false =>
      have HAL := Lib.hid hal
      have hc : Calls Tryd.prog 52 #[.string A, .string (nmB x)] W2 fun e w' => e = .returned (.bool false) ∧ ∃ n, w' = W2.drewN n := by
        have := alike_c A (nmB x) hA hnx W2
        rwa [show (nmB x).data.toList = nm x by simp [nmB], hal] at this
      have HC := Lib.hid hc
      clear hc hal
      gi_wp2_with fail
      refine CallsIn.wr HC.out ?_
      rintro e w' ⟨rfl, n, hw⟩
      have HW := Lib.hid hw
      clear hw
      gi_wp2_with fail
      rw [HW.out]
      refine ⟨Keeps.drewN _ _ _ _ _, fun i hi => ?_, HA.out, HR.out, below_drewN HB.out n⟩
      rcases List.mem_append.1 hi with h | h
      · exact HP.out i h
      · rw [List.mem_singleton.1 h]; exact HAL.out
    | true =>
      have HAL := Lib.hid hal
      have hc : Calls Tryd.prog 52 #[.string A, .string (nmB x)] W2 fun e w' => e = .returned (.bool true) ∧ ∃ n, w' = W2.drewN n := by
        have := alike_c A (nmB x) hA hnx W2
        rwa [show (nmB x).data.toList = nm x by simp [nmB], hal] at this
      have HC := Lib.hid hc
      clear hc hal
      gi_wp2_with fail
      refine CallsIn.wr HC.out ?_
      rintro e w' ⟨rfl, n, hw⟩
      have hr3 : Boxed w' (w.heap.size + 1) 24 (.int .u8 0) := by rw [hw]; exact HR.out
      have cr := hr3.cell
      have fr := hr3.frozen
      have HW := Lib.hid hw
      have HR3 := Lib.hid hr3
      clear hw hr3
      gi_wp2_with fail
      have hk : Keeps (fun _ => False) (fun k => k = w.heap.size + 1 + 1) W0.heap.size W2 w' := by rw [HW.out]; exact Keeps.drewN _ _ _ _ _
      have hb3 : Below w.heap.size w w' := by rw [HW.out]; exact below_drewN HB.out n
      refine ⟨hk.trans (Keeps.setCell _ _ ⟨w.heap.size + 1, 0, none⟩ _ (by simp) (by show w.heap.size + 1 < W0.heap.size; omega)), rfl, ?_, hb3.setCell (p := ⟨w.heap.size + 1, 0, none⟩) (by simp) _⟩
      rw [pow_flag hx5 HAL.out]
      exact HR3.out.set _
  case done =>
    rintro D xs W1 hD rfl ⟨hp, ha, hr, hb⟩ hK
    have HP := Lib.hid hp
    have HB := Lib.hid hb
    have HR := Lib.hid hr
    have cr := hr.cell
    have fr := hr.frozen
    have HK := Lib.hid hK
    clear hp ha hr hb hK
    gi_wp2_with fail
    have hK' : (W1.setCell ⟨w.heap.size + 1, 0, none⟩ (.int .u8 0)).heap[D]? = some (.deferred (some [])) := (Below.heap_setCell W1 ⟨w.heap.size + 1, 0, none⟩ _ D (by show D ≠ w.heap.size + 1; omega)).trans HK.out
    refine ⟨by simp, .inl ⟨_, _, rfl, run_takeDeferred hK', ?_⟩⟩
    have hc5 := cell_kept (HR.out.set (.int .u8 0)).cell (grownBy_putObj' _ D (.deferred none)) (fun r e => by cases e; exact ⟨_, hK', rfl⟩)
    refine ⟨.int .u8 0, ?_, by rw [flagOf_none (fun i hi => HP.out i (mem31 hi))]; rfl, (HB.out.setCell (p := ⟨w.heap.size + 1, 0, none⟩) (by simp) _).trans (belowK_b (w := w) (Nat.le_refl _) _ D _ _ (by omega) hK' rfl rfl)⟩
    simp [results, Tryd.f39, go_sem, hc5]
  case stop =>
    rintro D c pre W1 hD hS ⟨rfl, hr, hb⟩ hK
    have HB := Lib.hid hb
    have HR := Lib.hid hr
    have HK := Lib.hid hK
    clear hr hb hK
    gi_wp2_with fail
    refine ⟨by simp, .inl ⟨_, _, rfl, run_takeDeferred HK.out, ?_⟩⟩
    have hc5 := cell_kept HR.out.cell (grownBy_putObj' _ D (.deferred none)) (fun r e => by cases e; exact ⟨_, HK.out, rfl⟩)
    refine ⟨_, ?_, rfl, HB.out.trans (belowK_b (w := w) (Nat.le_refl _) _ D _ _ (by omega) HK.out rfl rfl)⟩
    simp [results, Tryd.f39, go_sem, hc5]
end Go.Proofs.YtmfpfebnlflfiaaDoor

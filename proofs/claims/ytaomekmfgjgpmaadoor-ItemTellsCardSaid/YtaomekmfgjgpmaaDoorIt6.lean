/-
  The law ItemTells: its walk.
-/
import Derived.Test.YtaomekmfgjgpmaaDoorIt5
set_option linter.unusedVariables false
set_option linter.unusedSimpArgs false
namespace Go.Proofs.YtaomekmfgjgpmaaDoor
open Go Go.RowKit
set_option maxRecDepth 100000 in
set_option maxHeartbeats 8000000 in
theorem itemtells_walk {u f : Nat} {x : List UInt8} (hu : u ≤ 4294967295) (hf : f < 256) (t : Nat) (ht : t < 256) (how : Int) (W : World) (h : IG W) : Calls Tryd.prog 3 #[.int .u8 t, recV u f x, .int .i64 how] W fun e w' => e = .returned (.bool true) ∧ Below W.heap.size W w' := by
  have ex := txt_size x
  have hTri := Tri.new W 24 (.int .u32 u) (.int .u8 f) (.string (txt x))
  by_cases hx : 3000 < x.length
  · obtain ⟨c0, c1, c2, _⟩ := hTri.cell
    have HB : Hid (Below W.heap.size W (W.alloc (.cells #[.int .u32 u, .int .u8 f, .string (txt x)] 24))) := (Below.refl _ _).alloc (Nat.le_refl _) _
    unfold recV
    obtain ⟨X, hX⟩ : ∃ X, txt x = X := ⟨_, rfl⟩
    rw [hX] at ex c0 c1 c2 HB ⊢
    have q : (3000 : Int) < X.size := by omega
    clear hX hTri h
    go_enter Tryd.func3, Tryd.ntmps3
    go_wp2_with fail
    go_ret
    exact ⟨rfl, HB.out⟩
  · obtain ⟨s, hs⟩ : ∃ s, decide ((127 : Int) < t) = s := ⟨_, rfl⟩
    obtain ⟨w0, hw0⟩ : ∃ w0, (W.alloc (.cells #[.int .u32 u, .int .u8 f, .string (txt x)] 24)).alloc (.cells #[.int .i64 how, .bool s] 26) = w0 := ⟨_, rfl⟩
    have HB0 : Hid (Below W.heap.size W w0) := by
      show Below _ _ _
      rw [← hw0]; exact ((Below.refl _ _).alloc (Nat.le_refl _) _).alloc (by simp) _
    have hT0 : Tri w0 W.heap.size 24 (.int .u32 u) (.int .u8 f) (.string (txt x)) := by
      rw [← hw0]
      exact hTri.below ((Below.refl _ _).alloc (Nat.le_refl _) _) hTri.lt
    have hO0 : w0.heap[W.heap.size + 1]? = some (.cells #[.int .i64 how, .bool s] 26 (0, 0)) := by
      rw [← hw0]
      have := heap_alloc_new (W.alloc (.cells #[.int .u32 u, .int .u8 f, .string (txt x)] 24)) (.cells #[.int .i64 how, .bool s] 26)
      rw [World.size_alloc] at this
      exact this
    have hOl : W.heap.size + 1 < w0.heap.size := (Array.getElem?_eq_some_iff.1 hO0).1
    have h0 : IG w0 := h.below HB0.out
    have KS : Hid (∀ w, Below w0.heap.size w0 w → (w.cell? ⟨W.heap.size, 0, none⟩ = some (.int .u32 u) ∧ w.cell? ⟨W.heap.size, 1, none⟩ = some (.int .u8 f) ∧ w.cell? ⟨W.heap.size, 2, none⟩ = some (.string (txt x))) ∧ (w.cell? ⟨W.heap.size + 1, 0, none⟩ = some (.int .i64 how) ∧ w.cell? ⟨W.heap.size + 1, 1, none⟩ = some (.bool s))) := fun w hb => by
      obtain ⟨c0, c1, c2, _⟩ := (hT0.below hb hT0.lt).cell
      have h1 : w.heap[W.heap.size + 1]? = _ := (hb.block _ hOl).trans hO0
      refine ⟨⟨c0, c1, c2⟩, ?_, ?_⟩ <;> (unfold World.cell?; rw [h1]; rfl)
    have C1 : Hid (∀ w, Below w0.heap.size w0 w → Calls Tryd.prog 4 #[.int .u8 t] w fun e w' => e = .returned (.string (txt (itemT askN t))) ∧ Below w.heap.size w w') := fun w hb => iString_c (h0.below hb) t ht
    have C2 : Hid (∀ w, Calls Tryd.prog 5 #[.int .u8 t] w fun e w' => e = .returned (.string (txt (itemT askN t))) ∧ Below w.heap.size w w') := fun w => riText_c t ht w
    have C3 : Hid (∀ w, Calls Tryd.prog 7 #[recV u f x] w fun e w' => e = .returned (recV u f x) ∧ Below w.heap.size w w') := fun w => own7I_c u f x w
    have C4 : Hid (∀ w, Below w0.heap.size w0 w → Calls Tryd.prog 6 #[.int .u8 t, recV u f x] w fun e w' => e = .returned (.string (txt (itemT (telT u f x) t))) ∧ Below w.heap.size w w') := fun w hb => iTell_c (h0.below hb) hu hf (by omega) t ht
    have C5 : Hid (∀ w, Calls Tryd.prog 8 #[.int .u8 t, recV u f x] w fun e w' => e = .returned (.string (txt (itemT (telT u f x) t))) ∧ Below w.heap.size w w') := fun w => riTell_c hu hf (by omega) t ht w
    have C6 : Hid (∀ w, Below w0.heap.size w0 w → Calls Tryd.prog 9 #[.agg #[.int .i64 how, .bool s]] w fun e w' => e = .returned (.string (txt (ordT how s))) ∧ Below w.heap.size w w') := fun w hb => iOrderS_c (h0.below hb) how s
    have C7 : Hid (∀ w, Calls Tryd.prog 10 #[.int .i64 how, .bool s] w fun e w' => e = .returned (.string (txt (ordT how s))) ∧ Below w.heap.size w w') := fun w => riOrder_c how s w
    have C8 : Hid (∀ w, Below w0.heap.size w0 w → Calls Tryd.prog 11 #[] w fun e w' => e = .returned (.bool true) ∧ Below w.heap.size w w') := fun w hb => awake13_c (h0.below hb)
    obtain ⟨c0, c1, c2, _⟩ := hTri.cell
    have HBx : Hid (Below w0.heap.size w0 w0) := Below.refl _ _
    obtain ⟨Q1, hQ1⟩ : ∃ Q, txt (itemT askN t) = Q := ⟨_, rfl⟩
    obtain ⟨Q2, hQ2⟩ : ∃ Q, txt (itemT (telT u f x) t) = Q := ⟨_, rfl⟩
    obtain ⟨Q3, hQ3⟩ : ∃ Q, txt (ordT how s) = Q := ⟨_, rfl⟩
    unfold recV at C3 C4 C5 ⊢
    obtain ⟨X, hX⟩ : ∃ X, txt x = X := ⟨_, rfl⟩
    simp only [hQ1] at C1 C2
    simp only [hQ2] at C4 C5
    simp only [hQ3] at C6 C7
    simp only [hX] at C3 C4 C5 KS
    rw [hX] at ex c0 c1 c2 hw0 ⊢
    have q : ¬ ((3000 : Int) < X.size) := by omega
    have HW0 := Lib.hid hw0
    clear hQ1 hQ2 hQ3 hX hTri hT0 hO0 h0 h hw0 hOl hu hf
    go_enter Tryd.func3, Tryd.ntmps3
    go_wp2_with fail
    rw [HW0.out]
    go_region_held3 (fun w' => (w'.cell? ⟨W.heap.size, 0, none⟩ = some (.int .u32 u) ∧ w'.cell? ⟨W.heap.size, 1, none⟩ = some (.int .u8 f) ∧ w'.cell? ⟨W.heap.size, 2, none⟩ = some (.string X)) ∧ (w'.cell? ⟨W.heap.size + 1, 0, none⟩ = some (.int .i64 how) ∧ w'.cell? ⟨W.heap.size + 1, 1, none⟩ = some (.bool s)))
      (first | exact KS.out _ HBx.out | exact KS.out _ HBx.out.drew)
      (first
        | (go_at_call 4; refine (C1.out _ (by first | exact HBx.out | exact HBx.out.drew)).mono ?_; rintro e wx ⟨rfl, hb⟩; have HBx : Hid (Below w0.heap.size w0 wx) := (by first | exact HBx.out.trans (hb.mono HBx.out.size) | exact HBx.out.drew.trans (hb.mono HBx.out.size)); clear hb)
        | (go_at_call 5; refine (C2.out _).mono ?_; rintro e wx ⟨rfl, hb⟩; have HBx : Hid (Below w0.heap.size w0 wx) := (by first | exact HBx.out.trans (hb.mono HBx.out.size) | exact HBx.out.drew.trans (hb.mono HBx.out.size)); clear hb)
        | (go_at_call 7; refine (C3.out _).mono ?_; rintro e wx ⟨rfl, hb⟩; have HBx : Hid (Below w0.heap.size w0 wx) := (by first | exact HBx.out.trans (hb.mono HBx.out.size) | exact HBx.out.drew.trans (hb.mono HBx.out.size)); clear hb)
        | (go_at_call 6; refine (C4.out _ (by first | exact HBx.out | exact HBx.out.drew)).mono ?_; rintro e wx ⟨rfl, hb⟩; have HBx : Hid (Below w0.heap.size w0 wx) := (by first | exact HBx.out.trans (hb.mono HBx.out.size) | exact HBx.out.drew.trans (hb.mono HBx.out.size)); clear hb)
        | (go_at_call 8; refine (C5.out _).mono ?_; rintro e wx ⟨rfl, hb⟩; have HBx : Hid (Below w0.heap.size w0 wx) := (by first | exact HBx.out.trans (hb.mono HBx.out.size) | exact HBx.out.drew.trans (hb.mono HBx.out.size)); clear hb)
        | (go_at_call 9; refine (C6.out _ (by first | exact HBx.out | exact HBx.out.drew)).mono ?_; rintro e wx ⟨rfl, hb⟩; have HBx : Hid (Below w0.heap.size w0 wx) := (by first | exact HBx.out.trans (hb.mono HBx.out.size) | exact HBx.out.drew.trans (hb.mono HBx.out.size)); clear hb)
        | (go_at_call 10; refine (C7.out _).mono ?_; rintro e wx ⟨rfl, hb⟩; have HBx : Hid (Below w0.heap.size w0 wx) := (by first | exact HBx.out.trans (hb.mono HBx.out.size) | exact HBx.out.drew.trans (hb.mono HBx.out.size)); clear hb)
        | (go_at_call 11; refine (C8.out _ (by first | exact HBx.out | exact HBx.out.drew)).mono ?_; rintro e wx ⟨rfl, hb⟩; have HBx : Hid (Below w0.heap.size w0 wx) := (by first | exact HBx.out.trans (hb.mono HBx.out.size) | exact HBx.out.drew.trans (hb.mono HBx.out.size)); clear hb))
    all_goals
      go_wp2_with fail
      go_ret
      exact ⟨rfl, HB0.out.trans (HBx.out.mono HB0.out.size)⟩
end Go.Proofs.YtaomekmfgjgpmaaDoor

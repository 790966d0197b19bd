/-
  An act that is done at once.
-/
import Derived.Test.YtefmojohabdjcaaEpM3
import Derived.Test.YtefmojohabdjcaaRest
set_option linter.unusedVariables false
set_option linter.unusedSimpArgs false
namespace Go.Proofs.Ytefmojohabdjcaa
open Go Go.RowKit

variable {p : EP} {s : ES} {W W' : World}
theorem row_one (W : World) (v : Value) : RowAt (W.alloc (.cells #[v] 56)) (.slice (some ⟨W.heap.size, 0, none⟩) 1 1) [v] := by
  refine .inr ⟨_, 1, rfl, fun j u hj => ?_⟩
  obtain rfl : j = 0 := by have := (List.getElem?_eq_some_iff.1 hj).1; simp at this; omega
  simp at hj
  subst hj
  refine ⟨W.heap.size, 0, rfl, by rw [World.size_alloc]; omega, ?_⟩
  exact (Boxed.new W 56 v).cell
theorem alone_nil (W : World) : Calls Try.prog 16 #[.pointer none] W fun e w' => e = .returned (.bool false) ∧ w' = W := by
  go_enter Try.func16, Try.ntmps16
  go_wp2_with fail
  go_ret
  exact ⟨rfl, rfl⟩
theorem alone_c {σ : Type} {m : Mach σ} (hm : m.Ok) (hN : m.N = 1) (B : Nat) (hp : m.p 0 = pa B) (s : σ) (F : Nat → Prop) (hM : m.M s F W) (hc : m.cost s + 20 * 13 < 1000000) :
    Calls Try.prog 16 #[pa B] W fun e w' => e = .returned (.bool (m.over (m.rest 12 s).1 0)) ∧ ∃ F', m.M (m.rest 12 s).1 F' w' ∧ Moved F F' W w' := by
  have hb : Below W.heap.size W (W.alloc (.cells #[pa B] 56)) := (Below.refl _ _).alloc (Nat.le_refl _) _
  have hr := row_one W (pa B)
  have hpt : ptrs m = [pa B] := by unfold ptrs; rw [hN]; simp [hp]
  have CR := rest_c hm (by omega) (.slice (some ⟨W.heap.size, 0, none⟩) 1 1) 12 12 rfl (by omega) s F _ (hm.below hM hb) (by omega) (by rw [hpt]; exact hr)
  have HM := Lib.hid hM
  have HBe := Lib.hid hb
  have HCR := Lib.hid CR
  have HO := Lib.hid (fun (W' : World) (F' : Nat → Prop) (h : m.M (m.rest 12 s).1 F' W') => by have := hm.ov h (i := 0) (by omega); rw [hp] at this; exact this)
  obtain ⟨sE, hsE⟩ : ∃ sE, (m.rest 12 s).1 = sE := ⟨_, rfl⟩
  rw [hsE] at HCR HO ⊢
  obtain ⟨nE, hnE⟩ : ∃ nE, (m.rest 12 s).2 = nE := ⟨_, rfl⟩
  rw [hnE] at HCR
  clear hM hb hr hpt CR hc hsE hnE
  unfold pa at *
  go_enter Try.func16, Try.ntmps16
  go_wp2_with fail
  refine HCR.out.mono ?_
  rintro e w2 ⟨rfl, F', h1, h2⟩
  have H1 := Lib.hid h1
  have H2 := Lib.hid ((Moved.of_below HBe.out).trans h2)
  clear h1 h2
  go_wp2_with (go_at_call 24; refine (HO.out _ _ H1.out).mono ?_; rintro e w' ⟨rfl, hw⟩; rw [hw]; clear hw w')
  go_ret
  exact ⟨rfl, F', H1.out, H2.out⟩
end Go.Proofs.Ytefmojohabdjcaa

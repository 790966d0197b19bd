/-
  The chapter's examples: the law's awake: contract.
-/
import Derived.Test.YtmfpfebnlflfiaaDoorHas
set_option linter.unusedVariables false
set_option linter.unusedSimpArgs false
namespace Go.Proofs.YtmfpfebnlflfiaaDoor
open Go Go.RowKit

def ex1 : ByteArray := ⟨#[50, 58, 52, 44, 49, 44, 42]⟩
def exL : List (Nat × Nat) := [(2, 4), (1, 1), (0, 0)]
theorem ex1_set : setOf ex1.data.toList = some exL := by decide +kernel
theorem ex2_set : setOf (⟨#[48, 49]⟩ : ByteArray).data.toList = none := by decide +kernel
theorem exL_text : txt (setT exL) = ex1 := by
  have h2 : Lib.decDigits 2 = [50] := dec_small (by omega)
  have h4 : Lib.decDigits 4 = [52] := dec_small (by omega)
  have h1 : Lib.decDigits 1 = [49] := dec_small (by omega)
  simp [setT, rangesT, rangeT, endT, exL, h1, h2, h4]; rfl
theorem exL_small : Small exL := by
  intro x hx
  simp [exL] at hx
  rcases hx with rfl | rfl | rfl <;> exact ⟨by omega, by omega⟩

set_option maxRecDepth 100000 in
set_option maxHeartbeats 2000000 in
theorem awake2_c (w : World) (hE : Errs w) (hT : Tab w) : Calls Tryd.prog 25 #[] w fun e w' => e = .returned (.bool true) ∧ Below w.heap.size w w' := by
  have HE := Lib.hid hE
  have HT := Lib.hid hT
  have C1 := Lib.hid (qparse_c ex1 (by show (7 : Nat) ≤ _; omega) w hE)
  rw [ex1_set] at C1
  clear hE hT
  go_enter Tryd.func25, Tryd.ntmps25
  go_wp2_with fail
  refine C1.out.mono ?_
  rintro e w1 ⟨⟨v, rfl, ho1⟩, hb1⟩
  have HB1 := Lib.hid hb1
  have HO1 := Lib.hid ho1
  have C2 := Lib.hid (qparse_c ⟨#[48, 49]⟩ (by show (2 : Nat) ≤ _; omega) w1 (HE.out.later hb1 HE.out.lt))
  rw [ex2_set] at C2
  clear hb1 ho1
  go_wp2_with fail
  refine C2.out.mono ?_
  rintro e w2 ⟨he, hb2⟩
  have he2 : e = .returned (.tuple #[.slice none 0 0, .int .i64 2]) := he
  clear he
  subst he2
  have HB2 : Hid (Below w.heap.size w w2) := HB1.out.trans (hb2.mono HB1.out.size)
  have HO2 : Hid (w2.ownsRow w.heap.size 83 2 v exL.length (cellsP exL)) := own_below HO1.out hb2
  clear hb2
  go_wp2_with fail
  refine (qhas_c w.heap.size v exL (by decide) 9 9 w2 HO2.out).mono ?_
  rintro e w3 ⟨rfl, hb3⟩
  have HB3 : Hid (Below w.heap.size w w3) := HB2.out.trans (hb3.mono HB2.out.size)
  have HO3 : Hid (w3.ownsRow w.heap.size 83 2 v exL.length (cellsP exL)) := own_below HO2.out hb3
  clear hb3
  rw [show hasB exL 9 9 = true by decide +kernel]
  go_wp2_with fail
  refine (qhas_c w.heap.size v exL (by decide) 3 9 w3 HO3.out).mono ?_
  rintro e w4 ⟨rfl, hb4⟩
  have HB4 : Hid (Below w.heap.size w w4) := HB3.out.trans (hb4.mono HB3.out.size)
  have HO4 : Hid (w4.ownsRow w.heap.size 83 2 v exL.length (cellsP exL)) := own_below HO3.out hb4
  clear hb4
  rw [show hasB exL 3 9 = true by decide +kernel]
  go_wp2_with fail
  refine (qhas_c w.heap.size v exL (by decide) 5 9 w4 HO4.out).mono ?_
  rintro e w5 ⟨rfl, hb5⟩
  have HB5 : Hid (Below w.heap.size w w5) := HB4.out.trans (hb5.mono HB4.out.size)
  have HO5 : Hid (w5.ownsRow w.heap.size 83 2 v exL.length (cellsP exL)) := own_below HO4.out hb5
  clear hb5
  rw [show hasB exL 5 9 = false by decide +kernel]
  go_wp2_with fail
  refine (qstring_c w.heap.size v exL (by decide) exL_small w5 (HT.out.later HB5.out HT.out.lt) HO5.out).mono ?_
  rintro e w6 ⟨rfl, hb6⟩
  have HB6 : Hid (Below w.heap.size w w6) := HB5.out.trans (hb6.mono HB5.out.size)
  clear hb6
  rw [exL_text]
  unfold ex1
  go_wp2_with fail
  go_ret
  exact ⟨rfl, HB6.out⟩
end Go.Proofs.YtmfpfebnlflfiaaDoor

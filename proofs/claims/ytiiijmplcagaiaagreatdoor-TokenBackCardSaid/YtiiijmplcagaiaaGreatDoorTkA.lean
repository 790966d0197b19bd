/-
  The chapter's examples; the law TokenGivesUp: its walk.
-/
import Derived.Test.YtiiijmplcagaiaaGreatDoorTk9
set_option linter.unusedVariables false
set_option linter.unusedSimpArgs false
namespace Go.Proofs.YtiiijmplcagaiaaGreatDoor
open Go Go.RowKit
variable {W : World} {g : Nat} {s : RS}

theorem Errs.away {w : World} (h : Errs w) (hg : w.heap.size ≤ g) : Away g := by
  obtain ⟨⟨t1, p1, h1⟩, t2, p2, h2⟩ := h
  have a := cell_lt h1
  have b := cell_lt h2
  exact ⟨by dsimp only at a; omega, by dsimp only at b; omega⟩
def exA : RS := ⟨[34, 97, 92, 34, 98, 34], false⟩
def exB : RS := ⟨[123, 50, 125, 13, 10, 120, 121, 122], false⟩
theorem exA_v : strV exA = [97, 34, 98] := by decide +kernel
theorem exA_s : (strS exA).l = [] ∧ (strS exA).f = false := by decide +kernel
theorem exB_v : litV exB = [120, 121] := by decide +kernel
theorem exB_s : (litS exB).l = [122] ∧ (litS exB).f = false := by decide +kernel

set_option maxRecDepth 100000 in
set_option maxHeartbeats 1000000 in
theorem awake12_c (W : World) (hE : Errs W) : Calls Tryz.prog 9 #[] W fun e w' => e = .returned (.bool true) ∧ Below W.heap.size W w' := by
  have R1 := tkRead_c [34, 97, 92, 34, 98, 34] W
  have R2 := fun w => tkRead_c [123, 50, 125, 13, 10, 120, 121, 122] w
  rw [show txt [34, 97, 92, 34, 98, 34] = ⟨#[34, 97, 92, 34, 98, 34]⟩ from rfl] at R1
  rw [show txt [123, 50, 125, 13, 10, 120, 121, 122] = ⟨#[123, 50, 125, 13, 10, 120, 121, 122]⟩ from rfl] at R2
  have R1 := Lib.hid R1
  have R2 := Lib.hid R2
  have HE := Lib.hid hE
  clear hE
  go_enter Tryz.func9, Tryz.ntmps9
  go_wp2_with fail
  refine R1.out.mono ?_
  rintro e w1 ⟨rfl, h1, b1⟩
  have H1 := Lib.hid h1
  have B1 := Lib.hid b1
  have hlt1 : W.heap.size < w1.heap.size := Cells.lt h1
  clear h1 b1
  go_wp2_with fail
  refine (R2.out w1).mono ?_
  rintro e w2 ⟨rfl, h2, b2⟩
  have H2 := Lib.hid h2
  have B2 : Hid (Below W.heap.size W w2) := B1.out.trans (b2.mono (by omega))
  have hlt2 : w1.heap.size < w2.heap.size := Cells.lt h2
  have h1 := H1.out.tk (Tk.of_below (g := w1.heap.size) b2) (by omega)
  have aw1 := HE.out.away (g := W.heap.size) (Nat.le_refl _)
  have aw2 := HE.out.away (g := w1.heap.size) (by omega)
  have e2 := HE.out.below B2.out
  have C1 := tkString_c h1 (fun h => by cases h) (by decide) e2 aw1
  have hx1 : strV ⟨[34, 97, 92, 34, 98, 34], false⟩ = [97, 34, 98] := exA_v
  have hx2 : strS ⟨[34, 97, 92, 34, 98, 34], false⟩ = ⟨[], false⟩ := by
    have := exA_s; rw [show (⟨[34, 97, 92, 34, 98, 34], false⟩ : RS) = exA from rfl]
    cases h : strS exA with | mk l f => rw [h] at this; dsimp only at this; rw [this.1, this.2]
  rw [hx1, hx2, show txt [97, 34, 98] = ⟨#[97, 34, 98]⟩ from rfl] at C1
  have C1 := Lib.hid C1
  have E2 := Lib.hid e2
  clear h1 h2 b2 hx1 hx2 e2 H1
  go_wp2_with fail
  refine C1.out.mono ?_
  rintro e w3 ⟨rfl, h3, k3⟩
  have H3 := Lib.hid h3
  have h2 := H2.out.tk k3 (by omega)
  have B3 : Hid (Below W.heap.size W w3) := B2.out.trans (k3.below (Nat.le_refl _) (by omega))
  have C2 := tkLiteral_c h2 (fun h => by cases h) (by decide) (E2.out.tk k3 aw1) aw2
  have hx1 : litV ⟨[123, 50, 125, 13, 10, 120, 121, 122], false⟩ = [120, 121] := exB_v
  have hx2 : litS ⟨[123, 50, 125, 13, 10, 120, 121, 122], false⟩ = ⟨[122], false⟩ := by
    have := exB_s; rw [show (⟨[123, 50, 125, 13, 10, 120, 121, 122], false⟩ : RS) = exB from rfl]
    cases h : litS exB with | mk l f => rw [h] at this; dsimp only at this; rw [this.1, this.2]
  rw [hx1, hx2, show txt [120, 121] = ⟨#[120, 121]⟩ from rfl] at C2
  have C2 := Lib.hid C2
  clear h3 k3 h2 hx1 hx2 C1 H2
  go_wp2_with fail
  refine C2.out.mono ?_
  rintro e w4 ⟨rfl, h4, k4⟩
  have h3 := H3.out.tk k4 (by omega)
  have B4 : Hid (Below W.heap.size W w4) := B3.out.trans (k4.below (by omega) B3.out.size)
  have C3 := tkEnd_c h3
  have C4 := tkLeft_c h4
  dsimp only at C3 C4
  rw [show (!false && ([] : List UInt8).isEmpty) = true from rfl] at C3
  rw [show ((([122] : List UInt8).length : Nat) : Int) = 1 from rfl] at C4
  have C3 := Lib.hid C3
  have C4 := Lib.hid C4
  clear h3 h4 k4 C2
  go_wp2_with fail
  refine C3.out.mono ?_
  rintro e w5 ⟨rfl, rfl⟩
  go_wp2_with fail
  refine C4.out.mono ?_
  rintro e w6 ⟨rfl, rfl⟩
  go_wp2_with fail
  go_ret
  exact ⟨rfl, B4.out⟩

theorem numS_gone : numN .gone = 0 ∧ numS .gone = .gone := by
  have h : numO .gone = none := rfl
  unfold numN numS
  rw [h]
  exact ⟨rfl, rfl⟩
theorem word_gone (x : List UInt8) : wordB .gone x = false ∧ wordS .gone x = .gone ∧ mustS .gone x = .gone := by
  have h : wordB .gone x = false := rfl
  unfold wordS mustS
  rw [h]
  exact ⟨rfl, rfl, rfl⟩
theorem atom_gone : atomV .gone = [] ∧ atomS .gone = .gone := ⟨rfl, rfl⟩
theorem lit_gone : litV .gone = [] ∧ litS .gone = .gone := by
  have hH : litH .gone = .gone := by unfold litH; rw [(word_gone _).2.2, numS_gone.2, (word_gone _).2.2]
  have h : litB .gone = false := by unfold litB; rw [hH]; rfl
  unfold litV litS
  rw [h]
  exact ⟨rfl, rfl⟩
theorem str_gone : strV .gone = [] ∧ strS .gone = .gone := ⟨rfl, rfl⟩

end Go.Proofs.YtiiijmplcagaiaaGreatDoor

/-
  The program's reader: to give up, what is left, what comes next, all bytes that are so: contracts.
-/
import Derived.Test.YtkmhdaalabhcbaaDoorTk1
import Derived.Test.YtkmhdaalabhcbaaDoorShelfK
import Derived.Deep.QuietTactic
set_option linter.unusedVariables false
set_option linter.unusedSimpArgs false
namespace Go.Proofs.YtkmhdaalabhcbaaDoor
open Go Go.RowKit

abbrev pt (g : Nat) : Value := .pointer (some ⟨g, 0, none⟩)
/-- A reader of the program. -/
def PR (W : World) (g : Nat) (s : RS) : Prop := Cells W g 55 #[.string (txt s.l), .bool s.f]
theorem PR.facts {W : World} {g : Nat} {s : RS} (h : PR W g s) : W.cell? ⟨g, 0, none⟩ = some (.string (txt s.l)) ∧ W.cell? ⟨g, 1, none⟩ = some (.bool s.f) ∧ g < W.heap.size ∧ W.frozen? ⟨g, 0, none⟩ = false ∧ W.frozen? ⟨g, 1, none⟩ = false :=
  ⟨Cells.cell h rfl, Cells.cell h rfl, Cells.lt h, Cells.frozen h 0, Cells.frozen h 1⟩
theorem PR.tk {W W' : World} {g h : Nat} {s : RS} (hp : PR W g s) (ht : Tk h W W') (hne : g ≠ h) : PR W' g s := Cells.later hp (ht.blk g (Cells.lt hp) hne)
theorem PR.set0 {W : World} {g : Nat} {s : RS} (h : PR W g s) (l : List UInt8) : PR (W.setCell ⟨g, 0, none⟩ (.string (txt l))) g ⟨l, s.f⟩ := Cells.set h 0 _
theorem PR.set1 {W : World} {g : Nat} {s : RS} (h : PR W g s) (f : Bool) : PR (W.setCell ⟨g, 1, none⟩ (.bool f)) g ⟨s.l, f⟩ := Cells.set h 1 _
/-- What a call does: an answer, what the reader then is, and nothing else that was there turns. -/
def Does (W : World) (g : Nat) (v : Value) (s' : RS) (e : Ending) (w' : World) : Prop := e = .returned v ∧ PR w' g s' ∧ Tk g W w'
variable {W : World} {g : Nat} {s : RS}

set_option maxRecDepth 20000 in
theorem tkFail_c (h : PR W g s) : Calls Tryd.prog 35 #[pt g] W (Does W g (.tuple #[]) .gone) := by
  obtain ⟨c0, c1, hb, f0, f1⟩ := h.facts
  have H := Lib.hid h
  clear h
  go_enter Tryd.func35, Tryd.ntmps35
  go_wp2_with fail
  go_end0
  refine ⟨rfl, ?_, ?_⟩
  · exact (H.out.set0 []).set1 true
  · exact (Tk.set W 0 _).trans (Tk.set _ 1 _)
theorem tkEnd_c (h : PR W g s) : Calls Tryd.prog 26 #[pt g] W fun e w' => e = .returned (.bool (!s.f && s.l.isEmpty)) ∧ w' = W := by
  obtain ⟨c0, c1, hb, f0, f1⟩ := h.facts
  clear h
  obtain ⟨f, hf⟩ : ∃ f, s.f = f := ⟨_, rfl⟩
  have e0 := isEmpty_txt' s.l
  obtain ⟨B, hB⟩ : ∃ B, txt s.l = B := ⟨_, rfl⟩
  obtain ⟨y, hy⟩ : ∃ y, s.l.isEmpty = y := ⟨_, rfl⟩
  rw [hf] at c1 ⊢
  rw [hB] at c0 e0
  rw [hy] at e0 ⊢
  clear hB hy
  cases f <;> cases y
  all_goals
    go_enter Tryd.func26, Tryd.ntmps26
    go_wp2_with fail
    go_ret
    exact ⟨by simp [e0], rfl⟩
theorem tkRead_c (l : List UInt8) (W : World) : Calls Tryd.prog 23 #[.string (txt l)] W (fun e w' => e = .returned (pt W.heap.size) ∧ PR w' W.heap.size ⟨l, false⟩ ∧ Below W.heap.size W w') := by
  obtain ⟨B, hB⟩ : ∃ B, txt l = B := ⟨_, rfl⟩
  have HB := Lib.hid hB
  rw [hB]
  clear hB
  go_enter Tryd.func23, Tryd.ntmps23
  go_wp2_with fail
  go_ret
  refine ⟨rfl, ?_, ?_⟩
  · unfold PR Cells
    rw [HB.out]
    exact heap_alloc_new W _
  · exact (Below.refl _ W).alloc (Nat.le_refl _) _
end Go.Proofs.YtkmhdaalabhcbaaDoor

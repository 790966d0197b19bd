/-
  The program's reader: to give up, what is left, what comes next, all bytes that are so: contracts.
-/
import Derived.Test.YtiiijmplcagaiaaGreatDoorTk1
import Derived.Test.YtiiijmplcagaiaaGreatDoorShelfK
import Derived.Deep.QuietTactic
set_option linter.unusedVariables false
set_option linter.unusedSimpArgs false
namespace Go.Proofs.YtiiijmplcagaiaaGreatDoor
open Go Go.RowKit

abbrev pt (g : Nat) : Value := .pointer (some ⟨g, 0, none⟩)
/-- A reader of the program. -/
def PR (W : World) (g : Nat) (s : RS) : Prop := Cells W g 40 #[.string (txt s.l), .bool s.f]
theorem PR.facts {W : World} {g : Nat} {s : RS} (h : PR W g s) : W.cell? ⟨g, 0, none⟩ = some (.string (txt s.l)) ∧ W.cell? ⟨g, 1, none⟩ = some (.bool s.f) ∧ g < W.heap.size ∧ W.frozen? ⟨g, 0, none⟩ = false ∧ W.frozen? ⟨g, 1, none⟩ = false :=
  ⟨Cells.cell h rfl, Cells.cell h rfl, Cells.lt h, Cells.frozen h 0, Cells.frozen h 1⟩
theorem PR.tk {W W' : World} {g h : Nat} {s : RS} (hp : PR W g s) (ht : Tk h W W') (hne : g ≠ h) : PR W' g s := Cells.later hp (ht.blk g (Cells.lt hp) hne)
theorem PR.set0 {W : World} {g : Nat} {s : RS} (h : PR W g s) (l : List UInt8) : PR (W.setCell ⟨g, 0, none⟩ (.string (txt l))) g ⟨l, s.f⟩ := Cells.set h 0 _
theorem PR.set1 {W : World} {g : Nat} {s : RS} (h : PR W g s) (f : Bool) : PR (W.setCell ⟨g, 1, none⟩ (.bool f)) g ⟨s.l, f⟩ := Cells.set h 1 _
/-- What a call does: an answer, what the reader then is, and nothing else that was there turns. -/
def Does (W : World) (g : Nat) (v : Value) (s' : RS) (e : Ending) (w' : World) : Prop := e = .returned v ∧ PR w' g s' ∧ Tk g W w'
variable {W : World} {g : Nat} {s : RS}

set_option maxRecDepth 20000 in
theorem tkFail_c (h : PR W g s) : Calls Tryz.prog 34 #[pt g] W (Does W g (.tuple #[]) .gone) := by
  obtain ⟨c0, c1, hb, f0, f1⟩ := h.facts
  have H := Lib.hid h
  clear h
  go_enter Tryz.func34, Tryz.ntmps34
  go_wp2_with fail
  go_end0
  refine ⟨rfl, ?_, ?_⟩
  · exact (H.out.set0 []).set1 true
  · exact (Tk.set W 0 _).trans (Tk.set _ 1 _)
theorem tkmust_c (h : PR W g s) (b : Bool) : Calls Tryz.prog 26 #[pt g, .bool b] W (Does W g (.tuple #[]) (if b then s else .gone)) := by
  have C := Lib.hid (tkFail_c h)
  have H := Lib.hid h
  clear h
  cases b with
  | true =>
    go_enter Tryz.func26, Tryz.ntmps26
    go_wp2_with fail
    go_end0
    exact ⟨rfl, H.out, Tk.refl _ _⟩
  | false =>
    go_enter Tryz.func26, Tryz.ntmps26
    go_wp2_with fail
    refine C.out.mono ?_
    rintro e w1 ⟨rfl, h1, h2⟩
    have H1 := Lib.hid h1
    have H2 := Lib.hid h2
    clear h1 h2
    go_wp2_with fail
    go_end0
    exact ⟨rfl, H1.out, H2.out⟩
theorem tkLeft_c (h : PR W g s) : Calls Tryz.prog 22 #[pt g] W fun e w' => e = .returned (.int .i64 s.l.length) ∧ w' = W := by
  obtain ⟨c0, c1, hb, f0, f1⟩ := h.facts
  have e0 := txt_size s.l
  obtain ⟨B, hB⟩ : ∃ B, txt s.l = B := ⟨_, rfl⟩
  rw [hB] at c0 e0
  clear h hB
  go_enter Tryz.func22, Tryz.ntmps22
  go_wp2_with fail
  go_ret
  exact ⟨by simp [e0], rfl⟩
theorem tkEnd_c (h : PR W g s) : Calls Tryz.prog 13 #[pt g] W fun e w' => e = .returned (.bool (!s.f && s.l.isEmpty)) ∧ w' = W := by
  obtain ⟨c0, c1, hb, f0, f1⟩ := h.facts
  clear h
  obtain ⟨f, hf⟩ : ∃ f, s.f = f := ⟨_, rfl⟩
  have e0 := isEmpty_txt' s.l
  obtain ⟨B, hB⟩ : ∃ B, txt s.l = B := ⟨_, rfl⟩
  obtain ⟨y, hy⟩ : ∃ y, s.l.isEmpty = y := ⟨_, rfl⟩
  rw [hf] at c1 ⊢
  rw [hB] at c0 e0
  rw [hy] at e0 ⊢
  clear hB hy
  cases f <;> cases y
  all_goals
    go_enter Tryz.func13, Tryz.ntmps13
    go_wp2_with fail
    go_ret
    exact ⟨by simp [e0], rfl⟩
theorem tkNext_c (h : PR W g s) (n : Nat) (c : UInt8) (hn : n = c.toNat) : Calls Tryz.prog 23 #[pt g, .int .u8 n] W fun e w' => e = .returned (.bool (nextB s c)) ∧ w' = W := by
  obtain ⟨c0, c1, hb, f0, f1⟩ := h.facts
  clear h
  unfold nextB
  match hl : s.l, c0 with
  | [], c0 =>
    have e0 : (txt []).toList.isEmpty = true := isEmpty_txt' []
    obtain ⟨B, hB⟩ : ∃ B, txt [] = B := ⟨_, rfl⟩
    rw [hB] at c0 e0
    go_enter Tryz.func23, Tryz.ntmps23
    go_wp2_with fail
    go_ret
    exact ⟨by simp [e0], rfl⟩
  | x :: r, c0 =>
    have e0 : (txt (x :: r)).toList.isEmpty = false := isEmpty_txt' (x :: r)
    have e1 : (txt (x :: r)).size = r.length + 1 := txt_size (x :: r)
    have e2 : (txt (x :: r))[0]'(by omega) = x := at_txt (l := x :: r) (k := 0) (by simp)
    obtain ⟨B, hB⟩ : ∃ B, txt (x :: r) = B := ⟨_, rfl⟩
    simp only [hB] at c0 e0 e1 e2
    have hsz : 0 < B.size := by omega
    have hq1 : (0 : Int) < B.size := by omega
    have hc1 : B[0].toNat < 256 := B[0].toNat_lt
    by_cases hx : x = c
    · subst hx
      subst hn
      have u : ((x.toNat : Int) == (x.toNat : Int)) = true := by rw [beq_iff_eq]
      go_enter Tryz.func23, Tryz.ntmps23
      go_wp2_with fail
      go_ret
      exact ⟨by simp, rfl⟩
    · have u : ((x.toNat : Int) == (n : Int)) = false := by
        rw [beq_eq_false_iff_ne, hn]; intro h; exact hx (UInt8.toNat_inj.1 (by omega))
      have u2 : ((x :: r).head? == some c) = false := by simp [hx]
      rw [u2]
      clear hx hn
      go_enter Tryz.func23, Tryz.ntmps23
      go_wp2_with fail
      go_ret
      exact ⟨by simp [u], rfl⟩
theorem tkRead_c (l : List UInt8) (W : World) : Calls Tryz.prog 10 #[.string (txt l)] W (fun e w' => e = .returned (pt W.heap.size) ∧ PR w' W.heap.size ⟨l, false⟩ ∧ Below W.heap.size W w') := by
  obtain ⟨B, hB⟩ : ∃ B, txt l = B := ⟨_, rfl⟩
  have HB := Lib.hid hB
  rw [hB]
  clear hB
  go_enter Tryz.func10, Tryz.ntmps10
  go_wp2_with fail
  go_ret
  refine ⟨rfl, ?_, ?_⟩
  · unfold PR Cells
    rw [HB.out]
    exact heap_alloc_new W _
  · exact (Below.refl _ W).alloc (Nat.le_refl _) _
end Go.Proofs.YtiiijmplcagaiaaGreatDoor

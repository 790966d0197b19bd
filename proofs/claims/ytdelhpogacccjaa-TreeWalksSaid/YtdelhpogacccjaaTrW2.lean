/-
  The law TreeTells: what it asks of the messages.
-/
import Derived.Test.YtdelhpogacccjaaTrW1
set_option linter.unusedVariables false
set_option linter.unusedSimpArgs false
namespace Go.Proofs.Ytdelhpogacccjaa
open Go Go.RowKit

variable {W W' : World} {lv : Value} {l : List R7}
theorem right_up (h : rightB l = true) (h32 : ∀ r, r ∈ l → r.uid < 4294967296) : Up l ∧ ∀ r, r ∈ l → r.uid ≠ 0 := by
  unfold rightB at h
  rw [List.all_eq_true] at h
  have step : ∀ i, (hi : i < l.length) → (l[i]'hi).uid ≠ 0 ∧ ∀ j, (hj : j + 1 = i) → (l[j]'(by omega)).uid < (l[i]'hi).uid := by
    intro i hi
    have h1 := h i (List.mem_range.2 hi)
    rw [List.getElem?_eq_getElem hi] at h1
    dsimp only at h1
    rw [Bool.and_eq_true] at h1
    refine ⟨by simpa using h1.1, fun j hj => ?_⟩
    subst hj
    have h2 := h1.2
    dsimp only at h2
    rw [List.getElem?_eq_getElem (by omega : j < l.length)] at h2
    simpa using h2
  have mono : ∀ d i, (hi : i + d + 1 < l.length) → (l[i]'(by omega)).uid < (l[i + d + 1]'hi).uid := by
    intro d
    induction d with
    | zero => intro i hi; exact (step (i + 0 + 1) hi).2 i rfl
    | succ d ih => intro i hi; exact Nat.lt_trans (ih i (by omega)) ((step (i + (d + 1) + 1) hi).2 (i + d + 1) (by omega))
  refine ⟨⟨List.pairwise_iff_getElem.2 fun i j hi hj hij => ?_, h32⟩, fun r hr => ?_⟩
  · obtain ⟨d, rfl⟩ : ∃ d, j = i + d + 1 := ⟨j - i - 1, by omega⟩
    exact mono d i hj
  · obtain ⟨i, hi, rfl⟩ := List.getElem_of_mem hr
    exact (step i hi).1
theorem great_small {most : Nat} (h : greatB l most = false) (h32 : ∀ r, r ∈ l → r.uid < 4294967296) : l.length ≤ most ∧ Up l ∧ ∀ r, r ∈ l → r.uid ≠ 0 := by
  unfold greatB at h
  simp only [Bool.or_eq_false_iff, decide_eq_false_iff_not, Bool.not_eq_false'] at h
  exact ⟨by omega, right_up h.2 h32⟩
/-- What the boxes of the law hold. -/
def TS (W2 : World) (r h : Int) (B9 B11 B8 : Nat) (a b c : Value) (w : World) : Prop :=
  w.cell? ⟨B9, 0, none⟩ = some a ∧ w.cell? ⟨B9, 1, none⟩ = some b ∧ w.cell? ⟨B9, 2, none⟩ = some c ∧ w.cell? ⟨B11, 0, none⟩ = some a ∧ w.cell? ⟨B11, 1, none⟩ = some b ∧ w.cell? ⟨B11, 2, none⟩ = some c ∧
    w.cell? ⟨B8, 0, none⟩ = some (.int .i64 r) ∧ w.cell? ⟨B8, 1, none⟩ = some (.int .i64 h) ∧ (B9 < W2.heap.size ∧ B11 < W2.heap.size ∧ B8 < W2.heap.size) ∧ Below W2.heap.size W2 w
theorem TS.call {W2 : World} {r h : Int} {B9 B11 B8 : Nat} {a b c : Value} {w w2 : World} (H : TS W2 r h B9 B11 B8 a b c w) (hb : Below w.heap.size w w2) : TS W2 r h B9 B11 B8 a b c w2 := by
  obtain ⟨h0, h1, h2, h3, h4, h5, h6, h7, h8, h9⟩ := H
  have hs := h9.size
  have e : ∀ k o, k < W2.heap.size → w2.cell? ⟨k, o, none⟩ = w.cell? ⟨k, o, none⟩ := fun k o hk => hb.cell (p := ⟨k, o, none⟩) (by show k < _; omega)
  refine ⟨?_, ?_, ?_, ?_, ?_, ?_, ?_, ?_, h8, h9.trans (hb.mono hs)⟩
  · rw [e _ _ h8.1]; exact h0
  · rw [e _ _ h8.1]; exact h1
  · rw [e _ _ h8.1]; exact h2
  · rw [e _ _ h8.2.1]; exact h3
  · rw [e _ _ h8.2.1]; exact h4
  · rw [e _ _ h8.2.1]; exact h5
  · rw [e _ _ h8.2.2]; exact h6
  · rw [e _ _ h8.2.2]; exact h7
theorem TS.to {W2 : World} {r h : Int} {B9 B11 B8 : Nat} {a b c : Value} {w : World} (H : TS W2 r h B9 B11 B8 a b c w) : Below W2.heap.size W2 w := H.2.2.2.2.2.2.2.2.2
def US (W2 : World) (B9 b o0 o1 o2 : Nat) (a c d : Value) (w : World) : Prop :=
  w.cell? ⟨B9, 0, none⟩ = some a ∧ w.cell? ⟨B9, 1, none⟩ = some c ∧ w.cell? ⟨B9, 2, none⟩ = some d ∧ w.cell? ⟨b, o0, none⟩ = some a ∧ w.cell? ⟨b, o1, none⟩ = some c ∧ w.cell? ⟨b, o2, none⟩ = some d ∧ (B9 < W2.heap.size ∧ b < W2.heap.size) ∧ Below W2.heap.size W2 w
theorem US.call {W2 : World} {B9 b o0 o1 o2 : Nat} {a c d : Value} {w w2 : World} (H : US W2 B9 b o0 o1 o2 a c d w) (hb : Below w.heap.size w w2) : US W2 B9 b o0 o1 o2 a c d w2 := by
  obtain ⟨h0, h1, h2, h3, h4, h5, h8, h9⟩ := H
  have hs := h9.size
  have e : ∀ k o, k < W2.heap.size → w2.cell? ⟨k, o, none⟩ = w.cell? ⟨k, o, none⟩ := fun k o hk => hb.cell (p := ⟨k, o, none⟩) (by show k < _; omega)
  refine ⟨?_, ?_, ?_, ?_, ?_, ?_, h8, h9.trans (hb.mono hs)⟩
  · rw [e _ _ h8.1]; exact h0
  · rw [e _ _ h8.1]; exact h1
  · rw [e _ _ h8.1]; exact h2
  · rw [e _ _ h8.2]; exact h3
  · rw [e _ _ h8.2]; exact h4
  · rw [e _ _ h8.2]; exact h5
end Go.Proofs.Ytdelhpogacccjaa

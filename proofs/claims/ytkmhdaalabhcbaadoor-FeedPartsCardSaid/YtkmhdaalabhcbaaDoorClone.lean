/-
  Rows that are read, and slices.Clone.
-/
import Derived.Test.YtkmhdaalabhcbaaDoorBase
import Derived.LoopTactic
import Derived.OwnWalk
set_option linter.unusedVariables false
set_option linter.unusedSimpArgs false
namespace Go.Proofs.YtkmhdaalabhcbaaDoor
open Go Go.RowKit

theorem infoInt : (Tryd.prog.info? 3).map (fun i => (i.zero, i.size, i.bytes)) = some (some (.int .i64 0), 1, 8) := by kernel_rfl
/-- A slice whose elements are these. -/
def RowAt (W : World) (v : Value) (xs : List Value) : Prop :=
  (v = .slice none 0 0 ∧ xs = []) ∨ ∃ ad cap, v = .slice (some ad) xs.length cap ∧ ∀ j u, xs[j]? = some u → ∃ b off, ad = ⟨b, off, none⟩ ∧ b < W.heap.size ∧ W.cell? ⟨b, off + j, none⟩ = some u
theorem RowAt.below {W W' : World} {v : Value} {xs : List Value} (h : RowAt W v xs) (hb : Below W.heap.size W W') : RowAt W' v xs := by
  rcases h with h | ⟨ad, cap, rfl, h⟩
  · exact .inl h
  · refine .inr ⟨ad, cap, rfl, fun j u hj => ?_⟩
    obtain ⟨b, off, rfl, hlt, hc⟩ := h j u hj
    exact ⟨b, off, rfl, Nat.lt_of_lt_of_le hlt hb.size, by rw [hb.cell (p := ⟨b, _, none⟩) hlt]; exact hc⟩
theorem RowAt.form {W : World} {v : Value} {xs : List Value} (h : RowAt W v xs) : ∃ ad cp, v = .slice ad xs.length cp := by
  rcases h with ⟨rfl, rfl⟩ | ⟨ad, cap, rfl, h⟩
  · exact ⟨none, 0, rfl⟩
  · exact ⟨_, _, rfl⟩
theorem RowAt.at {W : World} {ad : Option Addr} {n cp : Nat} {xs : List Value} (h : RowAt W (.slice ad n cp) xs) {j : Nat} {u : Value} (hj : xs[j]? = some u) :
    ∃ b off, ad = some ⟨b, off, none⟩ ∧ b < W.heap.size ∧ W.cell? ⟨b, off + j, none⟩ = some u := by
  rcases h with ⟨_, rfl⟩ | ⟨a, cap, h1, h⟩
  · simp at hj
  · cases h1
    obtain ⟨b, off, rfl, h2⟩ := h j u hj
    exact ⟨b, off, rfl, h2⟩
theorem RowAt.of_own {W : World} {B e n : Nat} {v : Value} {xs : List Value} (h : W.ownsRow B e 1 v n xs) (hn : xs.length = n) : RowAt W v xs := by
  subst hn
  rcases h.2 with ⟨rfl, h2⟩ | ⟨g, cap, cur, rfl, hg, hgg, rest⟩
  · exact .inl ⟨rfl, List.length_eq_zero_iff.1 h2⟩
  · refine .inr ⟨_, cap, rfl, fun j u hj => ⟨g, 0, rfl, (h.lt g rfl).2, ?_⟩⟩
    have hjl := (List.getElem?_eq_some_iff.1 hj).1
    rw [Nat.zero_add, h.cellAt j (by omega)]
    exact hj
theorem addr_add (b off j : Nat) : (Addr.add ⟨b, off, none⟩ j) = ⟨b, off + j, none⟩ := by
  unfold Addr.add
  split
  · rename_i e; rw [e]; rfl
  · rfl
theorem RowAt.news {W : World} {ad : Addr} {n cap : Nat} {xs : List Value} (h : RowAt W (.slice (some ad) n cap) xs) : ∀ j u, xs[j]? = some u → W.cell? (ad.add j) = some u := by
  intro j u hj
  obtain ⟨b, off, h1, _, hc⟩ := h.at hj
  cases h1
  rw [addr_add]; exact hc

end Go.Proofs.YtkmhdaalabhcbaaDoor

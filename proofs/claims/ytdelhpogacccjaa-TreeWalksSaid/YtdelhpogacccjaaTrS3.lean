/-
  Stand: what a round holds.
-/
import Derived.Test.YtdelhpogacccjaaTrS1
set_option linter.unusedVariables false
set_option linter.unusedSimpArgs false
namespace Go.Proofs.Ytdelhpogacccjaa
open Go Go.RowKit

structure SI (W1 : World) (i j : Nat) (R : List RN) (sv nv : Value) (B : Nat) (w : World) : Prop where
  own : w.ownsRow W1.heap.size 45 26 sv (i + j) (cellsT (List.replicate i noTN ++ (R.take j).map (conv i)))
  rn : RNRow w nv R
  bl : Below W1.heap.size W1 w
  sep : Sep sv nv
  svB : sv.ownBlock ≠ some B
  nvB : nv.ownBlock ≠ some B
  hB : W1.heap.size ≤ B
variable {W1 : World} {i j : Nat} {R : List RN} {sv nv : Value} {B : Nat} {w w' : World}
theorem SI.grown (h : SI W1 i j R sv nv B w) (hg : w.grownBy w' (some B)) : SI W1 i j R sv nv B w' := by
  refine ⟨own_kept7 h.own fun g hgg => hg.block g (h.own.lt g hgg).2 (fun e => h.svB (by rw [hgg]; exact e)), ?_, ?_, h.sep, h.svB, h.nvB, h.hB⟩
  · obtain ⟨g, cp, he, hlt, hr⟩ := h.rn
    have hne : g ≠ B := fun e => h.nvB (by rw [he, e]; rfl)
    have hk : w'.heap[g]? = w.heap[g]? := hg.block g hlt (fun e => hne (by cases e; rfl))
    exact ⟨g, cp, he, Nat.lt_of_lt_of_le hlt hg.size, fun a n hn b u hu => by
      have := hr a n hn b u hu
      simp only [World.cell?, hk] at this ⊢
      exact this⟩
  · exact h.bl.trans ⟨hg.os, hg.tape, hg.output, hg.size, fun k hk => hg.block k (Nat.lt_of_lt_of_le hk h.bl.size) (fun e => by have := h.hB; cases e; omega)⟩
theorem grown_below {A A' : World} (h : Below A.heap.size A A') (row : Option Nat) : A.grownBy A' row := ⟨h.os, h.tape, h.output, h.size, fun k hk _ => h.block k hk⟩
theorem grown_setCell (A : World) (B o : Nat) (u : Value) : A.grownBy (A.setCell ⟨B, o, none⟩ u) (some B) := ⟨rfl, rfl, rfl, by rw [size_setCell7]; exact Nat.le_refl _, fun k _ hk => Below.heap_setCell A ⟨B, o, none⟩ u k (fun e => hk (by rw [e]))⟩
theorem grown_setRow (A : World) (B : Nat) (c : Array Value) : A.grownBy (A.setRow B c) (some B) := ⟨rfl, rfl, rfl, by rw [setRow_size]; exact Nat.le_refl _, fun k _ hk => setRow_other A B k c (fun e => hk (by rw [e]))⟩
/-- What holds behind the round. -/
theorem SI.next {n : RN} {sv2 : Value} {w2 : World} (h : SI W1 i j R sv nv B w) (hn : R[j]? = some n) (ho : w2.ownsRow W1.heap.size 45 26 sv2 (i + j + 1) (cellsT (List.replicate i noTN ++ (R.take j).map (conv i)) ++ (nodeA (conv i n)).toList)) (hg : Gro sv sv2 w w2) :
    w2.ownsRow W1.heap.size 45 26 sv2 (i + (j + 1)) (cellsT (List.replicate i noTN ++ (R.take (j + 1)).map (conv i))) ∧ Below W1.heap.size W1 w2 ∧ RNRow w2 nv R ∧ Sep sv2 nv := by
  refine ⟨?_, h.bl.trans (hg.below h.bl.size (fun g hgg => (h.own.lt g hgg).1)), h.rn.gro h.sep hg, h.sep.gro hg h.rn.lt⟩
  obtain ⟨hk2, hx2⟩ := List.getElem?_eq_some_iff.1 hn
  rw [List.take_succ_eq_append_getElem hk2, hx2, List.map_append, ← List.append_assoc, cellsT_app, List.map_singleton, cellsT_one]
  exact ho
/-- A branch, when k digits are done. -/
def boxT (i : Nat) (n : RN) (k : Nat) : TN := ⟨1, n.cnt, fun d => if d < k then (if 0 ≤ n.kids d then n.kids d + i else n.kids d) else 0, noR⟩
theorem boxT_zero (i : Nat) (n : RN) : boxT i n 0 = ⟨1, n.cnt, fun _ => 0, noR⟩ := rfl
theorem boxT_neg {i k : Nat} {n : RN} (h : ¬ 0 ≤ n.kids k) : (boxT i n k).put k (n.kids k) = boxT i n (k + 1) := by
  unfold boxT TN.put
  congr 1
  funext d
  dsimp only
  by_cases h1 : d = k
  · subst h1; rw [if_pos rfl, if_pos (Nat.lt_succ_self _), if_neg h]
  · rw [if_neg h1]
    by_cases h2 : d < k
    · rw [if_pos h2, if_pos (show d < k + 1 by omega)]
    · rw [if_neg h2, if_neg (show ¬ d < k + 1 by omega)]
theorem boxT_pos {i k : Nat} {n : RN} (h : 0 ≤ n.kids k) : ((boxT i n k).put k (n.kids k)).put k (n.kids k + i) = boxT i n (k + 1) := by
  unfold boxT TN.put
  congr 1
  funext d
  dsimp only
  by_cases h1 : d = k
  · subst h1; rw [if_pos rfl, if_pos (Nat.lt_succ_self _), if_pos h]
  · rw [if_neg h1, if_neg h1]
    by_cases h2 : d < k
    · rw [if_pos h2, if_pos (show d < k + 1 by omega)]
    · rw [if_neg h2, if_neg (show ¬ d < k + 1 by omega)]
theorem boxT_all {i : Nat} {n : RN} (h : n.leaf = false) : nodeA (boxT i n 16) = nodeA (conv i n) := by
  have e : conv i n = ⟨1, n.cnt, fun d => if 0 ≤ n.kids d then n.kids d + i else n.kids d, noR⟩ := by unfold conv; rw [h]; rfl
  rw [e]
  refine nodeA_congr _ _ rfl rfl (fun d hd => ?_) rfl
  show (if d < 16 then _ else _) = _
  rw [if_pos hd]
theorem conv_leaf {i : Nat} {n : RN} (h : n.leaf = true) : conv i n = ⟨2, 0, fun _ => 0, n.rc⟩ := by unfold conv; rw [h]; rfl
end Go.Proofs.Ytdelhpogacccjaa

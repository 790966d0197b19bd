/-
  Rows of the document's nodes, and what they hold.
-/
import Derived.Test.YtdelhpogacccjaaTrB1
import Derived.Deep.AppendLies
import Derived.Maps.AppendAt
import Derived.Laws.OwnMore
import Derived.Great.Walk
import Derived.OwnWalk
set_option linter.unusedVariables false
set_option linter.unusedSimpArgs false
namespace Go.Proofs.Ytdelhpogacccjaa
open Go Go.RowKit

def rnA (n : RN) : Array Value := #[.bool n.leaf, .int .i64 n.cnt, .int .i64 (n.kids 0), .int .i64 (n.kids 1), .int .i64 (n.kids 2), .int .i64 (n.kids 3), .int .i64 (n.kids 4), .int .i64 (n.kids 5), .int .i64 (n.kids 6), .int .i64 (n.kids 7),
  .int .i64 (n.kids 8), .int .i64 (n.kids 9), .int .i64 (n.kids 10), .int .i64 (n.kids 11), .int .i64 (n.kids 12), .int .i64 (n.kids 13), .int .i64 (n.kids 14), .int .i64 (n.kids 15), .int .u32 n.rc.uid, .int .u8 n.rc.fl, .string n.rc.tx]
theorem rnA_size (n : RN) : (rnA n).size = 21 := rfl
theorem rnA_one (n : RN) : (rnA n).all (·.oneCell') = true := by simp [rnA, Value.oneCell']
theorem rnA_mem (n : RN) : ∀ u ∈ (rnA n).toList, u.oneCell' = true := fun u hu => (Array.all_eq_true_iff_forall_mem.1 (rnA_one n)) u (by simpa using hu)
theorem sizeRN : (Try.prog.info? 79).map (·.size) = some 21 := by kernel_rfl
def zeroRN : Value := .agg (rnA ⟨false, 0, fun _ => 0, noR⟩)
theorem infoRN : (Try.prog.info? 79).map (fun i => (i.zero, i.size, i.bytes)) = some (some zeroRN, 21, 168) := by kernel_rfl
theorem built_leaf (r : R7) : Try.prog.built 79 [(0, .bool true), (3, rV r)] = some (rnA (leafN r)) := by kernel_rfl
theorem built_br (c : Int) : Try.prog.built 79 [(1, .int .i64 c)] = some (rnA (brN c (fun _ => 0))) := by kernel_rfl
theorem slice_rn (n : RN) : Try.prog.builtSlice 79 1 [(0, .agg (rnA n))] = some (rnA n) := by kernel_rfl
/-- A node's slot is put. -/
def RN.put (n : RN) (d : Nat) (x : Int) : RN := { n with kids := fun j => if j = d then x else n.kids j }
theorem rnA_put (n : RN) (d : Nat) (hd : d < 16) (x : Int) : (rnA n).setIfInBounds (2 + d) (.int .i64 x) = rnA (n.put d x) := by
  have : d = 0 ∨ d = 1 ∨ d = 2 ∨ d = 3 ∨ d = 4 ∨ d = 5 ∨ d = 6 ∨ d = 7 ∨ d = 8 ∨ d = 9 ∨ d = 10 ∨ d = 11 ∨ d = 12 ∨ d = 13 ∨ d = 14 ∨ d = 15 := by omega
  rcases this with rfl | rfl | rfl | rfl | rfl | rfl | rfl | rfl | rfl | rfl | rfl | rfl | rfl | rfl | rfl | rfl <;> rfl
theorem rnA_at (n : RN) (d : Nat) (hd : d < 16) : (rnA n)[2 + d]? = some (.int .i64 (n.kids d)) := by
  have : d = 0 ∨ d = 1 ∨ d = 2 ∨ d = 3 ∨ d = 4 ∨ d = 5 ∨ d = 6 ∨ d = 7 ∨ d = 8 ∨ d = 9 ∨ d = 10 ∨ d = 11 ∨ d = 12 ∨ d = 13 ∨ d = 14 ∨ d = 15 := by omega
  rcases this with rfl | rfl | rfl | rfl | rfl | rfl | rfl | rfl | rfl | rfl | rfl | rfl | rfl | rfl | rfl | rfl <;> rfl
theorem rnA_congr (n m : RN) (h1 : n.leaf = m.leaf) (h2 : n.cnt = m.cnt) (h3 : ∀ d, d < 16 → n.kids d = m.kids d) (h4 : n.rc = m.rc) : rnA n = rnA m := by
  unfold rnA
  rw [h1, h2, h4, h3 0 (by omega), h3 1 (by omega), h3 2 (by omega), h3 3 (by omega), h3 4 (by omega), h3 5 (by omega), h3 6 (by omega), h3 7 (by omega), h3 8 (by omega), h3 9 (by omega), h3 10 (by omega), h3 11 (by omega), h3 12 (by omega), h3 13 (by omega), h3 14 (by omega), h3 15 (by omega)]
def cellsN (l : List RN) : List Value := l.flatMap fun n => (rnA n).toList
theorem cellsN_len (l : List RN) : (cellsN l).length = l.length * 21 := by
  unfold cellsN
  induction l with
  | nil => rfl
  | cons a t ih => rw [List.flatMap_cons, List.length_append, ih, List.length_cons]; show 21 + _ = _; omega
theorem cellsN_app (a b : List RN) : cellsN (a ++ b) = cellsN a ++ cellsN b := by unfold cellsN; rw [List.flatMap_append]
theorem cellsN_one (n : RN) : cellsN [n] = (rnA n).toList := by unfold cellsN; rw [List.flatMap_singleton]
/-- A row that is one's own grows: what else changes. -/
def Gro (v v' : Value) (A A' : World) : Prop := A.grownBy A' v.ownBlock ∧ ∀ g, v'.ownBlock = some g → v.ownBlock = some g ∨ A.heap.size ≤ g
theorem Gro.refl (v : Value) (A : World) : Gro v v A A := ⟨World.grownBy.refl A _, fun g h => .inl h⟩
theorem Gro.trans {v v' v'' : Value} {A A' A'' : World} (h : Gro v v' A A') (k : Gro v' v'' A' A'') : Gro v v'' A A'' := by
  refine ⟨⟨k.1.os.trans h.1.os, k.1.tape.trans h.1.tape, k.1.output.trans h.1.output, Nat.le_trans h.1.size k.1.size, fun i hi hne => ?_⟩, fun g hg => ?_⟩
  · refine (k.1.block i (Nat.lt_of_lt_of_le hi h.1.size) fun e => ?_).trans (h.1.block i hi hne)
    rcases h.2 i e.symm with h2 | h2
    · exact hne h2.symm
    · omega
  · rcases k.2 g hg with h2 | h2
    · exact h.2 g h2
    · exact .inr (Nat.le_trans h.1.size h2)
theorem Gro.keep {v v' : Value} {A A' : World} (h : Gro v v' A A') {k : Nat} (hk : k < A.heap.size) (hne : v.ownBlock ≠ some k) : A'.heap[k]? = A.heap[k]? := h.1.block k hk (fun e => hne e.symm)
/-- Below all that one owns nothing has changed. -/
theorem Gro.below {v v' : Value} {A A' : World} (h : Gro v v' A A') {D : Nat} (hD : D ≤ A.heap.size) (hv : ∀ g, v.ownBlock = some g → D ≤ g) : Below D A A' :=
  ⟨h.1.os, h.1.tape, h.1.output, h.1.size, fun k hk => h.keep (by omega) (fun e => by have := hv k e; omega)⟩
/-- Blocks that are new, or are made, are nobody's yet. -/
theorem Gro.made {v v' : Value} {A A' B : World} (h : Gro v v' A A') (hb : Below A'.heap.size A' B) : Gro v v' A B :=
  h.trans ⟨⟨hb.os, hb.tape, hb.output, hb.size, fun k hk _ => hb.block k hk⟩, fun g hg => .inl hg⟩
def setL {α : Type} (xs : List α) : Nat → List α → List α
  | _, [] => xs
  | o, v :: r => setL (xs.set o v) (o + 1) r
theorem setL_mid {α : Type} (D : List α) : ∀ (A B C : List α), B.length = D.length → setL (A ++ B ++ C) A.length D = A ++ D ++ C := by
  induction D with
  | nil => intro A B C h; obtain rfl : B = [] := List.length_eq_zero_iff.1 (by simpa using h); rfl
  | cons d D ih =>
    intro A B C h
    match B, h with
    | b :: B, h =>
      have e : (A ++ b :: B ++ C).set A.length d = (A ++ [d]) ++ B ++ C := by
        rw [List.append_assoc, List.set_append_right _ _ (Nat.le_refl _), Nat.sub_self]
        simp
      rw [setL, e]
      have := ih (A ++ [d]) B C (by simpa using h)
      rw [List.length_append, List.length_singleton] at this
      rw [this]
      simp
theorem own_stored {base e size g cap n : Nat} (vs : List Value) : ∀ (w : World) (xs : List Value) (o : Nat), w.ownsRow base e size (.slice (some ⟨g, 0, none⟩) n cap) n xs →
    (w.setCells g o vs).ownsRow base e size (.slice (some ⟨g, 0, none⟩) n cap) n (setL xs o vs) ∧ w.grownBy (w.setCells g o vs) (some g) := by
  induction vs with
  | nil => intro w xs o h; exact ⟨h, World.grownBy.refl w _⟩
  | cons v r ih =>
    intro w xs o h
    obtain ⟨h1, h2⟩ := h.stored o v
    obtain ⟨h3, h4⟩ := ih _ _ (o + 1) h1
    exact ⟨h3, h2.trans h4⟩
theorem own_there {base e size g cap n : Nat} {w : World} {xs : List Value} (h : w.ownsRow base e size (.slice (some ⟨g, 0, none⟩) n cap) n xs) (o m : Nat) (hm : o + m ≤ n * size) : w.there g o m := fun j hj => by
  refine ⟨?_, h.frozenAt _⟩
  rw [h.cellAt (o + j) (by omega), List.getElem?_eq_getElem (by rw [h.1]; omega)]
  rfl
end Go.Proofs.Ytdelhpogacccjaa

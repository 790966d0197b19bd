/-
  How messages stand in nodes, as the document has it: the list of nodes, each branch ahead of what stands below it; and that they are a tree.
-/
import Derived.Test.YtdelhpogacccjaaTr8
set_option linter.unusedVariables false
set_option linter.unusedSimpArgs false
namespace Go.Proofs.Ytdelhpogacccjaa
open Go Go.RowKit

/-- A node of the document's. -/
structure RN where
  leaf : Bool
  cnt : Int
  kids : Nat → Int
  rc : R7
def leafN (r : R7) : RN := ⟨true, 0, fun _ => 0, r⟩
def brN (c : Int) (f : Nat → Int) : RN := ⟨false, c, f, noR⟩
/-- What stands below the first digits. -/
def subsF (f : Nat → List R7 → List RN) (k at' : Nat) (l : List R7) : Nat → List RN
  | 0 => []
  | i + 1 => if part k i l = [] then subsF f k at' l i else subsF f k at' l i ++ f (at' + 1 + (subsF f k at' l i).length) (part k i l)
/-- Where what stands below a digit begins. -/
def posF (f : Nat → List R7 → List RN) (k at' : Nat) (l : List R7) (d : Nat) : Int := if part k d l = [] then -1 else ((at' + 1 + (subsF f k at' l d).length : Nat) : Int)
def treeL : Nat → Nat → List R7 → List RN
  | 0, _, l => [leafN (l.headD noR)]
  | k + 1, at', l => brN l.length (posF (treeL k) k at' l) :: subsF (treeL k) k at' l 16
theorem subs_pre (f : Nat → List R7 → List RN) (k at' : Nat) (l : List R7) (i j : Nat) (h : i ≤ j) : ∃ t, subsF f k at' l j = subsF f k at' l i ++ t := by
  induction j with
  | zero => obtain rfl : i = 0 := by omega
            exact ⟨[], by simp⟩
  | succ j ih =>
    by_cases e : i = j + 1
    · subst e; exact ⟨[], by simp⟩
    · obtain ⟨t, ht⟩ := ih (by omega)
      rw [subsF]
      split
      · exact ⟨t, ht⟩
      · exact ⟨t ++ f (at' + 1 + (subsF f k at' l j).length) (part k j l), by rw [← List.append_assoc, ← ht]⟩
theorem subs_split (f : Nat → List R7 → List RN) (k at' : Nat) (l : List R7) (d n : Nat) (hd : d < n) (hp : part k d l ≠ []) :
    ∃ t, subsF f k at' l n = subsF f k at' l d ++ f (at' + 1 + (subsF f k at' l d).length) (part k d l) ++ t := by
  obtain ⟨t, ht⟩ := subs_pre f k at' l (d + 1) n hd
  refine ⟨t, ?_⟩
  rw [ht]
  congr 1
  rw [subsF, if_neg hp]
/-- The program's node for it. -/
def conv (gap : Nat) (n : RN) : TN := if n.leaf then ⟨2, 0, fun _ => 0, n.rc⟩ else ⟨1, n.cnt, fun d => if 0 ≤ n.kids d then n.kids d + gap else n.kids d, noR⟩
theorem up_one {l : List R7} (h : Up l) (ha : Agree l 0) (hne : l ≠ []) : l = [l.headD noR] := by
  obtain ⟨c, hc⟩ := ha
  match l, hne with
  | [a], _ => rfl
  | a :: b :: t, _ =>
    have h1 := hc a (by simp)
    have h2 := hc b (by simp)
    have h3 := (List.pairwise_cons.1 h.1).1 b (by simp)
    simp at h1 h2
    omega
theorem atOf_mid (pre post : List TN) (n : TN) (hk : n.kind ≠ 0) (s : Nat) (hs : s = pre.length) : atOf (pre ++ n :: post) s = (n, true) := by
  subst hs
  unfold atOf
  rw [if_neg (by omega), Int.toNat_natCast, List.getElem?_append_right (Nat.le_refl _), Nat.sub_self]
  show (if n.kind = 0 then _ else _) = _
  rw [if_neg hk]
theorem sub_tree (gap k : Nat) : ∀ (at' : Nat) (l : List R7) (pre post : List TN), pre.length = gap + at' → l ≠ [] → Up l → Agree l k → Sub (pre ++ (treeL k at' l).map (conv gap) ++ post) k ((at' + gap : Nat) : Int) l := by
  induction k with
  | zero =>
    intro at' l pre post hp hne hu ha
    have h1 := up_one hu ha hne
    refine ⟨by omega, l.headD noR, conv gap (leafN (l.headD noR)), h1, ?_, rfl, rfl, rfl⟩
    show atOf (pre ++ [conv gap (leafN (l.headD noR))] ++ post) _ = _
    rw [List.append_assoc]
    exact atOf_mid pre post _ (by show (2 : Nat) ≠ 0; decide) _ (by omega)
  | succ k ih =>
    intro at' l pre post hp hne hu ha
    refine ⟨by omega, hne, conv gap (brN l.length (posF (treeL k) k at' l)), ?_, rfl, rfl, fun d hd => ?_⟩
    · show atOf (pre ++ (conv gap (brN l.length (posF (treeL k) k at' l)) :: (subsF (treeL k) k at' l 16).map (conv gap)) ++ post) _ = _
      rw [List.append_assoc, List.cons_append]
      exact atOf_mid pre _ _ (by show (1 : Nat) ≠ 0; decide) _ (by omega)
    · show (part k d l = [] ∧ (if 0 ≤ posF (treeL k) k at' l d then posF (treeL k) k at' l d + gap else posF (treeL k) k at' l d) = -1) ∨ Sub _ k (if 0 ≤ posF (treeL k) k at' l d then posF (treeL k) k at' l d + gap else posF (treeL k) k at' l d) (part k d l)
      by_cases hpt : part k d l = []
      · left
        refine ⟨hpt, ?_⟩
        have e : posF (treeL k) k at' l d = -1 := by unfold posF; rw [if_pos hpt]
        rw [e]
        rfl
      · right
        have e : posF (treeL k) k at' l d = ((at' + 1 + (subsF (treeL k) k at' l d).length : Nat) : Int) := by unfold posF; rw [if_neg hpt]
        rw [e, if_pos (by omega)]
        obtain ⟨t, ht⟩ := subs_split (treeL k) k at' l d 16 hd hpt
        have := ih (at' + 1 + (subsF (treeL k) k at' l d).length) (part k d l) (pre ++ conv gap (brN l.length (posF (treeL k) k at' l)) :: (subsF (treeL k) k at' l d).map (conv gap)) (t.map (conv gap) ++ post)
          (by simp; omega) hpt (hu.filter _) (ha.part d)
        have e2 : pre ++ (treeL (k + 1) at' l).map (conv gap) ++ post = (pre ++ conv gap (brN l.length (posF (treeL k) k at' l)) :: (subsF (treeL k) k at' l d).map (conv gap)) ++ (treeL k (at' + 1 + (subsF (treeL k) k at' l d).length) (part k d l)).map (conv gap) ++ (t.map (conv gap) ++ post) := by
          rw [treeL, ht]
          simp
        rw [e2]
        have e3 : ((at' + 1 + (subsF (treeL k) k at' l d).length : Nat) : Int) + (gap : Int) = ((at' + 1 + (subsF (treeL k) k at' l d).length + gap : Nat) : Int) := by omega
        rw [e3]
        exact this
/-- How many nodes there are. -/
theorem tree_len (k : Nat) : ∀ (at' : Nat) (l : List R7), l ≠ [] → Up l → Agree l k → (treeL k at' l).length ≤ (k + 1) * l.length := by
  induction k with
  | zero => intro at' l hne _ _; have := List.length_pos_iff.2 hne; show 1 ≤ _; omega
  | succ k ih =>
    intro at' l hne hu ha
    have hpos := List.length_pos_iff.2 hne
    have step : ∀ i, (subsF (treeL k) k at' l i).length ≤ (k + 1) * (upto k i l).length := by
      intro i
      induction i with
      | zero => simp [subsF]
      | succ i ih2 =>
        rw [subsF, upto_succ ha hu, List.length_append, Nat.mul_add]
        split
        · rename_i h; rw [h]; simp; exact ih2
        · rename_i h
          rw [List.length_append]
          have := ih (at' + 1 + (subsF (treeL k) k at' l i).length) (part k i l) h (hu.filter _) (ha.part i)
          omega
    have h16 := step 16
    rw [upto_all] at h16
    show (subsF (treeL k) k at' l 16).length + 1 ≤ _
    rw [Nat.add_mul]
    omega
theorem subs_len (k at' : Nat) (l : List R7) (i : Nat) (hi : i ≤ 16) : (subsF (treeL k) k at' l i).length ≤ (treeL (k + 1) at' l).length := by
  obtain ⟨t, ht⟩ := subs_pre (treeL k) k at' l i 16 hi
  show _ ≤ (subsF (treeL k) k at' l 16).length + 1
  rw [ht, List.length_append]
  omega
end Go.Proofs.Ytdelhpogacccjaa

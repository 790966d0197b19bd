/-
  The parse of a set's text, on lists of bytes: plain mathematics.
-/
import Derived.Test.YtmfpfebnlflfiaaDoorPure1
set_option linter.unusedVariables false
set_option linter.unusedSimpArgs false
namespace Go.Proofs.YtmfpfebnlflfiaaDoor
open Go Go.RowKit

def lowerB (c : UInt8) : UInt8 := if 65 ≤ c ∧ c ≤ 90 then c + 32 else c
def alikeB (a b : List UInt8) : Bool := a.map lowerB == b.map lowerB
def flagOf (l : List UInt8) : Nat :=
  if alikeB l (nm 0) then 1 else if alikeB l (nm 1) then 2 else if alikeB l (nm 2) then 4 else if alikeB l (nm 3) then 8 else if alikeB l (nm 4) then 16 else 0
/-- The first of the names from k on that is alike. -/
def splitB (c : UInt8) : List UInt8 → List (List UInt8)
  | [] => [[]]
  | x :: r => if x = c then [] :: splitB c r else match splitB c r with
    | [] => [[x]]
    | h :: t => (x :: h) :: t
def ps : List (List UInt8) → Nat → Option Nat
  | [], acc => some acc
  | w :: ws, acc => if flagOf w = 0 then none else ps ws (acc ||| flagOf w)
def inner (l : List UInt8) : List UInt8 := (l.drop 1).take (l.length - 2)
def framed (l : List UInt8) : Bool := decide (2 ≤ l.length) && l[0]? == some 40 && l[l.length - 1]? == some 41
def parseOf (l : List UInt8) : Option Nat := if framed l then (if inner l = [] then some 0 else ps (splitB 32 (inner l)) 0) else none

theorem splitB_ne (c : UInt8) (l : List UInt8) : splitB c l ≠ [] := by
  cases l with
  | nil => simp [splitB]
  | cons x r => unfold splitB; split
                · simp
                · split <;> simp
theorem splitB_none {c : UInt8} {l : List UInt8} (h : ∀ x ∈ l, x ≠ c) : splitB c l = [l] := by
  induction l with
  | nil => rfl
  | cons x r ih =>
    unfold splitB
    rw [if_neg (h x (by simp)), ih (fun y hy => h y (by simp [hy]))]
theorem splitB_some {c : UInt8} {a b : List UInt8} (h : ∀ x ∈ a, x ≠ c) : splitB c (a ++ c :: b) = a :: splitB c b := by
  induction a with
  | nil => show splitB c (c :: b) = _; simp only [splitB, if_true, List.nil_append]
  | cons x r ih =>
    show splitB c (x :: (r ++ c :: b)) = _
    rw [splitB, if_neg (h x (by simp)), ih (fun y hy => h y (by simp [hy]))]
theorem flagOf_lt (l : List UInt8) : flagOf l < 32 := by
  unfold flagOf; repeat' split
  all_goals omega
theorem ps_lt {ws : List (List UInt8)} {acc n : Nat} (ha : acc < 32) (h : ps ws acc = some n) : n < 32 := by
  induction ws generalizing acc with
  | nil => simp [ps] at h; omega
  | cons w ws ih =>
    unfold ps at h
    split at h
    · cases h
    · exact ih (Nat.or_lt_two_pow (n := 5) ha (flagOf_lt w)) h
theorem nm_apart {l : List UInt8} {i j : Nat} (hi : i < 5) (hj : j < 5) (h1 : alikeB l (nm i) = true) (h2 : alikeB l (nm j) = true) : i = j := by
  have : ∀ i < 5, ∀ j < 5, (nm i).map lowerB = (nm j).map lowerB → i = j := by decide +kernel
  unfold alikeB at h1 h2
  simp only [beq_iff_eq] at h1 h2
  exact this i hi j hj (h1.symm.trans h2)
theorem flagOf_at {l : List UInt8} {i : Nat} (hi : i < 5) (h : alikeB l (nm i) = true) : flagOf l = 2 ^ i := by
  have hne : ∀ j < 5, j ≠ i → alikeB l (nm j) = false := fun j hj hji => by
    cases hq : alikeB l (nm j) with
    | false => rfl
    | true => exact absurd (nm_apart hj hi hq h) hji
  unfold flagOf
  obtain e | e | e | e | e : i = 0 ∨ i = 1 ∨ i = 2 ∨ i = 3 ∨ i = 4 := by omega
  all_goals subst e
  all_goals simp_all
theorem flagOf_none {l : List UInt8} (h : ∀ i < 5, alikeB l (nm i) = false) : flagOf l = 0 := by
  unfold flagOf
  simp [h 0 (by omega), h 1 (by omega), h 2 (by omega), h 3 (by omega), h 4 (by omega)]
theorem toNat_lowerB (c : UInt8) : (lowerB c).toNat = if 65 ≤ c.toNat ∧ c.toNat ≤ 90 then c.toNat + 32 else c.toNat := by
  have e : (65 ≤ c ∧ c ≤ 90) ↔ (65 ≤ c.toNat ∧ c.toNat ≤ 90) := by simp [UInt8.le_iff_toNat_le]
  unfold lowerB
  by_cases h : 65 ≤ c ∧ c ≤ 90
  · rw [if_pos h, if_pos (e.1 h), UInt8.toNat_add]
    have := e.1 h
    show (c.toNat + 32) % 256 = _
    omega
  · rw [if_neg h, if_neg (fun x => h (e.2 x))]
/-- The text of a set is parsed as it. -/
theorem parse_text (s : Nat) (hs : s < 32) : parseOf (textOf s) = some s := by
  have : ∀ s < 32, parseOf (textOf s) = some s := by decide +kernel
  exact this s hs
end Go.Proofs.YtmfpfebnlflfiaaDoor

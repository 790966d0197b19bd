/-
  Sets of flags as numbers, and their texts: plain mathematics.
-/
import Derived.WalkKit
set_option linter.unusedVariables false
set_option linter.unusedSimpArgs false
namespace Go.Proofs.YtaomekmfgjgpmaaDoor
open Go Go.RowKit

/-- The names' bytes. -/
def nm : Nat → List UInt8
  | 0 => [92, 65, 110, 115, 119, 101, 114, 101, 100]
  | 1 => [92, 70, 108, 97, 103, 103, 101, 100]
  | 2 => [92, 68, 101, 108, 101, 116, 101, 100]
  | 3 => [92, 83, 101, 101, 110]
  | _ => [92, 68, 114, 97, 102, 116]
def nmB (k : Nat) : ByteArray := ⟨(nm k).toArray⟩
def bit (s i : Nat) : Bool := s / 2 ^ i % 2 == 1
def sHas (s o : Nat) : Bool := (o % 32) &&& (255 - s) == 0
def sChange (s : Nat) (how : Int) (o : Nat) : Nat :=
  (if how = 0 then o else if how = 1 then s ||| o else if how = 2 then s &&& (255 - o) else s) % 32
/-- The flags of a set, in order. -/
def seqOf (s k : Nat) : List Nat := (List.range k).filter (bit s)
/-- The names of some flags, a blank between two. -/
def joined : List Nat → List UInt8
  | [] => []
  | [i] => nm i
  | i :: j :: l => nm i ++ 32 :: joined (j :: l)
def textOf (s : Nat) : List UInt8 := 40 :: joined (seqOf s 5) ++ [41]

theorem seqOf_succ (s k : Nat) : seqOf s (k + 1) = if bit s k then seqOf s k ++ [k] else seqOf s k := by
  unfold seqOf
  rw [List.range_succ, List.filter_append]
  by_cases h : bit s k <;> simp [h]
theorem seqOf_prefix (s : Nat) {j k : Nat} (h : j ≤ k) : seqOf s j <+: seqOf s k := by
  induction k with
  | zero => obtain rfl : j = 0 := by omega
            exact List.prefix_refl _
  | succ k ih =>
    by_cases e : j = k + 1
    · subst e; exact List.prefix_refl _
    · refine (ih (by omega)).trans ?_
      rw [seqOf_succ]; split
      · exact List.prefix_append _ _
      · exact List.prefix_refl _
theorem seqOf_step {s k : Nat} (hk : k < 5) (hb : bit s k = true) : seqOf s k ++ [k] <+: seqOf s 5 := by
  have h := seqOf_prefix s (show k + 1 ≤ 5 by omega)
  rwa [seqOf_succ, if_pos hb] at h
theorem mem_seqOf {s k i : Nat} (h : i ∈ seqOf s k) : i < k ∧ bit s i = true := by
  simpa [seqOf] using h
theorem joined_snoc (l : List Nat) (x : Nat) : joined (l ++ [x]) = if l = [] then nm x else joined l ++ 32 :: nm x := by
  induction l with
  | nil => rfl
  | cons i l ih =>
    cases l with
    | nil => rfl
    | cons j l =>
      rw [if_neg (by simp)] at ih
      rw [if_neg (by simp)]
      show nm i ++ 32 :: joined (j :: l ++ [x]) = (nm i ++ 32 :: joined (j :: l)) ++ 32 :: nm x
      rw [ih]; simp
theorem nm_le (i : Nat) : (nm i).length ≤ 9 ∧ 5 ≤ (nm i).length := by
  unfold nm; split <;> simp
theorem joined_le (l : List Nat) : (joined l).length ≤ 10 * l.length := by
  induction l with
  | nil => simp [joined]
  | cons i l ih =>
    cases l with
    | nil => simp only [joined, List.length_cons, List.length_nil]; have := nm_le i; omega
    | cons j l => simp only [joined, List.length_append, List.length_cons] at ih ⊢; have := nm_le i; omega
theorem joined_pos (i : Nat) (l : List Nat) : 5 ≤ (joined (i :: l)).length := by
  cases l with
  | nil => exact (nm_le i).2
  | cons j l => simp only [joined, List.length_append]; have := nm_le i; omega
theorem seqOf_len (s k : Nat) : (seqOf s k).length ≤ k := by
  have := List.length_filter_le (bit s) (List.range k); simpa [seqOf] using this
theorem has_bit (s i : Nat) (hs : s < 256) (hi : i < 5) : sHas s (2 ^ i) = bit s i := by
  have : ∀ i < 5, ∀ s < 256, sHas s (2 ^ i) = bit s i := by decide +kernel
  exact this i hi s hs
theorem bit_testBit (s i : Nat) : bit s i = s.testBit i := by
  unfold bit; rw [Nat.testBit_eq_decide_div_mod_eq, Bool.eq_iff_iff]; simp
theorem bit_mod32 (x i : Nat) (hi : i < 5) : bit (x % 32) i = bit x i := by
  rw [bit_testBit, bit_testBit, show 32 = 2 ^ 5 from rfl, Nat.testBit_mod_two_pow]; simp [hi]
theorem bit_or (a b i : Nat) : bit (a ||| b) i = (bit a i || bit b i) := by
  rw [bit_testBit, bit_testBit, bit_testBit, Nat.testBit_or]
theorem bit_less (a b i : Nat) (hb : b < 256) (hi : i < 5) : bit (a &&& (255 - b)) i = (bit a i && !bit b i) := by
  rw [bit_testBit, bit_testBit, bit_testBit, Nat.testBit_and, show 255 - b = 2 ^ 8 - (b + 1) by omega, Nat.testBit_two_pow_sub_succ (by omega)]
  simp [show i < 8 by omega]
theorem bit_change (s : Nat) (how : Int) (o i : Nat) (ho : o < 256) (hi : i < 5) :
    bit (sChange s how o) i = if how = 0 then bit o i else if how = 1 then (bit s i || bit o i) else if how = 2 then (bit s i && !bit o i) else bit s i := by
  unfold sChange
  rw [bit_mod32 _ _ hi]
  split
  · rfl
  · split
    · exact bit_or _ _ _
    · split
      · exact bit_less _ _ _ ho hi
      · rfl
theorem mod_succ_on {X k : Nat} (h : bit X k = true) : X % 2 ^ (k + 1) = X % 2 ^ k + 2 ^ k := by
  unfold bit at h; simp only [beq_iff_eq] at h
  rw [Nat.pow_succ, Nat.mod_mul, h]; omega
theorem mod_succ_off {X k : Nat} (h : bit X k = false) : X % 2 ^ (k + 1) = X % 2 ^ k := by
  unfold bit at h; simp only [beq_eq_false_iff_ne] at h
  have : X / 2 ^ k % 2 = 0 := by omega
  rw [Nat.pow_succ, Nat.mod_mul, this]; omega
theorem sChange_lt (s : Nat) (how : Int) (o : Nat) : sChange s how o < 32 := by
  unfold sChange; omega
end Go.Proofs.YtaomekmfgjgpmaaDoor

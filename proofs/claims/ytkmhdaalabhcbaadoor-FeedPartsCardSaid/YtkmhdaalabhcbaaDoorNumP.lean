/-
  Numerals as lists of bytes: what an end of a range spells, in the program's words and in the document's.
-/
import Derived.Lib.ParseIntB
set_option linter.unusedVariables false
set_option linter.unusedSimpArgs false
namespace Go.Proofs.YtkmhdaalabhcbaaDoor
open Go

def dig (c : UInt8) : Prop := 48 ≤ c.toNat ∧ c.toNat ≤ 57
instance (c : UInt8) : Decidable (dig c) := by unfold dig; infer_instance
/-- What digits spell behind a number. -/
def numV : Nat → List UInt8 → Option Nat
  | a, [] => some a
  | a, c :: r => if dig c then numV (10 * a + (c.toNat - 48)) r else none

theorem numV_ge : ∀ (l : List UInt8) (a u : Nat), numV a l = some u → a * 10 ^ l.length ≤ u
  | [], a, u, h => by have : a = u := Option.some.inj h; simp [this]
  | c :: r, a, u, h => by
    unfold numV at h
    split at h
    · have := numV_ge r _ u h
      refine Nat.le_trans ?_ this
      rw [List.length_cons, Nat.pow_succ, Nat.mul_comm (10 ^ r.length) 10, ← Nat.mul_assoc]
      exact Nat.mul_le_mul_right _ (by omega)
    · cases h
theorem numV_le {l : List UInt8} {a u : Nat} (h : numV a l = some u) : a ≤ u :=
  Nat.le_trans (Nat.le_mul_of_pos_right a (Nat.pos_of_ne_zero (by intro e; simp at e))) (numV_ge l a u h)
theorem numV_lt : ∀ (l : List UInt8) (a u : Nat), numV a l = some u → u < (a + 1) * 10 ^ l.length
  | [], a, u, h => by have : a = u := Option.some.inj h; simp [this]
  | c :: r, a, u, h => by
    unfold numV at h
    split at h
    · have := numV_lt r _ u h
      refine Nat.lt_of_lt_of_le this ?_
      rw [List.length_cons, Nat.pow_succ, Nat.mul_comm (10 ^ r.length) 10, ← Nat.mul_assoc]
      rename_i hd
      exact Nat.mul_le_mul_right _ (by have := hd.2; omega)
    · cases h

theorem parseM : ∀ (l : List UInt8) (a u : Nat), a ≤ 4294967295 → (Lib.parseUintM 4294967295 a l = .ok u ↔ numV a l = some u ∧ u ≤ 4294967295)
  | [], a, u, ha => by
    unfold Lib.parseUintM numV
    constructor
    · intro h; cases h; exact ⟨rfl, ha⟩
    · rintro ⟨h, _⟩; cases h; rfl
  | c :: r, a, u, ha => by
    unfold Lib.parseUintM numV
    by_cases hc : 48 ≤ c.toNat ∧ c.toNat ≤ 57
    · rw [if_pos hc, if_pos (show dig c from hc), if_neg (by omega), show a * 10 + (c.toNat - 48) = 10 * a + (c.toNat - 48) by omega]
      by_cases hm : 4294967295 < 10 * a + (c.toNat - 48)
      · rw [if_pos hm]
        constructor
        · intro h; cases h
        · rintro ⟨h, h2⟩; have := numV_le h; omega
      · rw [if_neg hm]; exact parseM r _ u (by omega)
    · rw [if_neg hc, if_neg (show ¬ dig c from hc)]
      constructor
      · intro h; cases h
      · rintro ⟨h, _⟩; cases h

/-- What an end of a range spells, by the program: 0 for the last one. -/
def endB (l : List UInt8) : Option Nat :=
  if l = [42] then some 0 else if l.head? = some 48 then none else match Lib.parseUintB 32 l with | .ok u => some u | _ => none
/-- By the document. -/
def numR (l : List UInt8) (most : Nat) : Option Nat :=
  if l.length < 1 ∨ 10 < l.length ∨ (1 < l.length ∧ l.head? = some 48) then none else match numV 0 l with | some n => if n ≤ most then some n else none | none => none
def endR (l : List UInt8) : Option Nat :=
  if l = [42] then some 0 else match numR l 4294967295 with | some n => if 0 < n then some n else none | none => none

theorem endB_ok {l : List UInt8} (h1 : l ≠ [42]) (h2 : l.head? ≠ some 48) (v : Nat) : endB l = some v ↔ l ≠ [] ∧ numV 0 l = some v ∧ v ≤ 4294967295 := by
  unfold endB
  rw [if_neg h1, if_neg h2]
  unfold Lib.parseUintB
  by_cases hn : l = []
  · rw [if_pos hn]; simp [hn]
  · rw [if_neg hn]
    have hp := parseM l 0
    rw [show (2 ^ 32 - 1 : Nat) = 4294967295 from rfl]
    cases hm : Lib.parseUintM 4294967295 0 l with
    | ok u =>
      have := (hp u (by omega)).1 hm
      simp only [Option.some.injEq]
      constructor
      · rintro rfl; exact ⟨hn, this⟩
      · rintro ⟨_, h, _⟩; exact Option.some.inj (this.1.symm.trans h)
    | range =>
      simp only [reduceCtorEq, false_iff]
      rintro ⟨_, h⟩; exact absurd ((hp v (by omega)).2 h) (by rw [hm]; simp)
    | _ =>
      simp only [reduceCtorEq, false_iff]
      rintro ⟨_, h⟩; exact absurd ((hp v (by omega)).2 h) (by rw [hm]; simp)

theorem endR_endB (l : List UInt8) : endR l = endB l := by
  by_cases h1 : l = [42]
  · unfold endR endB; rw [if_pos h1, if_pos h1]
  by_cases h2 : l.head? = some 48
  · have hB : endB l = none := by unfold endB; rw [if_neg h1, if_pos h2]
    rw [hB]
    unfold endR numR
    rw [if_neg h1]
    by_cases hl : l.length < 1 ∨ 10 < l.length ∨ (1 < l.length ∧ l.head? = some 48)
    · rw [if_pos hl]
    · rw [if_neg hl]
      obtain ⟨c, rfl⟩ : ∃ c, l = [c] := by
        cases l with
        | nil => simp at h2
        | cons c r => cases r with
          | nil => exact ⟨c, rfl⟩
          | cons d r => exfalso; apply hl; simp at h2 ⊢; exact .inr h2
      simp at h2; subst h2; rfl
  · apply Option.ext
    intro v
    rw [endB_ok h1 h2]
    unfold endR numR
    rw [if_neg h1]
    cases l with
    | nil => simp
    | cons c r =>
      have h48 : c ≠ 48 := by intro e; exact h2 (by rw [e]; rfl)
      have hbig : ∀ n, numV 0 (c :: r) = some n → 10 ^ r.length ≤ n := by
        intro n hn
        unfold numV at hn
        split at hn
        · rename_i hd
          have h3 := numV_ge r _ n hn
          have h4 : c.toNat ≠ 48 := fun e => h48 (UInt8.toNat_inj.1 e)
          have h5 : 1 ≤ 10 * 0 + (c.toNat - 48) := by have := hd.1; omega
          exact Nat.le_trans (by simpa using Nat.mul_le_mul_right (10 ^ r.length) h5) h3
        · cases hn
      have hpos : ∀ k, 0 < 10 ^ k := fun k => Nat.pos_of_ne_zero (by simp)
      by_cases hl : 10 < (c :: r).length
      · rw [if_pos (.inr (.inl hl))]
        simp only [reduceCtorEq, false_iff]
        rintro ⟨_, hn, hm⟩
        have := hbig v hn
        have h6 : 10 ^ 10 ≤ 10 ^ r.length := Nat.pow_le_pow_right (by omega) (by simp at hl; omega)
        omega
      · rw [if_neg (by rintro (h | h | h); · simp at h
                       · exact hl h
                       · exact h2 h.2)]
        cases hn : numV 0 (c :: r) with
        | none => simp
        | some n =>
          have h7 := hbig n hn
          have h8 := hpos r.length
          simp only [Option.some.injEq, ne_eq, reduceCtorEq, not_false_eq_true, true_and]
          by_cases hm : n ≤ 4294967295
          · rw [if_pos hm]; simp only [Option.some.injEq]; rw [if_pos (by omega)]
            constructor
            · intro h; cases h; exact ⟨rfl, hm⟩
            · rintro ⟨rfl, _⟩; rfl
          · rw [if_neg hm]; simp only [reduceCtorEq, false_iff]
            rintro ⟨rfl, h⟩; exact hm h
end Go.Proofs.YtkmhdaalabhcbaaDoor

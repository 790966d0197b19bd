/-
  Plain: a set's text spells that set.
-/
import Derived.Test.YtmfpfebnlflfiaaDoorQTextR
import Derived.Test.YtmfpfebnlflfiaaDoorSetR
set_option linter.unusedVariables false
set_option linter.unusedSimpArgs false
namespace Go.Proofs.YtmfpfebnlflfiaaDoor
open Go

theorem numV_snoc : ∀ (l : List UInt8) (a u : Nat) (c : UInt8), numV a l = some u → dig c → numV a (l ++ [c]) = some (10 * u + (c.toNat - 48))
  | [], a, u, c, h, hc => by have : a = u := Option.some.inj h; subst this; simp [numV, hc]
  | x :: r, a, u, c, h, hc => by
    unfold numV at h
    split at h
    · rename_i hx
      show (if dig x then numV _ (r ++ [c]) else none) = _
      rw [if_pos hx]
      exact numV_snoc r _ u c h hc
    · cases h
theorem dig_of {d : Nat} (h : d < 10) : dig (UInt8.ofNat (48 + d)) ∧ (UInt8.ofNat (48 + d)).toNat - 48 = d := by
  have e : (UInt8.ofNat (48 + d)).toNat = 48 + d := by simp; omega
  unfold dig; rw [e]; omega
theorem dec_spell (n : Nat) : numV 0 (Lib.decDigits n) = some n ∧ (∀ c ∈ Lib.decDigits n, dig c) ∧ Lib.decDigits n ≠ [] ∧ (0 < n → (Lib.decDigits n).head? ≠ some 48) := by
  induction n using Nat.strongRecOn with
  | _ n ih =>
    by_cases h : n < 10
    · rw [dec_small h]
      obtain ⟨d1, d2⟩ := dig_of h
      refine ⟨?_, fun c hc => by rw [List.mem_singleton.1 hc]; exact d1, by simp, fun h0 e => ?_⟩
      · show (if dig _ then numV _ [] else none) = _
        rw [if_pos d1, d2]; simp [numV]
      · have e2 : UInt8.ofNat (48 + n) = 48 := by simpa using e
        have e3 : (UInt8.ofNat (48 + n)).toNat = 48 := by rw [e2]; rfl
        have e4 : (UInt8.ofNat (48 + n)).toNat = 48 + n := by simp; omega
        omega
    · obtain ⟨i1, i2, i3, i4⟩ := ih (n / 10) (by omega)
      rw [dec_big h]
      obtain ⟨d1, d2⟩ := dig_of (d := n % 10) (by omega)
      refine ⟨?_, fun c hc => ?_, by simp, fun h0 => ?_⟩
      · rw [numV_snoc _ _ _ _ i1 d1, d2]; congr 1; omega
      · rcases List.mem_append.1 hc with hc | hc
        · exact i2 c hc
        · rw [List.mem_singleton.1 hc]; exact d1
      · have := i4 (by omega)
        cases hd : Lib.decDigits (n / 10) with
        | nil => exact absurd hd i3
        | cons a t => rw [hd] at this; simpa using this
theorem endT_chars {n : Nat} : ∀ c ∈ endT n, c ≠ 44 ∧ c ≠ 58 := by
  intro c hc
  unfold endT at hc
  split at hc
  · rw [List.mem_singleton.1 hc]; decide
  · have h := (dec_spell n).2.1 c hc
    unfold dig at h
    constructor
    · intro e; subst e; revert h; decide
    · intro e; subst e; revert h; decide
theorem endB_endT {n : Nat} (h : n ≤ 4294967295) : endB (endT n) = some n := by
  unfold endT
  by_cases h0 : n = 0
  · subst h0; simp [endB]
  · rw [if_neg h0]
    obtain ⟨i1, i2, i3, i4⟩ := dec_spell n
    refine (endB_ok ?_ (i4 (by omega)) n).2 ⟨i3, i1, h⟩
    intro e
    have := i2 42 (by rw [e]; simp)
    revert this; decide
theorem rangeT_chars (x : Nat × Nat) : ∀ c ∈ rangeT x, c ≠ 44 := by
  intro c hc
  unfold rangeT at hc
  rcases List.mem_append.1 hc with hc | hc
  · exact (endT_chars c hc).1
  · split at hc
    · simp at hc
    · rcases List.mem_cons.1 hc with rfl | hc
      · decide
      · exact (endT_chars c hc).1
theorem rangeOf_rangeT {x : Nat × Nat} (h1 : x.1 ≤ 4294967295) (h2 : x.2 ≤ 4294967295) : rangeOf (rangeT x) = some x := by
  obtain ⟨a, b⟩ := x
  unfold rangeT
  by_cases e : a = b
  · rw [if_pos e, List.append_nil, rangeOf_one (fun c hc => (endT_chars c hc).2), endB_endT h1]
    show some (a, a) = _
    rw [show (a, b) = (a, a) by rw [e]]
  · rw [if_neg e, rangeOf_two (fun c hc => (endT_chars c hc).2), endB_endT h1, endB_endT h2]; rfl
theorem split_ranges : ∀ (r : List (Nat × Nat)) (p : List UInt8), (∀ c ∈ p, c ≠ 44) → splitB 44 (p ++ rangesT false r) = p :: r.map rangeT
  | [], p, hp => by
    show splitB 44 (p ++ []) = _
    rw [List.append_nil, splitB_none hp]; rfl
  | x :: r, p, hp => by
    show splitB 44 (p ++ ([44] ++ rangeT x ++ rangesT false r)) = _
    rw [List.append_assoc, List.singleton_append, splitB_some hp, split_ranges r (rangeT x) (rangeT_chars x)]
    rfl
theorem mapR_ranges : ∀ (l : List (Nat × Nat)), Small l → mapR (l.map rangeT) = some l
  | [], _ => rfl
  | x :: r, h => by
    have hx := h x (List.mem_cons_self ..)
    rw [List.map_cons, mapR_cons, rangeOf_rangeT hx.1 hx.2, mapR_ranges r (fun y hy => h y (List.mem_cons_of_mem _ hy))]
    rfl
/-- The set of a set's text. -/
theorem setOf_setT {l : List (Nat × Nat)} (h0 : l ≠ []) (h : Small l) : setOf (setT l) = some l := by
  cases l with
  | nil => exact absurd rfl h0
  | cons x r =>
    unfold setOf setT
    have e : rangesT true (x :: r) = rangeT x ++ rangesT false r := by simp [rangesT]
    rw [e, split_ranges r _ (rangeT_chars x)]
    exact mapR_ranges (x :: r) h
end Go.Proofs.YtmfpfebnlflfiaaDoor

/-
  A literal is read as it was: lists alone.
-/
import Derived.Test.YtiiijmplcagaiaaGreatDoorQt2
import Derived.Lib.ItoaNum
set_option linter.unusedVariables false
set_option linter.unusedSimpArgs false
namespace Go.Proofs.YtiiijmplcagaiaaGreatDoor
open Go Go.RowKit
theorem dec_small9 {u : Nat} (h : u < 10) : Lib.decDigits u = [UInt8.ofNat (48 + u)] := by rw [Lib.decDigits, dif_pos h]
theorem dec_big9 {u : Nat} (h : ¬ u < 10) : Lib.decDigits u = Lib.decDigits (u / 10) ++ [UInt8.ofNat (48 + u % 10)] := by rw [Lib.decDigits, dif_neg h]
theorem dec_len9 : ∀ (k u : Nat), u < 10 ^ (k + 1) → (Lib.decDigits u).length ≤ k + 1
  | 0, u, h => by rw [dec_small9 (by simpa using h)]; simp
  | k + 1, u, h => by
    by_cases hu : u < 10
    · rw [dec_small9 hu]; simp
    · rw [dec_big9 hu, List.length_append]
      have := dec_len9 k (u / 10) (by rw [Nat.pow_succ] at h; omega)
      simp; omega
theorem numV_snoc9 : ∀ (l : List UInt8) (a u : Nat) (c : UInt8), numV a l = some u → dig c → numV a (l ++ [c]) = some (10 * u + (c.toNat - 48))
  | [], a, u, c, h, hc => by have : a = u := Option.some.inj h; subst this; simp [numV, hc]
  | x :: r, a, u, c, h, hc => by
    unfold numV at h
    split at h
    · rename_i hx
      show (if dig x then numV _ (r ++ [c]) else none) = _
      rw [if_pos hx]
      exact numV_snoc9 r _ u c h hc
    · cases h
theorem dig_of9 {d : Nat} (h : d < 10) : dig (UInt8.ofNat (48 + d)) ∧ (UInt8.ofNat (48 + d)).toNat - 48 = d := by
  have e : (UInt8.ofNat (48 + d)).toNat = 48 + d := by simp; omega
  unfold dig; rw [e]; omega
theorem dec_spell9 (n : Nat) : numV 0 (Lib.decDigits n) = some n ∧ (∀ c ∈ Lib.decDigits n, dig c) ∧ Lib.decDigits n ≠ [] ∧ (0 < n → (Lib.decDigits n).head? ≠ some 48) := by
  induction n using Nat.strongRecOn with
  | _ n ih =>
    by_cases h : n < 10
    · rw [dec_small9 h]
      obtain ⟨d1, d2⟩ := dig_of9 h
      refine ⟨?_, fun c hc => by rw [List.mem_singleton.1 hc]; exact d1, by simp, fun h0 e => ?_⟩
      · show (if dig _ then numV _ [] else none) = _
        rw [if_pos d1, d2]; simp [numV]
      · have e2 : UInt8.ofNat (48 + n) = 48 := by simpa using e
        have e3 : (UInt8.ofNat (48 + n)).toNat = 48 := by rw [e2]; rfl
        have e4 : (UInt8.ofNat (48 + n)).toNat = 48 + n := by simp; omega
        omega
    · obtain ⟨i1, i2, i3, i4⟩ := ih (n / 10) (by omega)
      rw [dec_big9 h]
      obtain ⟨d1, d2⟩ := dig_of9 (d := n % 10) (by omega)
      refine ⟨?_, fun c hc => ?_, by simp, fun h0 => ?_⟩
      · rw [numV_snoc9 _ _ _ _ i1 d1, d2]; congr 1; omega
      · rcases List.mem_append.1 hc with hc | hc
        · exact i2 c hc
        · rw [List.mem_singleton.1 hc]; exact d1
      · have := i4 (by omega)
        cases hd : Lib.decDigits (n / 10) with
        | nil => exact absurd hd i3
        | cons a t => rw [hd] at this; simpa using this
theorem digB_of {c : UInt8} (h : dig c) : digB c = true := by unfold dig at h; unfold digB; simp [h.1, h.2]
theorem dec_zero {n : Nat} (h : 1 < (Lib.decDigits n).length) : 0 < n := by
  rcases Nat.eq_zero_or_pos n with e | e
  · subst e; rw [dec_small9 (by omega)] at h; simp at h
  · exact e
theorem numR_dec (n : Nat) (h : n ≤ 4294967295) : numR (Lib.decDigits n) 4294967295 = some n := by
  obtain ⟨h1, h2, h3, h4⟩ := dec_spell9 n
  have hl := dec_len9 9 n (by omega)
  have hp : 0 < (Lib.decDigits n).length := List.length_pos_iff.2 h3
  unfold numR
  rw [if_neg (fun h => by rcases h with a | a | ⟨a, c⟩ <;> first | omega | exact h4 (dec_zero a) c), h1]
  simp [h]
theorem must_at (w r : List UInt8) (hw : w ≠ []) : mustS ⟨w ++ r, false⟩ w = ⟨r, false⟩ := by
  unfold mustS wordB
  have : (decide (w.length ≤ (w ++ r).length)) = true := by simp
  simp
theorem strV_lit (l r : List UInt8) (h : l.length ≤ 65536) : strV ⟨123 :: (Lib.decDigits l.length ++ ([125, 13, 10] ++ (l ++ r))), false⟩ = l ∧ strS ⟨123 :: (Lib.decDigits l.length ++ ([125, 13, 10] ++ (l ++ r))), false⟩ = ⟨r, false⟩ := by
  obtain ⟨n, hn⟩ : ∃ n, l.length = n := ⟨_, rfl⟩
  obtain ⟨h1, h2, h3, h4⟩ := dec_spell9 n
  have hr := numR_dec n (by omega)
  have e1 : mustS ⟨123 :: (Lib.decDigits n ++ ([125, 13, 10] ++ (l ++ r))), false⟩ [123] = ⟨Lib.decDigits n ++ ([125, 13, 10] ++ (l ++ r)), false⟩ := must_at [123] _ (by simp)
  have ht : (Lib.decDigits n ++ ([125, 13, 10] ++ (l ++ r))).takeWhile digB = Lib.decDigits n := by
    rw [List.takeWhile_append_of_pos (fun c hc => digB_of (h2 c hc))]
    simp [digB]
  have hd : (Lib.decDigits n ++ ([125, 13, 10] ++ (l ++ r))).dropWhile digB = [125, 13, 10] ++ (l ++ r) := by
    rw [List.dropWhile_append_of_pos (fun c hc => digB_of (h2 c hc))]
    simp [digB]
  have eN : litN ⟨123 :: (Lib.decDigits n ++ ([125, 13, 10] ++ (l ++ r))), false⟩ = n := by
    unfold litN numN numO
    rw [e1, ht, hr]; rfl
  have eH : litH ⟨123 :: (Lib.decDigits n ++ ([125, 13, 10] ++ (l ++ r))), false⟩ = ⟨l ++ r, false⟩ := by
    unfold litH numS numO
    rw [e1, ht, hr, hd]
    exact must_at [125, 13, 10] _ (by simp)
  have eB : litB ⟨123 :: (Lib.decDigits n ++ ([125, 13, 10] ++ (l ++ r))), false⟩ = true := by
    unfold litB
    rw [eN, eH]
    simp; omega
  rw [hn]
  unfold strV strS litV litS
  rw [eB, eN, eH]
  simp [← hn]
end Go.Proofs.YtiiijmplcagaiaaGreatDoor

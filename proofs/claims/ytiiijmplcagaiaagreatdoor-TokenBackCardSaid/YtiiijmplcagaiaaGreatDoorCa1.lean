/-
  What is decoded out of a text, at a byte that is no sign: a rune that is none, and only such bytes are taken.
-/
import Derived.Test.YtiiijmplcagaiaaGreatDoorQt4
import Derived.Laws.RangeString
set_option linter.unusedVariables false
set_option linter.unusedSimpArgs false
namespace Go.Proofs.YtiiijmplcagaiaaGreatDoor
open Go Go.RowKit
theorem getg (s : ByteArray) (i : Nat) (h : i < s.size) : s.get! i = s[i] := by
  simp [ByteArray.get!, getElem!_pos, h]
  rfl
theorem decode_great (s : ByteArray) (pos : Nat) (h : pos < s.size) (ha : ¬ (s[pos]'h).toNat < 128) :
    ∃ c n, Utf8.decode s pos = (c, n) ∧ 128 ≤ c ∧ c ≤ 1114111 ∧ (c < 55296 ∨ 57344 ≤ c) ∧ 1 ≤ n ∧ pos + n ≤ s.size ∧ ∀ j (hj : j < s.size), pos ≤ j → j < pos + n → 128 ≤ (s[j]'hj).toNat := by
  obtain ⟨b0, hb0⟩ : ∃ b, (s.get! (pos + 0)).toNat = b := ⟨_, rfl⟩
  have e0 : (s[pos]'h).toNat = b0 := by rw [← hb0, ← getg s pos h]; rfl
  rw [e0] at ha
  have hone : ∃ c n, ((Utf8.runeError, 1) : Nat × Nat) = (c, n) ∧ 128 ≤ c ∧ c ≤ 1114111 ∧ (c < 55296 ∨ 57344 ≤ c) ∧ 1 ≤ n ∧ pos + n ≤ s.size ∧ ∀ j (hj : j < s.size), pos ≤ j → j < pos + n → 128 ≤ (s[j]'hj).toNat :=
    ⟨_, _, rfl, by decide, by decide, .inr (by decide), Nat.le_refl _, by omega, fun j hj h1 h2 => by
      obtain rfl : j = pos := by omega
      rw [e0]; omega⟩
  have hc : ∀ k, (decide (pos + k < s.size) && ((s.get! (pos + k)).toNat / 64 == 2)) = true → ∃ h : pos + k < s.size, 128 ≤ (s[pos + k]'h).toNat ∧ (s.get! (pos + k)).toNat / 64 = 2 := fun k hk => by
    rw [Bool.and_eq_true, decide_eq_true_eq, beq_iff_eq] at hk
    refine ⟨hk.1, ?_, hk.2⟩
    rw [← getg s (pos + k) hk.1]
    omega
  unfold Utf8.decode
  dsimp only
  simp only [hb0]
  rw [if_neg ha]
  by_cases c1 : (b0 / 32 == 6 && (decide (pos + 1 < s.size) && (s.get! (pos + 1)).toNat / 64 == 2)) = true
  · rw [if_pos c1]
    rw [Bool.and_eq_true, beq_iff_eq] at c1
    obtain ⟨s1, g1, q1⟩ := hc 1 c1.2
    split
    · rename_i hge
      refine ⟨_, _, rfl, by omega, by omega, by omega, by omega, by omega, fun j hj h1 h2 => ?_⟩
      by_cases e : j = pos
      · subst e; rw [e0]; omega
      · obtain rfl : j = pos + 1 := by omega
        exact g1
    · exact hone
  · rw [if_neg c1]
    by_cases c2 : (b0 / 16 == 14 && (decide (pos + 1 < s.size) && (s.get! (pos + 1)).toNat / 64 == 2) && (decide (pos + 2 < s.size) && (s.get! (pos + 2)).toNat / 64 == 2)) = true
    · rw [if_pos c2]
      rw [Bool.and_eq_true, Bool.and_eq_true, beq_iff_eq] at c2
      obtain ⟨s1, g1, q1⟩ := hc 1 c2.1.2
      obtain ⟨s2, g2, q2⟩ := hc 2 c2.2
      split
      · rename_i hge
        rw [Bool.and_eq_true, decide_eq_true_eq] at hge
        have hv := hge.2
        unfold Utf8.valid at hv
        rw [Bool.or_eq_true, Bool.and_eq_true, Bool.and_eq_true] at hv
        simp only [decide_eq_true_eq] at hv
        refine ⟨_, _, rfl, by omega, by omega, by omega, by omega, by omega, fun j hj h1 h2 => ?_⟩
        by_cases e : j = pos
        · subst e; rw [e0]; omega
        · by_cases e : j = pos + 1
          · subst e; exact g1
          · obtain rfl : j = pos + 2 := by omega
            exact g2
      · exact hone
    · rw [if_neg c2]
      by_cases c3 : (b0 / 8 == 30 && (decide (pos + 1 < s.size) && (s.get! (pos + 1)).toNat / 64 == 2) && (decide (pos + 2 < s.size) && (s.get! (pos + 2)).toNat / 64 == 2) && (decide (pos + 3 < s.size) && (s.get! (pos + 3)).toNat / 64 == 2)) = true
      · rw [if_pos c3]
        rw [Bool.and_eq_true, Bool.and_eq_true, Bool.and_eq_true, beq_iff_eq] at c3
        obtain ⟨s1, g1, q1⟩ := hc 1 c3.1.1.2
        obtain ⟨s2, g2, q2⟩ := hc 2 c3.1.2
        obtain ⟨s3, g3, q3⟩ := hc 3 c3.2
        split
        · rename_i hge
          rw [Bool.and_eq_true, decide_eq_true_eq] at hge
          have hv := hge.2
          unfold Utf8.valid at hv
          rw [Bool.or_eq_true, Bool.and_eq_true, Bool.and_eq_true] at hv
          simp only [decide_eq_true_eq] at hv
          refine ⟨_, _, rfl, by omega, by omega, by omega, by omega, by omega, fun j hj h1 h2 => ?_⟩
          by_cases e : j = pos
          · subst e; rw [e0]; omega
          · by_cases e : j = pos + 1
            · subst e; exact g1
            · by_cases e : j = pos + 2
              · subst e; exact g2
              · obtain rfl : j = pos + 3 := by omega
                exact g3
        · exact hone
      · rw [if_neg c3]
        exact hone
theorem run_next_rune {P : Program} (w : World) (s : ByteArray) (pos : Nat) (ty : TypeId) (h : pos < s.size) {c n : Nat} (hd : Utf8.decode s pos = (c, n)) :
    (Instr.next (.pointer (some ⟨w.heap.size, 0, none⟩)) true ty).run P (w.iter s pos) =
      .ok (.tuple #[.bool true, .int .i64 pos, .int .i32 c]) (w.iter s (pos + n)) := by
  simp only [Instr.next, getObj, setObj, Sem.run_bind, Sem.run, World.iter_heap, Result.andThen, h, if_true, hd, World.iter_set]
  simp [goInt, Sem.run, World.iter_heap, World.iter_set]
/-- The last byte of a great rune's form is great. -/
theorem encode_great (c : Nat) (h1 : 128 ≤ c) (h2 : c ≤ 1114111) (h3 : c < 55296 ∨ 57344 ≤ c) : ∃ n, (Utf8.encode c).size = n ∧ 2 ≤ n ∧ n ≤ 4 ∧ ∀ h : n - 1 < (Utf8.encode c).size, 128 ≤ ((Utf8.encode c)[n - 1]).toNat ∧ ((Utf8.encode c)[n - 1]).toNat < 256 := by
  have hv : Utf8.valid (c : Int) = true := by
    unfold Utf8.valid
    rw [Bool.or_eq_true, Bool.and_eq_true, Bool.and_eq_true]
    simp only [decide_eq_true_eq]
    omega
  have hL : ∀ x, x < 64 → 128 ≤ (UInt8.ofNat (0x80 + x)).toNat ∧ (UInt8.ofNat (0x80 + x)).toNat < 256 := fun x hx => by rw [UInt8.toNat_ofNat']; omega
  obtain ⟨E, hE⟩ : ∃ E, Utf8.encode (c : Int) = E := ⟨_, rfl⟩
  rw [hE]
  unfold Utf8.encode at hE
  simp only [hv, if_true, Int.toNat_natCast] at hE
  rw [if_neg (by omega)] at hE
  split at hE
  · subst hE; exact ⟨2, rfl, by omega, by omega, fun h => hL _ (by omega)⟩
  · split at hE
    · subst hE; exact ⟨3, rfl, by omega, by omega, fun h => hL _ (by omega)⟩
    · subst hE; exact ⟨4, rfl, by omega, by omega, fun h => hL _ (by omega)⟩
end Go.Proofs.YtiiijmplcagaiaaGreatDoor

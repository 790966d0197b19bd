/-
  Plain: the ranges of numbers that rise.
-/
import Derived.Test.YtmfpfebnlflfiaaDoorWalkC
set_option linter.unusedVariables false
set_option linter.unusedSimpArgs false
namespace Go.Proofs.YtmfpfebnlflfiaaDoor
open Go

def lastN (l : List Nat) : Nat := l.getLast?.getD 0
/-- One number more. -/
def runStep (A : List (Nat × Nat)) (n : Nat) : List (Nat × Nat) := match A.getLast? with
  | none => [(n, n)]
  | some z => if z.2 + 1 = n then A.dropLast ++ [(z.1, n)] else A ++ [(n, n)]
def runs (l : List Nat) : List (Nat × Nat) := l.foldl runStep []
def Rise (l : List Nat) : Prop := l.Pairwise (· < ·) ∧ ∀ n ∈ l, 1 ≤ n
theorem runs_snoc (l : List Nat) (n : Nat) : runs (l ++ [n]) = runStep (runs l) n := by unfold runs; rw [List.foldl_append]; rfl
theorem runStep_nil (n : Nat) : runStep [] n = [(n, n)] := rfl
theorem runStep_join (I : List (Nat × Nat)) (z : Nat × Nat) (n : Nat) (h : z.2 + 1 = n) : runStep (I ++ [z]) n = I ++ [(z.1, n)] := by unfold runStep; simp [h]
theorem runStep_new (I : List (Nat × Nat)) (z : Nat × Nat) (n : Nat) (h : z.2 + 1 ≠ n) : runStep (I ++ [z]) n = I ++ [z] ++ [(n, n)] := by unfold runStep; simp [h]
theorem lastN_snoc (l : List Nat) (n : Nat) : lastN (l ++ [n]) = n := by simp [lastN]
theorem rise_snoc {l : List Nat} {n : Nat} : Rise (l ++ [n]) ↔ Rise l ∧ lastN l < n := by
  unfold Rise
  rw [List.pairwise_append]
  constructor
  · rintro ⟨⟨h1, _, h2⟩, h3⟩
    refine ⟨⟨h1, fun m hm => h3 m (List.mem_append_left _ hm)⟩, ?_⟩
    rcases List.eq_nil_or_concat l with rfl | ⟨i, z, rfl⟩
    · have := h3 n (by simp); simp [lastN]; omega
    · rw [List.concat_eq_append, lastN_snoc]; exact h2 z (by simp) n (by simp)
  · rintro ⟨⟨h1, h2⟩, h3⟩
    have hl : ∀ m ∈ l, m ≤ lastN l := by
      intro m hm
      rcases List.eq_nil_or_concat l with rfl | ⟨i, z, rfl⟩
      · simp at hm
      · rw [List.concat_eq_append, lastN_snoc]
        rw [List.concat_eq_append] at hm h1
        rcases List.mem_append.1 hm with hm | hm
        · exact Nat.le_of_lt ((List.pairwise_append.1 h1).2.2 m hm z (by simp))
        · rw [List.mem_singleton.1 hm]; exact Nat.le_refl _
    refine ⟨⟨h1, List.pairwise_singleton _ _, fun a ha b hb => by rw [List.mem_singleton.1 hb]; have := hl a ha; omega⟩, fun m hm => ?_⟩
    rcases List.mem_append.1 hm with hm | hm
    · exact h2 m hm
    · rw [List.mem_singleton.1 hm]; omega
theorem rise_take {l : List Nat} (h : Rise l) (k : Nat) : Rise (l.take k) := ⟨h.1.sublist (List.take_sublist k l), fun n hn => h.2 n (List.mem_of_mem_take hn)⟩
/-- What the runs are of. -/
structure RunsOk (l : List Nat) (A : List (Nat × Nat)) : Prop where
  same : ∀ n, inR A n ↔ n ∈ l
  ends : ∀ r ∈ A, 1 ≤ r.1 ∧ r.1 ≤ r.2 ∧ r.2 ∈ l
  len : A.length ≤ l.length
  last : l ≠ [] → ∃ I z, A = I ++ [z] ∧ z.2 = lastN l
theorem runs_ok : ∀ (k : Nat) (l : List Nat), l.length = k → Rise l → RunsOk l (runs l) := by
  intro k
  induction k with
  | zero =>
    intro l hl _
    obtain rfl := List.length_eq_zero_iff.1 hl
    exact ⟨fun n => by simp [inR, runs], fun r hr => by simp [runs] at hr, by simp [runs], fun h => absurd rfl h⟩
  | succ k ih =>
    intro l hl hr
    rcases List.eq_nil_or_concat l with rfl | ⟨t, n, rfl⟩
    · simp at hl
    rw [List.concat_eq_append] at hr hl ⊢
    obtain ⟨hr1, hr2⟩ := rise_snoc.1 hr
    have ht : t.length = k := by simpa using hl
    obtain ⟨s1, s2, s3, s4⟩ := ih t ht hr1
    rw [runs_snoc]
    by_cases h0 : t = []
    · subst h0
      show RunsOk _ (runStep [] n)
      rw [runStep_nil]
      have hn : lastN [] = 0 := rfl
      refine ⟨fun m => ?_, fun r h => ?_, by simp, fun _ => ⟨[], (n, n), rfl, by simp [lastN]⟩⟩
      · rw [inR_one]; simp; omega
      · rw [List.mem_singleton.1 h]; refine ⟨?_, Nat.le_refl _, by simp⟩; show 1 ≤ n; omega
    · obtain ⟨I, z, hA, hz⟩ := s4 h0
      rw [hA] at s1 s2 s3 ⊢
      have hzm := s2 z (by simp)
      by_cases hj : z.2 + 1 = n
      · rw [runStep_join I z n hj]
        refine ⟨fun m => ?_, fun r h => ?_, by simp at s3 ⊢; omega, fun _ => ⟨I, _, rfl, by rw [lastN_snoc]⟩⟩
        · have h1 := s1 m
          rw [inR_append, inR_one] at h1
          rw [inR_append, inR_one, List.mem_append, List.mem_singleton, ← h1]
          show _ ∨ (z.1 ≤ m ∧ m ≤ n) ↔ _
          constructor
          · rintro (h | h)
            · exact .inl (.inl h)
            · by_cases e : m = n
              · exact .inr e
              · exact .inl (.inr (by omega))
          · rintro ((h | h) | h)
            · exact .inl h
            · exact .inr (by omega)
            · exact .inr (by omega)
        · rcases List.mem_append.1 h with h | h
          · obtain ⟨a, b, c⟩ := s2 r (List.mem_append_left _ h)
            exact ⟨a, b, List.mem_append_left _ c⟩
          · rw [List.mem_singleton.1 h]
            exact ⟨hzm.1, by show z.1 ≤ n; omega, by simp⟩
      · rw [runStep_new I z n hj]
        refine ⟨fun m => ?_, fun r h => ?_, by simp at s3 ⊢; omega, fun _ => ⟨I ++ [z], _, rfl, by rw [lastN_snoc]⟩⟩
        · rw [inR_append, s1 m, inR_one, List.mem_append, List.mem_singleton]
          show _ ∨ (n ≤ m ∧ m ≤ n) ↔ _
          constructor
          · rintro (h | h)
            · exact .inl h
            · exact .inr (by omega)
          · rintro (h | h)
            · exact .inl h
            · exact .inr (by omega)
        · rcases List.mem_append.1 h with h | h
          · obtain ⟨a, b, c⟩ := s2 r h
            exact ⟨a, b, List.mem_append_left _ c⟩
          · rw [List.mem_singleton.1 h]
            exact ⟨by show 1 ≤ n; omega, Nat.le_refl _, by simp⟩
/-- The set of numbers: none, if they don't rise. -/
noncomputable def ofN (l : List Nat) : List (Nat × Nat) := open Classical in if Rise l then runs l else []
theorem ofN_yes {l : List Nat} (h : Rise l) : ofN l = runs l := by unfold ofN; rw [if_pos h]
theorem ofN_no {l : List Nat} (h : ¬ Rise l) : ofN l = [] := by unfold ofN; rw [if_neg h]
theorem ofN_len (l : List Nat) : (ofN l).length ≤ l.length := by
  by_cases h : Rise l
  · rw [ofN_yes h]; exact (runs_ok _ l rfl h).len
  · rw [ofN_no h]; simp
theorem meant_rise (l : List (Nat × Nat)) (last : Nat) : Rise (meant l last) := ⟨meant_sorted l last, fun n hn => ((mem_meant l last n).1 hn).1⟩
/-- What the set of a walk's numbers means. -/
theorem of_meant (l : List (Nat × Nat)) (last n : Nat) (hn : n ≤ last) : hasB (ofN (meant l last)) n last = (decide (0 < n) && hasB l n last) := by
  rw [ofN_yes (meant_rise l last)]
  have ok := runs_ok _ (meant l last) rfl (meant_rise l last)
  have h1 : (runs (meant l last)).any (inB n last) = true ↔ inR (runs (meant l last)) n := by
    rw [List.any_eq_true]
    constructor
    · rintro ⟨r, hr, h⟩
      obtain ⟨a, b, c⟩ := ok.ends r hr
      refine ⟨r, hr, ?_⟩
      unfold inB loB hiB ov at h
      rw [if_neg (by omega), if_neg (by omega)] at h
      simp only [Bool.and_eq_true, decide_eq_true_eq] at h
      omega
    · rintro ⟨r, hr, h2, h3⟩
      obtain ⟨a, b, c⟩ := ok.ends r hr
      refine ⟨r, hr, ?_⟩
      unfold inB loB hiB ov
      rw [if_neg (by omega), if_neg (by omega)]
      simp only [Bool.and_eq_true, decide_eq_true_eq]
      omega
  rw [ok.same n, mem_meant] at h1
  rw [Bool.eq_iff_iff, Bool.and_eq_true, decide_eq_true_eq]
  show (decide (n ≠ 0) && (runs (meant l last)).any (inB n last)) = true ↔ _
  rw [Bool.and_eq_true, h1, decide_eq_true_eq]
  constructor
  · rintro ⟨h, h2, h3, h4⟩; exact ⟨by omega, h4⟩
  · rintro ⟨h, h2⟩; exact ⟨by omega, by omega, hn, h2⟩
end Go.Proofs.YtmfpfebnlflfiaaDoor

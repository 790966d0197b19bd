/-
  Messages below a node: which nodes stand for which messages.
-/
import Derived.Test.YtdelhpogacccjaaTr5
set_option linter.unusedVariables false
set_option linter.unusedSimpArgs false
namespace Go.Proofs.Ytdelhpogacccjaa
open Go Go.RowKit

/-- The messages whose digit of a rank is d. -/
def part (h d : Nat) (l : List R7) : List R7 := l.filter fun r => decide (dig r.uid h = d)
/-- Below a slot, at a height, stand messages. -/
def Sub (ns : List TN) : Nat → Int → List R7 → Prop
  | 0, s, l => 0 ≤ s ∧ ∃ r n, l = [r] ∧ atOf ns s = (n, true) ∧ n.kind = 2 ∧ n.rc = r ∧ n.cnt = 0
  | h + 1, s, l => 0 ≤ s ∧ l ≠ [] ∧ ∃ n, atOf ns s = (n, true) ∧ n.kind = 1 ∧ n.cnt = l.length ∧ ∀ d, d < 16 → (part h d l = [] ∧ n.kids d = -1) ∨ Sub ns h (n.kids d) (part h d l)
theorem Sub.ne {ns : List TN} {h : Nat} {s : Int} {l : List R7} (H : Sub ns h s l) : l ≠ [] := by
  cases h with
  | zero => obtain ⟨_, r, n, rfl, _⟩ := H; simp
  | succ h => exact H.2.1
/-- There are none, or they stand there. -/
def SubO (ns : List TN) (h : Nat) (s : Int) (l : List R7) : Prop := (l = [] ∧ s = -1) ∨ Sub ns h s l
/-- Messages, by their numbers, each of 32 bits. -/
def Up (l : List R7) : Prop := l.Pairwise (fun a b => a.uid < b.uid) ∧ ∀ r, r ∈ l → r.uid < 4294967296
theorem Up.nil : Up [] := ⟨.nil, by simp⟩
theorem Up.filter {l : List R7} (h : Up l) (p : R7 → Bool) : Up (l.filter p) := ⟨h.1.filter p, fun r hr => h.2 r (List.mem_filter.1 hr).1⟩
/-- Those that agree with a number above a rank. -/
def same (l : List R7) (u k : Nat) : List R7 := l.filter fun r => decide (r.uid / 16 ^ k = u / 16 ^ k)
theorem same_zero (l : List R7) (u : Nat) : same l u 0 = l.filter fun r => decide (r.uid = u) := by unfold same; simp
theorem same_all (l : List R7) (u k : Nat) (hu : u < 16 ^ k) (hl : ∀ r, r ∈ l → r.uid < 16 ^ k) : same l u k = l := by
  unfold same
  rw [List.filter_eq_self]
  intro r hr
  rw [Nat.div_eq_of_lt hu, Nat.div_eq_of_lt (hl r hr)]
  rfl
theorem div_pow_succ (x k : Nat) : x / 16 ^ (k + 1) = x / 16 ^ k / 16 := by rw [Nat.pow_succ, Nat.div_div_eq_div_mul]
theorem agree_succ (x u k : Nat) : x / 16 ^ k = u / 16 ^ k ↔ x / 16 ^ (k + 1) = u / 16 ^ (k + 1) ∧ dig x k = dig u k := by
  unfold dig
  rw [div_pow_succ, div_pow_succ]
  omega
theorem part_same (l : List R7) (u k : Nat) : part k (dig u k) (same l u (k + 1)) = same l u k := by
  unfold part same
  rw [List.filter_filter]
  refine List.filter_congr fun r _ => ?_
  have h := agree_succ r.uid u k
  by_cases h1 : r.uid / 16 ^ k = u / 16 ^ k
  · obtain ⟨a, b⟩ := h.1 h1
    simp [h1, a, b]
  · by_cases h2 : r.uid / 16 ^ (k + 1) = u / 16 ^ (k + 1)
    · have h3 : ¬ dig r.uid k = dig u k := fun h3 => h1 (h.2 ⟨h2, h3⟩)
      simp [h1, h3]
    · simp [h1, h2]
/-- Less by a key: those of the lesser keys stand ahead. -/
theorem filter_lt_succ {l : List R7} (f : R7 → Nat) (hm : l.Pairwise (fun a b => f a ≤ f b)) (n : Nat) : l.filter (fun r => decide (f r < n + 1)) = l.filter (fun r => decide (f r < n)) ++ l.filter (fun r => decide (f r = n)) := by
  induction l with
  | nil => rfl
  | cons a t ih =>
    obtain ⟨h1, h2⟩ := List.pairwise_cons.1 hm
    have ih := ih h2
    by_cases ha : f a < n
    · rw [List.filter_cons_of_pos (by simp; omega), List.filter_cons_of_pos (by simpa using ha), List.filter_cons_of_neg (by simp; omega), ih]; rfl
    · have e : t.filter (fun r => decide (f r < n)) = [] := List.filter_eq_nil_iff.2 fun r hr => by have := h1 r hr; simp; omega
      by_cases hb : f a = n
      · rw [List.filter_cons_of_pos (by simp; omega), List.filter_cons_of_neg (by simp; omega), List.filter_cons_of_pos (by simpa using hb), ih, e]; rfl
      · rw [List.filter_cons_of_neg (by simp; omega), List.filter_cons_of_neg (by simp; omega), List.filter_cons_of_neg (by simpa using hb), ih]
theorem Up.le {l : List R7} (h : Up l) (k : Nat) : l.Pairwise (fun a b => a.uid / 16 ^ k ≤ b.uid / 16 ^ k) := h.1.imp fun {a b} hab => Nat.div_le_div_right (Nat.le_of_lt hab)
/-- All messages agree above a rank. -/
def Agree (l : List R7) (k : Nat) : Prop := ∃ c, ∀ r, r ∈ l → r.uid / 16 ^ k = c
theorem Agree.part {l : List R7} {k : Nat} (h : Agree l (k + 1)) (d : Nat) : Agree (part k d l) k := by
  obtain ⟨c, hc⟩ := h
  refine ⟨c * 16 + d, fun r hr => ?_⟩
  obtain ⟨h1, h2⟩ := List.mem_filter.1 hr
  have h3 := hc r h1
  have h4 : dig r.uid k = d := by simpa using h2
  rw [div_pow_succ] at h3
  unfold dig at h4
  omega
theorem agree_same (l : List R7) (u k : Nat) : Agree (same l u k) k := ⟨u / 16 ^ k, fun r hr => by simpa using (List.mem_filter.1 hr).2⟩
theorem Agree.dig_le {l : List R7} {k : Nat} (h : Agree l (k + 1)) (hu : Up l) : l.Pairwise (fun a b => dig a.uid k ≤ dig b.uid k) := by
  obtain ⟨c, hc⟩ := h
  refine List.Pairwise.imp_of_mem ?_ (hu.le k)
  intro a b ha hb hab
  have h1 := hc a ha
  have h2 := hc b hb
  rw [div_pow_succ] at h1 h2
  unfold dig
  omega
/-- Those below the first digits. -/
def upto (h d : Nat) (l : List R7) : List R7 := l.filter fun r => decide (dig r.uid h < d)
theorem upto_zero (h : Nat) (l : List R7) : upto h 0 l = [] := List.filter_eq_nil_iff.2 (by simp)
theorem upto_all (h : Nat) (l : List R7) : upto h 16 l = l := List.filter_eq_self.2 fun r _ => decide_eq_true (dig_lt _ _)
theorem upto_succ {l : List R7} {k : Nat} (h : Agree l (k + 1)) (hu : Up l) (d : Nat) : upto k (d + 1) l = upto k d l ++ part k d l := filter_lt_succ (fun r => dig r.uid k) (h.dig_le hu) d
theorem upto_take {l : List R7} {k : Nat} (h : Agree l (k + 1)) (hu : Up l) (d : Nat) (hd : d ≤ 16) : ∃ t, l = upto k d l ++ t := by
  have step : ∀ j, d ≤ j → ∃ t, upto k j l = upto k d l ++ t := by
    intro j hj
    induction j with
    | zero => exact ⟨[], by rw [Nat.le_zero.1 hj, List.append_nil]⟩
    | succ j ih =>
      by_cases e : d = j + 1
      · subst e; exact ⟨[], by simp⟩
      · obtain ⟨t, ht⟩ := ih (by omega)
        exact ⟨t ++ part k j l, by rw [upto_succ h hu, ht, List.append_assoc]⟩
  obtain ⟨t, ht⟩ := step 16 hd
  rw [upto_all] at ht
  exact ⟨t, ht⟩
end Go.Proofs.Ytdelhpogacccjaa

/-
  The law EpochQuick: readers alone that pin, as states of the machine.
-/
import Derived.Test.YtefmojohabdjcaaAwake6
set_option linter.unusedVariables false
set_option linter.unusedSimpArgs false
namespace Go.Proofs.Ytefmojohabdjcaa
open Go Go.RowKit

/-- At what a reader is that pins, and how many steps it made. -/
def QPc (p : EP) (s : ET) (i : Nat) : Prop :=
  (s.pc i = .pin0 i ∧ s.cnt i = 0 ∧ s.es.po i = false) ∨ (s.pc i = .pin1 i 0 ∧ s.cnt i = 1 ∧ s.es.po i = false) ∨ (s.pc i = .pin2 i 0 ∧ s.cnt i = 2 ∧ s.es.po i = false ∧ s.es.ws (p.word + 1 + i) = 1) ∨
    (s.pc i = .done ∧ s.cnt i = 3 ∧ s.es.po i = true ∧ s.es.pe i = 0 ∧ s.es.ws (p.word + 1 + i) = 1)
structure QI (q : EQ) (s : ET) : Prop where
  nw : s.es.now = 0
  wd : s.es.ws q.p.word = 0
  st : ∀ i, i < q.N → QPc q.p s i
variable {q : EQ} {s : ET}
theorem QPc.done {p : EP} {i : Nat} (h : QPc p s i) : (s.pc i).isDone = decide (s.cnt i = 3) := by
  rcases h with ⟨a, b, _⟩ | ⟨a, b, _⟩ | ⟨a, b, _⟩ | ⟨a, b, _⟩ <;> rw [a, b] <;> rfl
theorem QPc.le {p : EP} {i : Nat} (h : QPc p s i) : s.cnt i ≤ 3 := by
  rcases h with ⟨a, b, _⟩ | ⟨a, b, _⟩ | ⟨a, b, _⟩ | ⟨a, b, _⟩ <;> omega
/-- What another reader's step leaves. -/
theorem QPc.other {p : EP} {s s' : ET} {i j : Nat} (h : QPc p s j) (h1 : s'.pc j = s.pc j) (h2 : s'.cnt j = s.cnt j) (h3 : s'.es.po j = s.es.po j) (h4 : s'.es.pe j = s.es.pe j) (h5 : s'.es.ws (p.word + 1 + j) = s.es.ws (p.word + 1 + j)) : QPc p s' j := by
  unfold QPc
  rw [h1, h2, h3, h4, h5]
  exact h
theorem QI.nx (h : QI q s) {i : Nat} (hi : i < q.N) (hd : (s.pc i).isDone = false) : QI q (s.nx q i) ∧ (s.nx q i).cnt i = s.cnt i + 1 ∧ ∀ j, j ≠ i → (s.nx q i).cnt j = s.cnt j := by
  have hc1 : (s.nx q i).cnt i = s.cnt i + 1 := put1_same _ _ _
  have hc2 : ∀ j, j ≠ i → (s.nx q i).cnt j = s.cnt j := fun j hj => put1_other _ _ hj
  have hp2 : ∀ j, j ≠ i → (s.nx q i).pc j = s.pc j := fun j hj => put1_other _ _ hj
  refine ⟨?_, hc1, hc2⟩
  rcases h.st i hi with ⟨a, b, c⟩ | ⟨a, b, c⟩ | ⟨a, b, c, d⟩ | ⟨a, b, c, d, e⟩
  · have hn : nextE q.p s.es (s.pc i) = (s.es.tick, .pin1 i 0, none) := by rw [a]; simp [nextE, c, h.wd]
    have he : (s.nx q i).es = s.es.tick := by unfold ET.nx; rw [hn]
    have hp : (s.nx q i).pc i = .pin1 i 0 := by unfold ET.nx; rw [hn]; exact put1_same _ _ _
    refine ⟨by rw [he]; exact h.nw, by rw [he]; exact h.wd, fun j hj => ?_⟩
    by_cases hji : j = i
    · subst hji
      exact .inr (.inl ⟨hp, by rw [hc1, b], by rw [he]; exact c⟩)
    · exact (h.st j hj).other (i := i) (hp2 j hji) (hc2 j hji) (by rw [he]; rfl) (by rw [he]; rfl) (by rw [he]; rfl)
  · have hn : nextE q.p s.es (s.pc i) = (s.es.store (q.p.word + 1 + i) 1, .pin2 i 0, none) := by rw [a]; simp [nextE]
    have he : (s.nx q i).es = s.es.store (q.p.word + 1 + i) 1 := by unfold ET.nx; rw [hn]
    have hp : (s.nx q i).pc i = .pin2 i 0 := by unfold ET.nx; rw [hn]; exact put1_same _ _ _
    refine ⟨by rw [he]; exact h.nw, by rw [he]; exact (upd_other _ _ _ _ (by omega)).trans h.wd, fun j hj => ?_⟩
    by_cases hji : j = i
    · subst hji
      exact .inr (.inr (.inl ⟨hp, by rw [hc1, b], by rw [he]; exact c, by rw [he]; exact upd_same _ _ _⟩))
    · exact (h.st j hj).other (i := i) (hp2 j hji) (hc2 j hji) (by rw [he]; rfl) (by rw [he]; rfl) (by rw [he]; exact upd_other _ _ _ _ (by omega))
  · have hn : nextE q.p s.es (s.pc i) = (s.es.tick.setPin i 0 true, .done, none) := by rw [a]; simp [nextE, h.wd]
    have he : (s.nx q i).es = s.es.tick.setPin i 0 true := by unfold ET.nx; rw [hn]
    have hp : (s.nx q i).pc i = .done := by unfold ET.nx; rw [hn]; exact put1_same _ _ _
    refine ⟨by rw [he]; exact h.nw, by rw [he]; exact h.wd, fun j hj => ?_⟩
    by_cases hji : j = i
    · subst hji
      exact .inr (.inr (.inr ⟨hp, by rw [hc1, b], by rw [he]; exact put1_same _ _ _, by rw [he]; exact put1_same _ _ _, by rw [he]; exact d⟩))
    · exact (h.st j hj).other (i := i) (hp2 j hji) (hc2 j hji) (by rw [he]; exact put1_other _ _ hji) (by rw [he]; exact put1_other _ _ hji) (by rw [he]; rfl)
  · rw [a] at hd; cases hd
theorem QI.pick (h : QI q s) (hN : 0 < q.N) (n : Nat) (x : Int) : QI q ((epMach q).pick1 (s, n) x).1 := by
  unfold Mach.pick1
  dsimp only
  cases hd : (s.pc (idx q.N x)).isDone with
  | true => rw [if_pos (by exact hd)]; exact h
  | false => rw [if_neg (by show ¬ (s.pc (idx q.N x)).isDone = true; rw [hd]; decide)]; exact (h.nx (idx_lt hN x) hd).1
theorem QI.turn (h : QI q s) (hN : 0 < q.N) (l : List Int) : QI q ((epMach q).turn0 s l).1 := by
  unfold Mach.turn0
  rw [if_neg (by show ¬ q.N = 0; omega)]
  unfold Mach.turn
  have : ∀ (l : List Int) (x : ET × Nat), QI q x.1 → QI q (l.foldl (epMach q).pick1 x).1 := by
    intro l
    induction l with
    | nil => intro x hx; exact hx
    | cons a l ih => intro x hx; exact ih _ (QI.pick hx hN x.2 a)
  exact this l (s, 0) h
theorem QI.upto (h : QI q s) (k : Nat) (hk : k ≤ q.N) : QI q ((epMach q).upto s k).1 ∧ (∀ i, i < k → ((epMach q).upto s k).1.cnt i = min 3 (s.cnt i + 1)) ∧ (∀ i, k ≤ i → ((epMach q).upto s k).1.cnt i = s.cnt i) ∧ (((epMach q).upto s k).2 = false → ∀ i, i < k → s.cnt i = 3) := by
  induction k with
  | zero => exact ⟨h, fun i hi => absurd hi (Nat.not_lt_zero _), fun i _ => rfl, fun _ i hi => absurd hi (Nat.not_lt_zero _)⟩
  | succ k ih =>
    obtain ⟨a, b, c, d⟩ := ih (by omega)
    rw [Mach.upto_succ]
    obtain ⟨x, hx⟩ : ∃ x, (epMach q).upto s k = x := ⟨_, rfl⟩
    rw [hx] at a b c d ⊢
    have hQ := a.st k (by omega)
    have hck := c k (Nat.le_refl _)
    unfold Mach.go1
    cases hd : (x.1.pc k).isDone with
    | true =>
      rw [if_pos (by exact hd)]
      have h3 : x.1.cnt k = 3 := by have := hQ.done; rw [hd] at this; simpa using this.symm
      refine ⟨a, fun i hi => ?_, fun i hi => c i (by omega), fun hf i hi => ?_⟩
      · by_cases hik : i = k
        · subst hik; omega
        · exact b i (by omega)
      · by_cases hik : i = k
        · subst hik; omega
        · exact d hf i (by omega)
    | false =>
      rw [if_neg (by show ¬ (x.1.pc k).isDone = true; rw [hd]; decide)]
      obtain ⟨e1, e2, e3⟩ := a.nx (by omega : k < q.N) hd
      have h3 : x.1.cnt k ≠ 3 := by have := hQ.done; rw [hd] at this; simpa using this.symm
      have hle := hQ.le
      refine ⟨e1, fun i hi => ?_, fun i hi => ?_, fun hf => by cases hf⟩
      · by_cases hik : i = k
        · subst hik
          show (x.1.nx q i).cnt i = _
          rw [e2]; omega
        · show (x.1.nx q k).cnt i = _
          rw [e3 i hik]; exact b i (by omega)
      · show (x.1.nx q k).cnt i = _
        rw [e3 i (by omega)]; exact c i (by omega)
theorem QI.rest (L : Nat) : ∀ {s : ET}, QI q s → QI q ((epMach q).rest L s).1 ∧ ∀ i, i < q.N → min 3 (s.cnt i + L) ≤ ((epMach q).rest L s).1.cnt i := by
  induction L with
  | zero => intro s h; exact ⟨h, fun i hi => by have := (h.st i hi).le; show min 3 (s.cnt i + 0) ≤ s.cnt i; omega⟩
  | succ L ih =>
    intro s h
    obtain ⟨a, b, c, d⟩ := h.upto q.N (Nat.le_refl _)
    have hr : (epMach q).round s = (epMach q).upto s q.N := rfl
    rw [← hr] at a b c d
    unfold Mach.rest
    cases hb : ((epMach q).round s).2 with
    | true =>
      rw [if_pos rfl]
      obtain ⟨e1, e2⟩ := ih a
      refine ⟨e1, fun i hi => ?_⟩
      have := e2 i hi
      rw [b i hi] at this
      dsimp only
      omega
    | false =>
      rw [if_neg (by decide)]
      refine ⟨a, fun i hi => ?_⟩
      have h3 := d hb i hi
      have := b i hi
      dsimp only
      omega
theorem QI.rested (h : QI q s) : QI q ((epMach q).rest 8 s).1 ∧ ∀ i, i < q.N → ((epMach q).rest 8 s).1.pc i = .done ∧ ((epMach q).rest 8 s).1.cnt i = 3 ∧ ((epMach q).rest 8 s).1.es.po i = true ∧ ((epMach q).rest 8 s).1.es.pe i = 0 ∧ ((epMach q).rest 8 s).1.es.ws (q.p.word + 1 + i) = 1 := by
  obtain ⟨a, b⟩ := QI.rest 8 h
  refine ⟨a, fun i hi => ?_⟩
  have h1 := b i hi
  rcases a.st i hi with h2 | h2 | h2 | h2
  · omega
  · omega
  · omega
  · exact h2

/-- Readers that unpin. -/
structure UI (q : EQ) (k : Nat) (s : ET) : Prop where
  nw : s.es.now = 0
  wd : s.es.ws q.p.word = 0
  ahead : ∀ i, i < k → s.pc i = .done ∧ s.es.po i = false ∧ s.es.pe i = 0 ∧ s.es.ws (q.p.word + 1 + i) = 0
  rest : ∀ i, k ≤ i → i < q.N → s.pc i = .unp i
theorem UI.upto (h : UI q 0 s) (k : Nat) (hk : k ≤ q.N) : UI q k ((epMach q).upto s k).1 := by
  induction k with
  | zero => exact h
  | succ k ih =>
    have a := ih (by omega)
    rw [Mach.upto_succ]
    obtain ⟨x, hx⟩ : ∃ x, (epMach q).upto s k = x := ⟨_, rfl⟩
    rw [hx] at a ⊢
    have hp := a.rest k (Nat.le_refl _) (by omega)
    unfold Mach.go1
    rw [if_neg (by show ¬ (x.1.pc k).isDone = true; rw [hp]; exact Bool.false_ne_true)]
    have hn : nextE q.p x.1.es (x.1.pc k) = ((x.1.es.store (q.p.word + 1 + k) 0).setPin k 0 false, .done, none) := by rw [hp]; rfl
    have he : (x.1.nx q k).es = (x.1.es.store (q.p.word + 1 + k) 0).setPin k 0 false := by unfold ET.nx; rw [hn]
    have hpc : (x.1.nx q k).pc k = .done := by unfold ET.nx; rw [hn]; exact put1_same _ _ _
    have hp2 : ∀ j, j ≠ k → (x.1.nx q k).pc j = x.1.pc j := fun j hj => put1_other _ _ hj
    show UI q (k + 1) (x.1.nx q k)
    refine ⟨by rw [he]; exact a.nw, by rw [he]; exact (upd_other _ _ _ _ (by omega)).trans a.wd, fun i hi => ?_, fun i hi h2 => ?_⟩
    · by_cases hik : i = k
      · subst hik
        exact ⟨hpc, by rw [he]; exact put1_same _ _ _, by rw [he]; exact put1_same _ _ _, by rw [he]; exact upd_same _ _ _⟩
      · obtain ⟨b1, b2, b3, b4⟩ := a.ahead i (by omega)
        exact ⟨(hp2 i hik).trans b1, by rw [he]; exact (put1_other _ _ hik).trans b2, by rw [he]; exact (put1_other _ _ hik).trans b3, by rw [he]; exact (upd_other _ _ _ _ (by omega)).trans b4⟩
    · rw [hp2 i (by omega)]; exact a.rest i (by omega) h2
theorem UI.rested (h : UI q 0 s) : UI q q.N ((epMach q).rest 1 s).1 := by
  have a := h.upto q.N (Nat.le_refl _)
  have hr : (epMach q).round s = (epMach q).upto s q.N := rfl
  rw [← hr] at a
  unfold Mach.rest
  split
  · exact a
  · exact a
end Go.Proofs.Ytefmojohabdjcaa

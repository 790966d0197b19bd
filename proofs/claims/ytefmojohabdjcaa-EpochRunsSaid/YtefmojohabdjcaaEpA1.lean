/-
  An epoch whose acts are done at once: what it is in behind each.
-/
import Derived.Test.YtefmojohabdjcaaMade
set_option linter.unusedVariables false
set_option linter.unusedSimpArgs false
namespace Go.Proofs.Ytefmojohabdjcaa
open Go Go.RowKit

/-- Nothing is under way: all words tell what the readers know of themselves. -/
structure Stil (p : EP) (s : ES) (now : Nat) (at' : Nat → Option Nat) : Prop where
  nw : s.now = now
  wd : s.ws p.word = now
  le : now ≤ s.t
  off : ∀ i, i < p.R → at' i = none → s.po i = false ∧ s.pe i = 0 ∧ s.ws (p.word + 1 + i) = 0
  on : ∀ i e, i < p.R → at' i = some e → s.po i = true ∧ s.pe i = e ∧ s.ws (p.word + 1 + i) = e + 1 ∧ (e = now ∨ e + 1 = now)
variable {p : EP} {s : ES} {W W' : World} {now : Nat} {at' : Nat → Option Nat}
theorem Stil.new {t : Nat} (h : Fresh p s t) : Stil p s 0 (fun _ => none) where
  nw := h.now
  wd := h.ws 0 (Nat.zero_le _)
  le := Nat.zero_le _
  off := fun i hi _ => ⟨h.po i, h.pe i, by have := h.ws (1 + i) (by omega); rw [← Nat.add_assoc] at this; exact this⟩
  on := fun i e _ he => by cases he
theorem Stil.tick (h : Stil p s now at') : Stil p s.tick now at' := ⟨h.nw, h.wd, by have := h.le; show now ≤ s.t + 1; omega, h.off, h.on⟩
theorem Stil.pin (h : Stil p s now at') (who : Nat) : Stil p ((s.store (p.word + 1 + who) (now + 1)).setPin who now true) now (put1 at' who (some now)) where
  nw := h.nw
  wd := by show upd s.ws _ _ _ = _; rw [upd_other _ _ _ _ (by omega)]; exact h.wd
  le := by have := h.le; show now ≤ s.t + 1; omega
  off := fun i hi hn => by
    by_cases hiw : i = who
    · subst hiw; rw [put1_same] at hn; cases hn
    · rw [put1_other _ _ hiw] at hn
      obtain ⟨a, b, c⟩ := h.off i hi hn
      refine ⟨(put1_other _ _ hiw).trans a, (put1_other _ _ hiw).trans b, ?_⟩
      show upd s.ws _ _ _ = _
      rw [upd_other _ _ _ _ (by omega)]; exact c
  on := fun i e hi he => by
    by_cases hiw : i = who
    · subst hiw; rw [put1_same] at he; cases he
      exact ⟨put1_same _ _ _, put1_same _ _ _, upd_same _ _ _, .inl rfl⟩
    · rw [put1_other _ _ hiw] at he
      obtain ⟨a, b, c, d⟩ := h.on i e hi he
      refine ⟨(put1_other _ _ hiw).trans a, (put1_other _ _ hiw).trans b, ?_, d⟩
      show upd s.ws _ _ _ = _
      rw [upd_other _ _ _ _ (by omega)]; exact c
theorem Stil.unpin (h : Stil p s now at') (who : Nat) : Stil p ((s.store (p.word + 1 + who) 0).setPin who 0 false) now (put1 at' who none) where
  nw := h.nw
  wd := by show upd s.ws _ _ _ = _; rw [upd_other _ _ _ _ (by omega)]; exact h.wd
  le := by have := h.le; show now ≤ s.t + 1; omega
  off := fun i hi hn => by
    by_cases hiw : i = who
    · subst hiw
      exact ⟨put1_same _ _ _, put1_same _ _ _, upd_same _ _ _⟩
    · rw [put1_other _ _ hiw] at hn
      obtain ⟨a, b, c⟩ := h.off i hi hn
      refine ⟨(put1_other _ _ hiw).trans a, (put1_other _ _ hiw).trans b, ?_⟩
      show upd s.ws _ _ _ = _
      rw [upd_other _ _ _ _ (by omega)]; exact c
  on := fun i e hi he => by
    by_cases hiw : i = who
    · subst hiw; rw [put1_same] at he; cases he
    · rw [put1_other _ _ hiw] at he
      obtain ⟨a, b, c, d⟩ := h.on i e hi he
      refine ⟨(put1_other _ _ hiw).trans a, (put1_other _ _ hiw).trans b, ?_, d⟩
      show upd s.ws _ _ _ = _
      rw [upd_other _ _ _ _ (by omega)]; exact c
/-- All who are pinned are so at the epoch. -/
def AllAt (p : EP) (now : Nat) (at' : Nat → Option Nat) : Prop := ∀ i, i < p.R → at' i = none ∨ at' i = some now
theorem Stil.move (h : Stil p s now at') (ha : AllAt p now at') : Stil p (s.after p now) (now + 1) at' := by
  have hs : s.after p now = (s.store p.word (now + 1)).setNow (now + 1) := by unfold ES.after; rw [if_pos h.wd]
  rw [hs]
  refine ⟨rfl, upd_same _ _ _, by have := h.le; show now + 1 ≤ s.t + 1; omega, fun i hi hn => ?_, fun i e hi he => ?_⟩
  · obtain ⟨a, b, c⟩ := h.off i hi hn
    exact ⟨a, b, by show upd s.ws _ _ _ = _; rw [upd_other _ _ _ _ (by omega)]; exact c⟩
  · obtain ⟨a, b, c, d⟩ := h.on i e hi he
    refine ⟨a, b, by show upd s.ws _ _ _ = _; rw [upd_other _ _ _ _ (by omega)]; exact c, .inr ?_⟩
    rcases ha i hi with h1 | h1
    · rw [h1] at he; cases he
    · rw [h1] at he; cases he; rfl
/-- One act alone. -/
def runE (p : EP) : Nat → ES → PC → Bool → ES × PC × Bool
  | 0, s, pc, mv => (s, pc, mv)
  | L + 1, s, pc, mv => if pc.isDone then (s, pc, mv) else runE p L (nextE p s pc).1 (nextE p s pc).2.1 ((nextE p s pc).2.2.getD mv)
theorem runE_done (p : EP) (L : Nat) (s : ES) (mv : Bool) : runE p L s .done mv = (s, .done, mv) := by cases L <;> rfl
theorem runE_pin (h : Stil p s now at') (who : Nat) (hw : who < p.R) (L : Nat) (hL : 3 ≤ L) (mv : Bool) : ∃ s', runE p L s (.pin0 who) mv = (s', .done, mv) ∧ Stil p s' now (put1 at' who (some now)) ∧ s'.t ≤ s.t + 3 := by
  obtain ⟨L, rfl⟩ : ∃ M, L = M + 3 := ⟨L - 3, by omega⟩
  cases hat : at' who with
  | none =>
    obtain ⟨a, b, c⟩ := h.off who hw hat
    have hwd2 : upd s.ws (p.word + 1 + who) (now + 1) p.word = now := by rw [upd_other _ _ _ _ (by omega)]; exact h.wd
    refine ⟨_, ?_, (h.tick.pin who).tick, ?_⟩
    · simp [runE, nextE, PC.isDone, a, h.wd, ES.tick, runE_done, ES.setPin, ES.store, hwd2]
    · show s.t + 1 + 1 + 1 ≤ s.t + 3; omega
  | some e =>
    obtain ⟨a, b, c, d⟩ := h.on who e hw hat
    by_cases he : now = e
    · subst he
      refine ⟨s.tick, ?_, ?_, by show s.t + 1 ≤ _; omega⟩
      · simp [runE, nextE, PC.isDone, a, b, h.wd, runE_done]
      · have : put1 at' who (some now) = at' := by
          funext i
          by_cases hi : i = who
          · subst hi; rw [put1_same, hat]
          · rw [put1_other _ _ hi]
        rw [this]; exact h.tick
    · refine ⟨_, ?_, h.tick.pin who, by show s.t + 1 + 1 ≤ _; omega⟩
      simp [runE, nextE, PC.isDone, a, b, h.wd, runE_done, he, ES.tick]
theorem runE_unpin (h : Stil p s now at') (who : Nat) (L : Nat) (hL : 1 ≤ L) (mv : Bool) : ∃ s', runE p L s (.unp who) mv = (s', .done, mv) ∧ Stil p s' now (put1 at' who none) ∧ s'.t ≤ s.t + 1 := by
  obtain ⟨L, rfl⟩ : ∃ M, L = M + 1 := ⟨L - 1, by omega⟩
  exact ⟨_, by simp [runE, nextE, PC.isDone, runE_done], h.unpin who, Nat.le_refl _⟩
theorem runE_adv_yes (h : Stil p s now at') (ha : AllAt p now at') (d : Nat) : ∀ (s : ES), Stil p s now at' → ∀ (who : Nat), who + d = p.R → ∀ L, d + 1 ≤ L → ∀ mv, ∃ s', runE p L s (.adv who now) mv = (s', .done, true) ∧ Stil p s' (now + 1) at' ∧ s'.t ≤ s.t + d + 1 := by
  induction d with
  | zero =>
    intro s h who hw L hL mv
    obtain ⟨L, rfl⟩ : ∃ M, L = M + 1 := ⟨L - 1, by omega⟩
    have hn : ¬ who < p.R := by omega
    refine ⟨s.after p now, ?_, h.move ha, by unfold ES.after; split <;> (show s.t + 1 ≤ _; omega)⟩
    simp [runE, nextE, PC.isDone, hn, runE_done, ES.moves, h.wd]
  | succ d ih =>
    intro s h who hw L hL mv
    obtain ⟨L, rfl⟩ : ∃ M, L = M + 1 := ⟨L - 1, by omega⟩
    have hn : who < p.R := by omega
    obtain ⟨s', h1, h2, h3⟩ := ih s.tick h.tick (who + 1) (by omega) L (by omega) mv
    have hh : holdsB (s.ws (p.word + 1 + who)) now = false := by
      unfold holdsB
      rcases ha who hn with h4 | h4
      · rw [(h.off who hn h4).2.2]; simp
      · rw [(h.on who now hn h4).2.2.1]; simp
    refine ⟨s', ?_, h2, by have : s.tick.t = s.t + 1 := rfl; omega⟩
    rw [← h1]
    simp [runE, nextE, PC.isDone, hn, hh]
theorem runE_adv_no (i : Nat) (hi : i < p.R) (hne : at' i ≠ none ∧ at' i ≠ some now) (d : Nat) : ∀ (s : ES), Stil p s now at' → ∀ (who : Nat), who + d = i → ∀ L, d + 1 ≤ L → ∀ mv, ∃ s', runE p L s (.adv who now) mv = (s', .done, mv) ∧ Stil p s' now at' ∧ s'.t ≤ s.t + d + 1 := by
  induction d with
  | zero =>
    intro s h who hw L hL mv
    obtain ⟨L, rfl⟩ : ∃ M, L = M + 1 := ⟨L - 1, by omega⟩
    obtain rfl : who = i := by omega
    have hh : holdsB (s.ws (p.word + 1 + who)) now = true := by
      unfold holdsB
      cases hat : at' who with
      | none => exact absurd hat hne.1
      | some e =>
        obtain ⟨a, b, c, e2⟩ := h.on who e hi hat
        have : e ≠ now := fun x => hne.2 (by rw [hat, x])
        rw [c]
        have : e + 1 = now := by omega
        simp [this]; omega
    exact ⟨s.tick, by simp [runE, nextE, PC.isDone, hi, hh, runE_done], h.tick, by show s.t + 1 ≤ _; omega⟩
  | succ d ih =>
    intro s h who hw L hL mv
    obtain ⟨L, rfl⟩ : ∃ M, L = M + 1 := ⟨L - 1, by omega⟩
    have hn : who < p.R := by omega
    cases hh : holdsB (s.ws (p.word + 1 + who)) now with
    | true => exact ⟨s.tick, by simp [runE, nextE, PC.isDone, hn, hh, runE_done], h.tick, by show s.t + 1 ≤ _; omega⟩
    | false =>
      obtain ⟨s', h1, h2, h3⟩ := ih s.tick h.tick (who + 1) (by omega) L (by omega) mv
      refine ⟨s', ?_, h2, by have : s.tick.t = s.t + 1 := rfl; omega⟩
      rw [← h1]
      simp [runE, nextE, PC.isDone, hn, hh]
end Go.Proofs.Ytefmojohabdjcaa

/-
  An epoch as it lies; its small functions.
-/
import Derived.Test.YtefmojohabdjcaaKit6
import Derived.Test.YtefmojohabdjcaaMem3E
import Derived.Test.YtefmojohabdjcaaQuad
import Derived.BigQuiet
set_option linter.unusedVariables false
set_option linter.unusedSimpArgs false
namespace Go.Proofs.Ytefmojohabdjcaa
open Go Go.RowKit

/-- Where an epoch lies: its block, its memory's, its pins'; its first word; how many readers; how many words the memory has. -/
structure EP where
  E : Nat
  M : Nat
  Pb : Nat
  word : Nat
  R : Nat
  n : Nat
/-- What it is in. -/
structure ES where
  now : Nat
  pe : Nat → Nat
  po : Nat → Bool
  t : Nat
  ws : Nat → Nat
  cs : Nat → Nat
structure EpAt (p : EP) (s : ES) (W : World) : Prop where
  q : Quad W p.E 92 (pm p.M) (.int .i64 p.word) (.int .u64 s.now) (.slice (some ⟨p.Pb, 0, none⟩) p.R p.R)
  m : MemAt W p.M p.n s.t s.ws s.cs
  pin : ∃ cur, Cells W p.Pb 95 cur ∧ ∀ i, i < p.R → cur[i * 2]? = some (.int .u64 (s.pe i)) ∧ cur[i * 2 + 1]? = some (.bool (s.po i))
  fit : p.word + p.R + 1 ≤ p.n ∧ p.n ≤ 8192 ∧ p.R ≤ 8
def fE (p : EP) (k : Nat) : Prop := k = p.E ∨ k = p.M ∨ k = p.Pb
variable {p : EP} {s : ES} {W W' : World}
theorem EpAt.later (h : EpAt p s W) (hs : ∀ k, fE p k → W'.heap[k]? = W.heap[k]?) : EpAt p s W' := by
  obtain ⟨cur, h1, h2⟩ := h.pin
  exact ⟨h.q.later (hs _ (.inl rfl)), h.m.later (hs _ (.inr (.inl rfl))), ⟨cur, h1.later (hs _ (.inr (.inr rfl))), h2⟩, h.fit⟩
theorem EpAt.lt (h : EpAt p s W) {k : Nat} (hk : fE p k) : k < W.heap.size := by
  obtain ⟨cur, h1, h2⟩ := h.pin
  rcases hk with rfl | rfl | rfl
  · exact h.q.lt
  · exact h.m.lt
  · exact h1.lt
theorem EpAt.below (h : EpAt p s W) (hb : Below W.heap.size W W') : EpAt p s W' := h.later fun k hk => hb.block k (h.lt hk)
theorem EpAt.drew (h : EpAt p s W) : EpAt p s W.drew := h.later fun _ _ => rfl
theorem EpAt.alloc (h : EpAt p s W) (o : Obj) : EpAt p s (W.alloc o) := h.below ((Below.refl _ _).alloc (Nat.le_refl _) _)
theorem EpAt.ne (h : EpAt p s W) : p.E ≠ p.M ∧ p.E ≠ p.Pb ∧ p.M ≠ p.Pb := by
  obtain ⟨cur, h1, h2⟩ := h.pin
  obtain ⟨c, hm, _⟩ := h.m
  exact ⟨block_ne' h.q hm (by decide), block_ne' h.q h1 (by decide), block_ne' hm h1 (by decide)⟩
where
  block_ne' {W : World} {k l : Nat} {c c' : Array Value} {e e' : TypeId} {fz fz' : Nat × Nat} (h : W.heap[k]? = some (.cells c e fz)) (h' : W.heap[l]? = some (.cells c' e' fz')) (hne : e ≠ e') : k ≠ l := by
    intro hk
    subst hk
    rw [h] at h'
    cases h'
    exact hne rfl
theorem EpAt.pcell (h : EpAt p s W) {i : Nat} (hi : i < p.R) : W.cell? ⟨p.Pb, i * 2, none⟩ = some (.int .u64 (s.pe i)) ∧ W.cell? ⟨p.Pb, i * 2 + 1, none⟩ = some (.bool (s.po i)) ∧ (∀ j, W.frozen? ⟨p.Pb, j, none⟩ = false) ∧ p.Pb < W.heap.size := by
  obtain ⟨cur, h1, h2⟩ := h.pin
  exact ⟨h1.cell (h2 i hi).1, h1.cell (h2 i hi).2, fun j => h1.frozen j, h1.lt⟩

def pE (p : EP) : Value := .pointer (some ⟨p.E, 0, none⟩)
theorem words_yes (R : Nat) (h1 : 1 ≤ R) (h8 : R ≤ 8) (w : World) : Calls Try.prog 44 #[.int .i64 R] w fun e w' => e = .returned (.int .i64 ((R + 1 : Nat) : Int)) ∧ w' = w := by
  have q1 : ¬ (R : Int) < 1 := by omega
  have q2 : ¬ (8 : Int) < R := by omega
  rw [show ((R + 1 : Nat) : Int) = 1 + (R : Int) by omega]
  go_enter Try.func44, Try.ntmps44
  go_wp2_with fail
  go_ret
  exact ⟨rfl, rfl⟩
theorem words_no (i : Int) (h : i < 1 ∨ 8 < i) (w : World) : Calls Try.prog 44 #[.int .i64 i] w fun e w' => e = .returned (.int .i64 0) ∧ w' = w := by
  by_cases h1 : i < 1
  · go_enter Try.func44, Try.ntmps44
    go_wp2_with fail
    go_ret
    exact ⟨rfl, rfl⟩
  · have h2 : (8 : Int) < i := by omega
    go_enter Try.func44, Try.ntmps44
    go_wp2_with fail
    go_ret
    exact ⟨rfl, rfl⟩
theorem now_c (h : EpAt p s W) : Calls Try.prog 21 #[pE p] W fun e w' => e = .returned (.int .u64 s.now) ∧ w' = W := by
  obtain ⟨c0, c1, c2, c3⟩ := h.q.cell
  unfold pE
  go_enter Try.func21, Try.ntmps21
  go_wp2_with fail
  go_ret
  exact ⟨rfl, rfl⟩
theorem place_c (h : EpAt p s W) (who : Nat) (hw : who < p.R) : Calls Try.prog 39 #[pE p, .int .i64 who] W fun e w' => e = .returned (.int .i64 ((p.word + 1 + who : Nat) : Int)) ∧ w' = W := by
  obtain ⟨c0, c1, c2, c3⟩ := h.q.cell
  have hf := h.fit
  obtain ⟨wd, hwd⟩ : ∃ wd, p.word = wd := ⟨_, rfl⟩
  rw [hwd] at c1 hf ⊢
  unfold pE
  go_enter Try.func39, Try.ntmps39
  go_wp2_with fail
  go_ret
  exact ⟨by go_num, rfl⟩
theorem has_yes (h : EpAt p s W) (who : Nat) (hw : who < p.R) : Calls Try.prog 31 #[pE p, .int .i64 who] W fun e w' => e = .returned (.bool true) ∧ w' = W := by
  obtain ⟨c0, c1, c2, c3⟩ := h.q.cell
  have q1 : (0 : Int) ≤ who := by omega
  have q2 : (who : Int) < p.R := by omega
  unfold pE
  go_enter Try.func31, Try.ntmps31
  go_wp2_with fail
  go_ret
  exact ⟨rfl, rfl⟩
theorem has_no (h : EpAt p s W) (who : Int) (hw : who < 0 ∨ (p.R : Int) ≤ who) : Calls Try.prog 31 #[pE p, .int .i64 who] W fun e w' => e = .returned (.bool false) ∧ w' = W := by
  obtain ⟨c0, c1, c2, c3⟩ := h.q.cell
  unfold pE
  by_cases h1 : who < 0
  · have q1 : ¬ (0 : Int) ≤ who := by omega
    go_enter Try.func31, Try.ntmps31
    go_wp2_with fail
    go_ret
    exact ⟨rfl, rfl⟩
  · have q1 : (0 : Int) ≤ who := by omega
    have q2 : ¬ who < (p.R : Int) := by omega
    go_enter Try.func31, Try.ntmps31
    go_wp2_with fail
    go_ret
    exact ⟨rfl, rfl⟩
def holdsB (w e : Nat) : Bool := decide (w ≠ 0) && decide (w = e)
theorem holds_c (a b : Nat) (w : World) : Calls Try.prog 57 #[.int .u64 a, .int .u64 b] w fun e w' => e = .returned (.bool (holdsB a b)) ∧ w' = w := by
  unfold holdsB
  by_cases h0 : a = 0
  · subst h0
    go_enter Try.func57, Try.ntmps57
    go_wp2_with fail
    go_ret
    exact ⟨rfl, rfl⟩
  · have e0 : ((a : Int) != 0) = true := by rw [bne_iff_ne]; omega
    by_cases h1 : a = b
    · subst h1
      have e1 : decide (a ≠ 0) = true := decide_eq_true h0
      rw [e1]
      go_enter Try.func57, Try.ntmps57
      go_wp2_with fail
      go_ret
      exact ⟨by simp, rfl⟩
    · have e1 : ((a : Int) == (b : Int)) = false := by rw [beq_eq_false_iff_ne]; omega
      have e2 : decide (a = b) = false := decide_eq_false h1
      rw [e2, Bool.and_false]
      go_enter Try.func57, Try.ntmps57
      go_wp2_with fail
      go_ret
      exact ⟨rfl, rfl⟩
end Go.Proofs.Ytefmojohabdjcaa

/-
  The acts of an epoch, as a machine: what each is at; one step.
-/
import Derived.Test.YtefmojohabdjcaaEp9
import Derived.Test.YtefmojohabdjcaaMach
set_option linter.unusedVariables false
set_option linter.unusedSimpArgs false
namespace Go.Proofs.Ytefmojohabdjcaa
open Go Go.RowKit

/-- What an act is at. -/
inductive PC
  | done
  | pin0 (who : Nat)
  | pin1 (who ep : Nat)
  | pin2 (who ep : Nat)
  | pinN (who ep : Nat)
  | unp (who : Nat)
  | adv0
  | adv (who ep : Nat)
def PC.isDone : PC → Bool
  | .done => true
  | _ => false
def cloV (R b c : Nat) : PC → Value
  | .done => .nilFunc
  | .pin0 _ => fv 33 (capP b)
  | .pin1 _ _ => fv 49 (capA3 b)
  | .pin2 _ _ => fv 50 (capB3 b)
  | .pinN _ _ => fv 51 (capA3 b)
  | .unp _ => fv 37 (capP b)
  | .adv0 => fv 46 (capV b c)
  | .adv who _ => passV R who b
def boxN (b c k : Nat) : PC → Prop
  | .done => False
  | .pin0 _ => k = b ∨ k = b + 1
  | .pin1 _ _ => k = b ∨ k = b + 1 ∨ k = b + 2
  | .pin2 _ _ => k = b ∨ k = b + 1 ∨ k = b + 2
  | .pinN _ _ => k = b ∨ k = b + 1 ∨ k = b + 2
  | .unp _ => k = b ∨ k = b + 1
  | .adv0 => k = b ∨ k = c
  | .adv _ _ => k = b ∨ k = b + 1 ∨ k = b + 2 ∨ k = b + 3
def BoxOK (p : EP) (W : World) (Vo : Option Nat) (b c : Nat) : PC → Prop
  | .done => True
  | .pin0 who => PB p W b who
  | .pin1 who ep => PB3 p W b who ep
  | .pin2 who ep => PB3 p W b who ep
  | .pinN who ep => PB3 p W b who ep
  | .unp who => PB p W b who
  | .adv0 => ∃ V, Vo = some V ∧ AB p W b c V
  | .adv who ep => ∃ V, Vo = some V ∧ PB4 p W b V ep who
def okPC (p : EP) (t : Nat) : PC → Prop
  | .done => True
  | .pin0 who => who < p.R
  | .pin1 who ep => who < p.R ∧ ep ≤ t
  | .pin2 who ep => who < p.R ∧ ep ≤ t
  | .pinN who ep => who < p.R ∧ ep ≤ t
  | .unp who => who < p.R
  | .adv0 => True
  | .adv who ep => who ≤ p.R ∧ ep ≤ t
/-- One step: what the epoch is in behind it, what the act is at then, and whether it moved the epoch (where it ends so). -/
def nextE (p : EP) (s : ES) : PC → ES × PC × Option Bool
  | .done => (s, .done, none)
  | .pin0 who => (s.tick, if s.po who = false then .pin1 who (s.ws p.word) else if s.ws p.word = s.pe who then .done else .pinN who (s.ws p.word), none)
  | .pin1 who ep => (s.store (p.word + 1 + who) (ep + 1), .pin2 who ep, none)
  | .pin2 who ep => if s.ws p.word = ep then (s.tick.setPin who ep true, .done, none) else (s.tick, .pin1 who (s.ws p.word), none)
  | .pinN who ep => ((s.store (p.word + 1 + who) (ep + 1)).setPin who ep true, .done, none)
  | .unp who => ((s.store (p.word + 1 + who) 0).setPin who 0 false, .done, none)
  | .adv0 => (s.tick, .adv 0 (s.ws p.word), none)
  | .adv who ep => if who < p.R then (s.tick, if holdsB (s.ws (p.word + 1 + who)) ep then .done else .adv (who + 1) ep, none) else (s.after p ep, .done, some (s.moves p ep))

variable {p : EP} {s : ES} {W W' : World}
theorem nextE_t (p : EP) (s : ES) (pc : PC) (h : pc.isDone = false) : (nextE p s pc).1.t = s.t + 1 := by
  cases pc with
  | done => cases h
  | pin0 who => rfl
  | pin1 who ep => rfl
  | pin2 who ep => unfold nextE; simp only; split <;> rfl
  | pinN who ep => rfl
  | unp who => rfl
  | adv0 => rfl
  | adv who ep =>
    unfold nextE; simp only
    split
    · rfl
    · simp only; unfold ES.after; split <;> rfl
/-- The boxes are no blocks of the epoch, nor acts, nor movings: what turns only these keeps them. -/
theorem BoxOK.later {Vo : Option Nat} {b c : Nat} {pc : PC} (h : BoxOK p W Vo b c pc) (hs : ∀ k, boxN b c k pc → W'.heap[k]? = W.heap[k]?) : BoxOK p W' Vo b c pc := by
  cases pc with
  | done => trivial
  | pin0 who => exact PB.later h hs
  | pin1 who ep => exact PB3.later h hs
  | pin2 who ep => exact PB3.later h hs
  | pinN who ep => exact PB3.later h hs
  | unp who => exact PB.later h hs
  | adv0 => obtain ⟨V, h1, h2⟩ := h; exact ⟨V, h1, ⟨(hs _ (.inl rfl)).trans h2.b0, (hs _ (.inr rfl)).trans h2.b1⟩⟩
  | adv who ep => obtain ⟨V, h1, h2⟩ := h; exact ⟨V, h1, ⟨(hs _ (.inl rfl)).trans h2.b0, (hs _ (.inr (.inl rfl))).trans h2.b1, (hs _ (.inr (.inr (.inl rfl)))).trans h2.b2, (hs _ (.inr (.inr (.inr rfl)))).trans h2.b3⟩⟩
theorem BoxOK.cells {Vo : Option Nat} {b c k : Nat} {pc : PC} (h : BoxOK p W Vo b c pc) (hk : boxN b c k pc) : ∃ v t, W.heap[k]? = some (.cells #[v] t (0, 0)) ∧ (t = 28 ∨ t = 3 ∨ t = 32 ∨ t = 73) := by
  cases pc with
  | done => exact hk.elim
  | pin0 who => rcases hk with rfl | rfl; exact ⟨_, _, PB.b0 h, .inl rfl⟩; exact ⟨_, _, PB.b1 h, .inr (.inl rfl)⟩
  | pin1 who ep => rcases hk with rfl | rfl | rfl; exact ⟨_, _, PB3.b0 h, .inl rfl⟩; exact ⟨_, _, PB3.b1 h, .inr (.inl rfl)⟩; exact ⟨_, _, PB3.b2 h, .inr (.inr (.inl rfl))⟩
  | pin2 who ep => rcases hk with rfl | rfl | rfl; exact ⟨_, _, PB3.b0 h, .inl rfl⟩; exact ⟨_, _, PB3.b1 h, .inr (.inl rfl)⟩; exact ⟨_, _, PB3.b2 h, .inr (.inr (.inl rfl))⟩
  | pinN who ep => rcases hk with rfl | rfl | rfl; exact ⟨_, _, PB3.b0 h, .inl rfl⟩; exact ⟨_, _, PB3.b1 h, .inr (.inl rfl)⟩; exact ⟨_, _, PB3.b2 h, .inr (.inr (.inl rfl))⟩
  | unp who => rcases hk with rfl | rfl; exact ⟨_, _, PB.b0 h, .inl rfl⟩; exact ⟨_, _, PB.b1 h, .inr (.inl rfl)⟩
  | adv0 => obtain ⟨V, h1, h2⟩ := h; rcases hk with rfl | rfl; exact ⟨_, _, h2.b0, .inl rfl⟩; exact ⟨_, _, h2.b1, .inr (.inr (.inr rfl))⟩
  | adv who ep => obtain ⟨V, h1, h2⟩ := h; rcases hk with rfl | rfl | rfl | rfl; exact ⟨_, _, h2.b0, .inl rfl⟩; exact ⟨_, _, h2.b1, .inr (.inr (.inr rfl))⟩; exact ⟨_, _, h2.b2, .inr (.inr (.inl rfl))⟩; exact ⟨_, _, h2.b3, .inr (.inl rfl)⟩
def fO (p : EP) (Vo : Option Nat) (k : Nat) : Prop := fE p k ∨ Vo = some k
theorem Moved.toO {Vo : Option Nat} (h : Moved (fE p) (fE p) W W') : Moved (fO p Vo) (fO p Vo) W W' := ⟨h.os, h.tape, h.output, h.size, fun k hk hn => h.same k hk (fun hf => hn (.inl hf)), fun _ _ h => h⟩

/-- What the call of an act's next step comes to. -/
def CPost (p : EP) (s : ES) (Vo : Option Nat) (b c : Nat) (pc : PC) (a : Value) (mv : Bool) (W : World) (e : Ending) (w' : World) : Prop :=
  ∃ b' c', e = .returned (cloV p.R b' c' (nextE p s pc).2.1) ∧ EpAt p (nextE p s pc).1 w' ∧ BoxOK p w' Vo b' c' (nextE p s pc).2.1 ∧ (∀ k, boxN b' c' k (nextE p s pc).2.1 → boxN b c k pc ∨ W.heap.size ≤ k) ∧
    okPC p (s.t + 1) (nextE p s pc).2.1 ∧ Moved (fO p Vo) (fO p Vo) W w' ∧ (∀ V, Vo = some V → MvAt w' V a ((nextE p s pc).2.2.getD mv)) ∧ (nextE p s pc).1.ws p.word ≤ s.t + 1
theorem stepV_clo (R b c : Nat) (pc : PC) : StepV (cloV R b c pc) := by
  cases pc
  case done => exact .inl rfl
  case adv who ep =>
    show StepV (passV R who b)
    unfold passV
    by_cases h : who < R
    · rw [if_pos h]; exact .inr ⟨_, _, rfl⟩
    · rw [if_neg h]; exact .inr ⟨_, _, rfl⟩
  all_goals exact .inr ⟨_, _, rfl⟩
theorem isNil_clo (R b c : Nat) (pc : PC) : isNil (cloV R b c pc) = pc.isDone := by
  cases pc
  case adv who ep =>
    show isNil (passV R who b) = false
    unfold passV
    by_cases h : who < R
    · rw [if_pos h]; rfl
    · rw [if_neg h]; rfl
  all_goals rfl
end Go.Proofs.Ytefmojohabdjcaa

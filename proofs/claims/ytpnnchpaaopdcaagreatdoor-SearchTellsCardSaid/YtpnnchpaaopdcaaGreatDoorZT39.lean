/-
  The law's walk of SearchTells: its arguments; its own key made in whatever order.
-/
import Derived.Test.YtpnnchpaaopdcaaGreatDoorZT04
import Derived.Test.YtpnnchpaaopdcaaGreatDoorZT23
import Derived.Test.YtpnnchpaaopdcaaGreatDoorZT21
import Derived.Test.YtpnnchpaaopdcaaGreatDoorZT25
import Derived.Test.YtpnnchpaaopdcaaGreatDoorZT38
import Derived.Test.YtpnnchpaaopdcaaGreatDoorZT37
import Derived.Test.YtpnnchpaaopdcaaGreatDoorZT09
set_option linter.unusedVariables false
set_option linter.unusedSimpArgs false
namespace Go.Proofs.YtpnnchpaaopdcaaGreatDoor
open Go Go.RowKit
theorem tell_args (W : World) (c : Array Value) (d : Array Value) (e : Array Value) : ∃ w0, (((W.alloc (.cells c 26)).alloc (.cells d 26)).alloc (.cells e 30)).alloc (.cells #[.bool false] 4) = w0 ∧ Below W.heap.size W w0 ∧ w0.heap.size = W.heap.size + 4 ∧
    Cells w0 W.heap.size 26 c ∧ Cells w0 (W.heap.size + 1) 26 d ∧ Cells w0 (W.heap.size + 2) 30 e ∧ Boxed w0 (W.heap.size + 3) 4 (.bool false) := by
  refine ⟨_, rfl, ?_, by simp, ?_, ?_, ?_, ?_⟩
  · exact ((((Below.refl _ W).alloc (Nat.le_refl _) _).alloc (by simp) _).alloc (by simp <;> omega) _).alloc (by simp <;> omega) _
  · have h := heap_alloc_new W (.cells c 26)
    show _ = _
    rw [Below.heap_alloc _ _ _ (by simp <;> omega), Below.heap_alloc _ _ _ (by simp <;> omega), Below.heap_alloc _ _ _ (by simp)]
    exact h
  · have h := heap_alloc_new (W.alloc (.cells c 26)) (.cells d 26)
    rw [World.size_alloc] at h
    show _ = _
    rw [Below.heap_alloc _ _ _ (by simp <;> omega), Below.heap_alloc _ _ _ (by simp)]
    exact h
  · have h := heap_alloc_new ((W.alloc (.cells c 26)).alloc (.cells d 26)) (.cells e 30)
    rw [World.size_alloc, World.size_alloc] at h
    show _ = _
    rw [Below.heap_alloc _ _ _ (by simp)]
    exact h
  · have h := Boxed.new (((W.alloc (.cells c 26)).alloc (.cells d 26)).alloc (.cells e 30)) 4 (.bool false)
    rw [World.size_alloc, World.size_alloc, World.size_alloc] at h
    exact h
structure TlF (w5 : World) (kv : Value) (bk k2 : KT) (r : Bool) (C : Nat) (L : Nat → Bool) (vs : Nat → Value) (w : World) : Prop where
  b : Below w5.heap.size w5 w
  l0 : L 0 = true → vs 30 = kv
  l1 : L 1 = true → vs 31 = k2.val ∧ bareK k2 = bk ∧ KeyC w k2 ∧ (L 4 = true → KeyQ (fun b => b ≠ C) k2)
  l2 : L 2 = true → vs 32 = kv
  l3 : L 3 = true → vs 33 = .bool r
  l4 : L 4 = true → vs 7 = pK C ∧ w5.heap.size ≤ C ∧ Cells w C 37 (if L 5 = true then k2.cells.toArray else zK)
  l6 : L 6 = true → vs 8 = .bool r
  o5 : L 5 = true → L 1 = true ∧ L 4 = true
section
variable {w5 w w' : World} {kv : Value} {bk k2 : KT} {r : Bool} {C : Nat} {L : Nat → Bool} {vs : Nat → Value}
theorem TlF.start (w5 w : World) (hb : Below w5.heap.size w5 w) (kv : Value) (bk k2 : KT) (r : Bool) (C : Nat) (vs : Nat → Value) : TlF w5 kv bk k2 r C (fun _ => false) vs w :=
  ⟨hb, (fun e => no_bool e rfl), (fun e => no_bool e rfl), (fun e => no_bool e rfl), (fun e => no_bool e rfl), (fun e => no_bool e rfl), (fun e => no_bool e rfl), (fun e => no_bool e rfl)⟩
theorem TlF.below (h : TlF w5 kv bk k2 r C L vs w) (hb : Below w.heap.size w w') : TlF w5 kv bk k2 r C L vs w' :=
  ⟨h.b.trans (hb.mono h.b.size), h.l0, fun e => ⟨(h.l1 e).1, (h.l1 e).2.1, KeyC.below hb _ (h.l1 e).2.2.1, (h.l1 e).2.2.2⟩, h.l2, h.l3, fun e => ⟨(h.l4 e).1, (h.l4 e).2.1, Cells.later (h.l4 e).2.2 (hb.block C (Cells.lt (h.l4 e).2.2))⟩, h.l6, h.o5⟩
theorem TlF.s0 (h : TlF w5 kv bk k2 r C L vs w) : TlF w5 kv bk k2 r C (upL L 0) (upV vs 30 kv) w := ⟨h.b, fun _ => rfl, h.l1, h.l2, h.l3, h.l4, h.l6, h.o5⟩
theorem TlF.s2 (h : TlF w5 kv bk k2 r C L vs w) : TlF w5 kv bk k2 r C (upL L 2) (upV vs 32 kv) w := ⟨h.b, h.l0, h.l1, fun _ => rfl, h.l3, h.l4, h.l6, h.o5⟩
theorem TlF.s3 (h : TlF w5 kv bk k2 r C L vs w) (hb : Below w.heap.size w w') : TlF w5 kv bk k2 r C (upL L 3) (upV vs 33 (.bool r)) w' :=
  have g := h.below hb
  ⟨g.b, g.l0, g.l1, g.l2, fun _ => rfl, g.l4, g.l6, g.o5⟩
theorem TlF.s6 (h : TlF w5 kv bk k2 r C L vs w) : TlF w5 kv bk k2 r C (upL L 6) (upV vs 8 (.bool r)) w := ⟨h.b, h.l0, h.l1, h.l2, h.l3, h.l4, fun _ => rfl, h.o5⟩
theorem TlF.no5 (h : TlF w5 kv bk k2 r C L vs w) (hn : L 1 = false ∨ L 4 = false) : L 5 = false := by
  cases e : L 5 with
  | false => rfl
  | true =>
    obtain ⟨a, b⟩ := h.o5 e
    rw [a, b] at hn
    simp at hn
theorem TlF.s1 (h : TlF w5 kv bk k2 r C L vs w) (h1 : L 1 = false) (hb : Below w.heap.size w w') {k3 : KT} (hk : bareK k3 = bk) (hc : KeyC w' k3) (hi : KeyIn w.heap.size k3) : TlF w5 kv bk k3 r C (upL L 1) (upV vs 31 k3.val) w' := by
  have h5 := h.no5 (.inl h1)
  have g := h.below hb
  refine ⟨g.b, g.l0, fun _ => ⟨rfl, hk, hc, fun e => ?_⟩, g.l2, g.l3, fun e => ?_, g.l6, fun e => ?_⟩
  · have := Cells.lt (h.l4 e).2.2
    exact KeyQ.mono (fun b hb => by omega) k3 (KeyQ.of_in k3 hi)
  · obtain ⟨a, b, c⟩ := g.l4 e
    rw [h5] at c
    have e9 : upL L 1 5 = false := h5
    rw [e9]
    exact ⟨a, b, c⟩
  · have e5 : L 5 = true := e
    rw [h5] at e5; cases e5
theorem TlF.s4 (h : TlF w5 kv bk k2 r C L vs w) (h4 : L 4 = false) : TlF w5 kv bk k2 r w.heap.size (upL L 4) (upV vs 7 (pK w.heap.size)) (w.alloc (.cells zK 37)) := by
  have h5 := h.no5 (.inr h4)
  have hb : Below w.heap.size w (w.alloc (.cells zK 37)) := (Below.refl _ w).alloc (Nat.le_refl _) _
  have g := h.below hb
  refine ⟨g.b, g.l0, fun e => ⟨(g.l1 e).1, (g.l1 e).2.1, (g.l1 e).2.2.1, fun _ => KeyQ.mono (fun b hb => by omega) k2 (KeyC.lt k2 (h.l1 e).2.2.1)⟩, g.l2, g.l3, fun _ => ⟨rfl, h.b.size, ?_⟩, g.l6, fun e => ?_⟩
  · have e9 : upL L 4 5 = false := h5
    rw [e9]
    exact heap_alloc_new w _
  · have e5 : L 5 = true := e
    rw [h5] at e5; cases e5
theorem TlF.s5 (h : TlF w5 kv bk k2 r C L vs w) (h1 : L 1 = true) (h4 : L 4 = true) (ht : Tk C w w') (hc : Cells w' C 37 k2.cells.toArray) : TlF w5 kv bk k2 r C (upL L 5) vs w' := by
  refine ⟨h.b.trans (ht.below (h.l4 h4).2.1 h.b.size), h.l0, fun e => ⟨(h.l1 e).1, (h.l1 e).2.1, ?_, (h.l1 e).2.2.2⟩, h.l2, h.l3, fun e => ⟨(h.l4 e).1, (h.l4 e).2.1, hc⟩, h.l6, fun _ => ⟨h1, h4⟩⟩
  exact KeyC.keepQ ⟨ht.size, fun b hb hlt => ht.blk b hlt hb⟩ k2 (h.l1 e).2.2.1 ((h.l1 e).2.2.2 h4)
end
end Go.Proofs.YtpnnchpaaopdcaaGreatDoor

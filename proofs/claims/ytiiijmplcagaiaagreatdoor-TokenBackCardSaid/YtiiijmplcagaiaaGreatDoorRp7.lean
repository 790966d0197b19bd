/-
  The bytes' replacer: a text with each of two bytes escaped; how many there are: lists, the counting.
-/
import Derived.Test.YtiiijmplcagaiaaGreatDoorRp6
import Derived.Test.YtiiijmplcagaiaaGreatDoorShelfC
import Derived.Deep.QuietTactic
import Derived.BigQuiet
set_option linter.unusedVariables false
set_option linter.unusedSimpArgs false
namespace Go.Proofs.YtiiijmplcagaiaaGreatDoor
open Go Go.RowKit

def isE (c : UInt8) : Bool := c == 92 || c == 34
def escB (c : UInt8) : List UInt8 := if isE c then [92, c] else [c]
def escL (l : List UInt8) : List UInt8 := l.flatMap escB
theorem escL_snoc (l : List UInt8) (c : UInt8) : escL (l ++ [c]) = escL l ++ escB c := by simp [escL]
theorem escB_len (c : UInt8) : (escB c).length = 1 + (if isE c then 1 else 0) := by unfold escB; split <;> rfl
theorem escL_len (l : List UInt8) : (escL l).length = l.length + l.countP isE := by
  induction l with
  | nil => rfl
  | cons a t ih =>
    have : escL (a :: t) = escB a ++ escL t := by simp [escL]
    rw [this, List.length_append, ih, escB_len, List.countP_cons, List.length_cons]
    omega
theorem escL_same {l : List UInt8} (h : l.countP isE = 0) : escL l = l := by
  induction l with
  | nil => rfl
  | cons a t ih =>
    rw [List.countP_cons] at h
    have ha : isE a = false := by
      cases hE : isE a with
      | false => rfl
      | true => rw [hE] at h; simp at h
    have : escL (a :: t) = escB a ++ escL t := by simp [escL]
    rw [this, ih (by omega)]
    simp [escB, ha]
theorem count_two (l : List UInt8) : l.countP isE = Lib.countByte l 34 + Lib.countByte l 92 := by
  unfold Lib.countByte
  induction l with
  | nil => rfl
  | cons a t ih =>
    rw [List.countP_cons, List.count_cons, List.count_cons, ih]
    by_cases h1 : a = 34
    · subst h1; simp [isE]; omega
    · by_cases h2 : a = 92
      · subst h2; simp [isE]; omega
      · simp [isE, h1, h2]
/-- What the bytes' replacer has for a byte. -/
structure BsView (W : World) (rb b1 b2 : Nat) : Prop where
  k34 : ∃ c, W.cell? ⟨rb, 34, none⟩ = some (.slice (some ⟨b1, 0, none⟩) 2 c)
  k92 : ∃ c, W.cell? ⟨rb, 92, none⟩ = some (.slice (some ⟨b2, 0, none⟩) 2 c)
  no : ∀ i, i < 256 → i ≠ 34 → i ≠ 92 → W.cell? ⟨rb, i, none⟩ = some (.slice none 0 0)
  t1 : BytesAt W b1 [92, 34]
  t2 : BytesAt W b2 [92, 92]
  lt : rb < W.heap.size
theorem BsDone.view {B rb : Nat} {W : World} (h : BsDone B rb W) : ∃ b1 b2 t tc, BsView W rb b1 b2 ∧ W.cell? ⟨rb, 256, none⟩ = some (.slice (some ⟨t, 0, none⟩) 2 tc) ∧ W.cell? ⟨t, 0, none⟩ = some (.string sO2) ∧ W.cell? ⟨t, 1, none⟩ = some (.string sO1) ∧ t < W.heap.size := by
  obtain ⟨hr, tr, b1, c1, b2, c2, ⟨hc, ho⟩, h1, h2, hb1, hb2⟩ := h
  rcases ho.2 with ⟨_, h0⟩ | ⟨t, cap, cur, rfl, hg, hgg, rest⟩
  · cases h0
  have hcs := ho.cells (g := t) rfl
  have e : ∀ o, (⟨t, 0, none⟩ : Addr).add o = ⟨t, o, none⟩ := fun o => by rw [Addr.add_lit, Nat.zero_add]
  refine ⟨b1, b2, t, cap, ⟨⟨c1, hc.cell (rplA_at _ _ (by decide))⟩, ⟨c2, hc.cell (rplA_at _ _ (by decide))⟩, fun i hi h34 h92 => ?_, h1, h2, hc.lt⟩, hc.cell (rplA_end _ _), by rw [← e]; exact hcs 0 _ rfl, by rw [← e]; exact hcs 1 _ rfl, (ho.lt t rfl).2⟩
  have := hc.cell (rplA_at (putF (putF rp0 34 (.slice (some ⟨b1, 0, none⟩) 2 c1)) 92 (.slice (some ⟨b2, 0, none⟩) 2 c2)) (.slice (some ⟨t, 0, none⟩) 2 cap) hi)
  rw [this]
  unfold putF
  rw [if_neg h92, if_neg h34]; rfl
end Go.Proofs.YtiiijmplcagaiaaGreatDoor

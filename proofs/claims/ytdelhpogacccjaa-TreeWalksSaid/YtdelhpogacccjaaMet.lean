/-
  The slots that were met: a map that is only added to, and asked for what it has not.
-/
import Derived.Test.YtdelhpogacccjaaIterM
import Derived.Test.YtdelhpogacccjaaBase
import Derived.Maps.Own
import Derived.Maps.Views
set_option linter.unusedVariables false
set_option linter.unusedSimpArgs false
namespace Go.Proofs.Ytdelhpogacccjaa
open Go Go.RowKit Go.Maps

/-- A block is a map that has no slot but those of S. -/
def MetAt (W : World) (M n : Nat) (S : Int → Prop) : Prop := ∃ D : DataW Unit, W.ownsMap Try.prog 3 (plainElem Try.prog 4) M n D ∧ ∀ s, ¬ S s → D.atKey (.int .i64 s) (.lit (.bool false)) = .lit (.bool false)
variable {W W' : World} {M n : Nat} {S : Int → Prop}
theorem MetAt.lt (h : MetAt W M n S) : M < W.heap.size := by obtain ⟨D, h, _⟩ := h; exact h.lt
theorem MetAt.later (h : MetAt W M n S) (hk : W'.heap[M]? = W.heap[M]?) : MetAt W' M n S := by
  obtain ⟨D, ⟨es, clock, hb, F, hs, hD⟩, h2⟩ := h
  exact ⟨D, ⟨es, clock, hk.trans hb, F, hs, hD⟩, h2⟩
theorem MetAt.obj (h : MetAt W M n S) : ∃ es clock, W.heap[M]? = some (.map es clock) := by
  obtain ⟨D, ⟨es, clock, hb, F, hs, hD⟩, h2⟩ := h
  exact ⟨es, clock, hb⟩
theorem MetAt.made (W : World) : MetAt (W.alloc (.map #[] 0)) W.heap.size 0 (fun _ => False) := ⟨.map [], World.ownsMap_made _ _ _ _, fun _ _ => rfl⟩
theorem MetAt.mono {n' : Nat} {S' : Int → Prop} (h : MetAt W M n S) (hn : n ≤ n') (hS : ∀ s, S s → S' s) : MetAt W M n' S' := by
  obtain ⟨D, h1, h2⟩ := h
  exact ⟨D, h1.mono hn, fun s hs => h2 s (fun x => hs (hS s x))⟩
theorem zeroB (w : World) : (zeroValue 4).run Try.prog w = .ok (.bool false) w := by kernel_rfl
theorem plainElem_bool_inv {P : Program} {e : TypeId} (he : P.underlying e = some .bool) {v : Value} {z : DataW Unit × List MemPlace} (h : plainElem P e v = some z) : ∃ b, v = .bool b ∧ z = (.lit (.bool b), []) := by
  unfold plainElem at h
  rw [he] at h
  cases v <;> simp at h
  exact ⟨_, rfl, h.symm⟩
theorem wf64 {s : Int} (h0 : -9223372036854775808 ≤ s) (h1 : s ≤ 9223372036854775807) : (Lit.int .i64 s).wf = true := by
  simp [Lit.wf, IntKind.min, IntKind.max, IntKind.bits, IntKind.signed]
  omega
/-- A slot that was not met. -/
theorem MetAt.look (h : MetAt W M n S) {s : Int} (h0 : -9223372036854775808 ≤ s) (h1 : s ≤ 9223372036854775807) (hs : ¬ S s) : (Instr.lookup 86 (.map (some M)) (.int .i64 s) false).run Try.prog W = .ok (.bool false) W := by
  obtain ⟨D, hD, h2⟩ := h
  obtain ⟨v, ps, hrun, hv⟩ := hD.lookup (int_keyed Try.underlying3) Try.underlying86 (zeroB W) (plainElem_bool Try.underlying4 false) (keyOf_int_mk Try.underlying3 (wf64 h0 h1))
  obtain ⟨b, rfl, hb⟩ := plainElem_bool_inv Try.underlying4 hv
  rw [h2 s hs] at hb
  cases hb
  exact hrun
/-- One more is met. -/
theorem MetAt.put (h : MetAt W M n S) (hn : n < maxLen) {s : Int} (h0 : -9223372036854775808 ≤ s) (h1 : s ≤ 9223372036854775807) :
    ∃ w', (Instr.mapUpdate 86 (.map (some M)) (.int .i64 s) (.bool true)).run Try.prog W = .ok () w' ∧ MetAt w' M (n + 1) (fun x => x = s ∨ S x) ∧ W.grownBy w' (some M) := by
  obtain ⟨D, hD, h2⟩ := h
  obtain ⟨w', hrun, r1, r2⟩ := hD.update (int_keyed Try.underlying3) Try.underlying86 hn (keyOf_int_mk Try.underlying3 (wf64 h0 h1)) (plainElem_bool Try.underlying4 true)
  refine ⟨w', hrun, ⟨_, r1, fun x hx => ?_⟩, r2⟩
  rw [atKey_put_other (fun e => hx (.inl (by cases e; rfl)))]
  exact h2 x (fun y => hx (.inr y))
/-- The map that is shared is turned. -/
theorem MetAt.itself (h : MetAt W M n S) {T0 : TypeId → Prop} {D : Nat} {m : Nat → Prop} (hD : D ≤ W.heap.size) (hm : m M ∨ D ≤ M) (hg : W.grownBy W' (some M)) {n' : Nat} {S' : Int → Prop} (h' : MetAt W' M n' S') : ItselfM T0 D m W W' := by
  obtain ⟨es, clock, ho⟩ := h.obj
  refine ⟨hg.os, hg.tape, hg.output, hg.size, fun k hk hn => ?_, fun k c e fz _ hk => ?_, fun k o hk _ h1 h2 => ?_⟩
  · refine hg.block k (by omega) (fun e => ?_)
    cases e
    rcases hm with h | h
    · exact hn h
    · omega
  · have hkw := (Array.getElem?_eq_some_iff.1 hk).1
    refine (hg.block k hkw (fun e => ?_)).trans hk
    cases e
    rw [ho] at hk
    cases hk
  · by_cases e : k = M
    · subst e
      obtain ⟨es', c', ho'⟩ := h'.obj
      exact ⟨_, ho', rfl⟩
    · exact ⟨o, (hg.block k (by omega) (fun x => e (by cases x; rfl))).trans h1, h2⟩
end Go.Proofs.Ytdelhpogacccjaa

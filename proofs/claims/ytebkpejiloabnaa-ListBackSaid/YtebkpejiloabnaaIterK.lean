/-
  What rounds of a range over a function want, of any seat.
-/
import Derived.Test.YtebkpejiloabnaaIter
import Derived.Test.YtebkpejiloabnaaBase
import Derived.LoopTactic
import Derived.LoopIn
import Derived.LoopNIn
import Derived.TacticsInMore
import Derived.OwnWalkIn
set_option linter.unusedVariables false
set_option linter.unusedSimpArgs false
namespace Go.Proofs.Ytebkpejiloabnaa
open Go Go.RowKit

theorem wideK_fn (f : Nat) : Fence.wide.fn f = True := rfl
theorem wideK_depth : Fence.wide.depth = none := rfl
theorem callsW {n : Nat} {P : Program} {f : FuncId} {args : Array Value} {w : World} {R R' : Ending → World → Prop} (h : Calls P f args w R) (hr : ∀ e w', R e w' → R' e w') : CallsIn Fence.wide n P f args w R' :=
  (callsIn_wide.2 h).mono hr
theorem callsWr {l n : Nat} {P : Program} {f : FuncId} {args : Array Value} {w : World} {R R' : Ending → World → Prop} (h : Calls P f args w R) (hr : ∀ e w', R e w' → R' e w') : CallsIn (Fence.wide.inRound l) n P f args w R' :=
  (CallsIn.inRound l (callsIn_wide.2 h)).mono hr
theorem keeps_grownK {T : TypeId → Prop} {cap : Nat → Prop} {D : Nat} {W W' : World} {row : Option Nat} (hg : W.grownBy W' row)
    (hrow : ∀ r, row = some r → ¬ cap r ∧ ∃ c e fz, W.heap[r]? = some (.cells c e fz) ∧ T e) : Keeps T cap D W W' :=
  ⟨hg.size, fun k o hk hp => by
    by_cases e : row = some k
    · obtain ⟨h1, c, e2, fz, h2, h3⟩ := hrow k e
      rw [h2] at hk
      cases hk
      rcases hp with hp | ⟨_, hp⟩
      · exact absurd hp h1
      · exact absurd rfl (hp c e2 fz h3)
    · exact (hg.block k (Array.getElem?_eq_some_iff.1 hk).1 (fun h => e h.symm)).trans hk⟩
theorem own_itselfK {T0 : TypeId → Prop} {D : Nat} {A B : World} {base e size n : Nat} {v : Value} {xs : List Value} (h : A.ownsRow base e size v n xs) (hi : Itself T0 D A B) (hp : (∀ k, v.ownBlock = some k → k < D) ∨ ¬ T0 e) : B.ownsRow base e size v n xs := by
  refine ⟨h.1, ?_⟩
  rcases h.2 with hn | ⟨g, cap, cur, rfl, hg, hgg, rest⟩
  · exact .inl hn
  · refine .inr ⟨g, cap, cur, rfl, hg, ?_, rest⟩
    rcases hp with hp | hp
    · rw [hi.below g (hp g rfl)]; exact hgg
    · exact hi.same g _ _ _ hp hgg
theorem own_heapK {A B : World} {base e size n : Nat} {v : Value} {xs : List Value} (h : A.ownsRow base e size v n xs) (hp : ∀ k, v.ownBlock = some k → B.heap[k]? = A.heap[k]?) : B.ownsRow base e size v n xs := by
  refine ⟨h.1, ?_⟩
  rcases h.2 with hn | ⟨g, cap, cur, rfl, hg, hgg, rest⟩
  · exact .inl hn
  · exact .inr ⟨g, cap, cur, rfl, hg, (hp g rfl).trans hgg, rest⟩
theorem own_rowK {w : World} {B e n size : Nat} {v : Value} {xs : List Value} (h : w.ownsRow B e size v n xs) : ∀ g, v.ownBlock = some g → ∃ c fz, w.heap[g]? = some (.cells c e fz) := by
  rcases h.2 with ⟨rfl, rfl⟩ | ⟨g', cap, cur, rfl, _, hg, _⟩
  · intro g h; cases h
  · intro g h; cases h; exact ⟨_, _, hg⟩
end Go.Proofs.Ytebkpejiloabnaa

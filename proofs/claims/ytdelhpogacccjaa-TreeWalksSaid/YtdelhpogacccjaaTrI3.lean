/-
  The walk through a node and all below it, at whatever height; all slots of a tree.
-/
import Derived.Test.YtdelhpogacccjaaTrI2
import Derived.Deep.RegionHeld3
set_option linter.unusedVariables false
set_option linter.unusedSimpArgs false
namespace Go.Proofs.Ytdelhpogacccjaa
open Go Go.RowKit
attribute [local go_sem] Oper.semAt_some wide_fn' wide_depth'

theorem from1_iter (k : Nat) : k ≤ 8 → IterF k := by
  induction k with
  | zero => intro _; exact from1_step 0 (by omega) (fun k' h => by omega)
  | succ k ih =>
    intro hk
    refine from1_step (k + 1) hk (fun k' h => ?_)
    have e : k' = k := by omega
    rw [e]
    exact ih (by omega)
/-- What Slots has captured. -/
structure SCap (b1 b2 : Nat) (v : Value) (ns : List TN) (r : Int) (H : Nat) (W : World) : Prop where
  st : Boxed W b1 82 (iS v)
  tr : TB W b2 r H
  sh : ShelfRow W v ns
def scap (b1 b2 : Nat) (v : Value) (k : Nat) : Prop := k = b1 ∨ k = b2 ∨ v.ownBlock = some k
theorem SCap.below {b1 b2 : Nat} {v : Value} {ns : List TN} {r : Int} {H : Nat} {W W' : World} (h : SCap b1 b2 v ns r H W) (hb : Below W.heap.size W W') : SCap b1 b2 v ns r H W' :=
  ⟨(hb.block _ (lt_of_block h.st)).trans h.st, (hb.block _ h.tr.lt).trans h.tr, h.sh.below hb⟩
def sT0 (e : TypeId) : Prop := fT0 e ∨ e = 27
end Go.Proofs.Ytdelhpogacccjaa

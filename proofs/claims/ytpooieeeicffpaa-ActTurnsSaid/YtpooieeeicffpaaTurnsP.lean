/-
  What stands through the laws of layer 4.
-/
import Derived.Test.YtpooieeeicffpaaBld
import Derived.Test.YtpooieeeicffpaaQuietIn
import Derived.OwnWalkIn
set_option linter.unusedVariables false
set_option linter.unusedSimpArgs false
namespace Go.Proofs.Ytpooieeeicffpaa
open Go Go.RowKit
attribute [local go_sem] Oper.semAt_some wide_fnG wide_depthG

theorem infoActs : Try.prog.underlying 25 = some (.slice 26) := by kernel_rfl
/-- What stands behind the building. -/
structure Bse (w : World) (p : LP) (D Nb : Nat) (nv av dv : Value) (s : LS) (F : Nat → Prop) (W : World) : Prop where
  below : Below w.heap.size w W
  mm : (logMach p).M s F W
  rb : Boxed W w.heap.size 4 (.bool false)
  nb : Boxed W Nb 23 nv
  nr : W.ownsRow 0 3 1 nv p.N (rowD p.N p.n)
  ar : W.ownsRow 0 26 1 av p.N (ptrs (logMach p))
  dr : W.ownsRow 0 3 1 dv p.N (rowD p.N (fun _ => 0))
  lo : ∀ k, F k → D ≤ k
  rD : w.heap.size < D
  nD : Nb < D
  vD : ∀ k, nv.ownBlock = some k → k < D
  da : Apart F dv
  aa : Apart F av
  size : D ≤ W.heap.size
theorem Bse.moved {w : World} {p : LP} {D Nb : Nat} {nv av dv : Value} {s s' : LS} {F F' : Nat → Prop} {W W' : World} (h : Bse w p D Nb nv av dv s F W) (hm : (logMach p).M s' F' W') (hv : Moved F F' W W') : Bse w p D Nb nv av dv s' F' W' := by
  have hlo : ∀ k, k < D → W'.heap[k]? = W.heap[k]? := fun k hk => hv.same k (by have := h.size; omega) (fun hf => by have := h.lo k hf; omega)
  obtain ⟨a1, a2⟩ := own_moved hv h.ar h.aa
  obtain ⟨d1, d2⟩ := own_moved hv h.dr h.da
  refine ⟨h.below.trans (hv.toBelow (by have := h.size; have := h.rD; omega) (fun k hk => by have := h.lo k hk; have := h.rD; omega)), hm, (hlo _ h.rD).trans h.rb, (hlo _ h.nD).trans h.nb, own_same h.nr (fun k hk => hlo k (h.vD k hk)), a1, d1, ?_, h.rD, h.nD, h.vD, d2, a2, Nat.le_trans h.size hv.size⟩
  intro k hk
  by_cases hkW : k < W.heap.size
  · exact h.lo k (hv.old k hkW hk)
  · have := h.size; omega
theorem Bse.below' {w : World} {p : LP} {D Nb : Nat} {nv av dv : Value} {s : LS} {F : Nat → Prop} {W W' : World} (h : Bse w p D Nb nv av dv s F W) (hf : p.Fit) (hb : Below W.heap.size W W') : Bse w p D Nb nv av dv s F W' :=
  h.moved ((logMach_ok hf).below h.mm hb) (Moved.of_below hb)

theorem Bse.itself {w : World} {p : LP} {D D0 Nb : Nat} {nv av dv : Value} {s : LS} {F : Nat → Prop} {A B : World} (h : Bse w p D Nb nv av dv s F A) (hf : p.Fit) (hi : Itself NoT D0 A B) (hD : w.heap.size ≤ D0) : Bse w p D Nb nv av dv s F B := by
  have ho : ∀ {e n v xs}, A.ownsRow 0 e 1 v n xs → B.ownsRow 0 e 1 v n xs := fun {e n v xs} h => own_same h fun k hk => by
    obtain ⟨c, hc⟩ := own_cells h hk
    exact (hi.same k c e (0, 0) (fun h => h) hc).trans (show A.heap[k]? = _ from hc).symm
  exact ⟨h.below.trans (hi.toBelow.mono hD), (logMach_ok hf).itself h.mm hi, hi.boxed h.rb (.inr fun h => h), hi.boxed h.nb (.inr fun h => h), ho h.nr, ho h.ar, ho h.dr, h.lo, h.rD, h.nD, h.vD, h.da, h.aa, Nat.le_trans h.size hi.size⟩
/-- .. and the document's row, in its box. -/
structure Ph (w : World) (p : LP) (N D Nb : Nat) (nv av dv : Value) (s : LS) (F : Nat → Prop) (Ab g cap : Nat) (d : Nat → Nat) (W : World) : Prop where
  b : Bse w p D Nb nv av dv s F W
  pn : p.N = N
  ab : Boxed W Ab 23 (.slice (some ⟨g, 0, none⟩) N cap)
  ag : W.ownsRow 0 3 1 (.slice (some ⟨g, 0, none⟩) N cap) N (rowD N d)
  na : ¬ F Ab
  ng : ¬ F g
  lo : w.heap.size < Ab
section
variable {w : World} {p : LP} {N D Nb : Nat} {nv av dv : Value} {s s' : LS} {F F' : Nat → Prop} {Ab g cap : Nat} {d : Nat → Nat} {W W' : World}
theorem Ph.moved (h : Ph w p N D Nb nv av dv s F Ab g cap d W) (hm : (logMach p).M s' F' W') (hv : Moved F F' W W') : Ph w p N D Nb nv av dv s' F' Ab g cap d W' := by
  obtain ⟨a1, a2⟩ := hv.keep h.ab h.na
  have hg := own_moved hv h.ag (fun k hk => by cases hk; exact h.ng)
  exact ⟨h.b.moved hm hv, h.pn, a1, hg.1, a2, hg.2 g rfl, h.lo⟩
theorem Ph.below (h : Ph w p N D Nb nv av dv s F Ab g cap d W) (hf : p.Fit) (hb : Below W.heap.size W W') : Ph w p N D Nb nv av dv s F Ab g cap d W' :=
  h.moved ((logMach_ok hf).below h.b.mm hb) (Moved.of_below hb)
theorem Ph.itself {D0 : Nat} (h : Ph w p N D Nb nv av dv s F Ab g cap d W) (hf : p.Fit) (hi : Itself NoT D0 W W') (hD : w.heap.size ≤ D0) : Ph w p N D Nb nv av dv s F Ab g cap d W' := by
  refine ⟨h.b.itself hf hi hD, h.pn, hi.boxed h.ab (.inr fun h => h), own_same h.ag fun k hk => ?_, h.na, h.ng, h.lo⟩
  obtain ⟨c, hc⟩ := own_cells h.ag hk
  exact (hi.same k c 3 (0, 0) (fun h => h) hc).trans (show W.heap[k]? = _ from hc).symm
/-- A store into a box of the law's own. -/
theorem Ph.set (h : Ph w p N D Nb nv av dv s F Ab g cap d W) (hf : p.Fit) {L : Nat} {u : Value} (hL : Boxed W L 3 u) (hn : ¬ F L) (hD : D ≤ L) (hg : L ≠ g) (ha : ∀ k, dv.ownBlock = some k → L ≠ k) (v : Value) : Ph w p N D Nb nv av dv s F Ab g cap d (W.setCell ⟨L, 0, none⟩ v) := by
  have hk : ∀ k, k ≠ L → (W.setCell ⟨L, 0, none⟩ v).heap[k]? = W.heap[k]? := fun k hk => Below.heap_setCell W ⟨L, 0, none⟩ v k hk
  have hne : ∀ {B : Nat} {t : TypeId} {c : Array Value} {fz : Nat × Nat}, W.heap[B]? = some (.cells c t fz) → t ≠ 3 → B ≠ L := fun hB ht => block_ne hB hL ht
  have b := h.b
  have hsz : (W.setCell ⟨L, 0, none⟩ v).heap.size = W.heap.size := size_setCell _ _ _
  refine ⟨⟨b.below.setCell (p := ⟨L, 0, none⟩) (by have := b.rD; show w.heap.size ≤ L; omega) _, (logMach_ok hf).setCell b.mm hn _ _, (hk _ (hne b.rb (by decide))).trans b.rb, (hk _ (hne b.nb (by decide))).trans b.nb, own_same b.nr (fun k hk' => hk k (by have := b.vD k hk'; omega)), own_same b.ar (fun k hk' => ?_), own_same b.dr (fun k hk' => hk k (fun e => ha k hk' e.symm)), b.lo, b.rD, b.nD, b.vD, b.da, b.aa, by rw [hsz]; exact b.size⟩, h.pn, (hk _ (hne h.ab (by decide))).trans h.ab, own_same h.ag (fun k hk' => by cases hk'; exact hk g (Ne.symm hg)), h.na, h.ng, h.lo⟩
  obtain ⟨c, hc⟩ := own_cells b.ar hk'
  exact hk k (hne hc (by decide))
theorem Ph.cells (h : Ph w p N D Nb nv av dv s F Ab g cap d W) {i : Nat} (hi : i < N) :
    ∃ gn nc, nv = .slice (some ⟨gn, 0, none⟩) N nc ∧ W.cell? ⟨Nb, 0, none⟩ = some nv ∧ W.cell? ⟨Ab, 0, none⟩ = some (.slice (some ⟨g, 0, none⟩) N cap) ∧ W.cell? ⟨g, i, none⟩ = some (.int .i64 (d i)) ∧ W.cell? ⟨gn, i, none⟩ = some (.int .i64 (p.n i)) := by
  have hnr := h.b.nr
  rw [h.pn] at hnr
  obtain ⟨gn, nc, hnv⟩ : ∃ gn nc, nv = .slice (some ⟨gn, 0, none⟩) N nc := by
    rcases hnr.2 with ⟨_, h2⟩ | ⟨gn, cap, cur, h, _⟩
    · omega
    · exact ⟨gn, cap, h⟩
  refine ⟨gn, nc, hnv, h.b.nb.cell, h.ab.cell, ?_, ?_⟩
  · rw [h.ag.cellAt i (by omega)]; exact rowD_at _ hi
  · rw [hnv] at hnr
    rw [hnr.cellAt i (by omega)]; exact rowD_at _ hi
/-- The log is as long as it says. -/
theorem Bse.logLen (h : Bse w p D Nb nv av dv s F W) (hL : p.Lb = D) (hK : p.K = 1) : ∃ ad cp, Boxed W D 23 (.slice ad (s.lg 0).length cp) := by
  obtain ⟨vs, bx, cur, hm⟩ := h.mm
  rw [← hL]
  exact hm.len1 hK
end
end Go.Proofs.Ytpooieeeicffpaa

/-
  A frame with many marks: a loop each of whose rounds ranges over a function.
-/
import Derived.Test.YtdelhpogacccjaaIterM
import Derived.RangeFuncLeaves
set_option linter.unusedVariables false
set_option linter.unusedSimpArgs false
namespace Go.Proofs.Ytdelhpogacccjaa
open Go Go.RowKit

def markOf (D : Nat) : Deferred := { target := .collected D, args := #[] }
/-- The marks of ranges that are over: their blocks, each from lo on, hold no call. -/
def Marks (lo : Nat) (ms : List Deferred) (W : World) : Prop := ∃ Ds : List Nat, ms = Ds.map markOf ∧ Ds.Nodup ∧ ∀ D, D ∈ Ds → lo ≤ D ∧ W.heap[D]? = some (.deferred (some []))
variable {lo : Nat} {ms : List Deferred} {W W' : World}
theorem Marks.nil (lo : Nat) (W : World) : Marks lo [] W := ⟨[], rfl, .nil, by simp⟩
theorem Marks.cons {D : Nat} (h : Marks lo ms W) (hD : lo ≤ D) (hW : W.heap[D]? = some (.deferred (some []))) (hn : ∀ d, d ∈ ms → d ≠ markOf D) : Marks lo (markOf D :: ms) W := by
  obtain ⟨Ds, rfl, h1, h2⟩ := h
  refine ⟨D :: Ds, rfl, List.nodup_cons.2 ⟨fun hd => hn _ (List.mem_map.2 ⟨D, hd, rfl⟩) rfl, h1⟩, fun D' hD' => ?_⟩
  rcases List.mem_cons.1 hD' with rfl | hD'
  · exact ⟨hD, hW⟩
  · exact h2 D' hD'
theorem Marks.keep (h : Marks lo ms W) (hk : ∀ k, lo ≤ k → k < W.heap.size → W.heap[k]? = some (.deferred (some [])) → W'.heap[k]? = W.heap[k]?) : Marks lo ms W' := by
  obtain ⟨Ds, rfl, h1, h2⟩ := h
  exact ⟨Ds, rfl, h1, fun D hD => ⟨(h2 D hD).1, (hk D (h2 D hD).1 (Array.getElem?_eq_some_iff.1 (h2 D hD).2).1 (h2 D hD).2).trans (h2 D hD).2⟩⟩
theorem Marks.keep' (h : Marks lo ms W) (hk : ∀ k, markOf k ∈ ms → W'.heap[k]? = W.heap[k]?) : Marks lo ms W' := by
  obtain ⟨Ds, rfl, h1, h2⟩ := h
  exact ⟨Ds, rfl, h1, fun D hD => ⟨(h2 D hD).1, (hk D (List.mem_map.2 ⟨D, hD, rfl⟩)).trans (h2 D hD).2⟩⟩
theorem Marks.keeps {T : TypeId → Prop} {cap : Nat → Prop} {D : Nat} (h : Marks lo ms W) (hD : D ≤ lo) (hk : Keeps T cap D W W') : Marks lo ms W' :=
  h.keep fun k hk1 _ hk2 => by rw [hk2]; exact hk.same k _ hk2 (.inr ⟨by omega, fun c e fz _ h => by cases h⟩)
theorem Marks.lt (h : Marks lo ms W) {D : Nat} (hD : markOf D ∈ ms) : D < W.heap.size := by
  obtain ⟨Ds, rfl, h1, h2⟩ := h
  obtain ⟨D', hD', he⟩ := List.mem_map.1 hD
  unfold markOf at he
  cases he
  exact (Array.getElem?_eq_some_iff.1 (h2 D hD').2).1
theorem Marks.itself {T0 : TypeId → Prop} {m : Nat → Prop} (h : Marks lo ms W) (hm : ∀ k, m k → k < lo) (hi : ItselfM T0 W.heap.size m W W') : Marks lo ms W' :=
  h.keep fun k hk1 hk2 _ => hi.below k hk2 (fun x => by have := hm k x; omega)
theorem Marks.below (h : Marks lo ms W) (hb : Below W.heap.size W W') : Marks lo ms W' := h.keep fun k _ hk _ => hb.block k hk
/-- The way out past all marks. -/
theorem leaves_marks {F : Fence} {n : Nat} {P : Program} {fn : Func} {tmps : Array Value} {R : Ending → World → Prop} : ∀ (Ds : List Nat) (W : World), Ds.Nodup → (∀ D, D ∈ Ds → lo ≤ D ∧ W.heap[D]? = some (.deferred (some []))) →
    (∀ W', Itself (fun _ => False) lo W W' → LeavesIn F n P fn tmps R [] .returning W') → LeavesInM F n P fn tmps R (Ds.map markOf) .returning W := by
  intro Ds
  induction Ds with
  | nil => intro W _ _ hR; exact hR W (Itself.refl _ _ _)
  | cons D Ds ih =>
    intro W hnd hW hR
    obtain ⟨h1, h2⟩ := List.nodup_cons.1 hnd
    obtain ⟨h3, h4⟩ := hW D List.mem_cons_self
    have hi : Itself (fun _ => False) lo W (W.putObj D (.deferred none)) := Itself.putObj _ W D _ _ h3 h4 rfl
    refine ⟨by simp, .inl ⟨D, _, rfl, run_takeDeferred h4, ih _ h2 (fun D' hD' => ?_) (fun W' hW' => hR W' (hi.trans hW'))⟩⟩
    obtain ⟨h5, h6⟩ := hW D' (List.mem_cons_of_mem _ hD')
    exact ⟨h5, (World.putObj_heap_other (show D' ≠ D by rintro rfl; exact h1 hD')).trans h6⟩
theorem Marks.leaves {F : Fence} {n : Nat} {P : Program} {fn : Func} {tmps : Array Value} {R : Ending → World → Prop} (h : Marks lo ms W) (hR : ∀ W', Itself (fun _ => False) lo W W' → LeavesIn F n P fn tmps R [] .returning W') : LeavesInM F n P fn tmps R ms .returning W := by
  obtain ⟨Ds, rfl, h1, h2⟩ := h
  exact leaves_marks Ds W h1 h2 hR
end Go.Proofs.Ytdelhpogacccjaa

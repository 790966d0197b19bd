/-
  The document's memory: the first store: contract.
-/
import Derived.Test.YtmfpfebnlflfiabMemS
set_option linter.unusedVariables false
set_option linter.unusedSimpArgs false
namespace Go.Proofs.Ytmfpfebnlflfiab
open Go Go.RowKit
attribute [local go_sem ↓] Go.wp_at_zero Go.wp_at_succ

set_option maxRecDepth 20000 in
set_option maxHeartbeats 4000000 in
theorem rmStore_none (n t : Nat) (ht : t < 1000000000) (k x : Nat) (hk : k < n) (w : World) :
    Calls Try.prog 14 #[memV n t (.slice none 0 0), .int .i64 k, .int .u64 x] w fun e w' => (∃ v', e = .returned (memV n (t + 1) v') ∧ w'.ownsRow w.heap.size 42 3 v' 1 (cellsC [(k, x, t + 1)])) ∧ Below w.heap.size w w' := by
  have C1 := Lib.hid (rmHas_yes n t (.slice none 0 0) k hk)
  unfold memV at *
  go_enter Try.func14, Try.ntmps14
  go_wp2_with fail
  refine (C1.out _).mono ?_
  rintro e w1 ⟨rfl, hb1⟩
  have hT1 : Tri w1 w.heap.size 29 (.int .i64 n) (.int .u64 t) (.slice none 0 0) := by
    have hw := Tri.new w 29 (.int .i64 n) (.int .u64 t) (.slice none 0 0)
    exact (hw.below ((Below.refl _ _).alloc (Nat.le_refl _) _) hw.lt).below hb1 (by simp only [World.size_alloc]; omega)
  have hU1 : Tri w1 (w.heap.size + 1) 29 (.int .i64 0) (.int .u64 0) (.slice none 0 0) := by
    have hw := Tri.new (w.alloc (.cells #[.int .i64 n, .int .u64 t, .slice none 0 0] 29)) 29 (.int .i64 0) (.int .u64 0) (.slice none 0 0)
    rw [World.size_alloc] at hw
    exact hw.below hb1 (by simp only [World.size_alloc]; omega)
  have hB1 : Below w.heap.size w w1 := (((Below.refl _ _).alloc (Nat.le_refl _) _).alloc (by simp) _).trans (hb1.mono (by simp; omega))
  have hR1 : Rest w n ((t : Int) + 1) (.slice none 0 0) 0 0 [] (w1.setCell ⟨w.heap.size, 1, none⟩ (.int .u64 ((t : Int) + 1))) := by
    refine ⟨hB1.setCell (p := ⟨w.heap.size, 1, none⟩) (Nat.le_refl _) _, hT1.set1 _, hU1.later (Below.heap_setCell _ _ _ _ (by simp)), ?_, fun k hk => by simp [Value.ownBlock] at hk⟩
    exact World.ownsRow_nil _ _ _ _
  obtain ⟨a0, a1, a2, b0, b1, b2⟩ := hT1.cell
  have HR1 := Lib.hid hR1
  clear hT1 hR1 hb1 hU1 hB1
  go_wp2_with fail
  clear a0 a1 a2 b0 b1 b2
  have HR2 := HR1.out
  clear HR1
  generalize w1.setCell ⟨w.heap.size, 1, none⟩ (.int .u64 ((t : Int) + 1)) = W at HR2 ⊢
  have HS := HR2.cells
  have hg0' : w.heap.size + 2 ≤ W.heap.size := HR2.lt
  clear HR2
  obtain ⟨s1, s2, s3, HR⟩ := HS
  have q0 : w.heap.size < W.heap.size := by omega
  have q1 : w.heap.size + 1 < W.heap.size := by omega
  go_region_law ((first
      | (refine stepN (by rfl) (.tmp 16) (.tmp 18) (by rfl) _ (by rfl) (by rfl) (by first | exact alloc_at (by simp) | exact alloc_past (alloc_at (by simp))) ?_)
      | (refine stepB (w0 := w) (n := n) (t1 := (t : Int) + 1) (v0 := .slice none 0 0) (B := 0) (N := 0) (M := 0) (ys := []) (xs := []) (by rfl) (.tmp 19) (.tmp 25) (by rfl) (by exact ((HR.alloc _).alloc _).drew) (by omega) _ _ (by rfl) (by first | exact own_of_block (alloc_at (by simp)) (by omega) | exact own_of_block (alloc_past (alloc_at (by simp))) (by omega)) _ (by rfl) _ _ _ (by first | exact alloc_at (by simp) | exact alloc_past (alloc_at (by simp))) (by simp [Value.oneCell']) ?_; intro g2 cap2 w4 hR4 hown4; obtain ⟨y4, y5, y6, _⟩ := hR4.cells)))
  all_goals
    have t1 := hR4.2.1.set2 (.slice (some ⟨g2, 0, none⟩) 1 cap2)
    have t2 : Tri (w4.setCell ⟨w.heap.size, 2, none⟩ (.slice (some ⟨g2, 0, none⟩) 1 cap2)) (w.heap.size + 1) 29 (.int .i64 0) (.int .u64 0) (.slice none 0 0) := hR4.2.2.1.later (Below.heap_setCell _ _ _ _ (by simp))
    obtain ⟨a0, a1, a2, b0, b1, b2⟩ := t1.cell
    obtain ⟨c0, c1, c2, d0, d1, d2⟩ := t2.cell
    have HT := Lib.hid (((t2.set0 (.int .i64 n)).set1 (.int .u64 ((t : Int) + 1))).set2 (.slice (some ⟨g2, 0, none⟩) 1 cap2))
    have HR4 := Lib.hid hR4
    have HO4 := Lib.hid hown4
    clear t1 t2 hR4 hown4 y4 y5 y6
    go_wp2_with fail
    refine bodyPost_ret (results_store _ _ _ _ _ _ HT.out rfl) rfl ⟨⟨_, rfl, ?_⟩, ?_⟩
    · have h := fin_own HO4.out (.slice (some ⟨g2, 0, none⟩) 1 cap2) (.int .i64 n) (.int .u64 ((t : Int) + 1)) (.slice (some ⟨g2, 0, none⟩) 1 cap2)
      exact h
    · exact fin_below HR4.out.1 _ _ _ _
end Go.Proofs.Ytmfpfebnlflfiab

/-
  What a node of a rank has below it; a tree's top; a digit.
-/
import Derived.Test.YtdelhpogacccjaaTr6
set_option linter.unusedVariables false
set_option linter.unusedSimpArgs false
namespace Go.Proofs.Ytdelhpogacccjaa
open Go Go.RowKit

variable {W W' : World} {v : Value} {ns : List TN}
theorem node_box {W w2 : World} {D : Nat} (n : TN) (hb : Below D W w2) (hD : D ≤ w2.heap.size) : ∃ w4, (w2.alloc (.cells (nodeA noTN) 45)).setRow w2.heap.size (nodeA n) = w4 ∧ w4.heap[w2.heap.size]? = some (.cells (nodeA n) 45 (0, 0)) ∧ w4.heap.size = w2.heap.size + 1 ∧ Below D W w4 ∧ ∀ k, k < w2.heap.size → w4.heap[k]? = w2.heap[k]? := by
  rw [World.setRow_alloc_new]
  exact ⟨_, rfl, heap_alloc_new w2 _, World.size_alloc w2 _, hb.alloc hD _, fun k hk => Below.heap_alloc _ _ _ hk⟩
def countOf (ns : List TN) (slot rank : Int) : Int := if (nodeOf ns slot rank).2 = true ∧ rank = -1 then 1 else (nodeOf ns slot rank).1.cnt
set_option maxRecDepth 20000 in
set_option maxHeartbeats 1000000 in
theorem tCount_c (h : ShelfRow W v ns) (slot rank : Int) : Calls Try.prog 51 #[iS v, .int .i64 slot, .int .i64 rank] W fun e w' => e = .returned (.int .i64 (countOf ns slot rank)) ∧ Below W.heap.size W w' := by
  have C1 := Lib.hid (tNode_c h slot rank)
  obtain ⟨V, hV⟩ : ∃ V, iS v = V := ⟨_, rfl⟩
  rw [hV] at C1 ⊢
  obtain ⟨n, hn⟩ : ∃ n, nodeOf ns slot rank = n := ⟨_, rfl⟩
  obtain ⟨c, hc⟩ : ∃ c, countOf ns slot rank = c := ⟨_, rfl⟩
  have hA : c = if n.2 = true ∧ rank = -1 then 1 else n.1.cnt := by rw [← hc]; unfold countOf; rw [hn]
  rw [hc]
  unfold NodeP at C1
  rw [hn] at C1
  obtain ⟨n1, n2⟩ := n
  dsimp only at C1 hA
  clear hV h hn hc
  have HA0 := Lib.hid hA
  clear hA
  have hr : (rank == -1) = true ∧ rank = -1 ∨ (rank == -1) = false ∧ rank ≠ -1 := by
    by_cases hr : rank = -1
    · exact .inl ⟨by rw [hr]; rfl, hr⟩
    · exact .inr ⟨beq_eq_false_iff_ne.2 hr, hr⟩
  cases n2
  all_goals rcases hr with ⟨hr, hk⟩ | ⟨hr, hk⟩
  all_goals
    have HK := Lib.hid hk
    clear hk
    go_enter Try.func51, Try.ntmps51
    go_upto_region 2 with (first | (go_at_call 59; refine C1.out.mono ?_; rintro e w2 ⟨rfl, hb2⟩; obtain ⟨w4, hw4, h4a, h4b, h4c, _⟩ := node_box n1 hb2 hb2.size; have HW4 := Lib.hid hw4; have H4A := Lib.hid h4a; have H4B := Lib.hid h4b; have H4C := Lib.hid h4c; clear hw4 h4a h4b h4c hb2) | (refine wpList_store_row rfl 45 (.tmp 7) (.tmp 14) rfl w2.heap.size (nodeA n1) rfl rfl 45 (nodeA noTN) (heap_alloc_new _ _) sizeNode rfl (nodeA_one _) ?_))
    refine (show Code.wp _ _ _ _ ((w2.alloc (.cells (nodeA noTN) 45)).setRow w2.heap.size (nodeA n1)) from ?_)
    rw [HW4.out]
    have hs : w2.heap.size < w4.heap.size := by have h := H4B.out; omega
    have c0 : w4.cell? ⟨w2.heap.size, 1, none⟩ = some (.int .i64 n1.cnt) := by have h := H4A.out; simp [World.cell?, h, nodeA]
    clear C1 HW4
    first
    | (have HA := Lib.hid (HA0.out.trans (if_pos ⟨by first | rfl | trivial, HK.out⟩))
       clear HA0
       go_wp2_with fail
       go_ret
       exact ⟨by rw [HA.out]; rfl, H4C.out⟩)
    | (have HA := Lib.hid (HA0.out.trans (if_neg (fun h => by first | exact HK.out h.2 | cases h.1)))
       clear HA0
       go_wp2_with fail
       go_ret
       exact ⟨by rw [HA.out]; rfl, H4C.out⟩)
theorem tTop_c (r : Int) (h : Int) (W : World) : Calls Try.prog 30 #[.agg #[.int .i64 r, .int .i64 h]] W fun e w' => e = .returned (.int .i64 (if h < 1 ∨ 8 < h then -1 else r)) ∧ Below W.heap.size W w' := by
  have hB := Lib.hid ((Below.refl W.heap.size W).alloc (Nat.le_refl _) (.cells #[.int .i64 r, .int .i64 h] 27))
  obtain ⟨x, hx⟩ : ∃ x, (if h < 1 ∨ 8 < h then -1 else r) = x := ⟨_, rfl⟩
  rw [hx]
  have HX := Lib.hid hx
  clear hx
  by_cases h1 : h < 1
  · have HY := Lib.hid ((if_pos (.inl h1)).symm.trans HX.out)
    clear HX
    go_enter Try.func30, Try.ntmps30
    go_wp2_with fail
    go_ret
    exact ⟨by rw [← HY.out]; rfl, hB.out⟩
  · by_cases h2 : 8 < h
    · have HY := Lib.hid ((if_pos (.inr h2)).symm.trans HX.out)
      clear HX
      go_enter Try.func30, Try.ntmps30
      go_wp2_with fail
      go_ret
      exact ⟨by rw [← HY.out]; rfl, hB.out⟩
    · have HY := Lib.hid ((if_neg (by omega)).symm.trans HX.out)
      clear HX
      go_enter Try.func30, Try.ntmps30
      go_wp2_with fail
      go_ret
      exact ⟨by rw [← HY.out]; rfl, hB.out⟩
end Go.Proofs.Ytdelhpogacccjaa

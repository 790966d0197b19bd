/-
  The node of a rank in a slot.
-/
import Derived.Test.YtdelhpogacccjaaTr5
import Derived.Deep.CutRange
set_option linter.unusedVariables false
set_option linter.unusedSimpArgs false
namespace Go.Proofs.Ytdelhpogacccjaa
open Go Go.RowKit

variable {W W' : World}
def iS (v : Value) : Value := .iface 25 v
theorem at_method (v : Value) (w : World) : (method (Try.prog.types.size + Made.depth) 25 v "At").run Try.prog w = .ok (53, v) w := by kernel_rfl
def nodeOf (ns : List TN) (slot rank : Int) : TN × Bool := if slot < 0 then (noTN, false) else if (atOf ns slot).2 = true ∧ (atOf ns slot).1.kind = (if rank = -1 then 2 else 1) then ((atOf ns slot).1, true) else (noTN, false)
theorem results_node (tmps : Array Value) (w : World) (B : Nat) (c : Array Value) (d : Value) (h : w.heap[B]? = some (.cells c 45 (0, 0))) (hc : c.size = 26) (h2 : tmps.getD 6 undef = .pointer (some ⟨B, 0, none⟩)) (h3 : tmps.getD 7 undef = d) : (results Try.f59 tmps).run Try.prog w = .ok (.tuple #[.agg c, d]) w := by
  have h2' : tmps[6]?.getD undef = .pointer (some ⟨B, 0, none⟩) := by simpa using h2
  have h3' : tmps[7]?.getD undef = d := by simpa using h3
  have hl := run_loadVar_row (P := Try.prog) w B 45 45 c (0, 0) _ h Try.underlying45 rfl (by rw [hc]; exact sizeNode)
  simp [results, Try.f59, Sem.run_bind, h2', h3', asAddr, hl, Sem.run_pure, Result.andThen]
theorem below_setRow {w : World} {D B : Nat} {c : Array Value} (h : Below D W w) (hB : D ≤ B) : Below D W (w.setRow B c) :=
  ⟨h.os, h.tape, h.output, by rw [setRow_size]; exact h.size, fun k hk => (setRow_other w B k c (by omega)).trans (h.block k hk)⟩
def NodeP (ns : List TN) (slot rank : Int) (W : World) (e : Ending) (w' : World) : Prop := e = .returned (.tuple #[.agg (nodeA (nodeOf ns slot rank).1), .bool (nodeOf ns slot rank).2]) ∧ Below W.heap.size W w'
set_option maxRecDepth 20000 in
set_option maxHeartbeats 2000000 in
theorem tNode_c {v : Value} {ns : List TN} (h : ShelfRow W v ns) (slot rank : Int) : Calls Try.prog 59 #[iS v, .int .i64 slot, .int .i64 rank] W fun e w' => NodeP ns slot rank W e w' := by
  unfold iS
  have hm := fun w => at_method v w
  simp [go_sem] at hm
  have hT := heap_alloc_new W (.cells (nodeA noTN) 45)
  have HT := Lib.hid hT
  have hB := (Below.refl W.heap.size W).alloc (Nat.le_refl _) (.cells (nodeA noTN) 45)
  have HB := Lib.hid hB
  by_cases h1 : slot < 0
  · have hA : nodeOf ns slot rank = (noTN, false) := by unfold nodeOf; rw [if_pos h1]
    have HA := Lib.hid hA
    clear hA hT hB h hm
    go_enter Try.func59, Try.ntmps59
    go_wp2_with (first | (refine wpList_build_as rfl 45 #[] rfl (nodeA noTN) built_no ?_) | (refine wpList_store_row rfl 45 (.tmp 6) (.tmp 17) rfl W.heap.size (nodeA noTN) rfl rfl 45 (nodeA noTN) HT.out sizeNode rfl (nodeA_one _) ?_))
    refine bodyPost_ret (results_node _ _ W.heap.size (nodeA noTN) (.bool false) (setRow_heap _ _ _ _ _ _ HT.out) rfl rfl rfl) rfl ⟨by rw [HA.out], ?_⟩
    rw [World.setRow_alloc_new]
    exact HB.out
  · obtain ⟨kd, hkd⟩ : ∃ kd : Nat, kd = if rank = -1 then 2 else 1 := ⟨_, rfl⟩
    have C1 := Lib.hid (shelfAt_c (h.below hB) slot)
    have HKD := Lib.hid hkd
    obtain ⟨n, hn⟩ : ∃ n, atOf ns slot = n := ⟨_, rfl⟩
    have hA : nodeOf ns slot rank = if n.2 = true ∧ n.1.kind = kd then (n.1, true) else (noTN, false) := by unfold nodeOf; rw [if_neg h1, hn, hkd]
    have HA0 := Lib.hid hA
    unfold AtP at C1
    rw [hn] at C1
    have key : ∀ (w2 : World), Below (W.alloc (.cells (nodeA noTN) 45)).heap.size (W.alloc (.cells (nodeA noTN) 45)) w2 → ∃ w4, (w2.alloc (.cells (nodeA noTN) 45)).setRow w2.heap.size (nodeA n.1) = w4 ∧ w4.heap[w2.heap.size]? = some (.cells (nodeA n.1) 45 (0, 0)) ∧ w4.heap[W.heap.size]? = some (.cells (nodeA noTN) 45 (0, 0)) ∧ Below W.heap.size W w4 := fun w2 hb2 => by
      have hs : W.heap.size + 1 ≤ w2.heap.size := by have := hb2.size; rw [World.size_alloc] at this; exact this
      have h0 := (hb2.block W.heap.size (by rw [World.size_alloc]; omega)).trans hT
      rw [World.setRow_alloc_new]
      exact ⟨_, rfl, heap_alloc_new w2 _, (Below.heap_alloc _ _ _ (by omega)).trans h0, (hB.trans (hb2.mono (by rw [World.size_alloc]; omega))).alloc (by omega) _⟩
    have KEY := Lib.hid key
    obtain ⟨n1, n2⟩ := n
    clear hA hT hB h hn hkd key
    dsimp only at C1 HA0 KEY
    have hr : (rank == -1) = true ∧ kd = 2 ∨ (rank == -1) = false ∧ kd = 1 := by
      by_cases hr : rank = -1
      · exact .inl ⟨by rw [hr]; rfl, by rw [HKD.out, if_pos hr]⟩
      · exact .inr ⟨beq_eq_false_iff_ne.2 hr, by rw [HKD.out, if_neg hr]⟩
    clear HKD
    rcases hr with ⟨hr, hk⟩ | ⟨hr, hk⟩
    all_goals
      subst hk
      go_enter Try.func59, Try.ntmps59
      go_upto_region 7 with (first | (refine C1.out.mono ?_; rintro e w2 ⟨rfl, hb2⟩; obtain ⟨w4, hw4, h4a, h4b, h4c⟩ := KEY.out w2 hb2; have HW4 := Lib.hid hw4; have H4A := Lib.hid h4a; have H4B := Lib.hid h4b; have H4C := Lib.hid h4c; clear hw4 h4a h4b h4c hb2) | (refine wpList_store_row rfl 45 (.tmp 9) (.tmp 24) rfl w2.heap.size (nodeA n1) rfl rfl 45 (nodeA noTN) (heap_alloc_new _ _) sizeNode rfl (nodeA_one _) ?_))
      refine (show Code.wp _ _ _ _ ((w2.alloc (.cells (nodeA noTN) 45)).setRow w2.heap.size (nodeA n1)) from ?_)
      rw [HW4.out]
      have hs : w2.heap.size < w4.heap.size := by have h := H4A.out; exact (Array.getElem?_eq_some_iff.1 h).1
      have c0 : w4.cell? ⟨w2.heap.size, 0, none⟩ = some (.int .u8 n1.kind) := by have h := H4A.out; simp [World.cell?, h, nodeA]
      clear HT HB C1 KEY HW4 hm
      cases n2 with
      | false =>
        have HA := Lib.hid (HA0.out.trans (if_neg (fun h => by cases h.1)))
        clear HA0 c0 hs
        go_wp2_with (first | (refine wpList_build_as rfl 45 #[] rfl (nodeA noTN) built_no ?_) | (refine wpList_store_row rfl 45 (.tmp 6) (.tmp 34) rfl W.heap.size (nodeA noTN) rfl rfl 45 (nodeA noTN) H4B.out sizeNode rfl (nodeA_one _) ?_))
        exact bodyPost_ret (results_node _ _ W.heap.size (nodeA noTN) (.bool false) (setRow_heap _ _ _ _ _ _ H4B.out) rfl rfl rfl) rfl ⟨by rw [HA.out], below_setRow H4C.out (Nat.le_refl _)⟩
      | true =>
        have H0 := Lib.hid hs
        have HR : Hid (w4.rangeAt w2.heap.size 0 (nodeA n1).toList) := fun j u hu => by
          have h := H4A.out
          rw [Nat.zero_add]
          simp only [World.cell?, h]
          simpa using hu
        have hkk : ((n1.kind : Int) == 2) = true ∧ ((n1.kind : Int) == 1) = false ∧ n1.kind = 2 ∨ ((n1.kind : Int) == 2) = false ∧ ((n1.kind : Int) == 1) = true ∧ n1.kind = 1 ∨ ((n1.kind : Int) == 2) = false ∧ ((n1.kind : Int) == 1) = false ∧ n1.kind ≠ 2 ∧ n1.kind ≠ 1 := by
          simp only [beq_iff_eq, beq_eq_false_iff_ne]
          omega
        rcases hkk with ⟨q2, q1, hk⟩ | ⟨q2, q1, hk⟩ | ⟨q2, q1, hk⟩
        all_goals
          have HK := Lib.hid hk
          clear hk
          first
          | (have HA := Lib.hid (HA0.out.trans (if_neg (fun h => by have h1 := h.2; have h2 := HK.out; omega)))
             clear HA0
             go_wp2_with (first | (refine wpList_build_as rfl 45 #[] rfl (nodeA noTN) built_no ?_) | (refine wpList_store_row rfl 45 (.tmp 6) (.tmp 34) rfl W.heap.size (nodeA noTN) rfl rfl 45 (nodeA noTN) H4B.out sizeNode rfl (nodeA_one _) ?_))
             exact bodyPost_ret (results_node _ _ W.heap.size (nodeA noTN) (.bool false) (setRow_heap _ _ _ _ _ _ H4B.out) rfl rfl rfl) rfl ⟨by rw [HA.out], below_setRow H4C.out (Nat.le_refl _)⟩)
          | (have HA := Lib.hid (HA0.out.trans (if_pos ⟨rfl, HK.out⟩))
             clear HA0
             go_wp2_with (first | (refine wpList_load_mid rfl 45 (.tmp 9) rfl w2.heap.size 0 rfl (nodeA n1).toList _ HR.out Try.underlying45 rfl sizeNode ?_) | (refine wpList_store_row rfl 45 (.tmp 6) (.tmp 35) rfl W.heap.size (nodeA n1) rfl rfl 45 (nodeA noTN) H4B.out sizeNode rfl (nodeA_one _) ?_))
             exact bodyPost_ret (results_node _ _ W.heap.size (nodeA n1) (.bool true) (setRow_heap _ _ _ _ _ _ H4B.out) rfl rfl rfl) rfl ⟨by rw [HA.out], below_setRow H4C.out (Nat.le_refl _)⟩)
end Go.Proofs.Ytdelhpogacccjaa

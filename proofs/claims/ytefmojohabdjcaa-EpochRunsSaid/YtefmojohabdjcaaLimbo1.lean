/-
  A Limbo: Add, Len.
-/
import Derived.Test.YtefmojohabdjcaaKit6
import Derived.Test.YtefmojohabdjcaaTurnC
import Derived.Maps.AppendAt
set_option linter.unusedVariables false
set_option linter.unusedSimpArgs false
namespace Go.Proofs.Ytefmojohabdjcaa
open Go Go.RowKit

theorem infoLv : (Try.prog.info? 85).map (fun i => (i.zero, i.size, i.bytes)) = some (some (.agg #[.int .u64 0, .int .i64 0]), 2, 16) := by kernel_rfl
def cellsL (l : List (Nat × Int)) : List Value := l.flatMap fun r => [.int .u64 r.1, .int .i64 r.2]
theorem cellsL_snoc (l : List (Nat × Int)) (r : Nat × Int) : cellsL (l ++ [r]) = cellsL l ++ [.int .u64 r.1, .int .i64 r.2] := by simp [cellsL]
theorem cellsL_at (l : List (Nat × Int)) (k : Nat) (r : Nat × Int) (h : l[k]? = some r) : (cellsL l)[k * 2]? = some (.int .u64 r.1) ∧ (cellsL l)[k * 2 + 1]? = some (.int .i64 r.2) := by
  induction l generalizing k with
  | nil => simp at h
  | cons a l ih =>
    cases k with
    | zero => simp at h; subst h; exact ⟨rfl, rfl⟩
    | succ k =>
      have := ih k (by simpa using h)
      rw [show (k + 1) * 2 = k * 2 + 2 by omega]
      exact this
structure LimAt (W : World) (B : Nat) (v : Value) (l : List (Nat × Int)) : Prop where
  bx : Boxed W B 41 v
  ow : W.ownsRow 0 85 2 v l.length (cellsL l)
def fL (B : Nat) (v : Value) (k : Nat) : Prop := k = B ∨ v.ownBlock = some k
variable {W W' : World} {B : Nat} {v : Value} {l : List (Nat × Int)}
theorem LimAt.ne (h : LimAt W B v l) : v.ownBlock ≠ some B := fun e => by
  obtain ⟨c, hc⟩ := own_cells h.ow e
  exact block_ne h.bx hc (by decide) rfl
theorem LimAt.later (h : LimAt W B v l) (hs : ∀ k, fL B v k → W'.heap[k]? = W.heap[k]?) : LimAt W' B v l :=
  ⟨(hs B (.inl rfl)).trans h.bx, own_same h.ow fun k hk => hs k (.inr hk)⟩
theorem LimAt.lt (h : LimAt W B v l) {k : Nat} (hk : fL B v k) : k < W.heap.size := by
  rcases hk with rfl | hk
  · exact h.bx.lt
  · exact (h.ow.lt k hk).2
theorem LimAt.below (h : LimAt W B v l) (hb : Below W.heap.size W W') : LimAt W' B v l := h.later fun k hk => hb.block k (h.lt hk)
theorem LimAt.new (W : World) : LimAt (W.alloc (.cells #[.slice none 0 0] 41)) W.heap.size (.slice none 0 0) [] := ⟨Boxed.new W _ _, World.ownsRow_nil _ _ _ _⟩
def pLm (B : Nat) : Value := .pointer (some ⟨B, 0, none⟩)
theorem lLen_c (h : LimAt W B v l) : Calls Try.prog 12 #[pLm B] W fun e w' => e = .returned (.int .i64 l.length) ∧ w' = W := by
  have c0 := h.bx.cell
  obtain ⟨ad, cp, hv⟩ := own_form h.ow
  subst hv
  unfold pLm
  go_enter Try.func12, Try.ntmps12
  go_wp2_with fail
  go_ret
  exact ⟨rfl, rfl⟩

set_option maxRecDepth 20000 in
set_option maxHeartbeats 2000000 in
theorem lAdd_c (h : LimAt W B v l) (ep : Nat) (xs : List Int) (sv : Value) (hl : l.length + xs.length ≤ 10000) (hS : ∀ w' v', Moved (fL B v) (fL B v') W w' → RowAt w' sv (intsV xs)) :
    Calls Try.prog 11 #[pLm B, .int .u64 ep, sv] W fun e w' => (∃ u, e = .returned u) ∧ ∃ v', LimAt w' B v' (l ++ xs.map fun x => (ep, x)) ∧ Moved (fL B v) (fL B v') W w' := by
  obtain ⟨i0, hi0, hz0, hz1, hz2⟩ := info_parts infoLv
  obtain ⟨N, hN⟩ : ∃ N, N = xs.length := ⟨_, rfl⟩
  obtain ⟨sa, scp, rfl⟩ := (hS W v (Moved.refl _ _)).form
  rw [intsV_len, ← hN] at hS ⊢
  have HS := Lib.hid hS
  have HL := Lib.hid h
  have HN := Lib.hid hN
  have hll : l.length + N ≤ 10000 := by omega
  clear hS h hN hl
  unfold pLm
  go_enter Try.func11, Try.ntmps11
  go_wp2_with fail
  go_loopw [10] (fun i wr => ∃ (k : Nat) (v' : Value), k ≤ N ∧ i = .int .i64 k ∧ Hid (LimAt wr B v' (l ++ (xs.take k).map fun x => (ep, x))) ∧ Hid (Moved (fL B v) (fL B v') W wr)) (fun i _ => N - (intOf i).toNat)
  case atStart => exact ⟨0, v, Nat.zero_le _, rfl, by rw [List.take_zero, List.map_nil, List.append_nil]; exact HL.out, Moved.refl _ _⟩
  case round =>
    obtain ⟨k, v', hk, rfl, HLk, HMk⟩ := hrel
    by_cases hlt : k < N
    · have hq : (k : Int) < N := by omega
      have hq0 : (0 : Int) ≤ k := by omega
      have hkx : k < xs.length := by rw [← HN.out]; exact hlt
      obtain ⟨x, hx⟩ : ∃ x, xs[k]? = some x := ⟨_, List.getElem?_eq_getElem hkx⟩
      obtain ⟨b, off, hb, hblt, hc⟩ := (HS.out wr v' HMk.out).at (j := k) (u := .int .i64 x) (by unfold intsV; rw [List.getElem?_map, hx]; rfl)
      cases hb
      have HT : Hid (l ++ (xs.take (k + 1)).map (fun x => (ep, x)) = (l ++ (xs.take k).map fun x => (ep, x)) ++ [(ep, x)]) := by
        show _ = _
        obtain ⟨hk2, hx2⟩ := List.getElem?_eq_some_iff.1 hx
        rw [List.take_succ_eq_append_getElem hk2, hx2, List.map_append, List.append_assoc]; rfl
      obtain ⟨lk, hlk⟩ : ∃ lk, l ++ (xs.take k).map (fun x => (ep, x)) = lk := ⟨_, rfl⟩
      have hlen : lk.length = l.length + k := by rw [← hlk, List.length_append, List.length_map, List.length_take]; omega
      rw [hlk] at HLk HT
      obtain ⟨n, hn⟩ : ∃ n, lk.length = n := ⟨_, rfl⟩
      have hn2 : n ≤ 10000 := by omega
      have HO : Hid (wr.ownsRow 0 85 2 v' n (cellsL lk)) := by rw [← hn]; exact HLk.out.ow
      obtain ⟨ad, cp, hv⟩ := own_form HO.out
      subst hv
      have c0 := HLk.out.bx.cell
      have c1 := HLk.out.bx.lt
      have HNn := Lib.hid hn
      have c2 : ∀ o, (wr.alloc o).cell? ⟨B, 0, none⟩ = some (.slice ad n cp) := fun o => (HLk.out.bx.alloc o).cell
      clear hx hlk hlen hn hkx
      go_wp2_with (at_builtin; refine wpList_append_own_at _ rfl (.tmp 18) (.tmp 22) 39 rfl 0 85 i0 (.agg #[.int .u64 0, .int .i64 0]) 2 16 Try.underlying39 hi0 hz0 hz1 hz2 rfl (by decide) _ _ _ rfl (HO.out.alloc _) ⟨wr.heap.size, 0, none⟩ 1 1 [.int .u64 ep, .int .i64 x] rfl rfl (World.news_of_block (cs := #[.int .u64 ep, .int .i64 x]) (t := 85) (fr := (0, 0)) (heap_alloc_new wr _)) (fun u hu => by simp at hu; rcases hu with rfl | rfl <;> rfl) (by unfold maxLen; omega) (by omega) (by omega) ?_)
      intro v2 w2 hown hgrow hnil hat
      obtain ⟨ad2, cp2, hv2⟩ := own_form hown
      have hBne : (Value.slice ad n cp).ownBlock ≠ some B := HLk.out.ne
      have hkeep : ∀ k, k < wr.heap.size → (Value.slice ad n cp).ownBlock ≠ some k → w2.heap[k]? = wr.heap[k]? := fun k hk hne => (hgrow.block k (by simp; omega) (fun e => hne e.symm)).trans (Below.heap_alloc _ _ _ hk)
      have hbx2 : Boxed w2 B 41 (.slice ad n cp) := (hkeep B c1 hBne).trans HLk.out.bx
      have hne2 : v2.ownBlock ≠ some B := fun e => by
        obtain ⟨c, hc⟩ := own_cells hown e
        exact block_ne hbx2 hc (by decide) rfl
      have d0 := hbx2.cell
      have d1 := hbx2.lt
      have d2 := hbx2.frozen
      have hw2s : wr.heap.size ≤ w2.heap.size := by have := hgrow.size; simp at this; omega
      obtain ⟨w3, hw3⟩ : ∃ w3, w2.setCell ⟨B, 0, none⟩ v2 = w3 := ⟨_, rfl⟩
      have hk3 : ∀ k, k ≠ B → w3.heap[k]? = w2.heap[k]? := fun k hk => by rw [← hw3]; exact Below.heap_setCell w2 ⟨B, 0, none⟩ _ k hk
      have HL3 : Hid (LimAt w3 B v2 (l ++ (xs.take (k + 1)).map fun x => (ep, x))) := by
        show LimAt _ _ _ _
        rw [HT.out]
        refine ⟨?_, ?_⟩
        · rw [← hw3]; exact hbx2.set _
        · rw [List.length_append, HNn.out, List.length_singleton, cellsL_snoc, ← hw3]
          exact ownsRow_setCell_other hown hne2 _
      have HM3 : Hid (Moved (fL B v) (fL B v2) W w3) := HMk.out.trans ⟨by rw [← hw3]; exact hgrow.os, by rw [← hw3]; exact hgrow.tape, by rw [← hw3]; exact hgrow.output, by rw [← hw3, size_setCell]; exact hw2s, fun k hk hn => (hk3 k fun e => hn (.inl e)).trans (hkeep k hk fun e => hn (.inr e)), fun k hk hf => by
        rcases hf with rfl | hf
        · exact .inl rfl
        · rcases hat with ha | ha
          · exact .inr (ha ▸ hf)
          · rw [ha] at hf; cases hf; (first | omega | (simp at hk; omega) | (rw [World.size_alloc] at hk; omega))⟩
      have HW3 := Lib.hid hw3
      clear hown hgrow hnil hat hBne hkeep hbx2 hne2 hw2s hk3 hw3 HO HLk HMk HT c0 c1 c2
      rw [hv2] at HW3 ⊢
      clear hv2
      go_wp2_with fail
      rw [HW3.out]
      go_wp2_with fail
      go_roundw
      case rel => exact ⟨k + 1, v2, by omega, by go_num, HL3.out, HM3.out⟩
      case measure => simp [intOf]; omega
    · obtain rfl : k = N := by omega
      have hq : ¬ (k : Int) < k := by omega
      have h9 := HLk.out
      rw [List.take_of_length_le (by rw [← HN.out]; exact Nat.le_refl _)] at h9
      have H9 := Lib.hid h9
      clear h9
      go_wp2_with fail
      go_end0
      exact ⟨⟨_, rfl⟩, v', H9.out, HMk.out⟩
end Go.Proofs.Ytefmojohabdjcaa

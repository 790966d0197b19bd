/-
  Stand: what its loops hold.
-/
import Derived.Test.YtdelhpogacccjaaTrB5
import Derived.Test.YtdelhpogacccjaaTr12
set_option linter.unusedVariables false
set_option linter.unusedSimpArgs false
namespace Go.Proofs.Ytdelhpogacccjaa
open Go Go.RowKit

variable {W W' : World}
theorem infoTN : (Try.prog.info? 45).map (fun i => (i.zero, i.size, i.bytes)) = some (some (.agg (nodeA noTN)), 26, 200) := by kernel_rfl
theorem nodeA_mem (n : TN) : ∀ u ∈ (nodeA n).toList, u.oneCell' = true := fun u hu => (Array.all_eq_true_iff_forall_mem.1 (nodeA_one n)) u (by simpa using hu)
theorem built_tbr (c : Int) : Try.prog.built 45 [(0, .int .u8 1), (1, .int .i64 c)] = some (nodeA ⟨1, c, fun _ => 0, noR⟩) := by kernel_rfl
theorem built_tleaf (r : R7) : Try.prog.built 45 [(0, .int .u8 2), (3, rV r)] = some (nodeA ⟨2, 0, fun _ => 0, r⟩) := by kernel_rfl
theorem slice_tn (n : TN) : Try.prog.builtSlice 45 1 [(0, .agg (nodeA n))] = some (nodeA n) := by kernel_rfl
def TN.put (n : TN) (d : Nat) (x : Int) : TN := { n with kids := fun j => if j = d then x else n.kids j }
theorem nodeA_put (n : TN) (d : Nat) (hd : d < 16) (x : Int) : (nodeA n).setIfInBounds (2 + d) (.int .i64 x) = nodeA (n.put d x) := by
  have : d = 0 ∨ d = 1 ∨ d = 2 ∨ d = 3 ∨ d = 4 ∨ d = 5 ∨ d = 6 ∨ d = 7 ∨ d = 8 ∨ d = 9 ∨ d = 10 ∨ d = 11 ∨ d = 12 ∨ d = 13 ∨ d = 14 ∨ d = 15 := by omega
  rcases this with rfl | rfl | rfl | rfl | rfl | rfl | rfl | rfl | rfl | rfl | rfl | rfl | rfl | rfl | rfl | rfl <;> rfl
theorem nodeA_congr (n m : TN) (h1 : n.kind = m.kind) (h2 : n.cnt = m.cnt) (h3 : ∀ d, d < 16 → n.kids d = m.kids d) (h4 : n.rc = m.rc) : nodeA n = nodeA m := by
  unfold nodeA
  rw [h1, h2, h4, h3 0 (by omega), h3 1 (by omega), h3 2 (by omega), h3 3 (by omega), h3 4 (by omega), h3 5 (by omega), h3 6 (by omega), h3 7 (by omega), h3 8 (by omega), h3 9 (by omega), h3 10 (by omega), h3 11 (by omega), h3 12 (by omega), h3 13 (by omega), h3 14 (by omega), h3 15 (by omega)]
def cellsT (l : List TN) : List Value := l.flatMap fun n => (nodeA n).toList
theorem cellsT_len (l : List TN) : (cellsT l).length = l.length * 26 := by
  unfold cellsT
  induction l with
  | nil => rfl
  | cons a t ih => rw [List.flatMap_cons, List.length_append, ih, List.length_cons]; show 26 + _ = _; omega
theorem cellsT_app (a b : List TN) : cellsT (a ++ b) = cellsT a ++ cellsT b := by unfold cellsT; rw [List.flatMap_append]
theorem cellsT_one (n : TN) : cellsT [n] = (nodeA n).toList := by unfold cellsT; rw [List.flatMap_singleton]
theorem flat_at {α : Type} (f : α → List Value) (m : Nat) (hf : ∀ n, (f n).length = m) (l : List α) : ∀ (j : Nat) (n : α), l[j]? = some n → ∀ i u, (f n)[i]? = some u → (l.flatMap f)[j * m + i]? = some u := by
  induction l with
  | nil => intro j n h; simp at h
  | cons a t ih =>
    intro j n h i u hu
    rw [List.flatMap_cons]
    cases j with
    | zero => cases h; rw [Nat.zero_mul, Nat.zero_add, List.getElem?_append_left (by have := (List.getElem?_eq_some_iff.1 hu).1; exact this)]; exact hu
    | succ j =>
      rw [List.getElem?_append_right (by rw [hf, Nat.add_mul]; omega), hf]
      have e : (j + 1) * m + i - m = j * m + i := by rw [Nat.add_mul]; omega
      rw [e]
      exact ih j n h i u hu
theorem ShelfRow.of_own {wr : World} {D : Nat} {sv : Value} {ns : List TN} (h : wr.ownsRow D 45 26 sv ns.length (cellsT ns)) : ShelfRow wr sv ns := by
  rcases h.2 with ⟨rfl, h0⟩ | ⟨g, cap, cur, rfl, hg, hgg, _, _, hcs, htk⟩
  · exact .inl ⟨rfl, List.length_eq_zero_iff.1 h0⟩
  · refine .inr ⟨_, cap, rfl, fun j n hj => ⟨g, 0, rfl, (Array.getElem?_eq_some_iff.1 hgg).1, fun i u hu => ?_⟩⟩
    have hc := h.cells (g := g) rfl
    have e : ∀ o, (⟨g, 0, none⟩ : Addr).add o = ⟨g, o, none⟩ := fun o => by unfold Addr.add; split <;> simp_all
    rw [Nat.zero_add, ← e]
    exact hc _ _ (flat_at (fun n => (nodeA n).toList) 26 (fun n => rfl) ns j n hj i u hu)
/-- The document's nodes in a row. -/
def RNRow (W : World) (v : Value) (R : List RN) : Prop := ∃ g cp, v = .slice (some ⟨g, 0, none⟩) R.length cp ∧ g < W.heap.size ∧ ∀ j n, R[j]? = some n → W.rangeAt g (j * 21) (rnA n).toList
theorem RNRow.of_own {wr : World} {D : Nat} {v : Value} {R : List RN} (h : wr.ownsRow D 79 21 v R.length (cellsN R)) (hne : R ≠ []) : RNRow wr v R ∧ ∀ g, v.ownBlock = some g → D ≤ g := by
  refine ⟨?_, fun g hg => (h.lt g hg).1⟩
  rcases h.2 with ⟨rfl, h0⟩ | ⟨g, cap, cur, rfl, hg, hgg, _, _, hcs, htk⟩
  · exact absurd (List.length_eq_zero_iff.1 h0) hne
  · refine ⟨g, cap, rfl, (Array.getElem?_eq_some_iff.1 hgg).1, fun j n hj i u hu => ?_⟩
    have hc := h.cells (g := g) rfl
    have e : ∀ o, (⟨g, 0, none⟩ : Addr).add o = ⟨g, o, none⟩ := fun o => by unfold Addr.add; split <;> simp_all
    rw [← e]
    exact hc _ _ (flat_at (fun n => (rnA n).toList) 21 (fun n => rfl) R j n hj i u hu)
/-- The box of a node. -/
def Bn7 (W : World) (B : Nat) (n : TN) : Prop := W.heap[B]? = some (.cells (nodeA n) 45 (0, 0))
theorem Bn7.lt {B : Nat} {n : TN} (h : Bn7 W B n) : B < W.heap.size := (Array.getElem?_eq_some_iff.1 h).1
theorem Bn7.cell {B : Nat} {n : TN} (h : Bn7 W B n) (d : Nat) (hd : d < 16) : W.cell? ⟨B, 2 + d, none⟩ = some (.int .i64 (n.kids d)) ∧ W.frozen? ⟨B, 2 + d, none⟩ = false := by
  have h' : W.heap[B]? = _ := h
  exact ⟨kid_cell h' d hd, by simp [World.frozen?, h']⟩
theorem Bn7.set {B : Nat} {n : TN} (h : Bn7 W B n) (d : Nat) (hd : d < 16) (x : Int) : Bn7 (W.setCell ⟨B, 2 + d, none⟩ (.int .i64 x)) B (n.put d x) := by
  obtain ⟨hlt, hk⟩ := Array.getElem?_eq_some_iff.1 h
  show (W.heap.modify B _)[B]? = _
  rw [Array.getElem?_eq_getElem (by rw [Array.size_modify]; exact hlt), Array.getElem_modify_self, hk, ← nodeA_put n d hd x]
  rfl
theorem Bn7.range {B : Nat} {n : TN} (h : Bn7 W B n) : W.rangeAt B 0 (nodeA n).toList := fun j u hu => by
  have h' : W.heap[B]? = _ := h
  rw [Nat.zero_add]
  simp only [World.cell?, h']
  simpa using hu
theorem Bn7.below {D B : Nat} {n : TN} (h : Bn7 W B n) (hb : Below D W W') (hB : B < D) : Bn7 W' B n := (hb.block B hB).trans h
/-- What Stand gives. -/
def StandIs (gap more : Nat) (l : List R7) (ns : List TN) (r : Int) (H : Nat) : Prop :=
  (l = [] ∧ ns = [] ∧ r = -1 ∧ H = 0) ∨ (l ≠ [] ∧ H = min 8 (heightOf l + more) ∧ r = gap ∧ ns = List.replicate gap noTN ++ (treeL H 0 l).map (conv gap))
theorem height_small {l : List R7} (hu : Up l) (hne : l ≠ []) : 1 ≤ heightOf l ∧ heightOf l ≤ 8 ∧ ∀ r, r ∈ l → r.uid < 16 ^ heightOf l := by
  obtain ⟨q, hq⟩ : ∃ q, l.getLast? = some q := ⟨_, List.getLast?_eq_some_getLast hne⟩
  have hqm : q ∈ l := List.mem_of_getLast? hq
  have hh : heightOf l = nd q.uid := by unfold heightOf; rw [hq]
  rw [hh]
  refine ⟨nd_pos _, nd_u32 (hu.2 q hqm), fun r hr => ?_⟩
  obtain ⟨h1, h2⟩ := small_of_nd (u := q.uid) (H := nd q.uid) (Nat.le_refl _)
  refine Nat.lt_of_le_of_lt ?_ h2
  obtain ⟨l', rfl⟩ : ∃ l', l = l' ++ [q] := by
    refine ⟨l.dropLast, ?_⟩
    have h3 := List.dropLast_concat_getLast hne
    rw [List.getLast?_eq_some_getLast hne] at hq
    cases hq
    exact h3.symm
  rcases List.mem_append.1 hr with h3 | h3
  · exact Nat.le_of_lt ((List.pairwise_append.1 hu.1).2.2 r h3 q (by simp))
  · rw [List.mem_singleton.1 h3]; exact Nat.le_refl _
theorem StandIs.tree {gap more : Nat} {l : List R7} {ns : List TN} {r : Int} {H : Nat} (h : StandIs gap more l ns r H) (hu : Up l) : TreeOf ns r H l := by
  rcases h with ⟨rfl, rfl, rfl, rfl⟩ | ⟨hne, hH, rfl, rfl⟩
  · exact .inl ⟨rfl, rfl, rfl⟩
  · obtain ⟨h1, h2, h3⟩ := height_small hu hne
    have hle : heightOf l ≤ H := by omega
    have hsm : ∀ x, x ∈ l → x.uid < 16 ^ H := fun x hx => Nat.lt_of_lt_of_le (h3 x hx) (Nat.pow_le_pow_right (by omega) hle)
    refine .inr ⟨by omega, by omega, ?_, hsm⟩
    have := sub_tree gap H 0 l (List.replicate gap noTN) [] (by simp) hne hu ⟨0, fun x hx => Nat.div_eq_of_lt (hsm x hx)⟩
    rw [List.append_nil, Nat.zero_add] at this
    exact this
theorem results_stand (tmps : Array Value) (w : World) (B : Nat) (r h : Int) (d : Value) (hb : TB w B r h) (h2 : tmps.getD 7 undef = .pointer (some ⟨B, 0, none⟩)) (h3 : tmps.getD 6 undef = d) : (results Try.f8 tmps).run Try.prog w = .ok (.tuple #[d, .agg #[.int .i64 r, .int .i64 h]]) w := by
  obtain ⟨c0, c1⟩ := hb.cell
  have h2' : tmps[7]?.getD undef = .pointer (some ⟨B, 0, none⟩) := by simpa using h2
  have h3' : tmps[6]?.getD undef = d := by simpa using h3
  simp [results, Try.f8, go_sem, h2', h3', c0, c1]
theorem TB.set {B : Nat} {r h : Int} (H : TB W B r h) (r' h' : Int) : TB ((W.setCell ⟨B, 0, none⟩ (.int .i64 r')).setCell ⟨B, 1, none⟩ (.int .i64 h')) B r' h' := by
  exact heap_setCell_same _ B 1 _ _ (.int .i64 h') (heap_setCell_same W B 0 _ _ (.int .i64 r') H)
theorem TB.free {B : Nat} {r h : Int} (H : TB W B r h) : W.frozen? ⟨B, 0, none⟩ = false ∧ W.frozen? ⟨B, 1, none⟩ = false := by
  have h' : W.heap[B]? = _ := H
  constructor <;> simp [World.frozen?, h']
/-- Two slices lie in two blocks. -/
def Sep (a b : Value) : Prop := ∀ g, a.ownBlock = some g → b.ownBlock ≠ some g
theorem Sep.gro {a a' b : Value} {A A' : World} (h : Sep a b) (hg : Gro a a' A A') (hb : ∀ g, b.ownBlock = some g → g < A.heap.size) : Sep a' b := fun g h1 h2 => by
  rcases hg.2 g h1 with h3 | h3
  · exact h g h3 h2
  · have := hb g h2; omega
theorem RNRow.gro {a a' b : Value} {R : List RN} {A A' : World} (h : RNRow A b R) (hs : Sep a b) (hg : Gro a a' A A') : RNRow A' b R := by
  obtain ⟨g, cp, rfl, hlt, hr⟩ := h
  have hk : A'.heap[g]? = A.heap[g]? := hg.keep hlt fun e => hs g e rfl
  exact ⟨g, cp, rfl, Nat.lt_of_lt_of_le hlt hg.size, fun j n hj i u hu => by
    have := hr j n hj i u hu
    simp only [World.cell?, hk] at this ⊢
    exact this⟩
theorem RNRow.below {b : Value} {R : List RN} {A A' : World} (h : RNRow A b R) (hb : Below A.heap.size A A') : RNRow A' b R := by
  obtain ⟨g, cp, rfl, hlt, hr⟩ := h
  exact ⟨g, cp, rfl, Nat.lt_of_lt_of_le hlt hb.size, fun j n hj i u hu => by rw [hb.cell (p := ⟨g, _, none⟩) hlt]; exact hr j n hj i u hu⟩
theorem RNRow.lt {b : Value} {R : List RN} {A : World} (h : RNRow A b R) : ∀ g, b.ownBlock = some g → g < A.heap.size := by
  obtain ⟨g, cp, rfl, hlt, hr⟩ := h
  intro g' h; cases h; exact hlt
theorem tree_kids (k : Nat) : ∀ (at' : Nat) (l : List R7), ∀ n, n ∈ treeL k at' l → ∀ d, d < 16 → -1 ≤ n.kids d ∧ n.kids d ≤ (at' : Int) + ((treeL k at' l).length : Nat) := by
  induction k with
  | zero =>
    intro at' l n hn d hd
    obtain rfl : n = leafN (l.headD noR) := by simpa [treeL] using hn
    show -1 ≤ (0 : Int) ∧ (0 : Int) ≤ _
    omega
  | succ k ih =>
    intro at' l n hn d hd
    have hlen : (treeL (k + 1) at' l).length = (subsF (treeL k) k at' l 16).length + 1 := rfl
    rcases List.mem_cons.1 hn with rfl | hn
    · show -1 ≤ posF (treeL k) k at' l d ∧ posF (treeL k) k at' l d ≤ _
      obtain ⟨t, ht⟩ := subs_pre (treeL k) k at' l d 16 (by omega)
      have := congrArg List.length ht
      rw [List.length_append] at this
      unfold posF
      split <;> omega
    · have step : ∀ i, i ≤ 16 → n ∈ subsF (treeL k) k at' l i → -1 ≤ n.kids d ∧ n.kids d ≤ (at' : Int) + 1 + ((subsF (treeL k) k at' l i).length : Nat) := by
        intro i
        induction i with
        | zero => intro _ h; simp [subsF] at h
        | succ i ih2 =>
          intro hi h
          rw [subsF] at h ⊢
          split at h
          · rename_i hp
            rw [if_pos hp]
            exact ih2 (by omega) h
          · rename_i hp
            rw [if_neg hp, List.length_append]
            rcases List.mem_append.1 h with h | h
            · have := ih2 (by omega) h; omega
            · have := ih _ _ n h d hd; omega
      have := step 16 (Nat.le_refl _) hn
      omega
end Go.Proofs.Ytdelhpogacccjaa

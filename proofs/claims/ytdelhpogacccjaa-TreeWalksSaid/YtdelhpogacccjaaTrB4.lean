/-
  Build: what its loops hold.
-/
import Derived.Test.YtdelhpogacccjaaTrB3
import Derived.OneCell
set_option linter.unusedVariables false
set_option linter.unusedSimpArgs false
namespace Go.Proofs.Ytdelhpogacccjaa
open Go Go.RowKit

variable {W W' : World} {v lv : Value} {nodes : List RN} {l : List R7} {base : Nat}
theorem own_kept7 {A B : World} {base e size n : Nat} {v : Value} {xs : List Value} (h : A.ownsRow base e size v n xs) (hp : ∀ k, v.ownBlock = some k → B.heap[k]? = A.heap[k]?) : B.ownsRow base e size v n xs := by
  refine ⟨h.1, ?_⟩
  rcases h.2 with hn | ⟨g, cap, cur, rfl, hg, hgg, rest⟩
  · exact .inl hn
  · exact .inr ⟨g, cap, cur, rfl, hg, (hp g rfl).trans hgg, rest⟩
/-- What is in the row when i digits are done. -/
def curB (nodes : List RN) (k : Nat) (l : List R7) (i : Nat) : List RN := nodes ++ brN l.length (fun _ => 0) :: subsF (treeL k) k nodes.length l i
/-- What is in the box then. -/
def boxB (nodes : List RN) (k : Nat) (l : List R7) (i : Nat) : RN := brN l.length (fun d => if d < i then posF (treeL k) k nodes.length l d else 0)
theorem curB_len (nodes : List RN) (k : Nat) (l : List R7) (i : Nat) : (curB nodes k l i).length = nodes.length + 1 + (subsF (treeL k) k nodes.length l i).length := by
  unfold curB
  rw [List.length_append, List.length_cons]; omega
theorem curB_none {k i : Nat} (h : part k i l = []) : curB nodes k l (i + 1) = curB nodes k l i := by
  unfold curB
  rw [subsF, if_pos h]
theorem curB_some {k i : Nat} (h : part k i l ≠ []) : curB nodes k l (i + 1) = curB nodes k l i ++ treeL k (curB nodes k l i).length (part k i l) := by
  rw [curB_len]
  unfold curB
  rw [subsF, if_neg h]
  simp
theorem boxB_none {k i : Nat} (h : part k i l = []) : (boxB nodes k l i).put i (-1) = boxB nodes k l (i + 1) := by
  unfold boxB brN RN.put
  congr 1
  funext d
  dsimp only
  by_cases h1 : d = i
  · subst h1
    rw [if_pos rfl, if_pos (Nat.lt_succ_self _)]
    unfold posF
    rw [if_pos h]
  · rw [if_neg h1]
    by_cases h2 : d < i
    · rw [if_pos h2, if_pos (by omega)]
    · rw [if_neg h2, if_neg (by omega)]
theorem boxB_some {k i : Nat} (h : part k i l ≠ []) : ((boxB nodes k l i).put i (-1)).put i ((curB nodes k l i).length : Nat) = boxB nodes k l (i + 1) := by
  rw [curB_len]
  unfold boxB brN RN.put
  congr 1
  funext d
  dsimp only
  by_cases h1 : d = i
  · subst h1
    rw [if_pos rfl, if_pos (Nat.lt_succ_self _)]
    unfold posF
    rw [if_neg h]
  · rw [if_neg h1, if_neg h1]
    by_cases h2 : d < i
    · rw [if_pos h2, if_pos (by omega)]
    · rw [if_neg h2, if_neg (by omega)]
theorem boxB_all (k : Nat) : rnA (boxB nodes k l 16) = rnA (brN l.length (posF (treeL k) k nodes.length l)) := by
  refine rnA_congr _ _ rfl rfl (fun d hd => ?_) rfl
  show (if d < 16 then _ else _) = _
  rw [if_pos hd]
  rfl
/-- The box. -/
def Bx7 (W : World) (D : Nat) (n : RN) : Prop := W.heap[D]? = some (.cells (rnA n) 79 (0, 0))
theorem Bx7.lt {D : Nat} {n : RN} (h : Bx7 W D n) : D < W.heap.size := (Array.getElem?_eq_some_iff.1 h).1
theorem Bx7.cell {D : Nat} {n : RN} (h : Bx7 W D n) (d : Nat) (hd : d < 16) : W.cell? ⟨D, 2 + d, none⟩ = some (.int .i64 (n.kids d)) ∧ W.frozen? ⟨D, 2 + d, none⟩ = false := by
  have h' : W.heap[D]? = _ := h
  constructor
  · simp only [World.cell?, h']
    simpa using rnA_at n d hd
  · simp [World.frozen?, h']
theorem Bx7.set {D : Nat} {n : RN} (h : Bx7 W D n) (d : Nat) (hd : d < 16) (x : Int) : Bx7 (W.setCell ⟨D, 2 + d, none⟩ (.int .i64 x)) D (n.put d x) := by
  obtain ⟨hlt, hk⟩ := Array.getElem?_eq_some_iff.1 h
  show (W.heap.modify D _)[D]? = _
  rw [Array.getElem?_eq_getElem (by rw [Array.size_modify]; exact hlt), Array.getElem_modify_self, hk, ← rnA_put n d hd x]
  rfl
theorem Bx7.range {D : Nat} {n : RN} (h : Bx7 W D n) : W.rangeAt D 0 (rnA n).toList := fun j u hu => by
  have h' : W.heap[D]? = _ := h
  rw [Nat.zero_add]
  simp only [World.cell?, h']
  simpa using hu
structure OI (W : World) (D base : Nat) (v : Value) (nodes : List RN) (k : Nat) (l : List R7) (i : Nat) (v' : Value) (wr : World) : Prop where
  own : wr.ownsRow base 79 21 v' (curB nodes k l i).length (cellsN (curB nodes k l i))
  box : Bx7 wr D (boxB nodes k l i)
  gro : Gro v v' W wr
  ne : v'.ownBlock ≠ some D
  D1 : W.heap.size ≤ D
theorem Gro.size {v v' : Value} {A A' : World} (h : Gro v v' A A') : A.heap.size ≤ A'.heap.size := h.1.size
theorem RecRow.gro {v' : Value} (hr : RecRow W lv l) (hs : ∀ g, v.ownBlock = some g → lv.ownBlock ≠ some g) (h : Gro v v' W W') : RecRow W' lv l := by
  rcases hr with hr | ⟨ad, cap, rfl, hr⟩
  · exact .inl hr
  · refine .inr ⟨ad, cap, rfl, fun j r hj => ?_⟩
    obtain ⟨b, off, rfl, hlt, h0, h1, h2⟩ := hr j r hj
    have hk : W'.heap[b]? = W.heap[b]? := h.keep hlt fun e => hs b e rfl
    have hc : ∀ o, W'.cell? ⟨b, o, none⟩ = W.cell? ⟨b, o, none⟩ := fun o => by simp only [World.cell?, hk]
    exact ⟨b, off, rfl, Nat.lt_of_lt_of_le hlt h.size, by rw [hc]; exact h0, by rw [hc]; exact h1, by rw [hc]; exact h2⟩
theorem size_setCell7 (W : World) (a : Addr) (v : Value) : (W.setCell a v).heap.size = W.heap.size := by show (W.heap.modify _ _).size = _; rw [Array.size_modify]
theorem OI.below {D k i : Nat} {v' : Value} {wr w2 : World} (h : OI W D base v nodes k l i v' wr) (hb : Below wr.heap.size wr w2) : OI W D base v nodes k l i v' w2 :=
  ⟨own_kept7 h.own fun g hg => hb.block g (h.own.lt g hg).2, (hb.block D h.box.lt).trans h.box, h.gro.made hb, h.ne, h.D1⟩
theorem OI.put {D k i : Nat} {v' : Value} {wr : World} (h : OI W D base v nodes k l i v' wr) (hi : i < 16) (x : Int) : wr.ownsRow base 79 21 v' (curB nodes k l i).length (cellsN (curB nodes k l i)) ∧ (wr.setCell ⟨D, 2 + i, none⟩ (.int .i64 x)).ownsRow base 79 21 v' (curB nodes k l i).length (cellsN (curB nodes k l i)) ∧ Bx7 (wr.setCell ⟨D, 2 + i, none⟩ (.int .i64 x)) D ((boxB nodes k l i).put i x) ∧ Gro v v' W (wr.setCell ⟨D, 2 + i, none⟩ (.int .i64 x)) :=
  ⟨h.own, ownsRow_setCell_other h.own h.ne _, h.box.set i hi x, ⟨⟨h.gro.1.os, h.gro.1.tape, h.gro.1.output, by rw [size_setCell7]; exact h.gro.size, fun j hj hne => (Below.heap_setCell wr ⟨D, 2 + i, none⟩ _ j (by have := h.D1; show j ≠ D; omega)).trans (h.gro.1.block j hj hne)⟩, h.gro.2⟩⟩
theorem OI.empty {D k i : Nat} {v' : Value} {wr : World} (h : OI W D base v nodes k l i v' wr) (hi : i < 16) (hp : part k i l = []) : OI W D base v nodes k l (i + 1) v' (wr.setCell ⟨D, 2 + i, none⟩ (.int .i64 (-1))) := by
  obtain ⟨_, h1, h2, h3⟩ := h.put hi (-1)
  exact ⟨by rw [curB_none hp]; exact h1, by rw [← boxB_none hp]; exact h2, h3, h.ne, h.D1⟩
theorem OI.full {D k i : Nat} {v' v2 : Value} {wr w4 : World} (h : OI W D base v nodes k l i v' wr) (hi : i < 16) (hp : part k i l ≠ [])
    (ho : w4.ownsRow base 79 21 v2 (curB nodes k l i ++ treeL k (curB nodes k l i).length (part k i l)).length (cellsN (curB nodes k l i ++ treeL k (curB nodes k l i).length (part k i l)))) (hg : Gro v' v2 (wr.setCell ⟨D, 2 + i, none⟩ (.int .i64 (-1))) w4) :
    Bx7 w4 D ((boxB nodes k l i).put i (-1)) ∧ OI W D base v nodes k l (i + 1) v2 (w4.setCell ⟨D, 2 + i, none⟩ (.int .i64 ((curB nodes k l i).length : Nat))) := by
  obtain ⟨_, h1, h2, h3⟩ := h.put hi (-1)
  have h4 : Bx7 w4 D ((boxB nodes k l i).put i (-1)) := (hg.keep h2.lt h.ne).trans h2
  have h5 := h3.trans hg
  have hne : v2.ownBlock ≠ Option.some D := fun e => by
    rcases hg.2 D e with h6 | h6
    · exact h.ne h6
    · have := h2.lt; omega
  refine ⟨h4, ?_, ?_, ?_, hne, h.D1⟩
  · rw [curB_some hp]; exact ownsRow_setCell_other ho hne _
  · rw [← boxB_some hp]; exact h4.set i hi _
  · exact ⟨⟨h5.1.os, h5.1.tape, h5.1.output, by rw [size_setCell7]; exact h5.size, fun j hj hne => (Below.heap_setCell w4 ⟨D, 2 + i, none⟩ _ j (by have := h.D1; show j ≠ D; omega)).trans (h5.1.block j hj hne)⟩, h5.2⟩
theorem subs_bound {k : Nat} (hu : Up l) (ha : Agree l (k + 1)) (at' i : Nat) : (subsF (treeL k) k at' l i).length ≤ (k + 1) * (upto k i l).length := by
  induction i with
  | zero => simp [subsF]
  | succ i ih2 =>
    rw [subsF, upto_succ ha hu, List.length_append, Nat.mul_add]
    split
    · rename_i h; rw [h]; simp; exact ih2
    · rename_i h
      rw [List.length_append]
      have := tree_len k (at' + 1 + (subsF (treeL k) k at' l i).length) (part k i l) h (hu.filter _) (ha.part i)
      omega
theorem cur_bound {k N : Nat} (hu : Up l) (ha : Agree l (k + 1)) (hne : l ≠ []) {i : Nat} (hi : i < 16) (hb : N + (k + 1 + 1) * l.length ≤ 100000) (hN : nodes.length = N) : (curB nodes k l i).length + (k + 1) * (part k i l).length ≤ 100000 := by
  have h1 := subs_bound hu ha nodes.length i
  have h2 := upto_succ ha hu i
  have h3 : (upto k (i + 1) l).length ≤ l.length := List.length_filter_le _ _
  rw [h2, List.length_append] at h3
  have h4 := List.length_pos_iff.2 hne
  rw [curB_len]
  have h5 : (k + 1) * ((upto k i l).length + (part k i l).length) ≤ (k + 1) * l.length := Nat.mul_le_mul_left _ h3
  rw [Nat.mul_add] at h5
  have h6 : (k + 1 + 1) * l.length = (k + 1) * l.length + l.length := by rw [Nat.add_mul, Nat.one_mul]
  omega
def cellsR (l : List R7) : List Value := l.flatMap fun r => [.int .u32 r.uid, .int .u8 r.fl, .string r.tx]
theorem cellsR_app (a b : List R7) : cellsR (a ++ b) = cellsR a ++ cellsR b := by unfold cellsR; rw [List.flatMap_append]
theorem cellsR_at (l : List R7) : ∀ (j : Nat) (r : R7), l[j]? = some r → (cellsR l)[j * 3]? = some (.int .u32 r.uid) ∧ (cellsR l)[j * 3 + 1]? = some (.int .u8 r.fl) ∧ (cellsR l)[j * 3 + 2]? = some (.string r.tx) := by
  induction l with
  | nil => intro j r h; simp at h
  | cons a t ih =>
    intro j r h
    have e : cellsR (a :: t) = [.int .u32 a.uid, .int .u8 a.fl, .string a.tx] ++ cellsR t := by unfold cellsR; rw [List.flatMap_cons]
    rw [e]
    cases j with
    | zero => cases h; exact ⟨rfl, rfl, rfl⟩
    | succ j =>
      obtain ⟨h0, h1, h2⟩ := ih j r h
      refine ⟨?_, ?_, ?_⟩
      · rw [List.getElem?_append_right (by simp; omega)]; rw [← h0]; congr 1; simp; omega
      · rw [List.getElem?_append_right (by simp; omega)]; rw [← h1]; congr 1; simp; omega
      · rw [List.getElem?_append_right (by simp; omega)]; rw [← h2]; congr 1; simp; omega
theorem RecRow.of_own {wr : World} {D : Nat} {pv : Value} {p : List R7} (h : wr.ownsRow D 50 3 pv p.length (cellsR p)) : RecRow wr pv p := by
  rcases h.2 with ⟨rfl, h0⟩ | ⟨g, cap, cur, rfl, hg, hgg, _, _, hcs, htk⟩
  · exact .inl ⟨rfl, List.length_eq_zero_iff.1 h0⟩
  · refine .inr ⟨_, cap, rfl, fun j r hj => ⟨g, 0, rfl, (Array.getElem?_eq_some_iff.1 hgg).1, ?_⟩⟩
    obtain ⟨h0, h1, h2⟩ := cellsR_at p j r hj
    have hc := h.cells (g := g) rfl
    rw [Nat.zero_add]
    have e : ∀ o, (⟨g, 0, none⟩ : Addr).add o = ⟨g, o, none⟩ := fun o => by unfold Addr.add; split <;> simp_all
    exact ⟨by rw [← e]; exact hc _ _ h0, by rw [← e]; exact hc _ _ h1, by rw [← e]; exact hc _ _ h2⟩
theorem part_take {k d j : Nat} {r : R7} (h : l[j]? = some r) : part k d (l.take (j + 1)) = part k d (l.take j) ++ if dig r.uid k = d then [r] else [] := by
  obtain ⟨hk, hr⟩ := List.getElem?_eq_some_iff.1 h
  unfold part
  rw [List.take_succ_eq_append_getElem hk, hr, List.filter_append]
  congr 1
  by_cases hd : dig r.uid k = d <;> simp [hd]
theorem info7R : (Try.prog.info? 50).map (fun i => (i.zero, i.size, i.bytes)) = some (some (.agg #[.int .u32 0, .int .u8 0, .string ⟨#[]⟩]), 3, 24) := by kernel_rfl
end Go.Proofs.Ytdelhpogacccjaa

/-
  The walk through a node and all below it: the iterator, begun.
-/
import Derived.Test.YtdelhpogacccjaaMet
import Derived.Test.YtdelhpogacccjaaTrP1
import Derived.Maps.OwnIn
set_option linter.unusedVariables false
set_option linter.unusedSimpArgs false
namespace Go.Proofs.Ytdelhpogacccjaa
open Go Go.RowKit
theorem wide_fn' (f : FuncId) : Fence.wide.fn f := trivial
theorem wide_depth' : Fence.wide.depth = none := rfl
attribute [local go_sem] Oper.semAt_some wide_fn' wide_depth'

/-- What the iterator has captured: the store, the slot, the rank, the slots that were met. -/
structure FCap (b1 b2 b3 b4 M : Nat) (v : Value) (ns : List TN) (s : Int) (k n : Nat) (S : Int → Prop) (W : World) : Prop where
  st : Boxed W b1 82 (iS v)
  sl : Boxed W b2 3 (.int .i64 s)
  rk : Boxed W b3 3 (.int .i64 ((k : Int) - 1))
  mp : Boxed W b4 86 (.map (some M))
  sh : ShelfRow W v ns
  mt : MetAt W M n S
def fcap (b1 b2 b3 b4 M : Nat) (v : Value) (k : Nat) : Prop := k = b1 ∨ k = b2 ∨ k = b3 ∨ k = b4 ∨ k = M ∨ v.ownBlock = some k
def fT0 (e : TypeId) : Prop := e = 82 ∨ e = 3 ∨ e = 86 ∨ e = 45 ∨ e = 83
theorem ShelfRow.keep {v : Value} {ns : List TN} {W W' : World} (h : ShelfRow W v ns) (hs : W.heap.size ≤ W'.heap.size) (hk : ∀ k, v.ownBlock = some k → k < W.heap.size → W'.heap[k]? = W.heap[k]?) : ShelfRow W' v ns := by
  rcases h with h | ⟨ad, cap, rfl, h⟩
  · exact .inl h
  · refine .inr ⟨ad, cap, rfl, fun j n hj => ?_⟩
    obtain ⟨b, off, rfl, hlt, h0⟩ := h j n hj
    refine ⟨b, off, rfl, Nat.lt_of_lt_of_le hlt hs, fun i u hu => ?_⟩
    have := h0 i u hu
    simp only [World.cell?, hk b rfl hlt]
    exact this
theorem some_obj {W : World} {k : Nat} (h : k < W.heap.size) : ∃ o, W.heap[k]? = some o := ⟨_, Array.getElem?_eq_getElem h⟩
theorem FCap.keeps {b1 b2 b3 b4 M : Nat} {v : Value} {ns : List TN} {s : Int} {k n D : Nat} {S : Int → Prop} {T : TypeId → Prop} {W W' : World} (h : FCap b1 b2 b3 b4 M v ns s k n S W) (hk : Keeps T (fcap b1 b2 b3 b4 M v) D W W') : FCap b1 b2 b3 b4 M v ns s k n S W' := by
  refine ⟨hk.boxed h.st (.inl (.inl rfl)), hk.boxed h.sl (.inl (.inr (.inl rfl))), hk.boxed h.rk (.inl (.inr (.inr (.inl rfl)))), hk.boxed h.mp (.inl (.inr (.inr (.inr (.inl rfl))))), ?_, ?_⟩
  · exact h.sh.keep hk.size fun j hj hlt => by
      obtain ⟨o, ho⟩ := some_obj hlt
      rw [ho]; exact hk.same j o ho (.inl (.inr (.inr (.inr (.inr (.inr hj))))))
  · obtain ⟨es, c, ho⟩ := h.mt.obj
    exact h.mt.later (by rw [ho]; exact hk.same M _ ho (.inl (.inr (.inr (.inr (.inr (.inl rfl)))))))
theorem FCap.below {b1 b2 b3 b4 M : Nat} {v : Value} {ns : List TN} {s : Int} {k n : Nat} {S : Int → Prop} {W W' : World} (h : FCap b1 b2 b3 b4 M v ns s k n S W) (hb : Below W.heap.size W W') : FCap b1 b2 b3 b4 M v ns s k n S W' :=
  ⟨(hb.block _ (lt_of_block h.st)).trans h.st, (hb.block _ (lt_of_block h.sl)).trans h.sl, (hb.block _ (lt_of_block h.rk)).trans h.rk, (hb.block _ (lt_of_block h.mp)).trans h.mp, h.sh.below hb, h.mt.later (hb.block _ h.mt.lt)⟩
theorem from_c {W : World} (v : Value) (s r : Int) (M : Nat) : Calls Try.prog 29 #[iS v, .int .i64 s, .int .i64 r, .map (some M)] W fun e w' =>
    e = .returned (.func (.func 58) #[] #[.pointer (some ⟨W.heap.size, 0, none⟩), .pointer (some ⟨W.heap.size + 1, 0, none⟩), .pointer (some ⟨W.heap.size + 2, 0, none⟩), .pointer (some ⟨W.heap.size + 3, 0, none⟩)]) ∧
      (((W.alloc (.cells #[iS v] 82)).alloc (.cells #[.int .i64 s] 3)).alloc (.cells #[.int .i64 r] 3)).alloc (.cells #[.map (some M)] 86) = w' := by
  unfold iS
  go_enter Try.func29, Try.ntmps29
  go_wp2_with fail
  go_ret
  exact ⟨rfl, rfl⟩
def restN (ns : List TN) (k : Nat) (n : TN) : List (Int × TN) := match k with | 0 => [] | k + 1 => preTo ns k n 16
theorem preN_any (ns : List TN) (k : Nat) (s : Int) : preN ns k s = if (nodeOf ns s ((k : Int) - 1)).2 = true then (s, (nodeOf ns s ((k : Int) - 1)).1) :: restN ns k (nodeOf ns s ((k : Int) - 1)).1 else [] := by
  cases k with
  | zero => rfl
  | succ k => rw [show (((k + 1 : Nat) : Int) - 1) = (k : Int) by omega]; rfl
theorem nodeOf_range {ns : List TN} {s R : Int} (h : (nodeOf ns s R).2 = true) : 0 ≤ s ∧ s < ns.length := by
  unfold nodeOf at h
  by_cases h0 : s < 0
  · rw [if_pos h0] at h; cases h
  · rw [if_neg h0] at h
    by_cases h1 : (atOf ns s).2 = true ∧ (atOf ns s).1.kind = (if R = -1 then 2 else 1)
    · have h2 := h1.1
      unfold atOf at h2
      rw [if_neg h0] at h2
      cases h3 : ns[s.toNat]? with
      | none => rw [h3] at h2; cases h2
      | some n => have := (List.getElem?_eq_some_iff.1 h3).1; omega
    · rw [if_neg h1] at h; cases h
theorem wpListIn_load_mid {F : Fence} {nF : Nat} {P : Program} {ops : Array Oper} {rest : List Oper} {op : Oper} {a : Act} {w : World} {Q : Exit → Act → World → Prop} (hw : Region.wanted op (yielded ops a.tmps) = true) (ty : TypeId) (x : Operand) (ho : op.op = .load ty x)
    (b o : Nat) (hx : a.eval x = .pointer (some ⟨b, o, none⟩)) (cs : List Value) (d : TypeDesc) (hc : w.rangeAt b o cs)
    (hu : P.underlying ty = some d) (hd : d.isRow = true) (hi : (P.info? ty).map (·.size) = some cs.length)
    (h : wpListIn F nF P ops Q rest (a.put op.dst (.agg cs.toArray)) w) : wpListIn F nF P ops Q (op :: rest) a w := by
  refine wpListIn_step fun K' hK' => ?_
  rw [if_pos hw]
  unfold Oper.wpIn
  refine ⟨by simp [Oper.about, ho], ?_⟩
  rw [Oper.semAt_plain F _ _ (by rw [ho]; intro c hc'; cases hc')]
  simp only [execOp, ho, hx, Instr.loadAt, Instr.sureAddr, Sem.run_bind, Sem.run_pure, Result.andThen_ok, run_loadVar_mid w b o ty cs d hc hu hd hi]
  exact hK' _ _ h
def IterF (k : Nat) : Prop := ∀ (b1 b2 b3 b4 M n : Nat) (v : Value) (ns : List TN) (s : Int) (S : Int → Prop), ns.length ≤ 100000 → ((preN ns k s).map Prod.fst).Nodup → (∀ x, x ∈ preN ns k s → ¬ S x.1) → n + (preN ns k s).length ≤ 100000 →
    IterM Try.prog 58 #[.pointer (some ⟨b1, 0, none⟩), .pointer (some ⟨b2, 0, none⟩), .pointer (some ⟨b3, 0, none⟩), .pointer (some ⟨b4, 0, none⟩)] (fun x : Int × TN => #[.int .i64 x.1, .agg (nodeA x.2)]) fT0 (fcap b1 b2 b3 b4 M v) (fun k => k = M) (FCap b1 b2 b3 b4 M v ns s k n S)
      (fun pre x => pre ++ [x] <+: preN ns k s) (fun xs => xs = preN ns k s) (fun pre => pre <+: preN ns k s) (fun W => MetAt W M (n + (preN ns k s).length) (fun x => S x ∨ ∃ y, y ∈ preN ns k s ∧ y.1 = x))
theorem wpListIn_store_row {F : Fence} {nF : Nat} {P : Program} {ops : Array Oper} {rest : List Oper} {o : Oper} {a : Act} {w : World} {Q : Exit → Act → World → Prop} (hw : Region.wanted o (yielded ops a.tmps) = true) (ty : TypeId) (x y : Operand) (ho : o.op = .store ty x y)
    (g : Nat) (cells : Array Value) (hx : a.eval x = .pointer (some ⟨g, 0, none⟩)) (hy : a.eval y = .agg cells)
    (t : TypeId) (old : Array Value) (hg : w.heap[g]? = some (.cells old t (0, 0))) (hi : (P.info? ty).map (·.size) = some cells.size)
    (hold : old.size = cells.size) (h1 : cells.all (·.oneCell') = true)
    (h : wpListIn F nF P ops Q rest (a.put o.dst undef) (w.setRow g cells)) : wpListIn F nF P ops Q (o :: rest) a w := by
  refine wpListIn_step fun K' hK' => ?_
  rw [if_pos hw]
  unfold Oper.wpIn
  refine ⟨by simp [Oper.about, ho], ?_⟩
  rw [Oper.semAt_plain F _ _ (by rw [ho]; intro c hc'; cases hc')]
  simp only [execOp, ho, hx, hy, Instr.storeAt, Instr.sureAddr, Sem.run_bind, Sem.run_pure, Result.andThen_ok, run_storeVar_row (P := P) w g t ty old cells hg hi hold h1]
  exact hK' _ _ h
theorem preTo_split (ns : List TN) (k : Nat) (n : TN) (i j : Nat) (h : i ≤ j) : ∃ t, preTo ns k n j = preTo ns k n i ++ t := by
  induction j with
  | zero => obtain rfl : i = 0 := by omega
            exact ⟨[], by simp⟩
  | succ j ih =>
    by_cases e : i = j + 1
    · subst e; exact ⟨[], by simp⟩
    · obtain ⟨t, ht⟩ := ih (by omega)
      exact ⟨t ++ preN ns k (n.kids j), by rw [preTo_succ, ht, List.append_assoc]⟩
/-- The part of a digit in what a branch hands out. -/
theorem seg (ns : List TN) (k : Nat) (n : TN) (i : Nat) (hi : i < 16) : ∃ t, preTo ns k n 16 = preTo ns k n i ++ preN ns k (n.kids i) ++ t := by
  obtain ⟨t, ht⟩ := preTo_split ns k n (i + 1) 16 (by omega)
  exact ⟨t, by rw [ht, preTo_succ]⟩
theorem Boxed.atNew (W : World) (t : TypeId) (u : Value) (k : Nat) (hk : k = W.heap.size) : Boxed (W.alloc (.cells #[u] t)) k t u := by subst hk; exact Boxed.new W t u
theorem ShelfRow.blk {W : World} {v : Value} {ns : List TN} (h : ShelfRow W v ns) (hn : 0 < ns.length) {k : Nat} (hk : v.ownBlock = some k) : k < W.heap.size ∧ ∃ c, W.cell? ⟨k, c, none⟩ ≠ none := by
  rcases h with ⟨_, h⟩ | ⟨ad, cap, rfl, h⟩
  · rw [h] at hn; simp at hn
  · obtain ⟨b, off, rfl, hlt, h0⟩ := h 0 _ (List.getElem?_eq_getElem hn)
    cases hk
    refine ⟨hlt, off + 0 * 26 + 0, ?_⟩
    rw [h0 0 _ (show (nodeA _).toList[0]? = some _ from rfl)]
    simp
/-- What a fresh closure has captured. -/
theorem FCap.fresh {W : World} {v : Value} {ns : List TN} {M n k : Nat} {S : Int → Prop} (hs : ShelfRow W v ns) (hm : MetAt W M n S) (s : Int) (B : Nat) (hB : W.heap.size = B) :
    FCap B (B + 1) (B + 2) (B + 3) M v ns s k n S ((((W.alloc (.cells #[iS v] 82)).alloc (.cells #[.int .i64 s] 3)).alloc (.cells #[.int .i64 ((k : Int) - 1)] 3)).alloc (.cells #[.map (some M)] 86)) := by
  have hb : Below W.heap.size W ((((W.alloc (.cells #[iS v] 82)).alloc (.cells #[.int .i64 s] 3)).alloc (.cells #[.int .i64 ((k : Int) - 1)] 3)).alloc (.cells #[.map (some M)] 86)) :=
    ((((Below.refl _ _).alloc (Nat.le_refl _) _).alloc (by simp) _).alloc (by simp; omega) _).alloc (by simp; omega) _
  exact ⟨(((Boxed.atNew W _ _ B hB.symm).alloc _).alloc _).alloc _, ((Boxed.atNew _ _ _ (B + 1) (by simp [hB])).alloc _).alloc _, (Boxed.atNew _ _ _ (B + 2) (by simp [hB])).alloc _, Boxed.atNew _ _ _ (B + 3) (by simp [hB]), hs.below hb, hm.later (hb.block _ hm.lt)⟩
end Go.Proofs.Ytdelhpogacccjaa

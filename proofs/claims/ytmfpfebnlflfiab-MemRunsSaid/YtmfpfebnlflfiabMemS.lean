/-
  The document's memory: a store: contract.
-/
import Derived.Test.YtmfpfebnlflfiabMemR
import Derived.Deep.RegionHeld3
import Derived.Deep.RegionLaw
import Derived.Deep.AppendLies
import Derived.Deep.DrawnRows
import Derived.OwnWalk
import Derived.Laws.AppendOwnNone
set_option linter.unusedVariables false
set_option linter.unusedSimpArgs false
namespace Go.Proofs.Ytmfpfebnlflfiab
open Go Go.RowKit
attribute [local go_sem ↓] Go.wp_at_zero Go.wp_at_succ

theorem infoCh : (Try.prog.info? 42).map (fun i => (i.zero, i.size, i.bytes)) = some (some (.agg #[.int .i64 0, .int .u64 0, .int .u64 0]), 3, 24) := by kernel_rfl
theorem own_mono {w : World} {B B' e size n : Nat} {v : Value} {xs : List Value} (h : w.ownsRow B e size v n xs) (hB : B' ≤ B) : w.ownsRow B' e size v n xs := by
  refine ⟨h.1, ?_⟩
  rcases h.2 with hn | ⟨g, cap, cur, rfl, hg, rest⟩
  · exact .inl hn
  · exact .inr ⟨g, cap, cur, rfl, by omega, rest⟩
/-- A new row of no element. -/
theorem own_new (W : World) (B e size : Nat) (hB : B ≤ W.heap.size) : (W.alloc (.cells #[] e)).ownsRow B e size (.slice (some ⟨W.heap.size, 0, none⟩) 0 0) 0 [] :=
  ⟨by simp, .inr ⟨W.heap.size, 0, #[], rfl, hB, heap_alloc_new W _, Nat.le_refl _, by unfold maxLen; omega, by simp, by simp⟩⟩

/-- What stands while the new list is made: the struct, the result, the list that was. -/
def Rest (w0 : World) (n : Nat) (t1 : Int) (v : Value) (B N : Nat) (xs : List Value) (w : World) : Prop :=
  Below w0.heap.size w0 w ∧ Tri w w0.heap.size 29 (.int .i64 n) (.int .u64 t1) v ∧ Tri w (w0.heap.size + 1) 29 (.int .i64 0) (.int .u64 0) (.slice none 0 0) ∧ w.ownsRow B 42 3 v N xs ∧ ∀ k, v.ownBlock = some k → k < w0.heap.size
theorem Rest.lt {w0 : World} {n : Nat} {t1 : Int} {v : Value} {B N : Nat} {xs : List Value} {w : World} (h : Rest w0 n t1 v B N xs w) : w0.heap.size + 1 < w.heap.size := h.2.2.1.lt
theorem Rest.cells {w0 : World} {n : Nat} {t1 : Int} {v : Value} {B N : Nat} {xs : List Value} {w : World} (h : Rest w0 n t1 v B N xs w) :
    w.cell? ⟨w0.heap.size, 1, none⟩ = some (.int .u64 t1) ∧ w.cell? ⟨w0.heap.size, 2, none⟩ = some v ∧ w.frozen? ⟨w0.heap.size, 2, none⟩ = false ∧ Rest w0 n t1 v B N xs w := ⟨h.2.1.cell.2.1, h.2.1.cell.2.2.1, h.2.1.cell.2.2.2.2.2, h⟩
theorem Rest.drew {w0 : World} {n : Nat} {t1 : Int} {v : Value} {B N : Nat} {xs : List Value} {w : World} (h : Rest w0 n t1 v B N xs w) : Rest w0 n t1 v B N xs w.drew := ⟨h.1.drew, h.2.1, h.2.2.1, h.2.2.2.1.drew, h.2.2.2.2⟩
theorem Rest.alloc {w0 : World} {n : Nat} {t1 : Int} {v : Value} {B N : Nat} {xs : List Value} {w : World} (h : Rest w0 n t1 v B N xs w) (o : Obj) : Rest w0 n t1 v B N xs (w.alloc o) :=
  have hb : Below w.heap.size w (w.alloc o) := (Below.refl _ _).alloc (Nat.le_refl _) _
  ⟨h.1.alloc (by have := h.lt; omega) _, h.2.1.below hb (by have := h.lt; omega), h.2.2.1.below hb h.lt, h.2.2.2.1.alloc _, h.2.2.2.2⟩
theorem Rest.grown {w0 : World} {n : Nat} {t1 : Int} {v : Value} {B N : Nat} {xs : List Value} {w w' : World} (h : Rest w0 n t1 v B N xs w) {r : Option Nat} (hg : w.grownBy w' r) (hr : ∀ k, r = some k → w0.heap.size + 2 ≤ k) : Rest w0 n t1 v B N xs w' := by
  have hv := h.2.2.2.2
  have hb : Below (w0.heap.size + 2) w w' := (Below.refl _ _).grown hg (by have := h.lt; omega) hr
  refine ⟨h.1.trans (hb.mono (by omega)), h.2.1.below hb (by omega), h.2.2.1.below hb (by omega), ⟨h.2.2.2.1.1, ?_⟩, h.2.2.2.2⟩
  rcases h.2.2.2.1.2 with hn | ⟨g, cap, cur, rfl, hg2, hgg, rest⟩
  · exact .inl hn
  · exact .inr ⟨g, cap, cur, rfl, hg2, by rw [hb.block g (by have := hv g rfl; omega)]; exact hgg, rest⟩

theorem Rest.news {w0 : World} {n : Nat} {t1 : Int} {g cp : Nat} {B N : Nat} {xs : List Value} {w : World} (h : Rest w0 n t1 (.slice (some ⟨g, 0, none⟩) N cp) B N xs w) : ∀ j u, xs[j]? = some u → w.cell? ((⟨g, 0, none⟩ : Addr).add j) = some u := by
  intro j u hu
  have ho := h.2.2.2.1
  have hj : j < xs.length := (List.getElem?_eq_some_iff.1 hu).1
  have e : ((⟨g, 0, none⟩ : Addr).add j) = ⟨g, j, none⟩ := by unfold Addr.add; split <;> simp_all
  rw [e, ho.cellAt _ (by rw [← ho.1]; exact hj), hu]

theorem alloc_at {w : World} {o : Obj} {H : Nat} (h : H = w.heap.size) : (w.alloc o).heap[H]? = some o := by rw [h]; exact heap_alloc_new w o
theorem alloc_past {w : World} {o x : Obj} {H : Nat} (h : w.heap[H]? = some x) : (w.alloc o).heap[H]? = some x := (Below.heap_alloc w o H (lt_of_block h)).trans h
theorem grown_at {w w' : World} {r : Option Nat} {x : Obj} {H : Nat} (hg : w.grownBy w' r) (h : w.heap[H]? = some x) (hne : some H ≠ r) : w'.heap[H]? = some x := (hg.block H (lt_of_block h) hne).trans h

theorem stepA {ops : Array Oper} {o : Oper} {a : Act} {w w0 : World} {K : Act → World → Prop} {Q : Exit → Act → World → Prop} {E : Prop} {n : Nat} {t1 : Int} {g0 cp B N : Nat} {xs : List Value} (hgd : o.guard = none) (s x : Operand)
    (ho : o.op = .call { callee := .builtin .append, args := #[s, x], argTypes := #[27, 27] }) (hR : Rest w0 n t1 (.slice (some ⟨g0, 0, none⟩) N cp) B N xs w) (h0 : 0 < N) (hN : N ≤ 1000) (h1 : ∀ u ∈ xs, u.oneCell' = true)
    (H : Nat) (hs : a.eval s = .slice (some ⟨H, 0, none⟩) 0 0) (hx : a.eval x = .slice (some ⟨g0, 0, none⟩) N cp) (hb : w.heap[H]? = some (.cells #[] 42 (0, 0))) (hH : w0.heap.size + 2 ≤ H)
    (h : ∀ g cap w', Rest w0 n t1 (.slice (some ⟨g0, 0, none⟩) N cp) B N xs w' → w'.ownsRow (w0.heap.size + 2) 42 3 (.slice (some ⟨g, 0, none⟩) N cap) N xs → w.grownBy w' (some H) → K (a.put o.dst (.slice (some ⟨g, 0, none⟩) N cap)) w') :
    if Region.wanted o (yielded ops a.tmps) = true then Oper.wp Try.prog o a w K Q else E := by
  obtain ⟨i0, hi0, hz0, hz1, hz2⟩ := info_parts infoCh
  have hown : w.ownsRow (w0.heap.size + 2) 42 3 (.slice (some ⟨H, 0, none⟩) 0 0) 0 [] := ⟨by simp, .inr ⟨H, 0, #[], rfl, hH, hb, Nat.le_refl _, by unfold maxLen; omega, by simp, by simp⟩⟩
  refine step_append_lies _ hgd s x _ ho (w0.heap.size + 2) 42 i0 _ 3 24 Try.underlying27 hi0 hz0 hz1 hz2 rfl (by omega) _ 0 [] hs hown ⟨g0, 0, none⟩ N cp xs hx hR.2.2.2.1.1 hR.news h1 h0 (by unfold maxLen; omega) (by omega) hR.lt _ rfl ?_
  intro g cap w' hown' hgrow hat hlt
  rw [Nat.zero_add, List.nil_append] at hown'
  rw [Nat.zero_add]
  exact h g cap w' (hR.grown hgrow (fun k hk => by simp [Value.ownBlock] at hk; omega)) hown' hgrow

theorem stepB {ops : Array Oper} {o : Oper} {a : Act} {w w0 : World} {K : Act → World → Prop} {Q : Exit → Act → World → Prop} {E : Prop} {n : Nat} {t1 : Int} {B N M : Nat} {v0 : Value} {ys xs : List Value} (hgd : o.guard = none) (s x : Operand)
    (ho : o.op = .call { callee := .builtin .append, args := #[s, x], argTypes := #[27, 27] }) (hR : Rest w0 n t1 v0 B M ys w) (hN : N ≤ 1000)
    (g cap : Nat) (hs : a.eval s = .slice (some ⟨g, 0, none⟩) N cap) (hown : w.ownsRow (w0.heap.size + 2) 42 3 (.slice (some ⟨g, 0, none⟩) N cap) N xs)
    (H : Nat) (hx : a.eval x = .slice (some ⟨H, 0, none⟩) 1 1) (c0 c1 c2 : Value) (hb : w.heap[H]? = some (.cells #[c0, c1, c2] 42 (0, 0))) (h1 : ∀ u ∈ [c0, c1, c2], u.oneCell' = true)
    (h : ∀ g cap w', Rest w0 n t1 v0 B M ys w' → w'.ownsRow (w0.heap.size + 2) 42 3 (.slice (some ⟨g, 0, none⟩) (N + 1) cap) (N + 1) (xs ++ [c0, c1, c2]) → K (a.put o.dst (.slice (some ⟨g, 0, none⟩) (N + 1) cap)) w') :
    if Region.wanted o (yielded ops a.tmps) = true then Oper.wp Try.prog o a w K Q else E := by
  obtain ⟨i0, hi0, hz0, hz1, hz2⟩ := info_parts infoCh
  refine step_append_lies _ hgd s x _ ho (w0.heap.size + 2) 42 i0 _ 3 24 Try.underlying27 hi0 hz0 hz1 hz2 rfl (by omega) _ N xs hs hown ⟨H, 0, none⟩ 1 1 [c0, c1, c2] hx rfl (World.news_of_block hb) h1 (by omega) (by unfold maxLen; omega) (by omega) hR.lt _ rfl ?_
  intro g' cap' w' hown' hgrow hat hlt
  have hg := (hown.lt g rfl).1
  exact h g' cap' w' (hR.grown hgrow (fun k hk => by simp [Value.ownBlock] at hk; omega)) hown'

theorem own_of_block {w : World} {H D e size : Nat} (hb : w.heap[H]? = some (.cells #[] e (0, 0))) (hD : D ≤ H) : w.ownsRow D e size (.slice (some ⟨H, 0, none⟩) 0 0) 0 [] :=
  ⟨by simp, .inr ⟨H, 0, #[], rfl, hD, hb, Nat.le_refl _, by unfold maxLen; omega, by simp, by simp⟩⟩
theorem stepN {ops : Array Oper} {o : Oper} {a : Act} {w : World} {K : Act → World → Prop} {Q : Exit → Act → World → Prop} {E : Prop} (hgd : o.guard = none) (s x : Operand)
    (ho : o.op = .call { callee := .builtin .append, args := #[s, x], argTypes := #[27, 27] })
    (H : Nat) (hs : a.eval s = .slice (some ⟨H, 0, none⟩) 0 0) (hx : a.eval x = .slice none 0 0) (hb : w.heap[H]? = some (.cells #[] 42 (0, 0)))
    (h : K (a.put o.dst (.slice (some ⟨H, 0, none⟩) 0 0)) w) :
    if Region.wanted o (yielded ops a.tmps) = true then Oper.wp Try.prog o a w K Q else E := by
  obtain ⟨i0, hi0, hz0, hz1, hz2⟩ := info_parts infoCh
  have hrun := run_append_owned_none (P := Try.prog) (w := w) 0 27 o.type 42 i0 3 Try.underlying27 hi0 (.slice (some ⟨H, 0, none⟩) 0 0) 0 [] (own_of_block hb (Nat.zero_le _))
  have hw : Region.wanted o (yielded ops a.tmps) = true := by simp [Region.wanted, hgd]
  rw [if_pos hw]
  unfold Oper.wp
  simp [execOp, ho, resolve, invoke, builtin, hs, hx, hrun, Result.andThen]
  exact h

theorem fin_own {w : World} {D e n : Nat} {v : Value} {xs : List Value} (h : w.ownsRow (D + 2) e 3 v n xs) (x a b c : Value) :
    ((((w.setCell ⟨D, 2, none⟩ x).setCell ⟨D + 1, 0, none⟩ a).setCell ⟨D + 1, 1, none⟩ b).setCell ⟨D + 1, 2, none⟩ c).ownsRow D e 3 v n xs := by
  have hk : ∀ k, k < D + 2 → v.ownBlock ≠ some k := fun k hk e => by have := (h.lt k e).1; omega
  exact ownsRow_setCell_other (ownsRow_setCell_other (ownsRow_setCell_other (ownsRow_setCell_other (own_mono h (by omega)) (hk _ (by show D < D + 2; omega)) _) (hk _ (by show D + 1 < D + 2; omega)) _) (hk _ (by show D + 1 < D + 2; omega)) _) (hk _ (by show D + 1 < D + 2; omega)) _
theorem fin_below {w0 w : World} {D : Nat} (h : Below D w0 w) (x a b c : Value) : Below D w0 ((((w.setCell ⟨D, 2, none⟩ x).setCell ⟨D + 1, 0, none⟩ a).setCell ⟨D + 1, 1, none⟩ b).setCell ⟨D + 1, 2, none⟩ c) :=
  (((h.setCell (p := ⟨D, 2, none⟩) (Nat.le_refl _) x).setCell (p := ⟨D + 1, 0, none⟩) (Nat.le_succ _) a).setCell (p := ⟨D + 1, 1, none⟩) (Nat.le_succ _) b).setCell (p := ⟨D + 1, 2, none⟩) (Nat.le_succ _) c
theorem results_store (tmps : Array Value) (w : World) (B : Nat) (a b c : Value) (h : Tri w B 29 a b c) (h2 : tmps.getD 6 undef = .pointer (some ⟨B, 0, none⟩)) :
    (results Try.f14 tmps).run Try.prog w = .ok (.agg #[a, b, c]) w := by
  obtain ⟨c0, c1, c2, _⟩ := h.cell
  have h2' : tmps[6]?.getD undef = .pointer (some ⟨B, 0, none⟩) := by simpa using h2
  simp [results, Try.f14, go_sem, h2', c0, c1, c2]

set_option maxRecDepth 20000 in
set_option maxHeartbeats 4000000 in
theorem rmStore_some (B n t : Nat) (v : Value) (l : List Ch) (hl : l.length ≤ 1000) (h0 : 0 < l.length) (ht : t < 1000000000) (k x : Nat) (hk : k < n) (w : World) (ho : w.ownsRow B 42 3 v l.length (cellsC l)) (hB : B ≤ w.heap.size) :
    Calls Try.prog 14 #[memV n t v, .int .i64 k, .int .u64 x] w fun e w' => (∃ v', e = .returned (memV n (t + 1) v') ∧ w'.ownsRow w.heap.size 42 3 v' (l.length + 1) (cellsC (l ++ [(k, x, t + 1)]))) ∧ Below w.heap.size w w' := by
  obtain ⟨i0, hi0, hz0, hz1, hz2⟩ := info_parts infoCh
  obtain ⟨ad, cp, rfl⟩ := own_form ho
  obtain ⟨N, hN⟩ : ∃ N, N = l.length := ⟨_, rfl⟩
  rw [← hN] at ho hl h0 ⊢
  obtain ⟨g0, rfl⟩ : ∃ g, ad = some ⟨g, 0, none⟩ := by
    rcases ho.2 with ⟨h, h2⟩ | ⟨g, cap, cur, h, _⟩
    · omega
    · cases h; exact ⟨g, rfl⟩
  have hg0 : g0 < w.heap.size := (ho.lt _ rfl).2
  have C1 := Lib.hid (rmHas_yes n t (.slice (some ⟨g0, 0, none⟩) N cp) k hk)
  have HO := Lib.hid ho
  have HN := Lib.hid hN
  obtain ⟨XS, hXS⟩ : ∃ XS, XS = cellsC l := ⟨_, rfl⟩
  rw [← hXS] at HO
  have HX := Lib.hid hXS
  have HX1 : Hid (∀ u ∈ XS, u.oneCell' = true) := by
    show ∀ u ∈ XS, u.oneCell' = true
    rw [hXS]
    intro u hu
    obtain ⟨y, _, hy⟩ := List.mem_flatMap.1 hu
    simp at hy
    rcases hy with rfl | rfl | rfl <;> rfl
  clear ho hN hXS
  unfold memV at *
  go_enter Try.func14, Try.ntmps14
  go_wp2_with fail
  refine (C1.out _).mono ?_
  rintro e w1 ⟨rfl, hb1⟩
  have hT1 : Tri w1 w.heap.size 29 (.int .i64 n) (.int .u64 t) (.slice (some ⟨g0, 0, none⟩) N cp) := by
    have hw := Tri.new w 29 (.int .i64 n) (.int .u64 t) (.slice (some ⟨g0, 0, none⟩) N cp)
    exact (hw.below ((Below.refl _ _).alloc (Nat.le_refl _) _) hw.lt).below hb1 (by simp only [World.size_alloc]; omega)
  have hU1 : Tri w1 (w.heap.size + 1) 29 (.int .i64 0) (.int .u64 0) (.slice none 0 0) := by
    have hw := Tri.new (w.alloc (.cells #[.int .i64 n, .int .u64 t, .slice (some ⟨g0, 0, none⟩) N cp] 29)) 29 (.int .i64 0) (.int .u64 0) (.slice none 0 0)
    rw [World.size_alloc] at hw
    exact hw.below hb1 (by simp only [World.size_alloc]; omega)
  have hB1 : Below w.heap.size w w1 := (((Below.refl _ _).alloc (Nat.le_refl _) _).alloc (by simp) _).trans (hb1.mono (by simp; omega))
  have hR1 : Rest w n ((t : Int) + 1) (.slice (some ⟨g0, 0, none⟩) N cp) B N XS (w1.setCell ⟨w.heap.size, 1, none⟩ (.int .u64 ((t : Int) + 1))) := by
    refine ⟨hB1.setCell (p := ⟨w.heap.size, 1, none⟩) (Nat.le_refl _) _, hT1.set1 _, hU1.later (Below.heap_setCell _ _ _ _ (by simp)), ?_, fun k hk => by simp [Value.ownBlock] at hk; omega⟩
    exact ownsRow_setCell_other (own_below HO.out hB1) (by simp [Value.ownBlock]; omega) _
  obtain ⟨a0, a1, a2, b0, b1, b2⟩ := hT1.cell
  have HR1 := Lib.hid hR1
  clear hT1 hR1 hb1 hU1 hB1
  go_wp2_with fail
  clear a0 a1 a2 b0 b1 b2
  have HR2 := HR1.out
  clear HR1
  generalize w1.setCell ⟨w.heap.size, 1, none⟩ (.int .u64 ((t : Int) + 1)) = W at HR2 ⊢
  have HS := HR2.cells
  have hg0' : w.heap.size + 2 ≤ W.heap.size := HR2.lt
  clear HR2
  obtain ⟨s1, s2, s3, HR⟩ := HS
  have q0 : w.heap.size < W.heap.size := by omega
  have q1 : w.heap.size + 1 < W.heap.size := by omega
  go_region_law ((first
      | (refine stepA (w0 := w) (n := n) (t1 := (t : Int) + 1) (g0 := g0) (cp := cp) (B := B) (N := N) (xs := XS) (by rfl) (.tmp 16) (.tmp 18) (by rfl) (by first | exact (HR.drew.alloc _) | exact ((HR.drew.alloc _).alloc _) | exact ((HR.alloc _).alloc _).drew | exact (HR.alloc _).drew) h0 hl HX1.out _ (by rfl) (by rfl) (by first | exact alloc_at (by simp) | exact alloc_past (alloc_at (by simp))) (by first | omega | (simp; omega)) ?_; intro g1 cap1 w3 hR3 hown3 hgrow3; obtain ⟨y1, y2, y3, _⟩ := hR3.cells; have z3 := hR3.lt; have z4 : w.heap.size < w3.heap.size := Nat.lt_trans (Nat.lt_succ_self _) hR3.lt)
      | (refine stepB (w0 := w) (n := n) (t1 := (t : Int) + 1) (v0 := .slice (some ⟨g0, 0, none⟩) N cp) (B := B) (N := N) (M := N) (ys := XS) (xs := XS) (by rfl) (.tmp 19) (.tmp 25) (by rfl) (by first | assumption | exact Rest.alloc (by assumption) _) hl _ _ (by rfl) (by first | assumption | exact World.ownsRow.alloc (by assumption) _) _ (by rfl) _ _ _ (by first | exact alloc_at (by simp) | exact grown_at hgrow3 (alloc_at (by simp)) (by intro e; have := Option.some.inj e; omega) | exact grown_at hgrow3 (alloc_past (alloc_at (by simp))) (by intro e; have := Option.some.inj e; omega)) (by simp [Value.oneCell']) ?_; intro g2 cap2 w4 hR4 hown4; obtain ⟨y4, y5, y6, _⟩ := hR4.cells)))
  all_goals
    have t1 := hR4.2.1.set2 (.slice (some ⟨g2, 0, none⟩) (N + 1) cap2)
    have t2 : Tri (w4.setCell ⟨w.heap.size, 2, none⟩ (.slice (some ⟨g2, 0, none⟩) (N + 1) cap2)) (w.heap.size + 1) 29 (.int .i64 0) (.int .u64 0) (.slice none 0 0) := hR4.2.2.1.later (Below.heap_setCell _ _ _ _ (by simp))
    obtain ⟨a0, a1, a2, b0, b1, b2⟩ := t1.cell
    obtain ⟨c0, c1, c2, d0, d1, d2⟩ := t2.cell
    have HT := Lib.hid (((t2.set0 (.int .i64 n)).set1 (.int .u64 ((t : Int) + 1))).set2 (.slice (some ⟨g2, 0, none⟩) (N + 1) cap2))
    have HR4 := Lib.hid hR4
    have HO4 := Lib.hid hown4
    clear t1 t2 hR4 hown4 y4 y5 y6
    go_wp2_with fail
    refine bodyPost_ret (results_store _ _ _ _ _ _ HT.out rfl) rfl ⟨⟨_, rfl, ?_⟩, ?_⟩
    · have h := fin_own HO4.out (.slice (some ⟨g2, 0, none⟩) (N + 1) cap2) (.int .i64 n) (.int .u64 ((t : Int) + 1)) (.slice (some ⟨g2, 0, none⟩) (N + 1) cap2)
      rw [cellsC_snoc, ← HX.out]
      exact h
    · exact fin_below HR4.out.1 _ _ _ _
end Go.Proofs.Ytmfpfebnlflfiab

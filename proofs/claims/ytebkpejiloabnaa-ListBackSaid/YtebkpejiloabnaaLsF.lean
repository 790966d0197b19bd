/-
  A list from its end on: the iterator.
-/
import Derived.Test.YtebkpejiloabnaaIterK
import Derived.Test.YtebkpejiloabnaaLs5
set_option linter.unusedVariables false
set_option linter.unusedSimpArgs false
namespace Go.Proofs.Ytebkpejiloabnaa
open Go Go.RowKit
attribute [local go_sem] Oper.semAt_some wideK_fn wideK_depth

/-- What the walk has captured. -/
def BCap (B : Nat) (v : Value) (l : List EL) (W : World) : Prop := Boxed W B 26 v ∧ EntRow W v l
def bcapOf (B : Nat) (v : Value) (l : List EL) (k : Nat) : Prop := k = B ∨ (v.ownBlock = some k ∧ l ≠ [])
theorem cell_same {W W' : World} {b o : Nat} (h : W'.heap[b]? = W.heap[b]?) : W'.cell? ⟨b, o, none⟩ = W.cell? ⟨b, o, none⟩ := World.cell?_of_block h
theorem RowK.kept {α : Type} {k : Nat} {enc : α → List Value} {W W' : World} {v : Value} {l : List α} (h : RowK k enc W v l) (hs : W.heap.size ≤ W'.heap.size) (hp : ∀ b, v.ownBlock = some b → W'.heap[b]? = W.heap[b]?) : RowK k enc W' v l := by
  rcases h with h | ⟨ad, cap, rfl, h⟩
  · exact .inl h
  · refine .inr ⟨ad, cap, rfl, fun j r hj => ?_⟩
    obtain ⟨b, off, rfl, hlt, h0⟩ := h j r hj
    exact ⟨b, off, rfl, Nat.lt_of_lt_of_le hlt hs, fun i u hi => by rw [cell_same (hp b rfl)]; exact h0 i u hi⟩
theorem BCap.keeps {B D : Nat} {v : Value} {l : List EL} {T : TypeId → Prop} {W W' : World} (h : BCap B v l W) (hk : Keeps T (bcapOf B v l) D W W') : BCap B v l W' := by
  refine ⟨hk.boxed h.1 (.inl (.inl rfl)), ?_⟩
  rcases h.2 with h2 | ⟨ad, cap, rfl, h2⟩
  · exact .inl h2
  · refine .inr ⟨ad, cap, rfl, fun j r hj => ?_⟩
    obtain ⟨b, off, rfl, hlt, h0⟩ := h2 j r hj
    obtain ⟨o, ho⟩ : ∃ o, W.heap[b]? = some o := ⟨_, Array.getElem?_eq_getElem hlt⟩
    have h3 := hk.same b o ho (.inl (.inr ⟨rfl, fun e => by rw [e] at hj; simp at hj⟩))
    exact ⟨b, off, rfl, Nat.lt_of_lt_of_le hlt hk.size, fun i u hi => by rw [cell_same (h3.trans ho.symm)]; exact h0 i u hi⟩

set_option maxRecDepth 100000 in
set_option maxHeartbeats 2000000 in
theorem backw1_iter (B : Nat) (v : Value) (l : List EL) (hm : l.length ≤ 1000000) :
    Iter Try.prog 28 #[.pointer (some ⟨B, 0, none⟩)] (fun x : Nat × EL => #[.int .i64 x.1, .agg #[.int .u32 x.2.uid, .int .u8 x.2.fl]]) (fun _ => False) (bcapOf B v l) (BCap B v l)
      (fun pre x => l[x.1]? = some x.2 ∧ x.1 + 1 + pre.length = l.length) (fun xs => xs.length = l.length) (fun pre => True) := by
  rintro lp T J Jx W hcap hT hJ hJx hY h0
  obtain ⟨ad, cp, hv⟩ := hcap.2.form
  refine (callsIn_wide (n := 3)).1 ?_
  refine callsIn_of_wp Try.func28 rfl trivial ?_
  simp only [Try.ntmps28, List.size_toArray, List.length_cons, List.length_nil, Nat.reduceAdd, Nat.reduceSub, Array.replicate_succ, Array.replicate_zero, List.push_toArray, List.append_toArray, List.nil_append, List.cons_append]
  obtain ⟨N, hN⟩ : ∃ N, l.length = N := ⟨_, rfl⟩
  rw [hN] at hm hv hY ⊢
  have HJ := Lib.hid hJ
  have HX := Lib.hid hJx
  have HY := Lib.hid hY
  have HT := Lib.hid hT
  have HC := Lib.hid hcap
  have HN := Lib.hid hN
  have HV := Lib.hid hv
  have cb := hcap.1.cell
  rw [hv] at cb
  clear hJ hJx hY hT hcap hN hv
  gi_wp2_with fail
  clear cb
  gi_loopw [3] (fun i wr => ∃ (j : Nat) (pre : List (Nat × EL)), j ≤ N ∧ i = .int .i64 ((j : Int) - 1) ∧ pre.length + j = N ∧ J pre wr ∧ BCap B v l wr ∧ W.heap.size ≤ wr.heap.size) (fun i _ => (intOf i + 1).toNat)
  case atStart => exact ⟨N, [], Nat.le_refl _, rfl, by simp, h0, HC.out, Nat.le_refl _⟩
  case round =>
    obtain ⟨j, pre, hj, rfl, hpl, hJk, hck, hsz⟩ := hrel
    have HK := Lib.hid hJk
    have HCk := Lib.hid hck
    clear h0 hJk hck
    have cb := HCk.out.1.cell
    rw [HV.out] at cb
    by_cases hj0 : 0 < j
    · obtain ⟨i, rfl⟩ : ∃ i, j = i + 1 := ⟨j - 1, by omega⟩
      have he1 : ((i + 1 : Nat) : Int) - 1 = i := by omega
      rw [he1]
      have hq1 : (0 : Int) ≤ i := by omega
      have hq2 : (i : Int) < N := by omega
      obtain ⟨r, hr⟩ : ∃ r, l[i]? = some r := ⟨_, List.getElem?_eq_getElem (by have := HN.out; omega)⟩
      have her := HCk.out.2
      rw [HV.out] at her
      obtain ⟨b, off, hab, hbb, c0, c1⟩ := EntRow.at her hr
      subst hab
      have HRd0 := HY.out pre (i, r) wr HK.out ⟨hr, by show i + 1 + pre.length = N; omega⟩
      obtain ⟨fn, tmps, assign, body, hy, hRd⟩ := HRd0
      have HRd := Lib.hid (RoundIn.any (m := 2) hRd)
      clear hRd her hr he1
      gi_wp2_with fail
      refine HRd.out.mono ?_
      rintro e w2 ⟨hk2, (⟨rfl, hJ2⟩ | ⟨rfl, hx2⟩)⟩
      · have HC2 := Lib.hid (HCk.out.keeps hk2)
        have HZ3 : Hid (W.heap.size ≤ w2.heap.size) := Nat.le_trans hsz hk2.size
        have HJ2 := Lib.hid hJ2
        clear hJ2 hk2 c0 c1 cb
        gi_wp2_with fail
        go_roundw
        case rel => exact ⟨i, pre ++ [(i, r)], by omega, by first | rfl | go_num, by rw [List.length_append, List.length_singleton]; omega, HJ2.out, HC2.out, HZ3.out⟩
        case measure => simp [intOf] <;> omega
      · have HX2 := Lib.hid hx2
        clear hx2 hk2 c0 c1 cb
        gi_wp2_with fail
        try rw [Exit.noGoto_ret]
        refine bodyPost_ret (results_none rfl _ _ _) rfl ?_
        exact ⟨⟨_, rfl⟩, .inr ⟨_, trivial, HX2.out⟩⟩
    · obtain rfl : j = 0 := by omega
      have hneg : ((0 : Nat) : Int) - 1 = -1 := by omega
      rw [hneg]
      clear hneg cb
      gi_wp2_with fail
      try rw [Exit.noGoto_normal]
      go_end0
      exact ⟨⟨_, rfl⟩, .inl ⟨_, by omega, HK.out⟩⟩
theorem RowK.block {α : Type} {k : Nat} {enc : α → List Value} {W : World} {v : Value} {l : List α} (h : RowK k enc W v l) (hne : l ≠ []) {b : Nat} (hb : v.ownBlock = some b) : b < W.heap.size := by
  rcases h with ⟨_, rfl⟩ | ⟨ad, cap, rfl, h⟩
  · exact absurd rfl hne
  · obtain ⟨x, hx⟩ : ∃ x, l[0]? = some x := ⟨_, List.getElem?_eq_getElem (List.length_pos_iff.2 hne)⟩
    obtain ⟨b', off, rfl, hlt, _⟩ := h 0 x hx
    cases hb
    exact hlt
def BackP (W : World) (v : Value) (e : Ending) (w' : World) : Prop := w' = W.alloc (.cells #[v] 26) ∧ e = .returned (.func (.func 28) #[] #[.pointer (some ⟨W.heap.size, 0, none⟩)])
theorem backw_c (v : Value) (W : World) (h : ∃ ad n cp, v = .slice ad n cp) : Calls Try.prog 20 #[v] W (BackP W v) := by
  obtain ⟨ad, n, cp, rfl⟩ := h
  go_enter Try.func20, Try.ntmps20
  go_wp2_with fail
  go_ret
  exact ⟨rfl, rfl⟩
end Go.Proofs.Ytebkpejiloabnaa

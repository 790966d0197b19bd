/-
  The walk through all that a set means: the iterator.
-/
import Derived.Test.YtmfpfebnlflfiaaDoorRising
import Derived.Test.YtmfpfebnlflfiaaDoorFlagIt
set_option linter.unusedVariables false
set_option linter.unusedSimpArgs false
namespace Go.Proofs.YtmfpfebnlflfiaaDoor
open Go Go.RowKit
attribute [local go_sem] Oper.semAt_some wide_fn wide_depth

/-- What the walk has captured. -/
structure Caps (Bq B0 : Nat) (u : Value) (A : List (Nat × Nat)) (W : World) : Prop where
  box : Boxed W Bq 43 u
  row : W.ownsRow B0 83 2 u A.length (cellsP A)
def capOf (Bq : Nat) (u : Value) (k : Nat) : Prop := k = Bq ∨ u.ownBlock = some k
theorem Caps.keeps {Bq B0 D : Nat} {u : Value} {A : List (Nat × Nat)} {T : TypeId → Prop} {W W' : World} (h : Caps Bq B0 u A W) (hk : Keeps T (capOf Bq u) D W W') : Caps Bq B0 u A W' := by
  refine ⟨hk.boxed h.box (.inl (.inl rfl)), h.row.1, ?_⟩
  rcases h.row.2 with hn | ⟨g, cap, cur, rfl, hg, hgg, rest⟩
  · exact .inl hn
  · exact .inr ⟨g, cap, cur, rfl, hg, hk.same g _ hgg (.inl (.inr rfl)), rest⟩
theorem Caps.alloc {Bq B0 : Nat} {u : Value} {A : List (Nat × Nat)} {W : World} (h : Caps Bq B0 u A W) (o : Obj) : Caps Bq B0 u A (W.alloc o) :=
  ⟨(Below.heap_alloc W o Bq (lt_of_block h.box)).trans h.box, h.row.alloc o⟩

theorem spread_take {A : List (Nat × Nat)} {k : Nat} {r : Nat × Nat} (h : A[k]? = some r) : spread (A.take (k + 1)) = spread (A.take k) ++ List.range' r.1 (r.2 + 1 - r.1) := by
  rw [take_at h]; unfold spread; rw [List.flatMap_append]; simp
theorem spread_front (A : List (Nat × Nat)) (k : Nat) : spread (A.take k) <+: spread A := by
  conv => rhs; rw [← List.take_append_drop k A]
  unfold spread; rw [List.flatMap_append]
  exact List.prefix_append _ _

set_option maxRecDepth 100000 in
set_option maxHeartbeats 2000000 in
theorem walk1_iter (Bq B0 : Nat) (u : Value) (A : List (Nat × Nat)) (hA : A.length ≤ 1000) (hr : ∀ r ∈ A, r.1 ≤ r.2 ∧ r.2 < 4294967295) :
    Iter Tryd.prog 47 #[.pointer (some ⟨Bq, 0, none⟩)] (fun n : Nat => #[.int .u32 n]) (fun e => e = 83) (capOf Bq u) (Caps Bq B0 u A)
      (fun pre x => pre ++ [x] <+: spread A) (fun xs => xs = spread A) (fun pre => pre <+: spread A) := by
  rintro l T J Jx W hcap hT hJ hJx hY h0
  refine (callsIn_wide (n := 3)).1 ?_
  refine callsIn_of_wp Tryd.func47 rfl trivial ?_
  simp only [Tryd.ntmps47, List.size_toArray, List.length_cons, List.length_nil, Nat.reduceAdd, Nat.reduceSub, Array.replicate_succ, Array.replicate_zero, List.push_toArray, List.append_toArray, List.nil_append, List.cons_append]
  have HJ := Lib.hid hJ
  have HX := Lib.hid hJx
  have HY := Lib.hid hY
  have HT := Lib.hid hT
  have HR := Lib.hid hr
  have HC := Lib.hid hcap
  have cb := hcap.box.cell
  clear hJ hJx hY hT hr hcap
  obtain ⟨N, hN⟩ : ∃ N, N = A.length := ⟨_, rfl⟩
  obtain ⟨ad, cp, hu⟩ := own_form HC.out.row
  rw [← hN] at hA hu
  subst hu
  have HN := Lib.hid hN
  clear hN
  refine wpIn_wide.2 ?_
  go_wp2_with fail
  go_step3
  go_wp2_with fail
  go_step3
  go_wp2_with fail
  refine (wpIn_wide (n := 3)).1 ?_
  gi_wp2
  clear cb
  gi_loopw [8] (fun i wr => ∃ k : Nat, k ≤ N ∧ i = .int .i64 k ∧ J (spread (A.take k)) wr ∧ Caps Bq B0 (.slice ad N cp) A wr ∧ W.heap.size ≤ wr.heap.size) (fun i _ => N - (intOf i).toNat)
  case atStart => exact ⟨0, by omega, rfl, h0, HC.out, Nat.le_refl _⟩
  case round =>
    obtain ⟨k, hk, rfl, hJk, hck, hsz⟩ := hrel
    have HK := Lib.hid hJk
    have HCk := Lib.hid hck
    clear h0 hJk hck
    by_cases hlt : k < N
    · have hkl : k < A.length := by rw [← HN.out]; exact hlt
      obtain ⟨x, y, hxy⟩ : ∃ x y, A[k] = (x, y) := ⟨_, _, rfl⟩
      have hq1 : (k : Int) < N := by omega
      obtain ⟨g, rfl⟩ : ∃ g, ad = some ⟨g, 0, none⟩ := by
        rcases HCk.out.row.2 with ⟨h, h2⟩ | ⟨g, cap, cur, h, _⟩
        · omega
        · cases h; exact ⟨g, rfl⟩
      have o1 : wr.ownsRow B0 83 2 (.slice (some ⟨g, 0, none⟩) N cp) N (cellsP A) := by have h := HCk.out.row; rw [← HN.out] at h; exact h
      have hc := cellsP_at hkl
      rw [hxy] at hc
      have k0 : wr.cell? ⟨g, k * 2, none⟩ = some (.int .u32 x) := by rw [o1.cellAt _ (by omega)]; exact hc.1
      have k1 : wr.cell? ⟨g, k * 2 + 1, none⟩ = some (.int .u32 y) := by rw [o1.cellAt _ (by omega)]; exact hc.2
      have hgl : g < wr.heap.size := (HCk.out.row.lt g rfl).2
      have hkk : A[k]? = some (x, y) := by rw [List.getElem?_eq_getElem hkl, hxy]
      have HSP := Lib.hid (spread_take hkk)
      obtain ⟨hle, hmx⟩ := HR.out (x, y) (List.mem_of_getElem? hkk)
      dsimp only at hle hmx
      clear hc hxy hkl hkk o1
      have hbox : (wr.alloc (.cells #[.int .u32 x, .int .u32 y] 83)).heap[wr.heap.size]? = some (.cells #[.int .u32 x, .int .u32 y] 83 (0, 0)) := heap_alloc_new wr _
      have hJ1 : J (spread (A.take k) ++ List.range' x (x - x)) (wr.alloc (.cells #[.int .u32 x, .int .u32 y] 83)) := by
        rw [Nat.sub_self, List.range'_zero, List.append_nil]
        exact HJ.out _ _ _ HK.out (Itself.alloc _ _ _ hsz)
      have hC1 := HCk.out.alloc (.cells #[.int .u32 x, .int .u32 y] 83)
      have hq2 : (y : Int) < 4294967295 := by omega
      have hsz2 : W.heap.size ≤ (wr.alloc (.cells #[.int .u32 x, .int .u32 y] 83)).heap.size := by rw [World.size_alloc]; omega
      have HB1 := Lib.hid hbox
      have HJ1 := Lib.hid hJ1
      have HC1 := Lib.hid hC1
      have HZ2 := Lib.hid hsz2
      clear hbox hJ1 hC1 hsz2 HK HCk
      gi_wp2_with fail
      clear k0 k1
      obtain ⟨O, hO⟩ : ∃ O, wr.heap.size = O := ⟨_, rfl⟩
      rw [hO] at HB1 hsz ⊢
      clear hO hgl
      gi_loopw [5] (fun t5 wr2 => ∃ n : Nat, x ≤ n ∧ n ≤ y ∧ t5 = .int .u32 n ∧ Hid (J (spread (A.take k) ++ List.range' x (n - x)) wr2) ∧ Hid (Caps Bq B0 (.slice (some ⟨g, 0, none⟩) N cp) A wr2) ∧ Hid (wr2.heap[O]? = some (.cells #[.int .u32 x, .int .u32 y] 83 (0, 0))) ∧ Hid (W.heap.size ≤ wr2.heap.size)) (fun t5 _ => y - (intOf t5).toNat)
      case atStart => exact ⟨x, Nat.le_refl _, hle, rfl, HJ1, HC1, HB1, HZ2⟩
      case round =>
        obtain ⟨n, hxn, hny, rfl, HJn, HCn, HBn, HZn⟩ := hrel
        have hr1 : List.range' x (n + 1 - x) = List.range' x (n - x) ++ [n] := by
          rw [show n + 1 - x = (n - x) + 1 by omega, List.range'_concat]
          rw [show x + 1 * (n - x) = n by omega]
        have hpre : (spread (A.take k) ++ List.range' x (n - x)) ++ [n] <+: spread A := by
          refine List.IsPrefix.trans ?_ (spread_front A (k + 1))
          rw [HSP.out, List.append_assoc, ← hr1]
          refine List.prefix_append_right_inj _ |>.2 ?_
          refine ⟨List.range' (n + 1) (y - n), ?_⟩
          have h := List.range'_append (s := x) (m := n + 1 - x) (n := y - n) (step := 1)
          rw [show x + 1 * (n + 1 - x) = n + 1 by omega, show n + 1 - x + (y - n) = y + 1 - x by omega] at h
          exact h
        obtain ⟨fn, tmps, assign, body, hy, hRd⟩ := HY.out _ n wr HJn.out hpre
        have HRd := Lib.hid (RoundIn.any (m := 2) hRd)
        have HPR := Lib.hid hpre
        have HR1 := Lib.hid hr1
        obtain ⟨b0, b1⟩ : wr.cell? ⟨O, 0, none⟩ = some (.int .u32 x) ∧ wr.cell? ⟨O, 1, none⟩ = some (.int .u32 y) := by
          have h := HBn.out
          exact ⟨by simp [World.cell?, h], by simp [World.cell?, h]⟩
        clear hRd hpre hr1 b0 b1
        gi_wp2_with fail
        refine HRd.out.mono ?_
        rintro e w2 ⟨hk2, (⟨rfl, hJ2⟩ | ⟨rfl, hx2⟩)⟩
        · have HC2 := Lib.hid (HCn.out.keeps hk2)
          have hB2 := hk2.same O _ HBn.out (.inr ⟨hsz, fun c e fz he e2 => by cases e2; exact HT.out _ he rfl⟩)
          have HZ3 : Hid (W.heap.size ≤ w2.heap.size) := Nat.le_trans HZn.out hk2.size
          have HJ2 := Lib.hid hJ2
          have b1 : w2.cell? ⟨O, 1, none⟩ = some (.int .u32 y) := by simp [World.cell?, hB2]
          have HB2 := Lib.hid hB2
          clear hJ2 hk2 hB2
          by_cases hny2 : n = y
          · have ey : ((n : Int) == (y : Int)) = true := by rw [beq_iff_eq]; omega
            have hfull : Hid (J (spread (A.take (k + 1))) w2) := by
              show J _ w2
              rw [HSP.out, ← hny2, HR1.out, ← List.append_assoc]
              exact HJ2.out
            clear hny2
            gi_wp2_with fail
            go_roundw
            case rel => exact ⟨k + 1, by omega, by go_num, hfull.out, HC2.out, HZ3.out⟩
            case measure => simp [intOf]; omega
          · have ey : ((n : Int) == (y : Int)) = false := by rw [beq_eq_false_iff_ne]; omega
            have hq3 : (n : Int) < y := by omega
            gi_wp2_with fail
            go_roundw
            case rel =>
              refine ⟨n + 1, by omega, by omega, by go_num, ?_, HC2.out, HB2.out, HZ3.out⟩
              show J _ w2
              rw [HR1.out, ← List.append_assoc]
              exact HJ2.out
            case measure => simp [intOf]; omega
        · have HX2 := Lib.hid hx2
          clear hx2 hk2
          gi_wp2_with fail
          rw [Exit.noGoto_ret]
          refine bodyPost_ret (results_none rfl _ _ _) rfl ?_
          exact ⟨⟨_, rfl⟩, .inr ⟨_, HPR.out, HX2.out⟩⟩
    · obtain rfl : k = N := by omega
      gi_wp2_with fail
      rw [Exit.noGoto_normal]
      go_end0
      refine ⟨⟨_, rfl⟩, .inl ⟨_, rfl, ?_⟩⟩
      have h := HK.out
      rw [List.take_of_length_le (by rw [← HN.out]; exact Nat.le_refl _)] at h
      exact h
end Go.Proofs.YtmfpfebnlflfiaaDoor

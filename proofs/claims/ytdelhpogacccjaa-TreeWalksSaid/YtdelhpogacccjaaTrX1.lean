/-
  The law TreeWalks: what it asks of Stand, and of the walk through all slots.
-/
import Derived.Test.YtdelhpogacccjaaTrI7
import Derived.Test.YtdelhpogacccjaaHeldIn
set_option linter.unusedVariables false
set_option linter.unusedSimpArgs false
namespace Go.Proofs.Ytdelhpogacccjaa
open Go Go.RowKit
variable {W W' : World} {lv : Value} {l : List R7}

def Stand9 (gap more : Nat) (l : List R7) (W : World) (e : Ending) (w' : World) : Prop :=
  ∃ sv ns r H, e = .returned (.tuple #[sv, .agg #[.int .i64 r, .int .i64 (H : Nat)]]) ∧ ShelfRow w' sv ns ∧ (∀ k, sv.ownBlock = some k → k < w'.heap.size) ∧ Below W.heap.size W w' ∧ StandIs gap more l ns r H
theorem treeL_pos (k : Nat) (at' : Nat) (l : List R7) : 0 < (treeL k at' l).length := by
  cases k with
  | zero => show 0 < 1; omega
  | succ k => rw [treeL]; simp
set_option maxRecDepth 20000 in
set_option maxHeartbeats 1000000 in
theorem stand9_c (hl : RecRow W lv l) (hu : Up l) (hm : l.length ≤ 1000) (gap more : Nat) (hg : gap ≤ 9) (hmo : more ≤ 100) :
    Calls Try.prog 8 #[lv, .int .i64 gap, .int .i64 more] W fun e w' => Stand9 gap more l W e w' := by
  by_cases h0 : l = []
  · have hb1 := TB.new W 0 0
    have hB := (Below.refl W.heap.size W).alloc (Nat.le_refl _) (.cells #[.int .i64 0, .int .i64 0] 27)
    have HTB := Lib.hid hb1
    have HB := Lib.hid hB
    obtain ⟨la, lc, hlv⟩ := hl.form
    subst hlv
    obtain ⟨N, hN⟩ : ∃ N, l.length = N := ⟨_, rfl⟩
    have hN0 : N = 0 := by rw [← hN, h0]; rfl
    rw [hN]
    have q : ((N : Int) == 0) = true := by rw [beq_iff_eq]; omega
    have HS : Hid (StandIs gap more l [] (-1) 0) := .inl ⟨h0, rfl, rfl, rfl⟩
    unfold Stand9
    clear h0 hN hN0 hl hb1 hB hu
    go_enter Try.func8, Try.ntmps8
    go_upto_region 2 with fail
    obtain ⟨W1, hW1⟩ : ∃ W1, W.alloc (.cells #[.int .i64 0, .int .i64 0] 27) = W1 := ⟨_, rfl⟩
    rw [hW1] at HTB HB ⊢
    clear hW1
    obtain ⟨c0, c1⟩ := HTB.out.cell
    obtain ⟨f0, f1⟩ := HTB.out.free
    have hlt := HTB.out.lt
    have HT2 := Lib.hid (HTB.out.set (-1) 0)
    have HB2 := Lib.hid ((HB.out.setCell (p := ⟨W.heap.size, 0, none⟩) (Nat.le_refl _) (.int .i64 (-1))).setCell (p := ⟨W.heap.size, 1, none⟩) (Nat.le_refl _) (.int .i64 0))
    go_wp2_with fail
    refine bodyPost_ret (results_stand _ _ _ _ _ _ HT2.out rfl rfl) rfl ⟨.slice none 0 0, [], -1, 0, rfl, .inl ⟨rfl, rfl⟩, (fun k h => by cases h), HB2.out, HS.out⟩
  · refine (stand_c hl hu hm gap more hg hmo).mono ?_
    rintro e w' ⟨sv, ns, r, H, rfl, hs, hb, his⟩
    refine ⟨sv, ns, r, H, rfl, hs, fun k hk => (hs.blk ?_ hk).1, hb, his⟩
    rcases his with ⟨h, _⟩ | ⟨_, _, _, rfl⟩
    · exact absurd h h0
    · have := treeL_pos H 0 l
      simp only [List.length_append, List.length_map]
      omega
/-- The law's numbers. -/
theorem StandIs.nums {gap more : Nat} {ns : List TN} {r : Int} {H : Nat} (h : StandIs gap more l ns r H) (hu : Up l) (h120 : l.length ≤ 120) (hg : gap ≤ 9) :
    ns.length ≤ 10000 ∧ ((preN ns H r).map Prod.fst).Nodup ∧ (preN ns H r).length ≤ 10000 ∧ recsOf (preN ns H r) = l ∧ (∀ pre x, pre ++ [x] <+: preN ns H r → r = gap ∧ x.1 = ((gap + pre.length : Nat) : Int) ∧ ns[gap + pre.length]? = some x.2) ∧
      (r + (preN ns H r).length = if l = [] then -1 else (ns.length : Int)) := by
  obtain ⟨h1, h2, h3⟩ := h.pre hu
  have hlen : ns.length ≤ 10000 ∧ H ≤ 8 := by
    rcases h with ⟨rfl, rfl, rfl, rfl⟩ | ⟨hne, hH, rfl, rfl⟩
    · simp
    · obtain ⟨q1, q2, q3⟩ := height_small hu hne
      have hsm : ∀ x, x ∈ l → x.uid < 16 ^ H := fun x hx => Nat.lt_of_lt_of_le (q3 x hx) (Nat.pow_le_pow_right (by omega) (by omega))
      have h5 := tree_len H 0 l hne hu ⟨0, fun x hx => Nat.div_eq_of_lt (hsm x hx)⟩
      have h6 : (H + 1) * l.length ≤ 9 * 120 := Nat.mul_le_mul (by omega) h120
      simp only [List.length_append, List.length_replicate, List.length_map]
      omega
  refine ⟨hlen.1, by rw [h1]; exact enumF_nodup _ _, by rw [h1, enumF_len, List.length_drop]; omega, h2, fun pre x hp => ?_, ?_⟩
  · have hne : l ≠ [] := fun e => by
      rcases h with ⟨_, rfl, rfl, rfl⟩ | ⟨hne, _⟩
      · rw [preN_no] at hp
        simp at hp
      · exact hne e
    obtain ⟨h4, rfl⟩ := h3 hne
    rw [h1] at hp
    obtain ⟨t, ht⟩ := hp
    have hx : (enumF gap (ns.drop gap))[pre.length]? = some x := by rw [← ht]; simp
    rw [enumF_at, List.getElem?_drop] at hx
    obtain ⟨n, hn, rfl⟩ := Option.map_eq_some_iff.1 hx
    exact ⟨rfl, rfl, hn⟩
  · rw [h1, enumF_len, List.length_drop]
    by_cases e : l = []
    · rw [if_pos e]
      rcases h with ⟨_, rfl, rfl, rfl⟩ | ⟨hne, _⟩
      · simp
      · exact absurd e hne
    · rw [if_neg e]
      obtain ⟨h4, rfl⟩ := h3 e
      omega
set_option maxRecDepth 100000 in
/-- Two nodes that are the same are told so. -/
theorem node_same (n : TN) (w : World) : (Op.equalIn 10000 45 (.agg (nodeA n)) (.agg (nodeA n))).run Try.prog w = .ok true w := by
  have hi : ∃ i, Try.prog.info? 3 = some i := ⟨_, rfl⟩
  obtain ⟨i, hi⟩ := hi
  have ha : ∀ d xs ys w, (Op.equalIn (d + 1) 36 (.agg xs) (.agg ys)).run Try.prog w = (Op.eqItems d 3 (Try.prog.cellsOf 3) xs ys (List.range 16)).run Try.prog w := fun d xs ys w => run_equalIn_array w d xs ys Try.underlying36 hi
  have hc : Try.prog.cellsOf 3 = 1 := by kernel_rfl
  simp [go_sem, nodeA, Op.eqFields, Op.eqItems, ha, hc, List.range_succ]
theorem quiet_node_neq {C : World → Prop} {K : Act → Prop} {o : Oper} {a : Act} (x y : Operand) (t2 : TypeId) (ho : o.op = .binOp .neq 45 x y t2) (n : TN) (hx : a.eval x = .agg (nodeA n)) (hy : a.eval y = .agg (nodeA n)) (hk : K (a.put o.dst (.bool false))) : o.quiet Try.prog a C K :=
  ⟨_, fun w hw => by
    unfold Oper.quietAt
    have hs := node_same n w
    have hm : Try.prog.eqGuardType Try.prog.depth 45 = false := by kernel_rfl
    have h : (execOp a.eval o).run Try.prog w = .ok (.value (.bool false)) w := by
      simp only [execOp, ho, hx, hy, Sem.run_bind, run_eqGuard_agg _ _ _ _ _ _ _ hm, Result.andThen_ok, run_neq_struct, hs, Sem.run_pure, Bool.not_true]
    rw [h]
    exact ⟨rfl, rfl⟩, hk⟩
end Go.Proofs.Ytdelhpogacccjaa

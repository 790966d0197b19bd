/-
  May a note be told of a list? slices.Delete at a list: contracts.
-/
import Derived.Test.YtebkpejiloabnaaLs5
set_option linter.unusedVariables false
set_option linter.unusedSimpArgs false
namespace Go.Proofs.Ytebkpejiloabnaa
open Go Go.RowKit
variable {W W' : World} {v va vb : Value} {l now : List EL}

def mayN (L : Nat) (n : NL) : Bool :=
  if n.kind = 0 ∨ n.kind = 2 then decide (1 ≤ n.seq) && decide (n.seq ≤ L)
  else if n.kind = 1 then decide ((L : Int) ≤ n.seq) && decide (n.seq - L ≤ 65536) else false
theorem stepL_may (l : List EL) (n : NL) : (stepL l n).isSome = mayN l.length n := by
  unfold stepL mayN
  by_cases h1 : n.kind = 1
  · have h0 : ¬ (n.kind = 0 ∨ n.kind = 2) := by omega
    rw [if_pos h1, if_neg h0, if_pos h1]
    by_cases h2 : n.seq < l.length ∨ 65536 < n.seq - l.length
    · rw [if_pos h2]
      symm
      rw [Option.isSome_none, Bool.and_eq_false_iff, decide_eq_false_iff_not, decide_eq_false_iff_not]
      omega
    · rw [if_neg h2]
      symm
      rw [Option.isSome_some, Bool.and_eq_true, decide_eq_true_iff, decide_eq_true_iff]
      omega
  · rw [if_neg h1]
    by_cases h0 : n.kind = 0 ∨ n.kind = 2
    · rw [if_pos h0]
      by_cases h2 : (n.kind ≠ 0 ∧ n.kind ≠ 2) ∨ n.seq < 1 ∨ (l.length : Int) < n.seq
      · rw [if_pos h2]
        symm
        rw [Option.isSome_none, Bool.and_eq_false_iff, decide_eq_false_iff_not, decide_eq_false_iff_not]
        omega
      · rw [if_neg h2]
        have : (1 : Int) ≤ n.seq ∧ n.seq ≤ l.length := by omega
        rw [decide_eq_true this.1, decide_eq_true this.2]
        split <;> rfl
    · rw [if_neg h0, if_neg h1, if_pos (by omega)]
      rfl

set_option maxRecDepth 20000 in
set_option maxHeartbeats 2000000 in
theorem lmay_c (ad : Option Addr) (L cp : Nat) (hL : L ≤ 100000000) (n : NL) (hs0 : -9223372036854775808 ≤ n.seq) (hs : n.seq ≤ 9223372036854775807) (W : World) :
    Calls Try.prog 24 #[.slice ad L cp, .agg #[.int .i64 n.kind, .int .i64 n.seq, .int .u32 n.e.uid, .int .u8 n.e.fl]] W fun e w' => e = .returned (.bool (mayN L n)) ∧ Below W.heap.size W w' := by
  have HB := Lib.hid ((Below.refl W.heap.size W).alloc (Nat.le_refl _) (.cells #[.int .i64 n.kind, .int .i64 n.seq, .int .u32 n.e.uid, .int .u8 n.e.fl] 37))
  obtain ⟨kd, sq, ⟨x, y⟩⟩ := n
  dsimp only at hs0 hs HB ⊢
  by_cases k0 : kd = 0
  · subst k0
    by_cases h1 : 1 ≤ sq
    · have d1 : decide ((1 : Int) ≤ sq) = true := decide_eq_true h1
      by_cases h2 : sq ≤ L
      · have HG : Hid (mayN L ⟨0, sq, ⟨x, y⟩⟩ = true) := by show _ = _; unfold mayN; simp; omega
        have d2 : decide (sq ≤ (L : Int)) = true := decide_eq_true h2
        go_enter Try.func24, Try.ntmps24
        go_wp2_with fail
        go_ret
        exact ⟨by rw [HG.out]; rfl, HB.out⟩
      · have HG : Hid (mayN L ⟨0, sq, ⟨x, y⟩⟩ = false) := by show _ = _; unfold mayN; simp; omega
        have d2 : decide (sq ≤ (L : Int)) = false := decide_eq_false h2
        go_enter Try.func24, Try.ntmps24
        go_wp2_with fail
        go_ret
        exact ⟨by rw [HG.out]; rfl, HB.out⟩
    · have d1 : decide ((1 : Int) ≤ sq) = false := decide_eq_false h1
      have HG : Hid (mayN L ⟨0, sq, ⟨x, y⟩⟩ = false) := by show _ = _; unfold mayN; simp; omega
      go_enter Try.func24, Try.ntmps24
      go_wp2_with fail
      go_ret
      exact ⟨by rw [HG.out]; rfl, HB.out⟩
  · by_cases k2 : kd = 2
    · subst k2
      by_cases h1 : 1 ≤ sq
      · have d1 : decide ((1 : Int) ≤ sq) = true := decide_eq_true h1
        by_cases h2 : sq ≤ L
        · have HG : Hid (mayN L ⟨2, sq, ⟨x, y⟩⟩ = true) := by show _ = _; unfold mayN; simp; omega
          have d2 : decide (sq ≤ (L : Int)) = true := decide_eq_true h2
          go_enter Try.func24, Try.ntmps24
          go_wp2_with fail
          go_ret
          exact ⟨by rw [HG.out]; rfl, HB.out⟩
        · have HG : Hid (mayN L ⟨2, sq, ⟨x, y⟩⟩ = false) := by show _ = _; unfold mayN; simp; omega
          have d2 : decide (sq ≤ (L : Int)) = false := decide_eq_false h2
          go_enter Try.func24, Try.ntmps24
          go_wp2_with fail
          go_ret
          exact ⟨by rw [HG.out]; rfl, HB.out⟩
      · have d1 : decide ((1 : Int) ≤ sq) = false := decide_eq_false h1
        have HG : Hid (mayN L ⟨2, sq, ⟨x, y⟩⟩ = false) := by show _ = _; unfold mayN; simp; omega
        go_enter Try.func24, Try.ntmps24
        go_wp2_with fail
        go_ret
        exact ⟨by rw [HG.out]; rfl, HB.out⟩
    · by_cases k1 : kd = 1
      · subst k1
        clear k0 k2
        by_cases h1 : (L : Int) ≤ sq
        · have d1 : decide ((L : Int) ≤ sq) = true := decide_eq_true h1
          have b1 : 0 ≤ sq - (L : Int) := by omega
          have b2 : sq - (L : Int) ≤ 9223372036854775807 := by omega
          by_cases h2 : sq - (L : Int) ≤ 65536
          · have HG : Hid (mayN L ⟨1, sq, ⟨x, y⟩⟩ = true) := by show _ = _; unfold mayN; simp; omega
            have d2 : decide (sq - (L : Int) ≤ 65536) = true := decide_eq_true h2
            go_enter Try.func24, Try.ntmps24
            go_wp2_with fail
            go_ret
            exact ⟨by rw [HG.out]; rfl, HB.out⟩
          · have HG : Hid (mayN L ⟨1, sq, ⟨x, y⟩⟩ = false) := by show _ = _; unfold mayN; simp; omega
            have d2 : decide (sq - (L : Int) ≤ 65536) = false := decide_eq_false h2
            go_enter Try.func24, Try.ntmps24
            go_wp2_with fail
            go_ret
            exact ⟨by rw [HG.out]; rfl, HB.out⟩
        · have d1 : decide ((L : Int) ≤ sq) = false := decide_eq_false h1
          have HG : Hid (mayN L ⟨1, sq, ⟨x, y⟩⟩ = false) := by show _ = _; unfold mayN; simp; omega
          go_enter Try.func24, Try.ntmps24
          go_wp2_with fail
          go_ret
          exact ⟨by rw [HG.out]; rfl, HB.out⟩
      · have HG : Hid (mayN L ⟨kd, sq, ⟨x, y⟩⟩ = false) := by show _ = _; unfold mayN; simp [k0, k1, k2]
        have e0 : (kd == 0) = false := by rw [beq_eq_false_iff_ne]; exact k0
        have e1 : (kd == 1) = false := by rw [beq_eq_false_iff_ne]; exact k1
        have e2 : (kd == 2) = false := by rw [beq_eq_false_iff_ne]; exact k2
        clear k0 k1 k2
        go_enter Try.func24, Try.ntmps24
        go_wp2_with fail
        go_ret
        exact ⟨by rw [HG.out]; rfl, HB.out⟩

theorem zeroE_run (w : World) : (zeroValue 35).run Try.prog w = .ok (.agg #[.int .u32 0, .int .u8 0]) w := by kernel_rfl
theorem cellsE_app (a b : List EL) : cellsK encE (a ++ b) = cellsK encE a ++ cellsK encE b := cellsK_app a b
theorem cellsE_len (a : List EL) : (cellsK encE a).length = a.length * 2 := cellsK_len encE_len a
theorem zerosE (m : Nat) : (List.replicate m (Value.agg #[.int .u32 0, .int .u8 0]).cells.toList).flatten = cellsK encE (List.replicate m noE) := by
  induction m with
  | zero => rfl
  | succ m ih => rw [List.replicate_succ, List.flatten_cons, ih, List.replicate_succ, cellsK_cons]; rfl

set_option maxRecDepth 100000 in
set_option maxHeartbeats 4000000 in
theorem deleteL_c {base g cap i N : Nat} (ho : W.ownsRow base 35 2 (.slice (some ⟨g, 0, none⟩) N cap) N (cellsK encE l)) (hN : l.length = N) (hi : i < N) (hm : N ≤ 100000000) {x y : Int} (hx : x = (i : Nat)) (hy : y = ((i + 1 : Nat) : Int)) :
    Calls Try.prog 25 #[.slice (some ⟨g, 0, none⟩) N cap, .int .i64 x, .int .i64 y] W fun e w' => e = .returned (.slice (some ⟨g, 0, none⟩) (N - 1) cap) ∧
      w'.ownsRow base 35 2 (.slice (some ⟨g, 0, none⟩) (N - 1) cap) (N - 1) (cellsK encE (l.eraseIdx i)) ∧ W.grownBy w' (some g) := by
  subst hx
  subst hy
  obtain ⟨i0, hi0, hz0, hz1, hz2⟩ := info_parts infoE
  have hcap : N ≤ cap ∧ cap ≤ 9223372036854775807 := by
    rcases ho.2 with ⟨h, _⟩ | ⟨g', cap', cur, h, _, _, h1, h2, _⟩
    · simp at h
    · cases h; unfold maxLen at h2; omega
  obtain ⟨hcN, hcm⟩ := hcap
  obtain ⟨j, hj⟩ : ∃ j, i + 1 = j := ⟨_, rfl⟩
  have hlt : i < j := by omega
  have hjN : j ≤ N := by omega
  -- the cells that are moved to the left
  obtain ⟨r, hr⟩ : ∃ r, l[i]? = some r := ⟨_, List.getElem?_eq_getElem (by omega)⟩
  have hsplit : l = l.take i ++ [r] ++ l.drop j := by
    rw [← take_at' hr, hj, List.take_append_drop]
  have herase : l.eraseIdx i = l.take i ++ l.drop j := by rw [← hj]; exact List.eraseIdx_eq_take_drop_succ l i
  obtain ⟨A0, hA0⟩ : ∃ A0, l.take i = A0 := ⟨_, rfl⟩
  obtain ⟨D0, hD0⟩ : ∃ D0, l.drop j = D0 := ⟨_, rfl⟩
  rw [hA0, hD0] at hsplit herase
  have hAl : A0.length = i := by rw [← hA0, List.length_take]; omega
  have hDl : D0.length = N - j := by rw [← hD0, List.length_drop]; omega
  have hnl : (cellsK encE D0).length = (N - j) * 2 := by rw [cellsE_len, hDl]
  have hall : cellsK encE l = cellsK encE A0 ++ encE r ++ cellsK encE D0 := by rw [hsplit, cellsE_app, cellsE_app, cellsK_one]
  have hsrc0 : ∀ t u, (cellsK encE D0)[t]? = some u → W.drew.cell? ⟨g, j * 2 + t, none⟩ = some u := fun t u hu => by
    have hlt2 := (List.getElem?_eq_some_iff.1 hu).1
    show W.cell? _ = _
    rw [ho.cellAt _ (by rw [hnl] at hlt2; omega), hall, List.getElem?_append_right (by rw [List.length_append, cellsE_len, hAl, encE_len]; omega)]
    rw [← hu]; congr 1; rw [List.length_append, cellsE_len, hAl, encE_len]; omega
  obtain ⟨A, hA, hsrc⟩ : ∃ A : Addr, (if cap = j then some (⟨g, 0, none⟩ : Addr) else some ⟨g, j * 2, none⟩) = some A ∧ Hid (∀ t u, (cellsK encE D0)[t]? = some u → W.drew.cell? (A.add t) = some u) := by
    by_cases h : cap = j
    · refine ⟨⟨g, 0, none⟩, by simp [h], fun t u hu => ?_⟩
      have hlt2 := (List.getElem?_eq_some_iff.1 hu).1
      omega
    · refine ⟨⟨g, j * 2, none⟩, by simp [h], fun t u hu => ?_⟩
      rw [Addr.add_mid]
      exact hsrc0 t u hu
  have s1 : Hid ((cellsK encE D0).length = (N - j) * 2) := hnl
  have s2 : Hid (∀ u ∈ cellsK encE D0, u.oneCell' = true) := cellsE_one D0
  have s3 : Hid (∀ t, t < (cellsK encE D0).length → (W.drew.cell? ⟨g, 0 + i * 2 + t, none⟩).isSome = true ∧ W.drew.frozen? ⟨g, 0 + i * 2 + t, none⟩ = false) := by
    intro t ht
    rw [hnl] at ht
    rw [Nat.zero_add]
    exact ownK_there ho (i * 2) ((N - j) * 2) (by omega) t ht
  obtain ⟨W1, hW1⟩ : ∃ W1, W1 = W.drew.setCells g (0 + i * 2) (cellsK encE D0) := ⟨_, rfl⟩
  obtain ⟨L1, hL1⟩ : ∃ L1 : List Value, L1 = setK (cellsK encE l) (0 + i * 2) (cellsK encE D0) := ⟨_, rfl⟩
  have hst := ownK_stored (cellsK encE D0) W.drew (cellsK encE l) (0 + i * 2) ho
  rw [← hW1, ← hL1] at hst
  obtain ⟨ho1, hg1⟩ := hst
  have hL1' : L1 = cellsK encE A0 ++ cellsK encE D0 ++ ((encE r ++ cellsK encE D0).drop ((N - j) * 2)) := by
    rw [hL1, hall, Nat.zero_add]
    have e : cellsK encE A0 ++ encE r ++ cellsK encE D0 = cellsK encE A0 ++ (encE r ++ cellsK encE D0).take ((N - j) * 2) ++ (encE r ++ cellsK encE D0).drop ((N - j) * 2) := by
      rw [List.append_assoc, List.append_assoc, List.take_append_drop]
    rw [e, show i * 2 = (cellsK encE A0).length by rw [cellsE_len, hAl]]
    refine setK_mid _ _ _ _ ?_
    rw [List.length_take, List.length_append, hnl, encE_len]; omega
  have hth : W1.there g ((i + (N - j)) * 2) 2 := ownK_there ho1 _ _ (by omega)
  have hcl : ∀ ty, (Builtin.clear_ #[26] ty #[.slice (some ⟨g, (i + (N - j)) * 2, none⟩) (N - (i + (N - j))) (cap - (i + (N - j)))]).run Try.prog W1 = .ok (.tuple #[]) (W1.setCells g ((i + (N - j)) * 2) (encE noE)) := fun ty => by
    rw [show N - (i + (N - j)) = 1 by omega]
    exact run_clear_cells W1 26 35 ty _ Try.underlying26 zeroE_run (by decide) (by simp [Value.cells, Value.oneCell']) g _ 1 _ (by omega) hth
  have ho2 := (ownK_stored (encE noE) W1 L1 ((i + (N - j)) * 2) ho1)
  have hfin : (setK L1 ((i + (N - j)) * 2) (encE noE)).take ((N - 1) * 2) = cellsK encE (l.eraseIdx i) := by
    have hlen : ((encE r ++ cellsK encE D0).drop ((N - j) * 2)).length = 2 := by rw [List.length_drop, List.length_append, hnl, encE_len]; omega
    rw [hL1', herase, cellsE_app]
    have h3 := setK_mid (encE noE) (cellsK encE A0 ++ cellsK encE D0) ((encE r ++ cellsK encE D0).drop ((N - j) * 2)) [] (by rw [hlen]; rfl)
    rw [List.append_nil, List.append_nil, List.length_append, hnl, cellsE_len, hAl, ← Nat.add_mul] at h3
    rw [h3, List.take_left' (by rw [List.length_append, hnl, cellsE_len, hAl]; omega)]
  have hend : (W1.setCells g ((i + (N - j)) * 2) (encE noE)).ownsRow base 35 2 (.slice (some ⟨g, 0, none⟩) (N - 1) cap) (N - 1) (cellsK encE (l.eraseIdx i)) := by
    have := ownK_cut ho2.1 (m := N - 1) (by omega)
    rw [hfin] at this
    exact this
  have hgr : W.grownBy (W1.setCells g ((i + (N - j)) * 2) (encE noE)) (some g) := by
    have h4 : W.grownBy W1 (some g) := ⟨hg1.os, hg1.tape, hg1.output, hg1.size, hg1.block⟩
    exact h4.trans ho2.2
  have HE := Lib.hid hend
  have HGR := Lib.hid hgr
  have HW : Hid (W1 = W.drew.setCells g (0 + i * 2) (cellsK encE D0)) := hW1
  have HQ : Hid (i + (N - j) = N - 1) := by show _ = _; omega
  have hic : i ≤ cap := by omega
  have hjc : j ≤ cap := by omega
  have hne : ¬ cap = i + (N - j) := by omega
  have hq1 : ((i : Int) == (j : Int)) = false := by rw [beq_eq_false_iff_ne]; omega
  obtain ⟨cs, hcs⟩ : ∃ cs, cs = cellsK encE D0 := ⟨_, rfl⟩
  rw [← hcs] at s1 s2 s3 hsrc HW
  clear hcs hW1 hL1 hL1' ho1 hg1 hth ho2 hfin hend hgr hsrc0 hall hnl hsplit herase ho hr hAl hDl hA0 hD0 hN
  rw [hj]
  clear hj
  go_enter Try.func25, Try.ntmps25
  go_wp2_with fail
  go_region_law (refine step_append_room rfl (.tmp 22) (.tmp 25) 26 rfl 35 i0 2 Try.underlying26 hi0 hz1 g 0 i cap (by simp [Act.eval, Act.put]) A (N - j) (cap - j) cs (by simp [Act.eval, Act.put]) s1.out hsrc.out s2.out (by omega) s3.out ?_; rw [← HW.out])
  go_wp2
  go_ret
  refine ⟨?_, HE.out, HGR.out⟩
  rw [← HQ.out]; rfl
end Go.Proofs.Ytebkpejiloabnaa

/-
  The law's world is right: walked.
-/
import Derived.Test.YtefmojohabdjcaaRnS
set_option linter.unusedVariables false
set_option linter.unusedSimpArgs false
namespace Go.Proofs.Ytefmojohabdjcaa
open Go Go.RowKit
attribute [local go_sem ↓] Go.wp_at_zero Go.wp_at_succ

variable {W0 : World} {B : RB} {C : RC} {s : RS} {w : World} {n : Nat}
theorem RInv.drew (h : RInv W0 B C s w) (q : Nat) : RInv W0 B C s (w.drewN q) :=
  { h with
    ep := h.ep.later fun _ _ => rfl
    wq := h.wq.later rfl
    all := h.all.later rfl
    acts := fun i hi hd => { h.acts i hi hd with
      act := (h.acts i hi hd).act.later rfl
      box := (h.acts i hi hd).box.later fun _ _ => rfl }
    bel := below_drewN h.bel q }
theorem awayC_at (gs : List (Nat × List Int)) (tv : List Value) (hl : tv.length = gs.length) (k : Nat) (hk : k < gs.length) : ∃ g v, gs[k]? = some g ∧ tv[k]? = some v ∧ (awayC gs tv)[k * 2]? = some (.int .u64 g.1) ∧ (awayC gs tv)[k * 2 + 1]? = some v := by
  induction gs generalizing tv k with
  | nil => simp at hk
  | cons a gs ih =>
    cases tv with
    | nil => simp at hl
    | cons v tv =>
      cases k with
      | zero => exact ⟨a, v, rfl, rfl, rfl, rfl⟩
      | succ k =>
        obtain ⟨g, u, h1, h2, h3, h4⟩ := ih tv (by simpa using hl) k (by simpa using hk)
        refine ⟨g, u, h1, h2, ?_, ?_⟩
        · rw [show (k + 1) * 2 = k * 2 + 2 by omega]; exact h3
        · rw [show (k + 1) * 2 + 1 = k * 2 + 1 + 2 by omega]; exact h4

set_option maxRecDepth 20000 in
set_option maxHeartbeats 4000000 in
theorem right_c (hI : RInv W0 B C s w) (hL : LInv B n s) (hn : n ≤ 1000) : Calls Try.prog 9 #[pW B] w fun e w' => e = .returned (.bool true) ∧ RInv W0 B C s w' := by
  have HI := Lib.hid hI
  have HL := Lib.hid hL
  have CN := Lib.hid (now_c hI.ep)
  obtain ⟨c0, c1, c2, c3⟩ := hI.wq.cell
  have c4 := hI.wq.lt
  obtain ⟨R, hR⟩ : ∃ R, B.p.R = R := ⟨_, rfl⟩
  have hR8 : R ≤ 8 := by rw [← hR]; exact hI.ep.fit.2.2
  have HR := Lib.hid hR
  rw [hR] at c1
  obtain ⟨now, hnow⟩ : ∃ now, s.es.now = now := ⟨_, rfl⟩
  have hnw : now ≤ 2000 := by rw [← hnow]; have := hL.le; omega
  rw [hnow] at c3 CN
  have HNW := Lib.hid hnow
  have g0 : ((now : Int) != (now : Int)) = false := by simp
  unfold pE at c0 CN
  unfold pW
  clear hI hL hR hnow
  go_enter Try.func9, Try.ntmps9
  go_wp2_with (go_at_call 21; refine CN.out.mono ?_; rintro e w' ⟨rfl, hw⟩; rw [hw]; clear hw w')
  clear c0 c2 c3 c1 c4
  go_loopw [4] (fun i wr => ∃ (k : Nat), k ≤ R ∧ i = .int .i64 k ∧ Hid (RInv W0 B C s wr)) (fun i _ => R - (intOf i).toNat)
  case atStart => exact ⟨0, Nat.zero_le _, rfl, HI⟩
  case round =>
    obtain ⟨k, hk, rfl, HJ⟩ := hrel
    clear HI
    obtain ⟨c0, c1, c2, c3⟩ := HJ.out.wq.cell
    have c4 := HJ.out.wq.lt
    rw [HR.out] at c1
    by_cases hlt : k < R
    · have hq : (k : Int) < R := by omega
      have hq0 : (0 : Int) ≤ k := by omega
      have hkR : k < B.p.R := by rw [HR.out]; exact hlt
      obtain ⟨d0, d1, d2, d3, d4, d5, d6⟩ := HJ.out.all.cells hkR
      obtain ⟨f0, f1, f2, f3, f4, f5, f6⟩ := dgF_cells C s k
      rw [f4] at d4
      rw [f5] at d5
      have d7 := HJ.out.all.lt
      obtain ⟨bq, hbq⟩ : ∃ bq, s.pn k = bq := ⟨_, rfl⟩
      rw [hbq] at d4
      clear d0 d1 d2 d3 d6 f0 f1 f2 f3 f4 f5 f6 c0 c2 c3
      cases bq with
      | false =>
        clear hbq
        go_wp2_with fail
        go_roundw
        case rel => exact ⟨k + 1, by omega, by go_num, HJ⟩
        case measure => simp [intOf]; omega
      | true =>
        obtain ⟨e1, e2, e3⟩ := HL.out.pn k hkR hbq
        obtain ⟨e4, e5, e6⟩ := HL.out.pin.pin k hkR e1
        obtain ⟨si, hsi⟩ : ∃ x, s.si k = x := ⟨_, rfl⟩
        rw [hsi] at d5 e2
        rw [e2, HNW.out] at e5 e6
        have g1 : ¬ (now : Int) < si := by omega
        have g2 : ¬ ((si : Int) + 1 < now) := by omega
        have hsi2 : si ≤ 2000 := by omega
        clear e1 e2 e3 e4 e5 e6 hbq hsi
        go_wp2_with fail
        go_roundw
        case rel => exact ⟨k + 1, by omega, by go_num, HJ⟩
        case measure => simp [intOf]; omega
    · obtain rfl : k = R := by omega
      have hq : ¬ (k : Int) < k := by omega
      clear c0 c2 c3
      go_wp2_with fail
      clear c1 c4
      obtain ⟨M, hM⟩ : ∃ M, s.gs.length = M := ⟨_, rfl⟩
      have HM := Lib.hid hM
      have hMM : M ≤ 1000 := by rw [← hM]; have := HL.out.le.2.2.1; omega
      clear hM
      have HJ0 := HJ
      clear HJ
      go_loopw [5] (fun i wr => ∃ (j : Nat), j ≤ M ∧ i = .int .i64 j ∧ Hid (RInv W0 B C s wr)) (fun i _ => M - (intOf i).toNat)
      case atStart => exact ⟨0, Nat.zero_le _, rfl, HJ0⟩
      case round =>
        obtain ⟨j, hj, rfl, HJ⟩ := hrel
        clear HJ0
        obtain ⟨c0, c1, c2, c3⟩ := HJ.out.wq.cell
        have c4 := HJ.out.wq.lt
        rw [HR.out] at c1
        obtain ⟨ga, gc, hgv⟩ := own_form HJ.out.gone
        rw [HM.out] at hgv
        rw [hgv] at c2
        by_cases hlt2 : j < M
        · have hq2 : (j : Int) < M := by omega
          have hq3 : (0 : Int) ≤ j := by omega
          obtain ⟨g, tv, hg, htv, hc1, hc2⟩ := awayC_at s.gs C.tv HJ.out.tvl j (by rw [HM.out]; exact hlt2)
          obtain ⟨hg1, hg2⟩ := HL.out.gs g (List.mem_of_getElem? hg)
          rw [HNW.out] at hg1
          have hgo := HJ.out.gone
          rw [hgv, HM.out] at hgo
          obtain ⟨G, hG⟩ : ∃ G, ga = some ⟨G, 0, none⟩ := by
            rcases hgo.2 with ⟨e, _⟩ | ⟨q, cap, cur, e, _⟩
            · injection e with e1 e2 e3; omega
            · cases e; exact ⟨q, rfl⟩
          subst hG
          have k0 : wr.cell? ⟨G, j * 2, none⟩ = some (.int .u64 g.1) := by rw [hgo.cellAt _ (by omega)]; exact hc1
          have k1 : wr.cell? ⟨G, j * 2 + 1, none⟩ = some tv := by rw [hgo.cellAt _ (by omega)]; exact hc2
          have k2 : G < wr.heap.size := (hgo.lt G rfl).2
          have htr := HJ.out.turns j g tv hg htv
          rw [HR.out] at htr
          obtain ⟨ta, tc, htf⟩ := own_form htr
          subst htf
          obtain ⟨T0, hT0⟩ : ∃ T0, g.1 = T0 := ⟨_, rfl⟩
          rw [hT0] at k0 hg1
          have HG2 := Lib.hid hg2
          have HT0 := Lib.hid hT0
          have HTR : Hid (∀ w', RInv W0 B C s w' → w'.ownsRow W0.heap.size 3 1 (.slice ta k tc) k (intsV g.2)) := fun w' h' => by
            have := h'.turns j g _ hg htv
            rw [HR.out] at this
            exact this
          have HGO : Hid (∀ w', RInv W0 B C s w' → w'.cell? ⟨G, j * 2 + 1, none⟩ = some (.slice ta k tc) ∧ G < w'.heap.size) := fun w' h' => by
            have h9 := h'.gone
            rw [hgv, HM.out] at h9
            exact ⟨by rw [h9.cellAt _ (by omega)]; exact hc2, (h9.lt G rfl).2⟩
          have HGV := Lib.hid hgv
          clear hg htv hc1 hc2 hg2 hgo htr hT0 c0 c3 hgv
          by_cases hlate : now < T0 + 2
          · have q5 : (now : Int) < (T0 : Int) + 2 := by omega
            go_wp2_with fail
            go_roundw
            case rel => exact ⟨j + 1, by omega, by go_num, HJ⟩
            case measure => simp [intOf]; omega
          · have q5 : ¬ (now : Int) < (T0 : Int) + 2 := by omega
            go_wp2_with fail
            clear c1 c2 c4 k0 k1 k2
            go_loopw [6] (fun i wr2 => ∃ (q : Nat), q ≤ k ∧ i = .int .i64 q ∧ Hid (RInv W0 B C s wr2)) (fun i _ => k - (intOf i).toNat)
            case atStart => exact ⟨0, Nat.zero_le _, rfl, HJ⟩
            case round =>
              obtain ⟨q, hq4, rfl, HJ2⟩ := hrel
              clear HJ
              obtain ⟨c0, c1, c2, c3⟩ := HJ2.out.wq.cell
              have c4 := HJ2.out.wq.lt
              rw [HR.out] at c1
              rw [HGV.out] at c2
              by_cases hlt3 : q < k
              · have hq5 : (q : Int) < k := by omega
                have hq6 : (0 : Int) ≤ q := by omega
                have hqR : q < B.p.R := by rw [HR.out]; exact hlt3
                obtain ⟨d0, d1, d2, d3, d4, d5, d6⟩ := HJ2.out.all.cells hqR
                obtain ⟨f0, f1, f2, f3, f4, f5, f6⟩ := dgF_cells C s q
                rw [f4] at d4
                rw [f6] at d6
                have d7 := HJ2.out.all.lt
                obtain ⟨k1, k2⟩ := HGO.out _ HJ2.out
                obtain ⟨T, hT1, hT2, hT3⟩ := HG2.out q hqR
                have hrow := HTR.out _ HJ2.out
                obtain ⟨Q, hQ⟩ : ∃ Q, ta = some ⟨Q, 0, none⟩ := by
                  rcases hrow.2 with ⟨e, _⟩ | ⟨q, cap, cur, e, _⟩
                  · injection e with e1 e2 e3; omega
                  · cases e; exact ⟨q, rfl⟩
                subst hQ
                have m0 : wr.cell? ⟨Q, q, none⟩ = some (.int .i64 T) := by
                  rw [hrow.cellAt q (by omega)]; unfold intsV; rw [List.getElem?_map, hT1]; rfl
                have m1 : Q < wr.heap.size := (hrow.lt Q rfl).2
                obtain ⟨bq, hbq⟩ : ∃ bq, s.pn q = bq := ⟨_, rfl⟩
                rw [hbq] at d4
                clear d0 d1 d2 d3 d5 f0 f1 f2 f3 f4 f5 f6 c0 c3 hrow hT1
                cases bq with
                | false =>
                  clear hbq hT3 d6
                  go_wp2_with fail
                  go_quiet (fail)
                  have HJ3 := Lib.hid (HJ2.out.drew nq)
                  obtain ⟨W4, hW4⟩ : ∃ W4, wr.drewN nq = W4 := ⟨_, rfl⟩
                  rw [hW4] at HJ3 ⊢
                  clear hW4 c1 c2 c4 d4 d7 k1 k2 m0 m1 HJ2
                  go_wp2_with fail
                  go_roundw
                  case rel => exact ⟨q + 1, by omega, by go_num, HJ3.out⟩
                  case measure => simp [intOf]; omega
                | true =>
                  obtain ⟨e1, e2, e3⟩ := HL.out.pn q hqR hbq
                  obtain ⟨e4, e5, e6⟩ := HL.out.pin.pin q hqR e1
                  rw [e2, HNW.out] at e5 e6
                  have hne : ¬ T = s.tn q := fun e => by
                    have := hT3 hbq e
                    rw [HT0.out] at this
                    omega
                  obtain ⟨tn, htn⟩ : ∃ x, s.tn q = x := ⟨_, rfl⟩
                  rw [htn] at d6 hne
                  have g1 : (T == (tn : Int)) = false := by rw [beq_eq_false_iff_ne]; exact hne
                  clear e1 e2 e3 e4 e5 e6 hbq hT3 hT2 htn hne
                  go_wp2_with fail
                  go_quiet (fail)
                  have HJ3 := Lib.hid (HJ2.out.drew nq)
                  obtain ⟨W4, hW4⟩ : ∃ W4, wr.drewN nq = W4 := ⟨_, rfl⟩
                  rw [hW4] at HJ3 ⊢
                  clear hW4 c1 c2 c4 d4 d6 d7 k1 k2 m0 m1 HJ2 g1
                  go_wp2_with fail
                  go_roundw
                  case rel => exact ⟨q + 1, by omega, by go_num, HJ3.out⟩
                  case measure => simp [intOf]; omega
              · obtain rfl : q = k := by omega
                have hq5 : ¬ (q : Int) < q := by omega
                clear c0 c2 c3
                go_wp2_with fail
                go_roundw
                case rel => exact ⟨j + 1, by omega, by go_num, HJ2.out⟩
                case measure => simp [intOf]; omega
        · obtain rfl : j = M := by omega
          have hq2 : ¬ (j : Int) < j := by omega
          clear c0 c1 c3
          go_wp2_with fail
          go_ret
          exact ⟨rfl, HJ.out⟩
end Go.Proofs.Ytefmojohabdjcaa

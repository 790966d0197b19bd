/-
  The law's step, walked: the head, kind 3.
-/
import Derived.Test.YtefmojohabdjcaaRnT
set_option linter.unusedVariables false
set_option linter.unusedSimpArgs false
namespace Go.Proofs.Ytefmojohabdjcaa
open Go Go.RowKit
attribute [local go_sem ↓] Go.wp_at_zero Go.wp_at_succ

variable {W0 : World} {B : RB} {C : RC} {s : RS} {w w' : World} {n : Nat}
set_option maxRecDepth 20000 in
set_option maxHeartbeats 40000000 in
theorem step_c3 (hI : RInv W0 B C s w) (hL : LInv B n s) (hn : n ≤ 1000) (who : Nat) (hw : who < B.p.R) (la : Option Addr) (lc : Nat) (l : List Nat) (hl : l.length ≤ 40) (hl8 : ∀ x, x ∈ l → x < 256)
    (hlv : ∀ w', Below W0.heap.size W0 w' → RowAt w' (.slice la l.length lc) (l.map fun n : Nat => Value.int .u8 n))
    (hcase : ∀ y, l[s.nx who]? = some y → (s.pc who).isDone = true → y % 4 = 3) :
    Calls Try.prog 8 #[pW B, .int .i64 who, .slice la l.length lc] w fun e w' => StepOK W0 B (n + 1) e w' := by
  have HI := Lib.hid hI
  have HCASE := Lib.hid hcase
  clear hcase
  have HL := Lib.hid hL
  have HLV := Lib.hid hlv
  have HL8 := Lib.hid hl8
  obtain ⟨N, hN⟩ : ∃ N, l.length = N := ⟨_, rfl⟩
  have hN40 : N ≤ 40 := by omega
  rw [hN] at HLV ⊢
  have HN := Lib.hid hN
  obtain ⟨c0, c1, c2, c3⟩ := hI.wq.cell
  have c4 := hI.wq.lt
  obtain ⟨R, hR⟩ : ∃ R, B.p.R = R := ⟨_, rfl⟩
  have HR := Lib.hid hR
  rw [hR] at c1
  have hR8 : R ≤ 8 := by rw [← hR]; exact hI.ep.fit.2.2
  have hwR : who < R := by rw [← hR]; exact hw
  have HWR := Lib.hid hw
  have q0 : (0 : Int) ≤ who := by omega
  have q1 : (who : Int) < R := by omega
  obtain ⟨d0, d1, d2, d3, d4, d5, d6⟩ := hI.all.cells hw
  obtain ⟨f0, f1, f2, f3, f4, f5, f6⟩ := dgF_cells C s who
  rw [f0] at d0
  rw [f1] at d1
  rw [f2] at d2
  rw [f3] at d3
  rw [f4] at d4
  rw [f5] at d5
  rw [f6] at d6
  have d7 := hI.all.lt
  have d8 := hI.all.frozen
  clear hI hL hlv hl8 hl hN hR hw f0 f1 f2 f3 f4 f5 f6
  unfold pE at c0
  unfold pW
  unfold actV at d1
  go_enter Try.func8, Try.ntmps8
  go_upto_region 2 with (fail)
  go_cut [24] from 14 (fun t24 wx => t24 = .bool (s.pc who).isDone ∧ wx = w)
  case first =>
    cases hdone : (s.pc who).isDone with
    | true =>
      rw [hdone, if_pos rfl] at d1
      go_wp2_with fail
      go_meet
      case rel => exact ⟨by rw [hdone], rfl⟩
    | false =>
      rw [hdone, if_neg (by decide)] at d1
      unfold pa at d1
      go_wp2_with fail
      go_meet
      case rel => exact ⟨by rw [hdone], rfl⟩
  case rest =>
    obtain ⟨rfl, hwc⟩ := hcut
    rw [hwc]
    clear hwc wc
    go_upto_if 24 with (fail)
    go_cut [] from 14 (fun wx => MidOK W0 B n who wx)
    case first =>
      cases hdone : (s.pc who).isDone with
      | false =>
        go_wp2_with fail
        go_meet
        case rel => exact ⟨C, s, HI, Lib.hid (HL.out.mono (Nat.le_succ _)), ⟨hdone, by have := (HL.out.le.2.2.2 who HWR.out).1; omega, HL.out.le.2.1⟩⟩
      | true =>
        rw [hdone, if_pos rfl] at d1
        have HDN := Lib.hid hdone
        clear hdone
        obtain ⟨x, hx⟩ : ∃ x, s.nx who = x := ⟨_, rfl⟩
        rw [hx] at d0
        have HX := Lib.hid hx
        clear hx
        by_cases hxN : N ≤ x
        · have q2 : (N : Int) ≤ x := by omega
          clear d2 d3 d4 d5 d6 d8 c0 c1 c2 c3
          go_wp2_with fail
          go_ret
          exact ⟨rfl, C, s, HI.out, HL.out.mono (Nat.le_succ _)⟩
        · have q2 : ¬ (N : Int) ≤ x := by omega
          have q3 : (0 : Int) ≤ x := by omega
          have q4 : (x : Int) < N := by omega
          have hxl : x < l.length := by rw [HN.out]; omega
          obtain ⟨y, hy⟩ : ∃ y, l[x]? = some y := ⟨_, List.getElem?_eq_getElem hxl⟩
          have hy8 : y < 256 := HL8.out y (List.mem_of_getElem? hy)
          obtain ⟨b, off, hla, hb, cl⟩ := (HLV.out w HI.out.bel).at (j := x) (u := .int .u8 y) (by rw [List.getElem?_map, hy]; rfl)
          cases hla
          obtain ⟨k, hk⟩ : ∃ k, k = y % 4 := ⟨_, rfl⟩
          have hk4 : k < 4 := by omega
          have hkc : k = 3 := by rw [hk]; exact HCASE.out y (by rw [HX.out]; exact hy) HDN.out
          have HKC := Lib.hid hkc
          clear hkc HCASE
          have ek : (y : Int) % 4 = (k : Int) := by omega
          have EK := Lib.hid ek
          have hx40 : x < 40 := by omega
          clear hy hxl ek hk d2 d4 d5 d6 c0 c1 c2 c3
          go_upto_region 6 with (fail)
          have hA1 := HI.out.toAll.setA HWR.out (j := 3) (by omega) (.int .u8 k)
          obtain ⟨w1, hw1⟩ : ∃ w1, w.setCell ⟨B.Ab, who * 7 + 3, none⟩ (.int .u8 k) = w1 := ⟨_, rfl⟩
          rw [hw1] at hA1
          rw [EK.out, hw1]
          clear hw1 d0 d1 d3 d7 d8 cl hb c4
          obtain ⟨d0, d1, d2, d3, d4, d5, d6⟩ := hA1.all.cells HWR.out
          have f0 : upd7 (dgF C s) who 3 (.int .u8 k) who 0 = .int .i64 x := by rw [← HX.out]; simp [upd7, dgF]
          rw [f0] at d0
          have d7 := hA1.all.lt
          have d8 := hA1.all.frozen
          have HA1 := Lib.hid hA1
          clear hA1 f0 d1 d2 d3 d4 d5 d6
          go_upto_region 7 with (fail)
          have hA2 := HA1.out.setA0 HWR.out (.int .i64 ((x + 1 : Nat) : Int))
          have e11 : (x : Int) + 1 = ((x + 1 : Nat) : Int) := by omega
          obtain ⟨w2, hw2⟩ : ∃ w2, w1.setCell ⟨B.Ab, who * 7, none⟩ (.int .i64 ((x + 1 : Nat) : Int)) = w2 := ⟨_, rfl⟩
          rw [hw2] at hA2
          rw [← e11] at hw2
          rw [hw2]
          clear hw2 d0 d7 d8 e11
          obtain ⟨F2, hF2⟩ : ∃ F2, upd7 (upd7 (dgF C s) who 3 (.int .u8 k)) who 0 (.int .i64 ((x + 1 : Nat) : Int)) = F2 := ⟨_, rfl⟩
          have g0 : F2 who 0 = .int .i64 ((s.nx who + 1 : Nat) : Int) := by rw [← hF2, HX.out]; simp [upd7]
          have g1 : F2 who 1 = .pointer none := by rw [← hF2]; simp [upd7, dgF, actV, HDN.out]
          have g2 : F2 who 2 = C.mv who := by rw [← hF2]; simp [upd7, dgF]
          have g3 : F2 who 3 = .int .u8 k := by rw [← hF2]; simp [upd7]
          have g4 : F2 who 4 = .bool (s.pn who) := by rw [← hF2]; simp [upd7, dgF]
          have g5 : F2 who 5 = .int .u64 (s.si who) := by rw [← hF2]; simp [upd7, dgF]
          have g6 : F2 who 6 = .int .i64 (s.tn who) := by rw [← hF2]; simp [upd7, dgF]
          have go : ∀ i, i ≠ who → ∀ j, F2 i j = dgF C s i j := fun i hi j => by
            rw [← hF2]; unfold upd7; rw [if_neg (fun h => hi h.1), if_neg (fun h => hi h.1)]
          rw [hF2] at hA2
          have HG : Hid (F2 who 0 = .int .i64 ((s.nx who + 1 : Nat) : Int) ∧ F2 who 1 = .pointer none ∧ F2 who 2 = C.mv who ∧ F2 who 3 = .int .u8 k ∧ F2 who 4 = .bool (s.pn who) ∧ F2 who 5 = .int .u64 (s.si who) ∧ F2 who 6 = .int .i64 (s.tn who) ∧ ∀ i, i ≠ who → ∀ j, F2 i j = dgF C s i j) := ⟨g0, g1, g2, g3, g4, g5, g6, go⟩
          obtain ⟨d0, d1, d2, d3, d4, d5, d6⟩ := hA2.all.cells HWR.out
          rw [g3] at d3
          have d7 := hA2.all.lt
          have d8 := hA2.all.frozen
          obtain ⟨c0, c1, c2, c3⟩ := hA2.q.cell
          have c4 := hA2.q.lt
          have HA2 := Lib.hid hA2
          have HBEG : Hid (k < 3 → LInv B (n + 1) (s.begin who k) ∧ (s.begin who k).tn who ≤ 2 * n + 1) := fun h3 => HL.out.begin HWR.out HDN.out h3 (by rw [HX.out]; exact hx40)
          clear hA2 hF2 g0 g1 g2 g3 g4 g5 g6 go d0 d1 d2 d4 d5 d6 HA1
          unfold pE at c0
          have hk0 : k = 3 := HKC.out
          subst hk0
          have hF2 : F2OK C s who 3 F2 := ⟨HG.out.1, HG.out.2.1, HG.out.2.2.1, HG.out.2.2.2.1, HG.out.2.2.2.2.1, HG.out.2.2.2.2.2.1, HG.out.2.2.2.2.2.2.1, HG.out.2.2.2.2.2.2.2⟩
          have HF2 := Lib.hid hF2
          have HT := Lib.hid (HL.out.take HWR.out HDN.out (by rw [HX.out]; exact hx40))
          obtain ⟨i0, hi0, hz0, hz1, hz2⟩ := info_parts infoAw
          obtain ⟨i1, hi1, hy0, hy1, hy2⟩ := info_parts infoInt
          rw [HR.out] at c1
          have hW02 : W0.heap.size ≤ w2.heap.size := HA2.out.core.bel.size
          clear HG HBEG hF2 c0 c2 c3 d8 HLV HL8
          go_wp2_with fail
          clear d3 d7 c1 c4
          go_loopw [8, 9] (fun tv i wr => ∃ (j : Nat), j ≤ R ∧ i = .int .i64 j ∧ Hid (wr.ownsRow w2.heap.size 3 1 tv j (intsV ((turnsOf s R).take j))) ∧ Hid (Below w2.heap.size w2 wr)) (fun _ i _ => R - (intOf i).toNat)
          case atStart => exact ⟨0, Nat.zero_le _, rfl, World.ownsRow_nil _ _ _ _, Below.refl _ _⟩
          case round =>
            obtain ⟨j, hj, rfl, HO, HB⟩ := hrel
            have hA := HA2.out.below HB.out
            obtain ⟨c0, c1, c2, c3⟩ := hA.q.cell
            have c4 := hA.q.lt
            rw [HR.out] at c1
            obtain ⟨ta, tc, htv⟩ := own_form HO.out
            subst htv
            by_cases hlt : j < R
            · have hq : (j : Int) < R := by omega
              have hq0 : (0 : Int) ≤ j := by omega
              have hjR : j < B.p.R := by rw [HR.out]; exact hlt
              obtain ⟨d0, d1, d2, d3, d4, d5, d6⟩ := hA.all.cells hjR
              rw [(HF2.out.at j).1] at d4
              rw [(HF2.out.at j).2] at d6
              have d7 := hA.all.lt
              have HTT := Lib.hid (turns_take s R j hlt)
              have hszr := HB.out.size
              clear hA d0 d1 d2 d3 d5 c0 c2 c3
              cases hpn : s.pn j with
              | true =>
                rw [hpn] at d4
                rw [hpn, if_pos rfl] at HTT
                obtain ⟨tn, htn⟩ : ∃ tn, s.tn j = tn := ⟨_, rfl⟩
                rw [htn] at d6 HTT
                clear hpn htn
                go_wp2_with (at_builtin; refine wpList_append_own _ rfl (.tmp 121) (.tmp 130) 23 rfl w2.heap.size 3 i1 (.int .i64 0) 1 8 Try.underlying23 hi1 hy0 hy1 hy2 rfl (by decide) _ _ _ rfl (HO.out.alloc _) ⟨wr.heap.size, 0, none⟩ 1 1 [.int .i64 tn] rfl rfl (World.news_of_block (cs := #[.int .i64 tn]) (t := 3) (fr := (0, 0)) (heap_alloc_new wr _)) (fun u hu => by simp at hu; subst hu; rfl) (by unfold maxLen; omega) (by omega) (by simp; omega) ?_)
                intro v3 w3 hown hgrow hnil
                have HB3 : Hid (Below w2.heap.size w2 w3) := (HB.out.alloc hszr _).grown hgrow (by simp; omega) (fun q hq => (HO.out.lt q hq).1)
                have HO3 := Lib.hid hown
                obtain ⟨va, vc, hv3⟩ := own_form hown
                subst hv3
                clear hown hgrow hnil HO HB d4 d6 d7 c1 c4
                go_wp2_with fail
                go_roundw
                case rel => exact ⟨j + 1, by omega, by go_num, by show World.ownsRow _ _ _ _ _ _ _; rw [HTT.out]; exact HO3.out, HB3.out⟩
                case measure => simp [intOf]; omega
              | false =>
                rw [hpn] at d4
                rw [hpn, if_neg (by decide)] at HTT
                clear hpn d6
                go_wp2_with (at_builtin; refine wpList_append_own _ rfl (.tmp 132) (.tmp 133) 23 rfl w2.heap.size 3 i1 (.int .i64 0) 1 8 Try.underlying23 hi1 hy0 hy1 hy2 rfl (by decide) _ _ _ rfl (HO.out.alloc _) ⟨wr.heap.size, 0, none⟩ 1 1 [.int .i64 (-1)] rfl rfl (World.news_of_block (cs := #[.int .i64 (-1)]) (t := 3) (fr := (0, 0)) (heap_alloc_new wr _)) (fun u hu => by simp at hu; subst hu; rfl) (by unfold maxLen; omega) (by omega) (by simp; omega) ?_)
                intro v3 w3 hown hgrow hnil
                have HB3 : Hid (Below w2.heap.size w2 w3) := (HB.out.alloc hszr _).grown hgrow (by simp; omega) (fun q hq => (HO.out.lt q hq).1)
                have HO3 := Lib.hid hown
                obtain ⟨va, vc, hv3⟩ := own_form hown
                subst hv3
                clear hown hgrow hnil HO HB d4 d7 c1 c4
                go_wp2_with fail
                go_roundw
                case rel => exact ⟨j + 1, by omega, by go_num, by show World.ownsRow _ _ _ _ _ _ _; rw [HTT.out]; exact HO3.out, HB3.out⟩
                case measure => simp [intOf]; omega
            · obtain rfl : j = R := by omega
              have hq : ¬ (j : Int) < j := by omega
              have ht := HO.out
              rw [List.take_of_length_le (by rw [turns_len]; exact Nat.le_refl _)] at ht
              have HO2 := Lib.hid ht
              obtain ⟨ga, gc, hgv⟩ := own_form hA.core.gone
              obtain ⟨M, hM⟩ : ∃ M, s.gs.length = M := ⟨_, rfl⟩
              rw [hM] at hgv
              have hMM : M ≤ 1000 := by rw [← hM]; have := HL.out.le.2.2.1; omega
              have hgo := hA.core.gone
              rw [hgv, hM] at hgo
              rw [hgv] at c2
              have HGO := Lib.hid hgo
              have HGV := Lib.hid hgv
              have HMe := Lib.hid hM
              have CN := now_c hA.core.ep
              have CN2 := now_c hA.core.ep.drew
              obtain ⟨now, hnow⟩ : ∃ now, s.es.now = now := ⟨_, rfl⟩
              rw [hnow] at CN CN2
              have HNW := Lib.hid hnow
              have HCN := Lib.hid CN
              have HCN2 := Lib.hid CN2
              have HAw := Lib.hid hA
              have hszr : W0.heap.size ≤ wr.heap.size := Nat.le_trans hW02 HB.out.size
              unfold pE at c0 HCN HCN2
              clear ht hgv hM hgo CN CN2 hnow hA c3 HO
              go_upto_region 24 with (fail)
              have d7 := HAw.out.q.lt
              go_region_law ((first
                | (refine step_append_lies _ (by rfl) (.tmp 139) (.tmp 147) 31 (by rfl) W0.heap.size 82 i0 (.agg #[.int .u64 0, .slice none 0 0]) 2 32 Try.underlying31 hi0 hz0 hz1 hz2 rfl (by omega) (.slice ga M gc) M (awayC s.gs C.tv) (by rfl) (by first | exact (HGO.out.alloc _).drew | exact HGO.out.alloc _ | exact HGO.out.drew.alloc _) ⟨wr.heap.size, 0, none⟩ 1 1 [.int .u64 now, .slice ta j tc] (by rfl) (by rfl) (World.news_of_block (cs := #[.int .u64 now, .slice ta j tc]) (t := 82) (fr := (0, 0)) (by first | exact heap_alloc_new wr _ | exact heap_alloc_new wr.drew _)) (by simp [Value.oneCell']) (by omega) (by unfold maxLen; omega) (by omega) (by simp; omega) (wr.heap.size + 1) (by simp) ?_; intro g2 cap2 w3 hown3 hgrow hat hlt3; have hq3 := grown_quad (w3 := w3) (gv := .slice ga M gc) (by first | exact (HAw.out.alloc _).drew.q | exact (HAw.out.alloc _).q | exact (HAw.out.drew.alloc _).q) (by first | exact (HGO.out.alloc _).drew | exact HGO.out.alloc _ | exact HGO.out.drew.alloc _) hgrow; obtain ⟨y0, y1, y2, y3⟩ := hq3.cell; have y4 := hq3.lt; have y5 : ∀ o, w3.frozen? ⟨B.Wb, o, none⟩ = false := (fun o => by have h' : w3.heap[B.Wb]? = _ := hq3; simp [World.frozen?, h']); rw [HGV.out] at y2; unfold pE at y0)
                | (go_simp; go_at_call 21; refine (by first | exact HCN.out | exact HCN2.out : Calls Try.prog 21 _ _ _).mono ?_; rintro e w' ⟨rfl, hw⟩; rw [hw]; clear hw w')))
              all_goals
                have hg' := hgrow
                rw [← HGV.out] at hg'
                have hend := take_end (C := C) (D := w2.heap.size) (tv := .slice ta j tc) (by first | exact (HAw.out.alloc _).drew | exact HAw.out.alloc _ | exact HAw.out.drew.alloc _) HWR.out HDN.out HF2.out (by rw [HR.out]; first | exact (HO2.out.alloc _).drew | exact HO2.out.alloc _ | exact HO2.out.drew.alloc _) hW02 (by rw [HMe.out, HNW.out]; exact hown3) hg'
                have HEND := Lib.hid hend
                clear hg' hend hown3 hgrow hat hlt3 hq3
                go_wp2_with fail
                go_ret
                exact ⟨rfl, _, _, HEND.out, HT.out⟩
    case rest =>
      apply_assumption
      exact step_tail hn HWR HR hR8 hwR q0 q1 hcut
end Go.Proofs.Ytefmojohabdjcaa

/-
  The law's step, walked: the head, kind 2.
-/
import Derived.Test.YtefmojohabdjcaaRnT
set_option linter.unusedVariables false
set_option linter.unusedSimpArgs false
namespace Go.Proofs.Ytefmojohabdjcaa
open Go Go.RowKit
attribute [local go_sem ↓] Go.wp_at_zero Go.wp_at_succ

variable {W0 : World} {B : RB} {C : RC} {s : RS} {w w' : World} {n : Nat}
set_option maxRecDepth 20000 in
set_option maxHeartbeats 40000000 in
theorem step_c2 (hI : RInv W0 B C s w) (hL : LInv B n s) (hn : n ≤ 1000) (who : Nat) (hw : who < B.p.R) (la : Option Addr) (lc : Nat) (l : List Nat) (hl : l.length ≤ 40) (hl8 : ∀ x, x ∈ l → x < 256)
    (hlv : ∀ w', Below W0.heap.size W0 w' → RowAt w' (.slice la l.length lc) (l.map fun n : Nat => Value.int .u8 n))
    (hcase : ∀ y, l[s.nx who]? = some y → (s.pc who).isDone = true → y % 4 = 2) :
    Calls Try.prog 8 #[pW B, .int .i64 who, .slice la l.length lc] w fun e w' => StepOK W0 B (n + 1) e w' := by
  have HI := Lib.hid hI
  have HCASE := Lib.hid hcase
  clear hcase
  have HL := Lib.hid hL
  have HLV := Lib.hid hlv
  have HL8 := Lib.hid hl8
  obtain ⟨N, hN⟩ : ∃ N, l.length = N := ⟨_, rfl⟩
  have hN40 : N ≤ 40 := by omega
  rw [hN] at HLV ⊢
  have HN := Lib.hid hN
  obtain ⟨c0, c1, c2, c3⟩ := hI.wq.cell
  have c4 := hI.wq.lt
  obtain ⟨R, hR⟩ : ∃ R, B.p.R = R := ⟨_, rfl⟩
  have HR := Lib.hid hR
  rw [hR] at c1
  have hR8 : R ≤ 8 := by rw [← hR]; exact hI.ep.fit.2.2
  have hwR : who < R := by rw [← hR]; exact hw
  have HWR := Lib.hid hw
  have q0 : (0 : Int) ≤ who := by omega
  have q1 : (who : Int) < R := by omega
  obtain ⟨d0, d1, d2, d3, d4, d5, d6⟩ := hI.all.cells hw
  obtain ⟨f0, f1, f2, f3, f4, f5, f6⟩ := dgF_cells C s who
  rw [f0] at d0
  rw [f1] at d1
  rw [f2] at d2
  rw [f3] at d3
  rw [f4] at d4
  rw [f5] at d5
  rw [f6] at d6
  have d7 := hI.all.lt
  have d8 := hI.all.frozen
  clear hI hL hlv hl8 hl hN hR hw f0 f1 f2 f3 f4 f5 f6
  unfold pE at c0
  unfold pW
  unfold actV at d1
  go_enter Try.func8, Try.ntmps8
  go_upto_region 2 with (fail)
  go_cut [24] from 14 (fun t24 wx => t24 = .bool (s.pc who).isDone ∧ wx = w)
  case first =>
    cases hdone : (s.pc who).isDone with
    | true =>
      rw [hdone, if_pos rfl] at d1
      go_wp2_with fail
      go_meet
      case rel => exact ⟨by rw [hdone], rfl⟩
    | false =>
      rw [hdone, if_neg (by decide)] at d1
      unfold pa at d1
      go_wp2_with fail
      go_meet
      case rel => exact ⟨by rw [hdone], rfl⟩
  case rest =>
    obtain ⟨rfl, hwc⟩ := hcut
    rw [hwc]
    clear hwc wc
    go_upto_if 24 with (fail)
    go_cut [] from 14 (fun wx => MidOK W0 B n who wx)
    case first =>
      cases hdone : (s.pc who).isDone with
      | false =>
        go_wp2_with fail
        go_meet
        case rel => exact ⟨C, s, HI, Lib.hid (HL.out.mono (Nat.le_succ _)), ⟨hdone, by have := (HL.out.le.2.2.2 who HWR.out).1; omega, HL.out.le.2.1⟩⟩
      | true =>
        rw [hdone, if_pos rfl] at d1
        have HDN := Lib.hid hdone
        clear hdone
        obtain ⟨x, hx⟩ : ∃ x, s.nx who = x := ⟨_, rfl⟩
        rw [hx] at d0
        have HX := Lib.hid hx
        clear hx
        by_cases hxN : N ≤ x
        · have q2 : (N : Int) ≤ x := by omega
          clear d2 d3 d4 d5 d6 d8 c0 c1 c2 c3
          go_wp2_with fail
          go_ret
          exact ⟨rfl, C, s, HI.out, HL.out.mono (Nat.le_succ _)⟩
        · have q2 : ¬ (N : Int) ≤ x := by omega
          have q3 : (0 : Int) ≤ x := by omega
          have q4 : (x : Int) < N := by omega
          have hxl : x < l.length := by rw [HN.out]; omega
          obtain ⟨y, hy⟩ : ∃ y, l[x]? = some y := ⟨_, List.getElem?_eq_getElem hxl⟩
          have hy8 : y < 256 := HL8.out y (List.mem_of_getElem? hy)
          obtain ⟨b, off, hla, hb, cl⟩ := (HLV.out w HI.out.bel).at (j := x) (u := .int .u8 y) (by rw [List.getElem?_map, hy]; rfl)
          cases hla
          obtain ⟨k, hk⟩ : ∃ k, k = y % 4 := ⟨_, rfl⟩
          have hk4 : k < 4 := by omega
          have hkc : k = 2 := by rw [hk]; exact HCASE.out y (by rw [HX.out]; exact hy) HDN.out
          have HKC := Lib.hid hkc
          clear hkc HCASE
          have ek : (y : Int) % 4 = (k : Int) := by omega
          have EK := Lib.hid ek
          have hx40 : x < 40 := by omega
          clear hy hxl ek hk d2 d4 d5 d6 c0 c1 c2 c3
          go_upto_region 6 with (fail)
          have hA1 := HI.out.toAll.setA HWR.out (j := 3) (by omega) (.int .u8 k)
          obtain ⟨w1, hw1⟩ : ∃ w1, w.setCell ⟨B.Ab, who * 7 + 3, none⟩ (.int .u8 k) = w1 := ⟨_, rfl⟩
          rw [hw1] at hA1
          rw [EK.out, hw1]
          clear hw1 d0 d1 d3 d7 d8 cl hb c4
          obtain ⟨d0, d1, d2, d3, d4, d5, d6⟩ := hA1.all.cells HWR.out
          have f0 : upd7 (dgF C s) who 3 (.int .u8 k) who 0 = .int .i64 x := by rw [← HX.out]; simp [upd7, dgF]
          rw [f0] at d0
          have d7 := hA1.all.lt
          have d8 := hA1.all.frozen
          have HA1 := Lib.hid hA1
          clear hA1 f0 d1 d2 d3 d4 d5 d6
          go_upto_region 7 with (fail)
          have hA2 := HA1.out.setA0 HWR.out (.int .i64 ((x + 1 : Nat) : Int))
          have e11 : (x : Int) + 1 = ((x + 1 : Nat) : Int) := by omega
          obtain ⟨w2, hw2⟩ : ∃ w2, w1.setCell ⟨B.Ab, who * 7, none⟩ (.int .i64 ((x + 1 : Nat) : Int)) = w2 := ⟨_, rfl⟩
          rw [hw2] at hA2
          rw [← e11] at hw2
          rw [hw2]
          clear hw2 d0 d7 d8 e11
          obtain ⟨F2, hF2⟩ : ∃ F2, upd7 (upd7 (dgF C s) who 3 (.int .u8 k)) who 0 (.int .i64 ((x + 1 : Nat) : Int)) = F2 := ⟨_, rfl⟩
          have g0 : F2 who 0 = .int .i64 ((s.nx who + 1 : Nat) : Int) := by rw [← hF2, HX.out]; simp [upd7]
          have g1 : F2 who 1 = .pointer none := by rw [← hF2]; simp [upd7, dgF, actV, HDN.out]
          have g2 : F2 who 2 = C.mv who := by rw [← hF2]; simp [upd7, dgF]
          have g3 : F2 who 3 = .int .u8 k := by rw [← hF2]; simp [upd7]
          have g4 : F2 who 4 = .bool (s.pn who) := by rw [← hF2]; simp [upd7, dgF]
          have g5 : F2 who 5 = .int .u64 (s.si who) := by rw [← hF2]; simp [upd7, dgF]
          have g6 : F2 who 6 = .int .i64 (s.tn who) := by rw [← hF2]; simp [upd7, dgF]
          have go : ∀ i, i ≠ who → ∀ j, F2 i j = dgF C s i j := fun i hi j => by
            rw [← hF2]; unfold upd7; rw [if_neg (fun h => hi h.1), if_neg (fun h => hi h.1)]
          rw [hF2] at hA2
          have HG : Hid (F2 who 0 = .int .i64 ((s.nx who + 1 : Nat) : Int) ∧ F2 who 1 = .pointer none ∧ F2 who 2 = C.mv who ∧ F2 who 3 = .int .u8 k ∧ F2 who 4 = .bool (s.pn who) ∧ F2 who 5 = .int .u64 (s.si who) ∧ F2 who 6 = .int .i64 (s.tn who) ∧ ∀ i, i ≠ who → ∀ j, F2 i j = dgF C s i j) := ⟨g0, g1, g2, g3, g4, g5, g6, go⟩
          obtain ⟨d0, d1, d2, d3, d4, d5, d6⟩ := hA2.all.cells HWR.out
          rw [g3] at d3
          have d7 := hA2.all.lt
          have d8 := hA2.all.frozen
          obtain ⟨c0, c1, c2, c3⟩ := hA2.q.cell
          have c4 := hA2.q.lt
          have HA2 := Lib.hid hA2
          have HBEG : Hid (k < 3 → LInv B (n + 1) (s.begin who k) ∧ (s.begin who k).tn who ≤ 2 * n + 1) := fun h3 => HL.out.begin HWR.out HDN.out h3 (by rw [HX.out]; exact hx40)
          clear hA2 hF2 g0 g1 g2 g3 g4 g5 g6 go d0 d1 d2 d4 d5 d6 HA1
          unfold pE at c0
          have hk0 : k = 2 := HKC.out
          subst hk0
          have hCP := adv_c (p := B.p) w2
          unfold pE at hCP
          have HCP := Lib.hid hCP
          clear hCP c1 c2 c3
          go_wp2_with fail
          refine HCP.out.mono ?_
          rintro e w3 ⟨V, A, b1, c1', rfl, hV0, hA0, hb0, hc0, hM, hA, hab, hb3⟩
          have hA3 := HA2.out.begin (k := 2) (A := A) (b := b1) (c := c1') (V := V) (mv := pV V) HWR.out HDN.out (by omega) hb3 hA0 hV0 hA ⟨V, rfl, hab⟩ (fun _ => ⟨rfl, hM⟩)
          have d17 := hA3.all.lt
          have d18 := hA3.all.frozen
          have d19 := (hA3.all.cells HWR.out).2.2.1
          obtain ⟨cur, hcur, _⟩ := hA3.all
          have hact3 : ActAt (w3.setCell ⟨B.Ab, who * 7 + 2, none⟩ (pV V)) A (cloV B.p.R b1 c1' .adv0) 0 := (hA : ActAt w3 A (cloV B.p.R b1 c1' .adv0) 0).later (Below.heap_setCell w3 ⟨B.Ab, who * 7 + 2, none⟩ _ A fun e => block_ne hA hcur (by decide) e)
          have hM3 : MvAt (w3.setCell ⟨B.Ab, who * 7 + 2, none⟩ (pV V)) V (pa A) false := (Below.heap_setCell w3 ⟨B.Ab, who * 7 + 2, none⟩ _ V fun e => block_ne hM hcur (by decide) e).trans hM
          have hA3' := hA3.setA HWR.out (j := 2) (by omega) (pV V)
          obtain ⟨w3', hw3'⟩ : ∃ w4, w3.setCell ⟨B.Ab, who * 7 + 2, none⟩ (pV V) = w4 := ⟨_, rfl⟩
          rw [hw3'] at hact3 hA3' hM3
          have HW3 := Lib.hid hw3'
          clear hA3 hcur hw3' hA0 hV0 hb0 hc0 hA hab hb3 HCP d3 d7 d8 c0 c4 hM HA2
          unfold pV at HW3
          go_upto_region 14 with (fail)
          rw [HW3.out]
          clear d17 d18 d19
          obtain ⟨d0, d1, d2, d3, d4, d5, d6⟩ := hA3'.all.cells HWR.out
          have f2 : upd7 F2 who 2 (pV V) who 2 = pV V := by simp [upd7]
          rw [f2] at d2
          unfold pV at d2
          have d17 := hA3'.all.lt
          have d18 := hA3'.all.frozen
          have m0 := hM3.cell.1
          have m1 := hM3.lt
          unfold pa at m0
          obtain ⟨cur, hcur, _⟩ := hA3'.all
          have hact4 : ActAt (w3'.setCell ⟨B.Ab, who * 7 + 1, none⟩ (pa A)) A (cloV B.p.R b1 c1' .adv0) 0 := hact3.later (Below.heap_setCell w3' ⟨B.Ab, who * 7 + 1, none⟩ _ A fun e => block_ne hact3 hcur (by decide) e)
          have hA4 := hA3'.setA HWR.out (j := 1) (by omega) (pa A)
          obtain ⟨w4, hw4⟩ : ∃ w4, w3'.setCell ⟨B.Ab, who * 7 + 1, none⟩ (pa A) = w4 := ⟨_, rfl⟩
          rw [hw4] at hact4 hA4
          have HW4 := Lib.hid hw4
          clear hcur hw4 hA3' hact3 hM3 d0 d3 d4 d5 d6 f2
          unfold pa at HW4
          go_upto_region 26 with (fail)
          rw [HW4.out]
          clear d17 d18 d1 d2 m0 m1
          obtain ⟨F4, hF4⟩ : ∃ F4, upd7 (upd7 F2 who 2 (pV V)) who 1 (pa A) = F4 := ⟨_, rfl⟩
          rw [hF4] at hA4
          have j0 : F4 who 0 = .int .i64 ((s.nx who + 1 : Nat) : Int) := by rw [← hF4, ← HG.out.1]; simp [upd7]
          have j1 : F4 who 1 = pa A := by rw [← hF4]; simp [upd7]
          have j2 : F4 who 2 = (pV V) := by rw [← hF4]; simp [upd7, HG.out.2.2.1]
          have j3 : F4 who 3 = .int .u8 (2 : Nat) := by rw [← hF4, ← HG.out.2.2.2.1]; simp [upd7]
          have j4 : F4 who 4 = .bool (s.pn who) := by rw [← hF4, ← HG.out.2.2.2.2.1]; simp [upd7]
          have j5 : F4 who 5 = .int .u64 (s.si who) := by rw [← hF4, ← HG.out.2.2.2.2.2.1]; simp [upd7]
          have j6 : F4 who 6 = .int .i64 (s.tn who) := by rw [← hF4, ← HG.out.2.2.2.2.2.2.1]; simp [upd7]
          have jo : ∀ i, i ≠ who → ∀ j, F4 i j = dgF C s i j := fun i hi j => by
            rw [← HG.out.2.2.2.2.2.2.2 i hi j, ← hF4]; simp [upd7, hi]
          obtain ⟨d0, d1, d2, d3, d4, d5, d6⟩ := hA4.all.cells HWR.out
          rw [j1] at d1
          rw [j3] at d3
          rw [j4] at d4
          rw [j6] at d6
          have d7 := hA4.all.lt
          have d8 := hA4.all.frozen
          have CO := Lib.hid (over_clo hact4)
          have HA4 := Lib.hid hA4
          have HJ : Hid (F4 who 0 = .int .i64 ((s.nx who + 1 : Nat) : Int) ∧ F4 who 1 = pa A ∧ F4 who 2 = (pV V) ∧ F4 who 3 = .int .u8 (2 : Nat) ∧ F4 who 4 = .bool (s.pn who) ∧ F4 who 5 = .int .u64 (s.si who) ∧ F4 who 6 = .int .i64 (s.tn who) ∧ ∀ i, i ≠ who → ∀ j, F4 i j = dgF C s i j) := ⟨j0, j1, j2, j3, j4, j5, j6, jo⟩
          have HB := Lib.hid (HBEG.out (by omega))
          clear hA4 hF4 j0 j1 j2 j3 j4 j5 j6 jo d0 d2 d5 hact4 HBEG
          unfold pa at CO d1
          clear d4 d6 d8
          go_wp2_with (go_at_call 24; refine CO.out.mono ?_; rintro e w' ⟨rfl, hw⟩; rw [hw]; clear hw w')
          go_meet
          case rel => exact ⟨_, _, Lib.hid (RAll.inv (C' := C.begin who A b1 c1' V (pV V)) (s' := s.begin who 2) HA4.out (HA4.out).core (dgF_begin who 2 A _ _ _ (pV V) (by omega) _ HJ.out.1 HJ.out.2.1 HJ.out.2.2.1 HJ.out.2.2.2.1 (by rw [HJ.out.2.2.2.2.1]; simp [dropB]) HJ.out.2.2.2.2.2.1 (by rw [HJ.out.2.2.2.2.2.2.1]; simp [dropB]) HJ.out.2.2.2.2.2.2.2)), Lib.hid HB.out.1, ⟨(by rw [show (s.begin who 2).pc who = startPC who 2 from put1_same _ _ _]; exact (kindOf_start who 2 (by omega)).2), HB.out.2, HL.out.le.2.1⟩⟩
    case rest =>
      apply_assumption
      exact step_tail hn HWR HR hR8 hwR q0 q1 hcut
end Go.Proofs.Ytefmojohabdjcaa

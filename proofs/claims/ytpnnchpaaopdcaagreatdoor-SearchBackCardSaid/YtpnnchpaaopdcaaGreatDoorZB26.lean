/-
  Whether a key of kind 1 may be, by the document: contract. MADE by wip/tools/mkKy7.py.
-/
import Derived.Test.YtpnnchpaaopdcaaGreatDoorZB04
import Derived.Test.YtpnnchpaaopdcaaGreatDoorZB05
set_option linter.unusedVariables false
set_option linter.unusedSimpArgs false
namespace Go.Proofs.YtpnnchpaaopdcaaGreatDoor
open Go Go.RowKit
set_option maxRecDepth 100000 in
set_option maxHeartbeats 20000000 in
theorem rright_k1 {fl : Nat} {set : List (Nat × Nat)} {n : Nat} {s : List UInt8} {kids : List KT} {sp kp : Option Addr} {scap kcap : Nat} (ih : RightIH kids) (d : Int) (W : World) (hd1 : 1 ≤ d) (hd2 : d ≤ 4611686018427387904) (hK : KeyC W (.mk 1 fl set n s kids sp scap kp kcap)) :
    Calls Tryz.prog 13 #[(KT.mk 1 fl set n s kids sp scap kp kcap).val, .int .i64 d] W fun e w' => e = .returned (.bool (rightK (.mk 1 fl set n s kids sp scap kp kcap) d)) ∧ Below W.heap.size W w' := by
  have IH := Lib.hid ih
  unfold KeyC at hK
  obtain ⟨hfl, hn, ⟨_, hkm, _⟩, hset, hkids⟩ := hK
  unfold maxLen at hkm
  have HKids := Lib.hid hkids
  show Calls Tryz.prog 13 #[.agg #[.int .i64 1, .int .u8 fl, .slice sp set.length scap, .int .u32 n, .string (txt s), .slice kp kids.length kcap], .int .i64 d] W _
  have hS : rightK (.mk 1 fl set n s kids sp scap kp kcap) d = (decide (1 ≤ d) && (decide (NodeP 1 fl set.length n s.length kids.length) && rightL kids (d - 1))) := by rw [rightK]
  obtain ⟨Z, hZ⟩ : ∃ Z, rightK (.mk 1 fl set n s kids sp scap kp kcap) d = Z := ⟨_, rfl⟩
  rw [hZ, decide_eq_true hd1, Bool.true_and] at hS
  rw [hZ]
  have ex := txt_size s
  have hem : (txt s).toList.isEmpty = decide (s.length = 0) := by rw [isEmpty_txt rfl]; cases s <;> simp
  obtain ⟨X, hX⟩ : ∃ X, txt s = X := ⟨_, rfl⟩
  obtain ⟨sl, hsl⟩ : ∃ sl, s.length = sl := ⟨_, rfl⟩
  obtain ⟨M, hM⟩ : ∃ M, set.length = M := ⟨_, rfl⟩
  obtain ⟨N, hN⟩ : ∃ N, kids.length = N := ⟨_, rfl⟩
  rw [hX] at ex hem ⊢
  rw [hsl] at ex hem hS
  rw [hM] at hS ⊢
  rw [hN] at hkm hS ⊢
  have HN := Lib.hid hN
  have hbad : ¬ NodeP 1 fl M n sl N → Z = false := fun h => by rw [hS, decide_eq_false h]; rfl
  have hgood : NodeP 1 fl M n sl N → Z = rightL kids (d - 1) := fun h => by rw [hS, decide_eq_true h]; rfl
  have hbd := hbad
  have hgd := hgood
  obtain ⟨w0, hw0⟩ : ∃ w0, W.alloc (.cells #[.int .i64 1, .int .u8 fl, .slice sp M scap, .int .u32 n, .string X, .slice kp N kcap] 26) = w0 := ⟨_, rfl⟩
  have HB0 : Hid (Below W.heap.size W w0) := by
    show Below _ _ _
    rw [← hw0]; exact (Below.refl _ _).alloc (Nat.le_refl _) _
  have H6 := Lib.hid (fun w (hb : Below w0.heap.size w0 w) => six_cells (W := W) (w := w) (t := 26) (c0 := .int .i64 1) (c1 := .int .u8 fl) (c2 := .slice sp M scap) (c3 := .int .u32 n) (c4 := .string X) (c5 := .slice kp N kcap) (D := w0.heap.size) (by rw [hw0]; exact hb) (by rw [← hw0]; simp))
  have HW0 := Lib.hid hw0
  obtain ⟨c0, c1, c2, c3, c4, c5⟩ := H6.out w0 (Below.refl _ _)
  have qd : ¬ d < 1 := by omega
  clear ih hkids hset hS hZ hX hsl hM hN hw0 hn
  by_cases hf0 : fl = 0
  · have g0 : ((fl : Int) != 0) = false := by rw [bne_eq_false_iff_eq]; omega
    have gn0 : (fl == 0) = true := qT (by omega)
    have g1 : ((fl : Int) == 1) = false := qF (by omega)
    have gn1 : (fl == 1) = false := qF (by omega)
    have g2 : ((fl : Int) == 2) = false := qF (by omega)
    have gn2 : (fl == 2) = false := qF (by omega)
    have g4 : ((fl : Int) == 4) = false := qF (by omega)
    have gn4 : (fl == 4) = false := qF (by omega)
    have g8 : ((fl : Int) == 8) = false := qF (by omega)
    have gn8 : (fl == 8) = false := qF (by omega)
    have g16 : ((fl : Int) == 16) = false := qF (by omega)
    have gn16 : (fl == 16) = false := qF (by omega)
    have HZ : Hid (Z = false) := hbad (by unfold NodeP; omega)
    clear hbad hgood hbd hgd hem ex hf0
    go_enter Tryz.func13, Tryz.ntmps13
    go_wp2_with fail
    rw [HW0.out]
    go_quiet (fail)
    go_wp2_with fail
    go_ret
    exact ⟨by rw [HZ.out]; try rfl, below_drewN HB0.out _⟩
  · by_cases hf1 : fl = 1
    · have g0 : ((fl : Int) != 0) = true := qN (by omega)
      have gn0 : (fl == 0) = false := qF (by omega)
      have g1 : ((fl : Int) == 1) = true := qT (by omega)
      have gn1 : (fl == 1) = true := qT (by omega)
      have g2 : ((fl : Int) == 2) = false := qF (by omega)
      have gn2 : (fl == 2) = false := qF (by omega)
      have g4 : ((fl : Int) == 4) = false := qF (by omega)
      have gn4 : (fl == 4) = false := qF (by omega)
      have g8 : ((fl : Int) == 8) = false := qF (by omega)
      have gn8 : (fl == 8) = false := qF (by omega)
      have g16 : ((fl : Int) == 16) = false := qF (by omega)
      have gn16 : (fl == 16) = false := qF (by omega)
      by_cases hM0 : 0 < M
      · have r4 : (0 : Int) < M := by omega
        have HZ : Hid (Z = false) := hbad (by unfold NodeP; omega)
        clear hbad hgood hbd hgd hem ex hf0 hf1
        go_enter Tryz.func13, Tryz.ntmps13
        go_wp2_with fail
        rw [HW0.out]
        go_quiet (fail)
        go_wp2_with fail
        go_ret
        exact ⟨by rw [HZ.out]; try rfl, below_drewN HB0.out _⟩
      · have r4 : ¬ (0 : Int) < M := by omega
        have r5 : ¬ (64 : Int) < M := by omega
        by_cases hn0 : n = 0
        · have r3 : ((n : Int) != 0) = false := by rw [bne_eq_false_iff_eq]; omega
          have r3n : (n == 0) = true := by rw [beq_iff_eq]; exact hn0
          by_cases hS0 : sl = 0
          · have e0 : X.toList.isEmpty = true := hem.trans (decide_eq_true hS0)
            have r2 : ¬ (65536 : Int) < X.size := by omega
            by_cases hN0 : 0 < N
            · have r1 : (0 : Int) < N := by omega
              have HZ : Hid (Z = false) := hbad (by unfold NodeP; omega)
              clear hbad hgood hbd hgd hem ex hf0 hf1 hn0 hS0 hN0
              go_enter Tryz.func13, Tryz.ntmps13
              go_wp2_with fail
              rw [HW0.out]
              go_quiet (fail)
              go_wp2_with fail
              go_ret
              exact ⟨by rw [HZ.out]; try rfl, below_drewN HB0.out _⟩
            · have r1 : ¬ (0 : Int) < N := by omega
              have HZ : Hid (Z = rightL kids (d - 1)) := hgood (by unfold NodeP; omega)
              clear hbad hgood hbd hgd hem ex hf0 hf1 hn0 hS0 hN0
              go_enter Tryz.func13, Tryz.ntmps13
              go_wp2_with fail
              rw [HW0.out]
              go_quiet (fail)
              go_wp2_with fail
              obtain ⟨w1, hw1⟩ : ∃ w1, w0.drewN nq = w1 := ⟨_, rfl⟩
              have HB1 : Hid (Below w0.heap.size w0 w1) := by show Below _ _ _; rw [← hw1]; exact below_drewN (Below.refl _ _) _
              rw [hw1]
              clear hw1
              go_loopw [11] (fun t11 wr => ∃ j : Nat, j ≤ N ∧ t11 = .int .i64 j ∧ Hid (∀ i k, i < j → kids[i]? = some k → rightK k (d - 1) = true) ∧ Hid (Below w0.heap.size w0 wr)) (fun t11 _ => N - (intOf t11).toNat)
              case atStart => exact ⟨0, Nat.zero_le _, rfl, fun i k hi => absurd hi (Nat.not_lt_zero _), HB1.out⟩
              case round =>
                obtain ⟨j, hj, rfl, HE, HB⟩ := hrel
                clear c0 c1 c2 c3 c4 c5
                obtain ⟨_, _, _, _, _, c5⟩ := H6.out wr HB.out
                have hWr : Below W.heap.size W wr := HB0.out.trans (HB.out.mono HB0.out.size)
                by_cases hlt : j < N
                · exfalso; omega
                · obtain rfl : j = N := by omega
                  have hq : ¬ ((j : Int) < j) := by omega
                  have HZ2 : Hid (Z = true) := HZ.out.trans (rightL_all fun k hk => by
                    obtain ⟨i, hi⟩ := List.getElem?_of_mem hk
                    exact HE.out i k (by have := (List.getElem?_eq_some_iff.1 hi).1; rw [HN.out] at this; exact this) hi)
                  go_wp2_with fail
                  go_ret
                  exact ⟨by rw [HZ2.out]; try rfl, hWr⟩
          · have e0 : X.toList.isEmpty = false := hem.trans (decide_eq_false hS0)
            have HZ : Hid (Z = false) := hbad (by unfold NodeP; omega)
            clear hbad hgood hbd hgd hem ex hf0 hf1 hn0 hS0
            go_enter Tryz.func13, Tryz.ntmps13
            go_wp2_with fail
            rw [HW0.out]
            go_quiet (fail)
            go_wp2_with fail
            go_ret
            exact ⟨by rw [HZ.out]; try rfl, below_drewN HB0.out _⟩
        · have r3 : ((n : Int) != 0) = true := qN (by omega)
          have r3n : (n == 0) = false := by rw [beq_eq_false_iff_ne]; exact hn0
          have HZ : Hid (Z = false) := hbad (by unfold NodeP; omega)
          clear hbad hgood hbd hgd hem ex hf0 hf1 hn0
          go_enter Tryz.func13, Tryz.ntmps13
          go_wp2_with fail
          rw [HW0.out]
          go_quiet (fail)
          go_wp2_with fail
          go_ret
          exact ⟨by rw [HZ.out]; try rfl, below_drewN HB0.out _⟩
    · by_cases hf2 : fl = 2
      · have g0 : ((fl : Int) != 0) = true := qN (by omega)
        have gn0 : (fl == 0) = false := qF (by omega)
        have g1 : ((fl : Int) == 1) = false := qF (by omega)
        have gn1 : (fl == 1) = false := qF (by omega)
        have g2 : ((fl : Int) == 2) = true := qT (by omega)
        have gn2 : (fl == 2) = true := qT (by omega)
        have g4 : ((fl : Int) == 4) = false := qF (by omega)
        have gn4 : (fl == 4) = false := qF (by omega)
        have g8 : ((fl : Int) == 8) = false := qF (by omega)
        have gn8 : (fl == 8) = false := qF (by omega)
        have g16 : ((fl : Int) == 16) = false := qF (by omega)
        have gn16 : (fl == 16) = false := qF (by omega)
        by_cases hM0 : 0 < M
        · have r4 : (0 : Int) < M := by omega
          have HZ : Hid (Z = false) := hbad (by unfold NodeP; omega)
          clear hbad hgood hbd hgd hem ex hf0 hf1 hf2
          go_enter Tryz.func13, Tryz.ntmps13
          go_wp2_with fail
          rw [HW0.out]
          go_quiet (fail)
          go_wp2_with fail
          go_ret
          exact ⟨by rw [HZ.out]; try rfl, below_drewN HB0.out _⟩
        · have r4 : ¬ (0 : Int) < M := by omega
          have r5 : ¬ (64 : Int) < M := by omega
          by_cases hn0 : n = 0
          · have r3 : ((n : Int) != 0) = false := by rw [bne_eq_false_iff_eq]; omega
            have r3n : (n == 0) = true := by rw [beq_iff_eq]; exact hn0
            by_cases hS0 : sl = 0
            · have e0 : X.toList.isEmpty = true := hem.trans (decide_eq_true hS0)
              have r2 : ¬ (65536 : Int) < X.size := by omega
              by_cases hN0 : 0 < N
              · have r1 : (0 : Int) < N := by omega
                have HZ : Hid (Z = false) := hbad (by unfold NodeP; omega)
                clear hbad hgood hbd hgd hem ex hf0 hf1 hf2 hn0 hS0 hN0
                go_enter Tryz.func13, Tryz.ntmps13
                go_wp2_with fail
                rw [HW0.out]
                go_quiet (fail)
                go_wp2_with fail
                go_ret
                exact ⟨by rw [HZ.out]; try rfl, below_drewN HB0.out _⟩
              · have r1 : ¬ (0 : Int) < N := by omega
                have HZ : Hid (Z = rightL kids (d - 1)) := hgood (by unfold NodeP; omega)
                clear hbad hgood hbd hgd hem ex hf0 hf1 hf2 hn0 hS0 hN0
                go_enter Tryz.func13, Tryz.ntmps13
                go_wp2_with fail
                rw [HW0.out]
                go_quiet (fail)
                go_wp2_with fail
                obtain ⟨w1, hw1⟩ : ∃ w1, w0.drewN nq = w1 := ⟨_, rfl⟩
                have HB1 : Hid (Below w0.heap.size w0 w1) := by show Below _ _ _; rw [← hw1]; exact below_drewN (Below.refl _ _) _
                rw [hw1]
                clear hw1
                go_loopw [11] (fun t11 wr => ∃ j : Nat, j ≤ N ∧ t11 = .int .i64 j ∧ Hid (∀ i k, i < j → kids[i]? = some k → rightK k (d - 1) = true) ∧ Hid (Below w0.heap.size w0 wr)) (fun t11 _ => N - (intOf t11).toNat)
                case atStart => exact ⟨0, Nat.zero_le _, rfl, fun i k hi => absurd hi (Nat.not_lt_zero _), HB1.out⟩
                case round =>
                  obtain ⟨j, hj, rfl, HE, HB⟩ := hrel
                  clear c0 c1 c2 c3 c4 c5
                  obtain ⟨_, _, _, _, _, c5⟩ := H6.out wr HB.out
                  have hWr : Below W.heap.size W wr := HB0.out.trans (HB.out.mono HB0.out.size)
                  by_cases hlt : j < N
                  · exfalso; omega
                  · obtain rfl : j = N := by omega
                    have hq : ¬ ((j : Int) < j) := by omega
                    have HZ2 : Hid (Z = true) := HZ.out.trans (rightL_all fun k hk => by
                      obtain ⟨i, hi⟩ := List.getElem?_of_mem hk
                      exact HE.out i k (by have := (List.getElem?_eq_some_iff.1 hi).1; rw [HN.out] at this; exact this) hi)
                    go_wp2_with fail
                    go_ret
                    exact ⟨by rw [HZ2.out]; try rfl, hWr⟩
            · have e0 : X.toList.isEmpty = false := hem.trans (decide_eq_false hS0)
              have HZ : Hid (Z = false) := hbad (by unfold NodeP; omega)
              clear hbad hgood hbd hgd hem ex hf0 hf1 hf2 hn0 hS0
              go_enter Tryz.func13, Tryz.ntmps13
              go_wp2_with fail
              rw [HW0.out]
              go_quiet (fail)
              go_wp2_with fail
              go_ret
              exact ⟨by rw [HZ.out]; try rfl, below_drewN HB0.out _⟩
          · have r3 : ((n : Int) != 0) = true := qN (by omega)
            have r3n : (n == 0) = false := by rw [beq_eq_false_iff_ne]; exact hn0
            have HZ : Hid (Z = false) := hbad (by unfold NodeP; omega)
            clear hbad hgood hbd hgd hem ex hf0 hf1 hf2 hn0
            go_enter Tryz.func13, Tryz.ntmps13
            go_wp2_with fail
            rw [HW0.out]
            go_quiet (fail)
            go_wp2_with fail
            go_ret
            exact ⟨by rw [HZ.out]; try rfl, below_drewN HB0.out _⟩
      · by_cases hf4 : fl = 4
        · have g0 : ((fl : Int) != 0) = true := qN (by omega)
          have gn0 : (fl == 0) = false := qF (by omega)
          have g1 : ((fl : Int) == 1) = false := qF (by omega)
          have gn1 : (fl == 1) = false := qF (by omega)
          have g2 : ((fl : Int) == 2) = false := qF (by omega)
          have gn2 : (fl == 2) = false := qF (by omega)
          have g4 : ((fl : Int) == 4) = true := qT (by omega)
          have gn4 : (fl == 4) = true := qT (by omega)
          have g8 : ((fl : Int) == 8) = false := qF (by omega)
          have gn8 : (fl == 8) = false := qF (by omega)
          have g16 : ((fl : Int) == 16) = false := qF (by omega)
          have gn16 : (fl == 16) = false := qF (by omega)
          by_cases hM0 : 0 < M
          · have r4 : (0 : Int) < M := by omega
            have HZ : Hid (Z = false) := hbad (by unfold NodeP; omega)
            clear hbad hgood hbd hgd hem ex hf0 hf1 hf2 hf4
            go_enter Tryz.func13, Tryz.ntmps13
            go_wp2_with fail
            rw [HW0.out]
            go_quiet (fail)
            go_wp2_with fail
            go_ret
            exact ⟨by rw [HZ.out]; try rfl, below_drewN HB0.out _⟩
          · have r4 : ¬ (0 : Int) < M := by omega
            have r5 : ¬ (64 : Int) < M := by omega
            by_cases hn0 : n = 0
            · have r3 : ((n : Int) != 0) = false := by rw [bne_eq_false_iff_eq]; omega
              have r3n : (n == 0) = true := by rw [beq_iff_eq]; exact hn0
              by_cases hS0 : sl = 0
              · have e0 : X.toList.isEmpty = true := hem.trans (decide_eq_true hS0)
                have r2 : ¬ (65536 : Int) < X.size := by omega
                by_cases hN0 : 0 < N
                · have r1 : (0 : Int) < N := by omega
                  have HZ : Hid (Z = false) := hbad (by unfold NodeP; omega)
                  clear hbad hgood hbd hgd hem ex hf0 hf1 hf2 hf4 hn0 hS0 hN0
                  go_enter Tryz.func13, Tryz.ntmps13
                  go_wp2_with fail
                  rw [HW0.out]
                  go_quiet (fail)
                  go_wp2_with fail
                  go_ret
                  exact ⟨by rw [HZ.out]; try rfl, below_drewN HB0.out _⟩
                · have r1 : ¬ (0 : Int) < N := by omega
                  have HZ : Hid (Z = rightL kids (d - 1)) := hgood (by unfold NodeP; omega)
                  clear hbad hgood hbd hgd hem ex hf0 hf1 hf2 hf4 hn0 hS0 hN0
                  go_enter Tryz.func13, Tryz.ntmps13
                  go_wp2_with fail
                  rw [HW0.out]
                  go_quiet (fail)
                  go_wp2_with fail
                  obtain ⟨w1, hw1⟩ : ∃ w1, w0.drewN nq = w1 := ⟨_, rfl⟩
                  have HB1 : Hid (Below w0.heap.size w0 w1) := by show Below _ _ _; rw [← hw1]; exact below_drewN (Below.refl _ _) _
                  rw [hw1]
                  clear hw1
                  go_loopw [11] (fun t11 wr => ∃ j : Nat, j ≤ N ∧ t11 = .int .i64 j ∧ Hid (∀ i k, i < j → kids[i]? = some k → rightK k (d - 1) = true) ∧ Hid (Below w0.heap.size w0 wr)) (fun t11 _ => N - (intOf t11).toNat)
                  case atStart => exact ⟨0, Nat.zero_le _, rfl, fun i k hi => absurd hi (Nat.not_lt_zero _), HB1.out⟩
                  case round =>
                    obtain ⟨j, hj, rfl, HE, HB⟩ := hrel
                    clear c0 c1 c2 c3 c4 c5
                    obtain ⟨_, _, _, _, _, c5⟩ := H6.out wr HB.out
                    have hWr : Below W.heap.size W wr := HB0.out.trans (HB.out.mono HB0.out.size)
                    by_cases hlt : j < N
                    · exfalso; omega
                    · obtain rfl : j = N := by omega
                      have hq : ¬ ((j : Int) < j) := by omega
                      have HZ2 : Hid (Z = true) := HZ.out.trans (rightL_all fun k hk => by
                        obtain ⟨i, hi⟩ := List.getElem?_of_mem hk
                        exact HE.out i k (by have := (List.getElem?_eq_some_iff.1 hi).1; rw [HN.out] at this; exact this) hi)
                      go_wp2_with fail
                      go_ret
                      exact ⟨by rw [HZ2.out]; try rfl, hWr⟩
              · have e0 : X.toList.isEmpty = false := hem.trans (decide_eq_false hS0)
                have HZ : Hid (Z = false) := hbad (by unfold NodeP; omega)
                clear hbad hgood hbd hgd hem ex hf0 hf1 hf2 hf4 hn0 hS0
                go_enter Tryz.func13, Tryz.ntmps13
                go_wp2_with fail
                rw [HW0.out]
                go_quiet (fail)
                go_wp2_with fail
                go_ret
                exact ⟨by rw [HZ.out]; try rfl, below_drewN HB0.out _⟩
            · have r3 : ((n : Int) != 0) = true := qN (by omega)
              have r3n : (n == 0) = false := by rw [beq_eq_false_iff_ne]; exact hn0
              have HZ : Hid (Z = false) := hbad (by unfold NodeP; omega)
              clear hbad hgood hbd hgd hem ex hf0 hf1 hf2 hf4 hn0
              go_enter Tryz.func13, Tryz.ntmps13
              go_wp2_with fail
              rw [HW0.out]
              go_quiet (fail)
              go_wp2_with fail
              go_ret
              exact ⟨by rw [HZ.out]; try rfl, below_drewN HB0.out _⟩
        · by_cases hf8 : fl = 8
          · have g0 : ((fl : Int) != 0) = true := qN (by omega)
            have gn0 : (fl == 0) = false := qF (by omega)
            have g1 : ((fl : Int) == 1) = false := qF (by omega)
            have gn1 : (fl == 1) = false := qF (by omega)
            have g2 : ((fl : Int) == 2) = false := qF (by omega)
            have gn2 : (fl == 2) = false := qF (by omega)
            have g4 : ((fl : Int) == 4) = false := qF (by omega)
            have gn4 : (fl == 4) = false := qF (by omega)
            have g8 : ((fl : Int) == 8) = true := qT (by omega)
            have gn8 : (fl == 8) = true := qT (by omega)
            have g16 : ((fl : Int) == 16) = false := qF (by omega)
            have gn16 : (fl == 16) = false := qF (by omega)
            by_cases hM0 : 0 < M
            · have r4 : (0 : Int) < M := by omega
              have HZ : Hid (Z = false) := hbad (by unfold NodeP; omega)
              clear hbad hgood hbd hgd hem ex hf0 hf1 hf2 hf4 hf8
              go_enter Tryz.func13, Tryz.ntmps13
              go_wp2_with fail
              rw [HW0.out]
              go_quiet (fail)
              go_wp2_with fail
              go_ret
              exact ⟨by rw [HZ.out]; try rfl, below_drewN HB0.out _⟩
            · have r4 : ¬ (0 : Int) < M := by omega
              have r5 : ¬ (64 : Int) < M := by omega
              by_cases hn0 : n = 0
              · have r3 : ((n : Int) != 0) = false := by rw [bne_eq_false_iff_eq]; omega
                have r3n : (n == 0) = true := by rw [beq_iff_eq]; exact hn0
                by_cases hS0 : sl = 0
                · have e0 : X.toList.isEmpty = true := hem.trans (decide_eq_true hS0)
                  have r2 : ¬ (65536 : Int) < X.size := by omega
                  by_cases hN0 : 0 < N
                  · have r1 : (0 : Int) < N := by omega
                    have HZ : Hid (Z = false) := hbad (by unfold NodeP; omega)
                    clear hbad hgood hbd hgd hem ex hf0 hf1 hf2 hf4 hf8 hn0 hS0 hN0
                    go_enter Tryz.func13, Tryz.ntmps13
                    go_wp2_with fail
                    rw [HW0.out]
                    go_quiet (fail)
                    go_wp2_with fail
                    go_ret
                    exact ⟨by rw [HZ.out]; try rfl, below_drewN HB0.out _⟩
                  · have r1 : ¬ (0 : Int) < N := by omega
                    have HZ : Hid (Z = rightL kids (d - 1)) := hgood (by unfold NodeP; omega)
                    clear hbad hgood hbd hgd hem ex hf0 hf1 hf2 hf4 hf8 hn0 hS0 hN0
                    go_enter Tryz.func13, Tryz.ntmps13
                    go_wp2_with fail
                    rw [HW0.out]
                    go_quiet (fail)
                    go_wp2_with fail
                    obtain ⟨w1, hw1⟩ : ∃ w1, w0.drewN nq = w1 := ⟨_, rfl⟩
                    have HB1 : Hid (Below w0.heap.size w0 w1) := by show Below _ _ _; rw [← hw1]; exact below_drewN (Below.refl _ _) _
                    rw [hw1]
                    clear hw1
                    go_loopw [11] (fun t11 wr => ∃ j : Nat, j ≤ N ∧ t11 = .int .i64 j ∧ Hid (∀ i k, i < j → kids[i]? = some k → rightK k (d - 1) = true) ∧ Hid (Below w0.heap.size w0 wr)) (fun t11 _ => N - (intOf t11).toNat)
                    case atStart => exact ⟨0, Nat.zero_le _, rfl, fun i k hi => absurd hi (Nat.not_lt_zero _), HB1.out⟩
                    case round =>
                      obtain ⟨j, hj, rfl, HE, HB⟩ := hrel
                      clear c0 c1 c2 c3 c4 c5
                      obtain ⟨_, _, _, _, _, c5⟩ := H6.out wr HB.out
                      have hWr : Below W.heap.size W wr := HB0.out.trans (HB.out.mono HB0.out.size)
                      by_cases hlt : j < N
                      · exfalso; omega
                      · obtain rfl : j = N := by omega
                        have hq : ¬ ((j : Int) < j) := by omega
                        have HZ2 : Hid (Z = true) := HZ.out.trans (rightL_all fun k hk => by
                          obtain ⟨i, hi⟩ := List.getElem?_of_mem hk
                          exact HE.out i k (by have := (List.getElem?_eq_some_iff.1 hi).1; rw [HN.out] at this; exact this) hi)
                        go_wp2_with fail
                        go_ret
                        exact ⟨by rw [HZ2.out]; try rfl, hWr⟩
                · have e0 : X.toList.isEmpty = false := hem.trans (decide_eq_false hS0)
                  have HZ : Hid (Z = false) := hbad (by unfold NodeP; omega)
                  clear hbad hgood hbd hgd hem ex hf0 hf1 hf2 hf4 hf8 hn0 hS0
                  go_enter Tryz.func13, Tryz.ntmps13
                  go_wp2_with fail
                  rw [HW0.out]
                  go_quiet (fail)
                  go_wp2_with fail
                  go_ret
                  exact ⟨by rw [HZ.out]; try rfl, below_drewN HB0.out _⟩
              · have r3 : ((n : Int) != 0) = true := qN (by omega)
                have r3n : (n == 0) = false := by rw [beq_eq_false_iff_ne]; exact hn0
                have HZ : Hid (Z = false) := hbad (by unfold NodeP; omega)
                clear hbad hgood hbd hgd hem ex hf0 hf1 hf2 hf4 hf8 hn0
                go_enter Tryz.func13, Tryz.ntmps13
                go_wp2_with fail
                rw [HW0.out]
                go_quiet (fail)
                go_wp2_with fail
                go_ret
                exact ⟨by rw [HZ.out]; try rfl, below_drewN HB0.out _⟩
          · by_cases hf16 : fl = 16
            · have g0 : ((fl : Int) != 0) = true := qN (by omega)
              have gn0 : (fl == 0) = false := qF (by omega)
              have g1 : ((fl : Int) == 1) = false := qF (by omega)
              have gn1 : (fl == 1) = false := qF (by omega)
              have g2 : ((fl : Int) == 2) = false := qF (by omega)
              have gn2 : (fl == 2) = false := qF (by omega)
              have g4 : ((fl : Int) == 4) = false := qF (by omega)
              have gn4 : (fl == 4) = false := qF (by omega)
              have g8 : ((fl : Int) == 8) = false := qF (by omega)
              have gn8 : (fl == 8) = false := qF (by omega)
              have g16 : ((fl : Int) == 16) = true := qT (by omega)
              have gn16 : (fl == 16) = true := qT (by omega)
              by_cases hM0 : 0 < M
              · have r4 : (0 : Int) < M := by omega
                have HZ : Hid (Z = false) := hbad (by unfold NodeP; omega)
                clear hbad hgood hbd hgd hem ex hf0 hf1 hf2 hf4 hf8 hf16
                go_enter Tryz.func13, Tryz.ntmps13
                go_wp2_with fail
                rw [HW0.out]
                go_quiet (fail)
                go_wp2_with fail
                go_ret
                exact ⟨by rw [HZ.out]; try rfl, below_drewN HB0.out _⟩
              · have r4 : ¬ (0 : Int) < M := by omega
                have r5 : ¬ (64 : Int) < M := by omega
                by_cases hn0 : n = 0
                · have r3 : ((n : Int) != 0) = false := by rw [bne_eq_false_iff_eq]; omega
                  have r3n : (n == 0) = true := by rw [beq_iff_eq]; exact hn0
                  by_cases hS0 : sl = 0
                  · have e0 : X.toList.isEmpty = true := hem.trans (decide_eq_true hS0)
                    have r2 : ¬ (65536 : Int) < X.size := by omega
                    by_cases hN0 : 0 < N
                    · have r1 : (0 : Int) < N := by omega
                      have HZ : Hid (Z = false) := hbad (by unfold NodeP; omega)
                      clear hbad hgood hbd hgd hem ex hf0 hf1 hf2 hf4 hf8 hf16 hn0 hS0 hN0
                      go_enter Tryz.func13, Tryz.ntmps13
                      go_wp2_with fail
                      rw [HW0.out]
                      go_quiet (fail)
                      go_wp2_with fail
                      go_ret
                      exact ⟨by rw [HZ.out]; try rfl, below_drewN HB0.out _⟩
                    · have r1 : ¬ (0 : Int) < N := by omega
                      have HZ : Hid (Z = rightL kids (d - 1)) := hgood (by unfold NodeP; omega)
                      clear hbad hgood hbd hgd hem ex hf0 hf1 hf2 hf4 hf8 hf16 hn0 hS0 hN0
                      go_enter Tryz.func13, Tryz.ntmps13
                      go_wp2_with fail
                      rw [HW0.out]
                      go_quiet (fail)
                      go_wp2_with fail
                      obtain ⟨w1, hw1⟩ : ∃ w1, w0.drewN nq = w1 := ⟨_, rfl⟩
                      have HB1 : Hid (Below w0.heap.size w0 w1) := by show Below _ _ _; rw [← hw1]; exact below_drewN (Below.refl _ _) _
                      rw [hw1]
                      clear hw1
                      go_loopw [11] (fun t11 wr => ∃ j : Nat, j ≤ N ∧ t11 = .int .i64 j ∧ Hid (∀ i k, i < j → kids[i]? = some k → rightK k (d - 1) = true) ∧ Hid (Below w0.heap.size w0 wr)) (fun t11 _ => N - (intOf t11).toNat)
                      case atStart => exact ⟨0, Nat.zero_le _, rfl, fun i k hi => absurd hi (Nat.not_lt_zero _), HB1.out⟩
                      case round =>
                        obtain ⟨j, hj, rfl, HE, HB⟩ := hrel
                        clear c0 c1 c2 c3 c4 c5
                        obtain ⟨_, _, _, _, _, c5⟩ := H6.out wr HB.out
                        have hWr : Below W.heap.size W wr := HB0.out.trans (HB.out.mono HB0.out.size)
                        by_cases hlt : j < N
                        · exfalso; omega
                        · obtain rfl : j = N := by omega
                          have hq : ¬ ((j : Int) < j) := by omega
                          have HZ2 : Hid (Z = true) := HZ.out.trans (rightL_all fun k hk => by
                            obtain ⟨i, hi⟩ := List.getElem?_of_mem hk
                            exact HE.out i k (by have := (List.getElem?_eq_some_iff.1 hi).1; rw [HN.out] at this; exact this) hi)
                          go_wp2_with fail
                          go_ret
                          exact ⟨by rw [HZ2.out]; try rfl, hWr⟩
                  · have e0 : X.toList.isEmpty = false := hem.trans (decide_eq_false hS0)
                    have HZ : Hid (Z = false) := hbad (by unfold NodeP; omega)
                    clear hbad hgood hbd hgd hem ex hf0 hf1 hf2 hf4 hf8 hf16 hn0 hS0
                    go_enter Tryz.func13, Tryz.ntmps13
                    go_wp2_with fail
                    rw [HW0.out]
                    go_quiet (fail)
                    go_wp2_with fail
                    go_ret
                    exact ⟨by rw [HZ.out]; try rfl, below_drewN HB0.out _⟩
                · have r3 : ((n : Int) != 0) = true := qN (by omega)
                  have r3n : (n == 0) = false := by rw [beq_eq_false_iff_ne]; exact hn0
                  have HZ : Hid (Z = false) := hbad (by unfold NodeP; omega)
                  clear hbad hgood hbd hgd hem ex hf0 hf1 hf2 hf4 hf8 hf16 hn0
                  go_enter Tryz.func13, Tryz.ntmps13
                  go_wp2_with fail
                  rw [HW0.out]
                  go_quiet (fail)
                  go_wp2_with fail
                  go_ret
                  exact ⟨by rw [HZ.out]; try rfl, below_drewN HB0.out _⟩
            · have g0 : ((fl : Int) != 0) = true := qN (by omega)
              have gn0 : (fl == 0) = false := qF (by omega)
              have g1 : ((fl : Int) == 1) = false := qF (by omega)
              have gn1 : (fl == 1) = false := qF (by omega)
              have g2 : ((fl : Int) == 2) = false := qF (by omega)
              have gn2 : (fl == 2) = false := qF (by omega)
              have g4 : ((fl : Int) == 4) = false := qF (by omega)
              have gn4 : (fl == 4) = false := qF (by omega)
              have g8 : ((fl : Int) == 8) = false := qF (by omega)
              have gn8 : (fl == 8) = false := qF (by omega)
              have g16 : ((fl : Int) == 16) = false := qF (by omega)
              have gn16 : (fl == 16) = false := qF (by omega)
              have HZ : Hid (Z = false) := hbad (by unfold NodeP; omega)
              clear hbad hgood hbd hgd hem ex hf0 hf1 hf2 hf4 hf8 hf16
              go_enter Tryz.func13, Tryz.ntmps13
              go_wp2_with fail
              rw [HW0.out]
              go_quiet (fail)
              go_wp2_with fail
              go_ret
              exact ⟨by rw [HZ.out]; try rfl, below_drewN HB0.out _⟩
end Go.Proofs.YtpnnchpaaopdcaaGreatDoor

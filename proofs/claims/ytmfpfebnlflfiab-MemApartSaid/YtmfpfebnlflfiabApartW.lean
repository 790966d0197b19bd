/-
  The law MemApart: its walk.
-/
import Derived.Test.YtmfpfebnlflfiabPack
import Derived.LoopTactic
set_option linter.unusedVariables false
set_option linter.unusedSimpArgs false
namespace Go.Proofs.Ytmfpfebnlflfiab
open Go Go.RowKit

def first (z : Nat → Nat) (k : Nat) : Nat → Nat := fun j => if j < k then z j else 0
theorem first_zero (z : Nat → Nat) : first z 0 = fun _ => 0 := by funext j; simp [first]
theorem first_upd (z : Nat → Nat) (k : Nat) : upd (first z k) k (z k) = first z (k + 1) := by
  funext j
  unfold upd first
  by_cases h : j = k
  · subst h; simp
  · rw [if_neg h]
    by_cases h2 : j < k
    · rw [if_pos h2, if_pos (by omega)]
    · rw [if_neg h2, if_neg (by omega)]
theorem first_lt {z : Nat → Nat} {k j : Nat} (h : j < k) : first z k j = z j := by simp [first, h]

set_option maxHeartbeats 400000 in
theorem memapart_none (a v : Nat) (w : World) : Calls Try.prog 5 #[.slice none 0 0, .int .u8 a, .int .u64 v] w fun e w' => e = .returned (.bool true) ∧ Below w.heap.size w w' := by
  go_enter Try.func5, Try.ntmps5
  go_wp2_with fail
  go_ret
  exact ⟨rfl, Below.refl _ _⟩

set_option maxHeartbeats 400000 in
theorem memapart_zero (p : Option Addr) (cap a v : Nat) (w : World) : Calls Try.prog 5 #[.slice p 0 cap, .int .u8 a, .int .u64 v] w fun e w' => e = .returned (.bool true) ∧ Below w.heap.size w w' := by
  go_enter Try.func5, Try.ntmps5
  go_wp2_with fail
  go_ret
  exact ⟨rfl, Below.refl _ _⟩

set_option maxHeartbeats 400000 in
theorem memapart_great (p : Option Addr) (N cap a v : Nat) (hN : N ≤ maxLen) (h : 100 < N) (w : World) : Calls Try.prog 5 #[.slice p N cap, .int .u8 a, .int .u64 v] w fun e w' => e = .returned (.bool true) ∧ Below w.heap.size w w' := by
  unfold maxLen at hN
  have h1 : (100 : Int) < N := by omega
  go_enter Try.func5, Try.ntmps5
  go_wp2_with fail
  go_ret
  exact ⟨rfl, Below.refl _ _⟩

set_option maxRecDepth 20000 in
set_option maxHeartbeats 2000000 in
theorem memapart_some (b off N cap a v : Nat) (z : Nat → Nat) (h0 : 0 < N) (hN : N ≤ 100) (ha : a < 256) (w : World) (hb : b < w.heap.size) (hc : ∀ i, i < N → w.cell? ⟨b, off + i, none⟩ = some (.int .u64 (z i))) :
    Calls Try.prog 5 #[.slice (some ⟨b, off, none⟩) N cap, .int .u8 a, .int .u64 v] w fun e w' => e = .returned (.bool true) ∧ Below w.heap.size w w' := by
  obtain ⟨D, hD⟩ : ∃ D, w.heap.size = D := ⟨_, rfl⟩
  have C0 := Lib.hid (mNew_yes N (by omega) (by omega) w)
  rw [hD] at C0 hb ⊢
  have HD := Lib.hid hD
  have HC := Lib.hid hc
  have q0 : (0 : Int) < N := by omega
  have qa : (a : Int) ≤ 255 := by omega
  have q1 : (N : Int) ≤ 100 := by omega
  have qe : ((N : Int) == 0) = false := by rw [beq_eq_false_iff_ne]; omega
  obtain ⟨kk, hkk⟩ : ∃ kk : Nat, (a : Int) % (N : Int) = kk := ⟨a % N, by omega⟩
  have hkN : kk < N := by have := Int.emod_lt_of_pos (a : Int) q0; omega
  have HK := Lib.hid hkk
  clear hD hc hkk
  go_enter Try.func5, Try.ntmps5
  go_wp2_with fail
  refine C0.out.mono ?_
  rintro e w1 ⟨rfl, hb1, hm1⟩
  have HB1 := Lib.hid hb1
  have HM1 := Lib.hid hm1
  have HS1 : Hid (D ≤ w1.heap.size) := by have := hb1.size; rw [HD.out] at this; exact this
  clear hb1 hm1 C0
  unfold pm
  go_wp2_with fail
  go_loopw [8] (fun i wr => ∃ k : Nat, k ≤ N ∧ i = .int .i64 k ∧ Hid (MemAt wr D N k (first z k) (first (fun j => j + 1) k)) ∧ Hid (Below D w wr) ∧ Hid (D ≤ wr.heap.size)) (fun i _ => N - (intOf i).toNat)
  case atStart =>
    refine ⟨0, by omega, rfl, ?_, HB1, HS1⟩
    rw [first_zero, first_zero]; exact HM1
  case round =>
    obtain ⟨k, hk, rfl, HM, HB, HS⟩ := hrel
    clear HM1 HB1 HS1
    by_cases hlt : k < N
    · have hq : (k : Int) < N := by omega
      have kc : wr.cell? ⟨b, off + k, none⟩ = some (.int .u64 (z k)) := by rw [HB.out.cell (p := ⟨b, off + k, none⟩) hb]; exact HC.out k hlt
      have C1 := Lib.hid (mStore_yes D N k _ _ k (z k) hlt (by omega) (by omega) wr HM.out)
      unfold pm at C1
      go_wp2_with fail
      refine C1.out.mono ?_
      rintro e w2 ⟨⟨u, rfl⟩, ho, hm⟩
      rw [first_upd, first_upd (fun j => j + 1)] at hm
      have HM2 := Lib.hid hm
      have HB2 : Hid (Below D w w2) := HB.out.trans (ho.below (Nat.le_refl _) HS.out)
      have HS2 : Hid (D ≤ w2.heap.size) := Nat.le_trans HS.out ho.size
      clear hm ho kc C1
      go_wp2_with fail
      go_roundw
      case rel => exact ⟨k + 1, by omega, by go_num, HM2, HB2, HS2⟩
      case measure => simp [intOf]; omega
    · obtain rfl : k = N := by omega
      have C2 := Lib.hid (mStore_yes D k k _ _ kk v hkN (by omega) (by omega) wr HM.out)
      unfold pm at C2
      go_wp2_with fail
      rw [HK.out]
      refine C2.out.mono ?_
      rintro e w2 ⟨⟨u, rfl⟩, ho, hm⟩
      have HM2 := Lib.hid hm
      have HB2 : Hid (Below D w w2) := HB.out.trans (ho.below (Nat.le_refl _) HS.out)
      have HS2 : Hid (D ≤ w2.heap.size) := Nat.le_trans HS.out ho.size
      clear hm ho C2 HM HB HS
      go_wp2_with fail
      go_loopw [10] (fun i wr => ∃ j : Nat, j ≤ k ∧ i = .int .i64 j ∧ Hid (MemAt wr D k (k + 1 + j) (upd (first z k) kk v) (upd (first (fun j => j + 1) k) kk (k + 1))) ∧ Hid (Below D w wr) ∧ Hid (D ≤ wr.heap.size)) (fun i _ => k - (intOf i).toNat)
      case atStart => exact ⟨0, by omega, rfl, HM2, HB2, HS2⟩
      case round =>
        obtain ⟨j, hj, rfl, HM, HB, HS⟩ := hrel
        clear HM2 HB2 HS2
        by_cases hlt2 : j < k
        · have hq : (j : Int) < k := by omega
          have kc : wr.cell? ⟨b, off + j, none⟩ = some (.int .u64 (z j)) := by rw [HB.out.cell (p := ⟨b, off + j, none⟩) hb]; exact HC.out j hlt2
          have C3 := Lib.hid (mLoad_yes D k (k + 1 + j) _ _ j hlt2 (by omega) (by omega) wr HM.out)
          unfold pm at C3
          by_cases hjk : j = kk
          · subst hjk
            rw [upd_same] at C3
            go_wp2_with fail
            refine C3.out.mono ?_
            rintro e w3 ⟨rfl, ho, hm⟩
            have C4 := Lib.hid (mChanged_yes D k _ _ _ j hlt2 (by omega) w3 hm)
            rw [upd_same] at C4
            have HM3 := Lib.hid hm
            have HB3 : Hid (Below D w w3) := HB.out.trans (ho.below (Nat.le_refl _) HS.out)
            have HS3 : Hid (D ≤ w3.heap.size) := Nat.le_trans HS.out ho.size
            clear hm ho kc C3
            unfold pm at C4
            go_wp2_with fail
            refine C4.out.mono ?_
            rintro e w4 ⟨rfl, rfl⟩
            go_wp2_with fail
            go_roundw
            case rel => exact ⟨j + 1, by omega, by go_num, HM3, HB3, HS3⟩
            case measure => simp [intOf]; omega
          · have e1 : ((j : Int) == (kk : Int)) = false := by rw [beq_eq_false_iff_ne]; omega
            have e2 : (((j + 1 : Nat) : Int) == (k : Int) + 1) = false := by rw [beq_eq_false_iff_ne]; omega
            rw [upd_other _ _ _ _ hjk, first_lt hlt2] at C3
            go_wp2_with fail
            refine C3.out.mono ?_
            rintro e w3 ⟨rfl, ho, hm⟩
            have C4 := Lib.hid (mChanged_yes D k _ _ _ j hlt2 (by omega) w3 hm)
            rw [upd_other _ _ _ _ hjk, first_lt hlt2] at C4
            have HM3 := Lib.hid hm
            have HB3 : Hid (Below D w w3) := HB.out.trans (ho.below (Nat.le_refl _) HS.out)
            have HS3 : Hid (D ≤ w3.heap.size) := Nat.le_trans HS.out ho.size
            clear hm ho kc C3
            unfold pm at C4
            go_wp2_with fail
            refine C4.out.mono ?_
            rintro e w4 ⟨rfl, rfl⟩
            go_wp2_with fail
            go_roundw
            case rel => exact ⟨j + 1, by omega, by go_num, HM3, HB3, HS3⟩
            case measure => simp [intOf]; omega
        · obtain rfl : j = k := by omega
          have C5 := Lib.hid (mTime_c D j _ _ _ wr HM.out)
          have e3 : (((j + 1 + j : Nat) : Int) == 2 * (j : Int) + 1) = true := by rw [beq_iff_eq]; omega
          unfold pm at C5
          go_wp2_with fail
          refine C5.out.mono ?_
          rintro e w5 ⟨rfl, rfl⟩
          go_wp2_with fail
          refine (awake3_c _).mono ?_
          rintro e w6 ⟨rfl, hb6⟩
          have HB6 : Hid (Below D w w6) := HB.out.trans (hb6.mono HS.out)
          clear hb6
          go_wp2_with fail
          go_ret
          exact ⟨rfl, HB6.out⟩
end Go.Proofs.Ytmfpfebnlflfiab

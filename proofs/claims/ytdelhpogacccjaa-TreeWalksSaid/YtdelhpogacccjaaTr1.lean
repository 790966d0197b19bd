/-
  The tree's small functions: how many digits a number has, and which.
-/
import Derived.Test.YtdelhpogacccjaaBase
import Derived.Test.YtdelhpogacccjaaShelfT
import Derived.Lib.BitFns
import Derived.LoopTactic
set_option linter.unusedVariables false
set_option linter.unusedSimpArgs false
namespace Go.Proofs.Ytdelhpogacccjaa
open Go Go.RowKit

/-- How many digits to the base 16, at least 1. -/
def nd (u : Nat) : Nat := if h : u < 16 then 1 else nd (u / 16) + 1
termination_by u
decreasing_by omega
theorem nd_small {u : Nat} (h : u < 16) : nd u = 1 := by unfold nd; rw [dif_pos h]
theorem nd_great {u : Nat} (h : ¬ u < 16) : nd u = nd (u / 16) + 1 := by rw [nd, dif_neg h]
theorem nd_pos (u : Nat) : 1 ≤ nd u := by
  by_cases h : u < 16
  · rw [nd_small h]; exact Nat.le_refl _
  · rw [nd_great h]; omega
theorem nd_le (k : Nat) : ∀ u, u < 16 ^ (k + 1) → nd u ≤ k + 1 := by
  induction k with
  | zero => intro u h; rw [nd_small (by simpa using h)]; exact Nat.le_refl _
  | succ k ih =>
    intro u h
    by_cases h2 : u < 16
    · rw [nd_small h2]; omega
    · rw [nd_great h2]
      have := ih (u / 16) (by rw [Nat.div_lt_iff_lt_mul (by omega)]; rw [Nat.pow_succ] at h; exact h)
      omega
theorem lt_nd (k : Nat) : ∀ u, nd u ≤ k + 1 → u < 16 ^ (k + 1) := by
  induction k with
  | zero =>
    intro u h
    by_cases h2 : u < 16
    · simpa using h2
    · rw [nd_great h2] at h; have := nd_pos (u / 16); omega
  | succ k ih =>
    intro u h
    by_cases h2 : u < 16
    · exact Nat.lt_of_lt_of_le h2 (by rw [Nat.pow_succ]; have : 0 < 16 ^ (k + 1) := Nat.pow_pos (by omega); omega)
    · rw [nd_great h2] at h
      have := ih (u / 16) (by omega)
      rw [Nat.div_lt_iff_lt_mul (by omega)] at this
      rw [Nat.pow_succ]; exact this
theorem nd_u32 {u : Nat} (h : u < 4294967296) : nd u ≤ 8 := nd_le 7 u (by simpa using h)
theorem bitLen_step (u : Nat) (h : 16 ≤ u) (hu : u < 4294967296) : Lib.bitLen u = 4 + Lib.bitLen (u / 16) := by
  have e : ∀ f x, x < 2 ^ f → f ≤ 64 → Lib.bitLen x = Lib.bitLenAux f x := fun f x hx hf => Lib.bitLenAux_fuel f x hx 64 hf
  rw [e 36 u (Nat.lt_of_lt_of_le hu (by decide)) (by omega), e 32 (u / 16) (by omega) (by omega)]
  show Lib.bitLenAux (32 + 4) u = _
  have s : ∀ f x, x ≠ 0 → Lib.bitLenAux (f + 1) x = 1 + Lib.bitLenAux f (x / 2) := fun f x hx => by
    show (if x = 0 then 0 else 1 + Lib.bitLenAux f (x / 2)) = _
    rw [if_neg hx]
  rw [s 35 u (by omega), s 34 (u / 2) (by omega), s 33 (u / 2 / 2) (by omega), s 32 (u / 2 / 2 / 2) (by omega)]
  have d : u / 2 / 2 / 2 / 2 = u / 16 := by omega
  rw [d]
  omega
theorem bitLen_pos {x : Nat} (h : x ≠ 0) : 1 ≤ Lib.bitLen x := by
  show 1 ≤ (if x = 0 then 0 else 1 + Lib.bitLenAux 63 (x / 2))
  rw [if_neg h]; omega
theorem bitLen_small : ∀ n : Fin 16, Lib.bitLen n.val ≤ 4 := by decide +kernel
theorem nd_bits (k : Nat) : ∀ u, u < 4294967296 → u < 16 ^ (k + 1) → max 1 ((Lib.bitLen u + 3) / 4) = nd u := by
  induction k with
  | zero =>
    intro u hu h
    have h16 : u < 16 := by simpa using h
    have := bitLen_small ⟨u, h16⟩
    rw [nd_small h16]
    dsimp only at this
    omega
  | succ k ih =>
    intro u hu h
    by_cases h2 : u < 16
    · have := bitLen_small ⟨u, h2⟩
      rw [nd_small h2]
      dsimp only at this
      omega
    · have h3 := ih (u / 16) (by omega) (by rw [Nat.div_lt_iff_lt_mul (by omega)]; rw [Nat.pow_succ] at h; exact h)
      have h4 := bitLen_pos (x := u / 16) (by omega)
      rw [nd_great h2, bitLen_step u (by omega) hu, ← h3]
      omega
theorem tNeed_c (u : Nat) (hu : u < 4294967296) (w : World) : Calls Try.prog 60 #[.int .u32 u] w fun e w' => e = .returned (.int .i64 (nd u : Nat)) ∧ w' = w := by
  have C := Try.bits_Len32 (u : Int) w (by omega) (by omega)
  rw [Int.toNat_natCast] at C
  have hn := nd_bits 7 u hu (by simpa using hu)
  obtain ⟨L, hL⟩ : ∃ L, Lib.bitLen u = L := ⟨_, rfl⟩
  rw [hL] at C hn
  have hL8 := nd_u32 hu
  have HN := Lib.hid hn
  have HC := Lib.hid C
  have hLL : L ≤ 40 := by omega
  have q0 : 0 ≤ (L : Int) + 4 - 1 := by omega
  clear hn C hL
  go_enter Try.func60, Try.ntmps60
  go_wp2_with (go_at_call 74; refine HC.out.mono ?_; rintro e w' ⟨rfl, hw⟩; rw [hw]; clear hw w')
  go_ret
  exact ⟨by rw [← HN.out]; go_num, rfl⟩
theorem rNeed7_c (u : Nat) (hu : u < 4294967296) (w : World) : Calls Try.prog 52 #[.int .u32 u] w fun e w' => e = .returned (.int .i64 (nd u : Nat)) ∧ w' = w := by
  have hu8 := nd_u32 hu
  obtain ⟨N, hN⟩ : ∃ N, nd u = N := ⟨_, rfl⟩
  rw [hN] at hu8 ⊢
  have HN := Lib.hid hN
  clear hN
  go_enter Try.func52, Try.ntmps52
  go_wp2_with fail
  go_loopw [0, 3] (fun v k wr => ∃ (x j : Nat), v = .int .u32 x ∧ k = .int .i64 ((j + 1 : Nat) : Int) ∧ x < 4294967296 ∧ Hid (j + nd x = N) ∧ wr = w) (fun v _ _ => (intOf v).toNat)
  case atStart => exact ⟨u, 0, rfl, rfl, hu, by show 0 + nd u = N; rw [Nat.zero_add]; exact HN.out, rfl⟩
  case round =>
    obtain ⟨x, j, rfl, rfl, hx, HJ, hwr⟩ := hrel
    rw [hwr]
    clear hwr wr
    have hj8 : j ≤ 8 := by have := HJ.out; omega
    by_cases h15 : 15 < x
    · have q : (15 : Int) < x := by omega
      have HJ2 : Hid ((j + 1) + nd (x / 16) = N) := by
        show _ = _
        have := HJ.out
        rw [nd_great (by omega)] at this
        omega
      have E1 : Hid ((x : Int) / 16 = ((x / 16 : Nat) : Int)) := by show _ = _; omega
      go_wp2_with fail
      go_roundw
      case rel => exact ⟨x / 16, j + 1, by first | rfl | (rw [E1.out]) | go_num, by go_num, by omega, HJ2, by first | rfl | trivial⟩
      case measure => simp [intOf]; omega
    · have q : ¬ (15 : Int) < x := by omega
      have h2 : N = j + 1 := by
        have := HJ.out
        rw [nd_small (by omega)] at this
        omega
      subst h2
      go_wp2_with fail
      go_ret
      exact ⟨rfl, rfl⟩
/-- A number's digit of a rank. -/
def dig (u rank : Nat) : Nat := u / 16 ^ rank % 16
theorem dig_lt (u rank : Nat) : dig u rank < 16 := Nat.mod_lt _ (by omega)
theorem rDigit7_c (u rank : Nat) (hu : u < 4294967296) (hr : rank ≤ 8) (w : World) : Calls Try.prog 57 #[.int .u32 u, .int .i64 rank] w fun e w' => e = .returned (.int .i64 (dig u rank : Nat)) ∧ w' = w := by
  go_enter Try.func57, Try.ntmps57
  go_wp2_with fail
  go_loopw [0, 5] (fun v i wr => ∃ (x j : Nat), v = .int .u32 x ∧ i = .int .i64 j ∧ j ≤ rank ∧ x < 4294967296 ∧ Hid (x = u / 16 ^ j) ∧ wr = w) (fun _ i _ => rank - (intOf i).toNat)
  case atStart => exact ⟨u, 0, rfl, rfl, Nat.zero_le _, hu, by show u = u / 16 ^ 0; simp, rfl⟩
  case round =>
    obtain ⟨x, j, rfl, rfl, hj, hx, HX, hwr⟩ := hrel
    rw [hwr]
    clear hwr wr
    by_cases hlt : j < rank
    · have q : (j : Int) < rank := by omega
      have HX2 : Hid (x / 16 = u / 16 ^ (j + 1)) := by show _ = _; rw [HX.out, Nat.div_div_eq_div_mul, Nat.pow_succ]
      have E1 : Hid ((x : Int) / 16 = ((x / 16 : Nat) : Int)) := by show _ = _; omega
      go_wp2_with fail
      go_roundw
      case rel => exact ⟨x / 16, j + 1, by first | rfl | (rw [E1.out]) | go_num, by go_num, by omega, by omega, HX2, by first | rfl | trivial⟩
      case measure => simp [intOf]; omega
    · obtain rfl : j = rank := by omega
      have q : ¬ (j : Int) < j := by omega
      go_wp2_with fail
      go_ret
      refine ⟨?_, rfl⟩
      unfold dig
      rw [← HX.out]
      go_num
end Go.Proofs.Ytdelhpogacccjaa

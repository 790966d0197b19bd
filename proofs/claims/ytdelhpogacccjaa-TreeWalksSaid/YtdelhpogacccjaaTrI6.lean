/-
  Are two rows the same messages? (Where they are.)
-/
import Derived.Test.YtdelhpogacccjaaTrRow
import Derived.BigQuiet
set_option linter.unusedVariables false
set_option linter.unusedSimpArgs false
namespace Go.Proofs.Ytdelhpogacccjaa
open Go Go.RowKit
variable {W W' : World} {va vb : Value} {l : List R7}
set_option maxRecDepth 20000 in
set_option maxHeartbeats 1000000 in
theorem same7_c (ha : RecRow W va l) (hb : RecRow W vb l) (hm : l.length ≤ 1000000) :
    Calls Try.prog 10 #[va, vb] W fun e w' => e = .returned (.bool true) ∧ Below W.heap.size W w' := by
  obtain ⟨ad, cp, hva⟩ := ha.form
  obtain ⟨bd, cq, hvb⟩ := hb.form
  subst hva
  subst hvb
  obtain ⟨N, hN⟩ : ∃ N, l.length = N := ⟨_, rfl⟩
  rw [hN] at ha hb hm ⊢
  have HA := Lib.hid ha
  have HB := Lib.hid hb
  have HN := Lib.hid hN
  have q0 : ((N : Int) == N) = true := by rw [beq_iff_eq]
  clear ha hb hN
  go_enter Try.func10, Try.ntmps10
  go_wp2_with fail
  go_loopw [5] (fun i wr => ∃ (k : Nat), k ≤ N ∧ i = .int .i64 k ∧ Below W.heap.size W wr) (fun i _ => N - (intOf i).toNat)
  case atStart => exact ⟨0, Nat.zero_le _, rfl, Below.refl _ _⟩
  case round =>
    obtain ⟨k, hkN, rfl, hwr⟩ := hrel
    have HWR := Lib.hid hwr
    by_cases hlt : k < N
    · have hq : (k : Int) < N := by omega
      have hq0 : (0 : Int) ≤ k := by omega
      obtain ⟨r, hr⟩ : ∃ r, l[k]? = some r := ⟨_, List.getElem?_eq_getElem (by have := HN.out; omega)⟩
      obtain ⟨b, off, rfl, hbb, c0, c1, c2⟩ := (HA.out.below (hwr.mono (Nat.le_refl _))).at hr
      obtain ⟨d, og, rfl, hdd, d0, d1, d2⟩ := (HB.out.below (hwr.mono (Nat.le_refl _))).at hr
      obtain ⟨⟨u, f, t⟩, rfl⟩ : ∃ q : R7, q = r := ⟨_, rfl⟩
      dsimp only at c0 c1 c2 d0 d1 d2
      clear hr hwr
      go_wp2_with fail
      go_quiet (fail)
      go_wp2_with fail
      go_roundw
      case rel => exact ⟨k + 1, by omega, by go_num, by first | exact HWR.out | exact HWR.out.drew | exact below_drewN HWR.out _⟩
      case measure => simp [intOf]; omega
    · obtain rfl : k = N := by omega
      have hq : ¬ (k : Int) < k := by omega
      go_wp2_with fail
      go_ret
      exact ⟨rfl, HWR.out⟩
end Go.Proofs.Ytdelhpogacccjaa

/-
  What a set means, by the document: contract.
-/
import Derived.Test.YtmfpfebnlflfiaaDoorOwn
set_option linter.unusedVariables false
set_option linter.unusedSimpArgs false
namespace Go.Proofs.YtmfpfebnlflfiaaDoor
open Go Go.RowKit

theorem ret_bt {b : Bool} (h : b = true) : Ending.returned (.bool true) = .returned (.bool b) := by rw [h]
theorem inB_iff (n last x y : Nat) : inB n last (x, y) = true ↔ (ov x last ≤ n ∧ n ≤ ov y last ∨ ov y last ≤ n ∧ n ≤ ov x last) := by
  unfold inB loB hiB
  simp only [Bool.and_eq_true, decide_eq_true_eq]
  omega

set_option maxRecDepth 20000 in
set_option maxHeartbeats 2000000 in
theorem rqhas_c (p : Option Addr) (cap : Nat) (l : List (Nat × Nat)) (hl : l.length ≤ 1000) (n last : Nat) (w : World) (hp : PairsAt w p l) :
    Calls Tryd.prog 28 #[.slice p l.length cap, .int .u32 n, .int .u32 last] w fun e w' => e = .returned (.bool (hasB l n last)) ∧ ∃ q, w' = w.drewN q := by
  obtain ⟨N, hN⟩ : ∃ N, N = l.length := ⟨_, rfl⟩
  rw [← hN] at hl ⊢
  have HN := Lib.hid hN
  have HP := Lib.hid hp
  clear hN hp
  have qn : (0 : Int) ≤ n := by omega
  have ql : (0 : Int) ≤ last := by omega
  go_enter Tryd.func28, Tryd.ntmps28
  go_wp2_with fail
  go_loopw [7] (fun i wr => ∃ (k q : Nat), k ≤ N ∧ i = .int .i64 k ∧ Hid (n = 0 ∨ (l.take k).any (inB n last) = false) ∧ wr = w.drewN q) (fun i _ => N - (intOf i).toNat)
  case atStart => exact ⟨0, 0, by omega, rfl, .inr rfl, rfl⟩
  case round =>
    obtain ⟨k, q, hk, rfl, HF, rfl⟩ := hrel
    by_cases hlt : k < N
    · have hkl : k < l.length := by rw [← HN.out]; exact hlt
      obtain ⟨r, hr⟩ : ∃ r, l[k]? = some r := ⟨_, List.getElem?_eq_getElem hkl⟩
      obtain ⟨b, off, rfl, hbw, kc0, kc1⟩ := HP.out k r hr
      have hq : (k : Int) < N := by omega
      have hq0 : (0 : Int) ≤ k := by omega
      have HR := Lib.hid hr
      obtain ⟨x, y⟩ := r
      dsimp only at kc0 kc1
      clear hr hkl
      go_wp2_with fail
      go_quiet (fail)
      have HI : Hid (∀ a b, ov x last = a → ov y last = b → (inB n last (x, y) = true ↔ (a ≤ n ∧ n ≤ b ∨ b ≤ n ∧ n ≤ a))) := by
        rintro a b rfl rfl; exact inB_iff n last x y
      have hand : ∀ a b, ov x last = a → ov y last = b → ¬ (0 < n ∧ (a ≤ n ∧ n ≤ b ∨ b ≤ n ∧ n ≤ a)) → Hid (n = 0 ∨ (l.take (k + 1)).any (inB n last) = false) := by
        intro a b ha hb h
        by_cases h0 : n = 0
        · exact .inl h0
        · right
          rw [take_any HR.out, HF.out.resolve_left h0, Bool.false_or]
          cases hc : inB n last (x, y)
          · rfl
          · exact absurd ⟨by omega, (HI.out a b ha hb).1 hc⟩ h
      have hyes : ∀ a b, ov x last = a → ov y last = b → 0 < n → (a ≤ n ∧ n ≤ b ∨ b ≤ n ∧ n ≤ a) → hasB l n last = true := by
        intro a b ha hb h0 h
        unfold hasB
        rw [any_at HR.out ((HI.out a b ha hb).2 h)]
        simp; omega
      have HA := Lib.hid hand
      have HY := Lib.hid hyes
      clear hand hyes
      by_cases hx : x = 0
      · by_cases hy : y = 0
        · subst hx
          subst hy
          have E1 : Hid (ov 0 last = last) := by show _ = _; simp [ov]
          go_wp2_with fail
          all_goals first
            | exact ⟨⟨k + 1, _, by omega, by go_num, HA.out _ _ E1.out E1.out (by omega), rfl⟩, by simp [intOf]; omega⟩
            | (go_ret; exact ⟨ret_bt (HY.out _ _ E1.out E1.out (by omega) (by omega)), _, rfl⟩)
        · have E2 : Hid (ov y last = y) := by show _ = _; simp [ov, hy]
          have ey : ((y : Int) == 0) = false := by rw [beq_eq_false_iff_ne]; omega
          subst hx
          have E1 : Hid (ov 0 last = last) := by show _ = _; simp [ov]
          clear hy
          go_wp2_with fail
          all_goals first
            | exact ⟨⟨k + 1, _, by omega, by go_num, HA.out _ _ E1.out E2.out (by omega), rfl⟩, by simp [intOf]; omega⟩
            | (go_ret; exact ⟨ret_bt (HY.out _ _ E1.out E2.out (by omega) (by omega)), _, rfl⟩)
      · have E1 : Hid (ov x last = x) := by show _ = _; simp [ov, hx]
        have ex : ((x : Int) == 0) = false := by rw [beq_eq_false_iff_ne]; omega
        clear hx
        by_cases hy : y = 0
        · subst hy
          have E2 : Hid (ov 0 last = last) := by show _ = _; simp [ov]
          go_wp2_with fail
          all_goals first
            | exact ⟨⟨k + 1, _, by omega, by go_num, HA.out _ _ E1.out E2.out (by omega), rfl⟩, by simp [intOf]; omega⟩
            | (go_ret; exact ⟨ret_bt (HY.out _ _ E1.out E2.out (by omega) (by omega)), _, rfl⟩)
        · have E2 : Hid (ov y last = y) := by show _ = _; simp [ov, hy]
          have ey : ((y : Int) == 0) = false := by rw [beq_eq_false_iff_ne]; omega
          clear hy
          go_wp2_with fail
          all_goals first
            | exact ⟨⟨k + 1, _, by omega, by go_num, HA.out _ _ E1.out E2.out (by omega), rfl⟩, by simp [intOf]; omega⟩
            | (go_ret; exact ⟨ret_bt (HY.out _ _ E1.out E2.out (by omega) (by omega)), _, rfl⟩)
    · obtain rfl : k = N := by omega
      go_wp2_with fail
      go_ret
      refine ⟨?_, q, rfl⟩
      have h := HF.out
      rw [List.take_of_length_le (by rw [← HN.out]; exact Nat.le_refl _)] at h
      rcases h with h | h
      · unfold hasB; simp [h]
      · unfold hasB; rw [h]; simp
end Go.Proofs.YtmfpfebnlflfiaaDoor

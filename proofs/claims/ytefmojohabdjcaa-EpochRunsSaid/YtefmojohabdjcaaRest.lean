/-
  Rest over any machine.
-/
import Derived.Test.YtefmojohabdjcaaStepAll
set_option linter.unusedVariables false
set_option linter.unusedSimpArgs false
namespace Go.Proofs.Ytefmojohabdjcaa
open Go Go.RowKit

variable {σ : Type} {m : Mach σ}
/-- What stands ahead of a round. -/
structure Rs (m : Mach σ) (F : Nat → Prop) (w : World) (Bq : Nat) (u : Value) (s : σ) (W : World) : Prop where
  ex : ∃ F', m.M s F' W ∧ Moved F F' w W ∧ (∀ k, capA Bq u k → ¬ F' k)
  caps : CapsA m Bq u W
theorem Rs.round (hm : m.Ok) (hN : m.N ≤ 1000) {F : Nat → Prop} {w W : World} {Bq : Nat} {u : Value} {s : σ} (h : Rs m F w Bq u s W) (hc : m.cost s + m.N < 1000000) :
    Calls Try.prog 43 #[.func (.func 53) #[] #[.pointer (some ⟨Bq, 0, none⟩)]] W fun e w' => e = .returned (.bool (m.round s).2) ∧ Rs m F w Bq u (m.round s).1 w' := by
  obtain ⟨F', h1, h2, h3⟩ := h.ex
  refine (stepAll_c hm hN Bq u s F' W h1 h.caps h3 hc).mono ?_
  rintro e w' ⟨rfl, F2, k1, k2⟩
  exact ⟨rfl, ⟨F2, k1, h2.trans k2, fun k hk hf => h3 k hk (k2.old k (h.caps.lt hk) hf)⟩, h.caps.heap fun k hk => k2.same k (h.caps.lt hk) (h3 k hk)⟩

set_option maxRecDepth 20000 in
set_option maxHeartbeats 2000000 in
theorem rest_c (hm : m.Ok) (hN : m.N ≤ 20) (lv : Value) (limit : Int) (L : Nat) (hL : limit.toNat = L) (hLL : L ≤ 1000) (s : σ) (F : Nat → Prop) (w : World) (hM : m.M s F w) (hcost : m.cost s + 20 * (L + 1) < 1000000)
    (h1 : RowAt w lv (ptrs m)) :
    Calls Try.prog 23 #[.int .i64 limit, lv] w fun e w' => e = .returned (.int .i64 (m.rest L s).2) ∧ ∃ F', m.M (m.rest L s).1 F' w' ∧ Moved F F' w w' := by
  have C0 := Lib.hid (going_c hm (by omega) lv w h1)
  have Hm := Lib.hid hm
  have HM := Lib.hid hM
  obtain ⟨R, hR⟩ : ∃ R, m.rest L s = R := ⟨_, rfl⟩
  obtain ⟨sE, nE⟩ := R
  rw [hR]
  dsimp only
  have HR := Lib.hid hR
  clear h1 hm hM hR
  go_enter Try.func23, Try.ntmps23
  go_wp2_with fail
  refine C0.out.mono ?_
  rintro e w1 ⟨Bq, u, rfl, hcaps, hfr, hb1⟩
  have HS : Hid (Rs m F w Bq u s w1) := ⟨⟨F, Hm.out.below HM.out hb1, Moved.of_below hb1, fun k hk hf => by have := Hm.out.lt HM.out hf; have := hfr k hk; omega⟩, hcaps⟩
  clear C0 hcaps hfr hb1 HM
  go_wp2_with fail
  go_loopw [10] (fun i wr => ∃ (k : Nat) (sk : σ), k ≤ L ∧ i = .int .i64 k ∧ Hid (m.cost sk ≤ m.cost s + 20 * k) ∧ Hid ((sE, nE) = ((m.rest (L - k) sk).1, (m.rest (L - k) sk).2 + k)) ∧ Hid (Rs m F w Bq u sk wr)) (fun i _ => L - (intOf i).toNat)
  case atStart => exact ⟨0, s, Nat.zero_le _, rfl, Nat.le_refl _, HR.out.symm, HS⟩
  case round =>
    obtain ⟨k, sk, hk, rfl, HCk, HEk, HSk⟩ := hrel
    clear HS HR
    by_cases hlt : k < L
    · have hq : (k : Int) < limit := by omega
      have C1 := Lib.hid (Rs.round Hm.out (by omega) HSk.out (by have := HCk.out; omega))
      have hcr := Hm.out.upto_cost sk m.N
      have hstep : (sE, nE) = if (m.round sk).2 then ((m.rest (L - (k + 1)) (m.round sk).1).1, (m.rest (L - (k + 1)) (m.round sk).1).2 + (k + 1)) else ((m.round sk).1, k) := by
        rw [HEk.out, show L - k = (L - (k + 1)) + 1 by omega]
        rw [Mach.rest]
        split
        · simp only [Prod.mk.injEq, true_and]; omega
        · simp
      have hcr2 : m.cost (m.round sk).1 ≤ m.cost s + 20 * (k + 1) := by
        have := HCk.out
        show m.cost (m.upto sk m.N).1 ≤ _
        omega
      obtain ⟨Q, hQ⟩ : ∃ Q, m.round sk = Q := ⟨_, rfl⟩
      obtain ⟨s1, b1⟩ := Q
      rw [hQ] at C1 hstep hcr2
      dsimp only at C1 hstep hcr2
      have HST := Lib.hid hstep
      have HC2 := Lib.hid hcr2
      clear hcr hstep hcr2 hQ HEk HSk HCk
      cases b1 with
      | true =>
        go_wp2_with fail
        refine C1.out.mono ?_
        rintro e w2 ⟨rfl, hs2⟩
        go_wp2_with fail
        go_roundw
        case rel => exact ⟨k + 1, s1, by omega, by go_num, HC2.out, HST.out, hs2⟩
        case measure => simp [intOf]; omega
      | false =>
        have e1 : sE = s1 ∧ nE = k := by
          have h := HST.out
          simp only [Bool.false_eq_true, if_false, Prod.mk.injEq] at h
          exact h
        obtain ⟨rfl, rfl⟩ := e1
        go_wp2_with fail
        refine C1.out.mono ?_
        rintro e w2 ⟨rfl, hs2⟩
        go_wp2_with fail
        go_ret
        obtain ⟨F', h1, h2, _⟩ := hs2.ex
        exact ⟨rfl, F', h1, h2⟩
    · obtain rfl : k = L := by omega
      have hq : ¬ ((k : Int) < limit) := by omega
      have e1 : sE = sk ∧ nE = k := by
        have h := HEk.out
        rw [Nat.sub_self] at h
        simpa [Mach.rest] using h
      obtain ⟨rfl, rfl⟩ := e1
      by_cases hl0 : limit < 0
      · have hz : (0 : Int) = (nE : Int) := by omega
        go_wp2_with fail
        go_ret
        obtain ⟨F', h1, h2, _⟩ := HSk.out.ex
        exact ⟨by rw [← hz]; rfl, F', h1, h2⟩
      · have hz : limit = (nE : Int) := by omega
        subst hz
        go_wp2_with fail
        go_ret
        obtain ⟨F', h1, h2, _⟩ := HSk.out.ex
        exact ⟨rfl, F', h1, h2⟩
end Go.Proofs.Ytefmojohabdjcaa

/-
  epoch.New: contract.
-/
import Derived.Test.YtefmojohabdjcaaEp9
import Derived.Laws.OwnMore
set_option linter.unusedVariables false
set_option linter.unusedSimpArgs false
namespace Go.Proofs.Ytefmojohabdjcaa
open Go Go.RowKit

variable {p : EP} {s : ES} {W W' : World}
theorem infoPin : (Try.prog.info? 95).map (fun i => (i.zero, i.size, i.bytes)) = some (some (.agg #[.int .u64 0, .bool false]), 2, 16) := by kernel_rfl
def pinCells (R : Nat) : Array Value := madeCells #[.int .u64 0, .bool false] (R * 2)
theorem pinCells_get (R j : Nat) (h : j < R * 2) : (pinCells R)[j]? = some ((#[Value.int .u64 0, Value.bool false])[j % 2]!) := by
  unfold pinCells madeCells
  rw [Array.getElem?_map, Array.getElem?_eq_getElem (by rw [Array.size_range]; exact h), Array.getElem_range]
  rfl
theorem pinCells_at (R i : Nat) (h : i < R) : (pinCells R)[i * 2]? = some (.int .u64 0) ∧ (pinCells R)[i * 2 + 1]? = some (.bool false) := by
  refine ⟨?_, ?_⟩
  · rw [pinCells_get R _ (by omega), show (i * 2) % 2 = 0 by omega]; rfl
  · rw [pinCells_get R _ (by omega), show (i * 2 + 1) % 2 = 1 by omega]; rfl
theorem run_pins (R : Nat) (hR : R ≤ 8) (w : World) : (Instr.makeSlice 90 (.int .i64 R) (.int .i64 R)).run Try.prog w = .ok (.slice (some ⟨w.heap.size, 0, none⟩) R R) (w.alloc (.cells (pinCells R) 95)) := by
  obtain ⟨i0, hi0, hz0, hz1, hz2⟩ := info_parts infoPin
  have h := run_make (P := Try.prog) w 90 95 i0 _ Try.underlying90 hi0 hz0 .i64 .i64 (R : Int) (R : Int) (by omega) (Int.le_refl _) (by rw [hz2]; omega) (by omega)
  rw [hz1, Int.toNat_natCast] at h
  exact h

/-- An epoch that is new. -/
structure Fresh (p : EP) (s : ES) (t : Nat) : Prop where
  now : s.now = 0
  pe : ∀ i, s.pe i = 0
  po : ∀ i, s.po i = false
  t : s.t = t
  ws : ∀ i, i ≤ p.R → s.ws (p.word + i) = 0
def NewE (M word R n t : Nat) (W : World) (e : Ending) (w' : World) : Prop :=
  ∃ p s, e = .returned (.tuple #[pE p, .int .i64 0]) ∧ p.M = M ∧ p.word = word ∧ p.R = R ∧ p.n = n ∧ EpAt p s w' ∧ Fresh p s (t + 1 + R) ∧ Only M W w' ∧ W.heap.size ≤ p.E ∧ W.heap.size ≤ p.Pb

set_option maxRecDepth 20000 in
set_option maxHeartbeats 1000000 in
theorem eNew_yes (M n t : Nat) (ws cs : Nat → Nat) (hm : MemAt W M n t ws cs) (word R : Nat) (h1 : 1 ≤ R) (h8 : R ≤ 8) (hfit : word + R + 1 ≤ n) (hn : n ≤ 8192) (ht : t < 1000000) :
    Calls Try.prog 26 #[pm M, .int .i64 word, .int .i64 R] W fun e w' => NewE M word R n t W e w' := by
  have CW := Lib.hid (words_yes R h1 h8)
  have CL := Lib.hid ((mLen_c M n t ws cs W hm).mono (fun e w' h => (⟨h.1, h.2.symm⟩ : e = .returned (.int .i64 n) ∧ w' = W)))
  have hmk := run_pins R h8
  obtain ⟨D, hD⟩ : ∃ D, W.heap.size = D := ⟨_, rfl⟩
  obtain ⟨p, hp⟩ : ∃ p : EP, p = { E := D + 1, M := M, Pb := D, word := word, R := R, n := n } := ⟨_, rfl⟩
  have hW2 : ∃ W2, (W.alloc (.cells (pinCells R) 95)).alloc (.cells #[pm M, .int .i64 word, .int .u64 0, .slice (some ⟨D, 0, none⟩) R R] 92) = W2 ∧ EpAt p { now := 0, pe := fun _ => 0, po := fun _ => false, t := t, ws := ws, cs := cs } W2 ∧ Below D W W2 := by
    have hb1 : Below D W (W.alloc (.cells (pinCells R) 95)) := (Below.refl _ _).alloc (by omega) _
    have hb2 : Below D W ((W.alloc (.cells (pinCells R) 95)).alloc (.cells #[pm M, .int .i64 word, .int .u64 0, .slice (some ⟨D, 0, none⟩) R R] 92)) := hb1.alloc (by simp; omega) _
    refine ⟨_, rfl, ?_, hb2⟩
    rw [hp]
    refine ⟨?_, hm.later (hb2.block M (by rw [← hD]; exact hm.lt)), ⟨pinCells R, ?_, fun i hi => pinCells_at R i hi⟩, ⟨hfit, hn, h8⟩⟩
    · have h := heap_alloc_new (W.alloc (.cells (pinCells R) 95)) (.cells #[pm M, .int .i64 word, .int .u64 0, .slice (some ⟨D, 0, none⟩) R R] 92)
      rw [World.size_alloc, hD] at h
      exact h
    · have h := heap_alloc_new W (.cells (pinCells R) 95)
      rw [hD] at h
      exact (Below.heap_alloc _ _ _ (by simp; omega)).trans h
  obtain ⟨W2, hW2e, hep, hbel⟩ := hW2
  have HW2 := Lib.hid hW2e
  have HEP := Lib.hid hep
  have HBE := Lib.hid hbel
  have HP := Lib.hid hp
  have HD := Lib.hid hD
  have q1 : ¬ ((R : Int) + 1 = 0) := by omega
  have q2 : (((R + 1 : Nat) : Int) == 0) = false := by rw [beq_eq_false_iff_ne]; omega
  have q3 : ¬ ((word : Int) < 0) := by omega
  have q4 : ¬ ((n : Int) - ((R + 1 : Nat) : Int) < word) := by omega
  have q5 : -9223372036854775808 ≤ (n : Int) - ((R + 1 : Nat) : Int) ∧ (n : Int) - ((R + 1 : Nat) : Int) ≤ 9223372036854775807 := by omega
  have hM0 : M < D := by rw [← hD]; exact hm.lt
  obtain ⟨R1, hR1⟩ : ∃ R1, R + 1 = R1 := ⟨_, rfl⟩
  rw [hR1] at CW q2 q4 q5
  have HR1 := Lib.hid hR1
  have hR9 : R1 ≤ 9 := by omega
  clear hW2e hep hbel hp hm q1 hR1
  unfold pm at *
  go_enter Try.func26, Try.ntmps26
  go_wp2_with (first | (go_at_call 44; refine (CW.out _).mono ?_; rintro e w' ⟨rfl, hw⟩; rw [hw]; clear hw w') | (go_at_call 45; refine CL.out.mono ?_; rintro e w' ⟨rfl, hw⟩; rw [hw]; clear hw w'))
  rw [HW2.out]
  have hpR : p.R = R ∧ p.M = M ∧ p.word = word ∧ p.n = n ∧ p.E = D + 1 := by rw [HP.out]; exact ⟨rfl, rfl, rfl, rfl, rfl⟩
  have HPR := Lib.hid hpR
  have C1 := mStore_yes p.M p.n t ws cs p.word 0 (by have := HEP.out.fit; omega) HEP.out.fit.2.1 (by omega) W2 HEP.out.m
  have e00 : ((0 : Nat) : Int) = 0 := rfl
  rw [hpR.2.1, hpR.2.2.1, e00] at C1
  unfold pm at C1
  refine C1.mono ?_
  rintro e w3 ⟨⟨u, rfl⟩, ho3, hm3⟩
  have hep3 : EpAt p ((⟨0, fun _ => 0, fun _ => false, t, ws, cs⟩ : ES).store p.word 0) w3 := HEP.out.stored (by rw [hpR.2.1]; exact ho3) (by rw [hpR.2.1, hpR.2.2.2.1, hpR.2.2.1]; rw [hpR.2.2.2.1] at hm3; exact hm3)
  have HE3 := Lib.hid hep3
  have HON3 : Hid (Only M W w3) := (Only.of_below (B := M) (by rw [HD.out]; exact HBE.out)).trans ho3
  have HF3 : Hid (Fresh p ((⟨0, fun _ => 0, fun _ => false, t, ws, cs⟩ : ES).store p.word 0) (t + 1 + 0) → True) := fun _ => trivial
  clear C1 ho3 hm3 hep3 hpR e00
  go_wp2_with fail
  go_loopw [41] (fun i wr => ∃ (k : Nat) (s : ES), k ≤ R ∧ i = .int .i64 k ∧ Hid (EpAt p s wr) ∧ Hid (s.now = 0 ∧ (∀ i, s.pe i = 0) ∧ (∀ i, s.po i = false) ∧ s.t = t + 1 + k ∧ ∀ i, i ≤ k → s.ws (p.word + i) = 0) ∧ Hid (Only M W wr)) (fun i _ => R - (intOf i).toNat)
  case atStart =>
    refine ⟨0, _, Nat.zero_le _, rfl, HE3, ⟨rfl, fun _ => rfl, fun _ => rfl, rfl, fun i hi => ?_⟩, HON3⟩
    obtain rfl : i = 0 := by omega
    exact upd_same _ _ _
  case round =>
    obtain ⟨k, s, hk, rfl, HEk, HSk, HOk⟩ := hrel
    clear HE3 HON3 HF3
    by_cases hlt : k < R
    · have hq : (k : Int) < R := by omega
      have CP := Lib.hid (place_c HEk.out k (by rw [HPR.out.1]; exact hlt))
      have C2 := mStore_yes p.M p.n s.t s.ws s.cs (p.word + 1 + k) 0 (place_lt HEk.out (by rw [HPR.out.1]; exact hlt)) HEk.out.fit.2.1 (by have := HSk.out.2.2.2.1; omega) wr HEk.out.m
      have e00 : ((0 : Nat) : Int) = 0 := rfl
      rw [HPR.out.2.1, e00] at C2
      have HC2 := Lib.hid C2
      unfold pE at CP
      rw [HPR.out.2.2.2.2] at CP
      obtain ⟨P, hP⟩ : ∃ P, p.word + 1 + k = P := ⟨_, rfl⟩
      rw [hP] at CP HC2
      have HPP := Lib.hid hP
      unfold pm at HC2
      clear C2 e00 hP
      go_wp2_with (go_at_call 39; refine CP.out.mono ?_; rintro e w' ⟨rfl, rfl⟩)
      refine HC2.out.mono ?_
      rintro e w4 ⟨⟨u, rfl⟩, ho4, hm4⟩
      have hep4 : EpAt p (s.store P 0) w4 := HEk.out.stored (by rw [HPR.out.2.1]; exact ho4) (by rw [HPR.out.2.1]; exact hm4)
      have HE4 := Lib.hid hep4
      have HO4 := Lib.hid (HOk.out.trans ho4)
      clear hep4 ho4 hm4
      go_wp2_with fail
      go_roundw
      case rel =>
        refine ⟨k + 1, s.store P 0, by omega, by go_num, HE4.out, ⟨HSk.out.1, HSk.out.2.1, HSk.out.2.2.1, ?_, fun i hi => ?_⟩, HO4.out⟩
        · show s.t + 1 = _
          rw [HSk.out.2.2.2.1]
          omega
        · show upd s.ws P 0 (p.word + i) = 0
          by_cases hik : i = k + 1
          · rw [show p.word + i = P by rw [← HPP.out]; omega, upd_same]
          · rw [upd_other _ _ _ _ (by rw [← HPP.out]; omega)]
            exact HSk.out.2.2.2.2 i (by omega)
      case measure => simp [intOf]; omega
    · obtain rfl : k = R := by omega
      have hq : ¬ (k : Int) < k := by omega
      go_wp2_with fail
      go_ret2
      refine ⟨p, s, ?_, HPR.out.2.1, HPR.out.2.2.1, HPR.out.1, HPR.out.2.2.2.1, HEk.out, ⟨HSk.out.1, HSk.out.2.1, HSk.out.2.2.1, HSk.out.2.2.2.1, fun i hi => HSk.out.2.2.2.2 i (by rw [HPR.out.1] at hi; exact hi)⟩, HOk.out, ?_, ?_⟩
      · unfold pE; rw [HPR.out.2.2.2.2]; rfl
      · rw [HPR.out.2.2.2.2, HD.out]; omega
      · rw [HP.out, HD.out]; exact Nat.le_refl _
end Go.Proofs.Ytefmojohabdjcaa

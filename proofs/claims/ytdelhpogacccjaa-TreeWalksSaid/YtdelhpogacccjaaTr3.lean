/-
  Messages in a row: are they great; the one of a number; the program's and the document's.
-/
import Derived.Test.YtdelhpogacccjaaTr2
set_option linter.unusedVariables false
set_option linter.unusedSimpArgs false
namespace Go.Proofs.Ytdelhpogacccjaa
open Go Go.RowKit

variable {W W' : World} {v : Value} {l : List R7}
def longTo (l : List R7) (k : Nat) : Bool := (l.take k).any fun r => decide (300 < r.tx.size)
def greatB (l : List R7) (most : Nat) : Bool := longTo l (most + 1) || decide (most < l.length) || !rightB l
theorem longTo_succ (l : List R7) (k : Nat) (r : R7) (h : l[k]? = some r) : longTo l (k + 1) = (longTo l k || decide (300 < r.tx.size)) := by
  obtain ⟨hk, hr⟩ := List.getElem?_eq_some_iff.1 h
  unfold longTo
  rw [List.take_succ_eq_append_getElem hk, hr, List.any_append]
  simp
theorem longTo_mono (l : List R7) {k m : Nat} (h : k ≤ m) (hk : longTo l k = true) : longTo l m = true := by
  unfold longTo at *
  rw [List.any_eq_true] at *
  obtain ⟨r, hr, h2⟩ := hk
  refine ⟨r, ?_, h2⟩
  have : l.take k = (l.take m).take k := by rw [List.take_take, Nat.min_eq_left h]
  rw [this] at hr
  exact List.mem_of_mem_take hr
set_option maxRecDepth 20000 in
set_option maxHeartbeats 1000000 in
theorem great7_c (hl : RecRow W v l) (most : Nat) (hmo : most ≤ 1000) (hm : l.length ≤ 1000000 ∨ most < l.length) (hs : ∀ r, r ∈ l → r.tx.size ≤ 9223372036854775807) :
    Calls Try.prog 7 #[v, .int .i64 most] W fun e w' => e = .returned (.bool (greatB l most)) ∧ Below W.heap.size W w' := by
  obtain ⟨ad, cp, hv⟩ := hl.form
  have CR : Hid (¬ most < l.length → Calls Try.prog 25 #[v] W fun e w' => e = .returned (.bool (rightB l)) ∧ Below W.heap.size W w') := fun hn => rRight7_c hl (by omega)
  subst hv
  obtain ⟨N, hN⟩ : ∃ N, l.length = N := ⟨_, rfl⟩
  rw [hN] at hl CR ⊢
  have HL := Lib.hid hl
  have HN := Lib.hid hN
  have HS := Lib.hid hs
  clear hl hN hm hs
  go_enter Try.func7, Try.ntmps7
  go_wp2_with fail
  go_loopw [5] (fun i wr => ∃ (k : Nat), k ≤ most + 1 ∧ k ≤ N ∧ i = .int .i64 k ∧ Hid (longTo l k = false) ∧ wr = W) (fun i _ => N - (intOf i).toNat)
  case atStart => exact ⟨0, Nat.zero_le _, Nat.zero_le _, rfl, by show longTo l 0 = false; rfl, rfl⟩
  case round =>
    obtain ⟨k, hk, hkN, rfl, HT, hwr⟩ := hrel
    rw [hwr]
    clear hwr wr
    by_cases hlt : k < N
    · have hq : (k : Int) < N := by omega
      have hq0 : (0 : Int) ≤ k := by omega
      by_cases hle : k ≤ most
      · have hq1 : (k : Int) ≤ most := by omega
        obtain ⟨r, hr⟩ : ∃ r, l[k]? = some r := ⟨_, List.getElem?_eq_getElem (by have := HN.out; omega)⟩
        obtain ⟨b, off, rfl, hb, c0, c1, c2⟩ := HL.out.at hr
        have hS := longTo_succ l k r hr
        rw [HT.out, Bool.false_or] at hS
        have hsz := HS.out r (List.mem_of_getElem? hr)
        obtain ⟨z, hz⟩ : ∃ z, r.tx.size = z := ⟨_, rfl⟩
        rw [hz] at hS hsz
        by_cases h300 : 300 < z
        · have g : (300 : Int) < z := by omega
          have hF : greatB l most = true := by
            unfold greatB
            rw [longTo_mono l (k := k + 1) (by omega) (by rw [hS]; exact decide_eq_true h300)]
            rfl
          have HF := Lib.hid hF
          clear hS hr c0 c1 hF h300 hsz
          go_wp2_with fail
          go_ret
          exact ⟨by rw [HF.out]; rfl, Below.refl _ _⟩
        · have g : ¬ (300 : Int) < z := by omega
          have HS2 : Hid (longTo l (k + 1) = false) := by show _ = _; rw [hS]; exact decide_eq_false h300
          clear hS hr c0 c1 h300 hsz
          go_wp2_with fail
          go_roundw
          case rel => exact ⟨k + 1, by omega, by omega, by go_num, HS2.out, by first | rfl | trivial⟩
          case measure => simp [intOf]; omega
      · have hq1 : ¬ (k : Int) ≤ most := by omega
        have g : (most : Int) < N := by omega
        have hF : greatB l most = true := by
          unfold greatB
          rw [HN.out, decide_eq_true (p := most < N) (by omega)]
          simp
        have HF := Lib.hid hF
        clear hF
        go_wp2_with fail
        go_ret
        exact ⟨by rw [HF.out]; rfl, Below.refl _ _⟩
    · obtain rfl : k = N := by omega
      have hq : ¬ (k : Int) < k := by omega
      by_cases hg : most < k
      · have g : (most : Int) < k := by omega
        have hF : greatB l most = true := by
          unfold greatB
          rw [HN.out, decide_eq_true (p := most < k) hg]
          simp
        have HF := Lib.hid hF
        clear hF
        go_wp2_with fail
        go_ret
        exact ⟨by rw [HF.out]; rfl, Below.refl _ _⟩
      · have g : ¬ (most : Int) < k := by omega
        have hF : greatB l most = !rightB l := by
          unfold greatB
          rw [HN.out, decide_eq_false (p := most < k) hg]
          have : longTo l (most + 1) = longTo l k := by
            unfold longTo
            rw [List.take_of_length_le (by rw [HN.out]; omega), List.take_of_length_le (by rw [HN.out]; exact Nat.le_refl _)]
          rw [this, HT.out]
          simp
        have HF := Lib.hid hF
        have C2 := Lib.hid (CR.out hg)
        clear hF hg CR
        go_wp2_with fail
        refine C2.out.mono ?_
        rintro e w2 ⟨rfl, hb2⟩
        have HB2 := Lib.hid hb2
        clear hb2
        go_wp2_with fail
        go_ret
        exact ⟨by rw [HF.out]; rfl, HB2.out⟩
end Go.Proofs.Ytdelhpogacccjaa

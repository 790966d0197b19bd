/-
  The law EpochMakes, walked.
-/
import Derived.Test.YtpooieeeicffpaaEpMk1
set_option linter.unusedVariables false
set_option linter.unusedSimpArgs false
namespace Go.Proofs.Ytpooieeeicffpaa
open Go Go.RowKit

def NewNo (mv : Value) (word r : Int) (W : World) (e : Ending) (w1 : World) : Prop := e = .returned mv ∧ Below W.heap.size W w1 ∧ Calls Try.prog 35 #[mv, .int .i64 word, .int .i64 r] w1 fun e w' => NoE w1 e w'
theorem new_no (words word r : Int) (W : World) (hno : (words < 1 ∨ 8192 < words) ∨ (r < 1 ∨ 8 < r) ∨ word < 0 ∨ words - (r + 1) < word) :
    ∃ ad, Calls Try.prog 36 #[.int .i64 words] W fun e w1 => NewNo (.pointer ad) word r W e w1 := by
  by_cases hw : words < 1 ∨ 8192 < words
  · refine ⟨none, (mNew_no words hw W).mono ?_⟩
    rintro e w' ⟨rfl, rfl⟩
    exact ⟨rfl, Below.refl _ _, eNew_nil word r W⟩
  · obtain ⟨N, rfl⟩ : ∃ N : Nat, words = N := ⟨words.toNat, by omega⟩
    refine ⟨some ⟨W.heap.size, 0, none⟩, (mNew_yes N (by omega) (by omega) W).mono ?_⟩
    rintro e w' ⟨rfl, hb, hm⟩
    exact ⟨rfl, hb, eNew_bad W.heap.size N 0 _ _ hm (by omega) word r (hno.resolve_left hw)⟩
theorem words_no' (r : Int) (h : r < 1 ∨ 8 < r) : ∀ w, Calls Try.prog 37 #[.int .i64 r] w fun e w' => e = .returned (.int .i64 0) ∧ w' = w := fun w => words_no r h w

set_option maxHeartbeats 2000000 in
theorem makes_no (words word r : Int) (W : World) (hno : (words < 1 ∨ 8192 < words) ∨ (r < 1 ∨ 8 < r) ∨ word < 0 ∨ words - (r + 1) < word) :
    Calls Try.prog 8 #[.int .i64 words, .int .i64 word, .int .i64 r] W fun e w' => e = .returned (.bool true) ∧ Below W.heap.size W w' := by
  obtain ⟨ad, hn⟩ := new_no words word r W hno
  have HN := Lib.hid hn
  clear hn
  by_cases r1 : r < 1
  · have CW := Lib.hid (words_no' r (.inl r1))
    have q1 : ¬ (1 : Int) ≤ r := by omega
    clear hno
    go_enter Try.func8, Try.ntmps8
    go_wp2_with fail
    refine HN.out.mono ?_
    rintro e w1 ⟨rfl, hb1, CE⟩
    have HB1 := Lib.hid hb1
    have HCE := Lib.hid CE
    clear hb1 CE HN
    go_wp2_with fail
    refine HCE.out.mono ?_
    rintro e w2 ⟨rfl, hw⟩
    rw [hw]
    clear hw w2 HCE
    go_wp2_with (go_at_call 37; refine (CW.out _).mono ?_; rintro e w' ⟨rfl, hw⟩; rw [hw]; clear hw w')
    refine (awake6_c _).mono ?_
    rintro e w3 ⟨rfl, hb3⟩
    have HB3 : Hid (Below W.heap.size W w3) := HB1.out.trans (hb3.mono HB1.out.size)
    clear hb3
    go_wp2_with fail
    go_ret
    exact ⟨rfl, HB3.out⟩
  by_cases r8 : 8 < r
  · have CW := Lib.hid (words_no' r (.inr r8))
    have q1 : (1 : Int) ≤ r := by omega
    have q2 : ¬ r ≤ 8 := by omega
    clear hno
    go_enter Try.func8, Try.ntmps8
    go_wp2_with fail
    refine HN.out.mono ?_
    rintro e w1 ⟨rfl, hb1, CE⟩
    have HB1 := Lib.hid hb1
    have HCE := Lib.hid CE
    clear hb1 CE HN
    go_wp2_with fail
    refine HCE.out.mono ?_
    rintro e w2 ⟨rfl, hw⟩
    rw [hw]
    clear hw w2 HCE
    go_wp2_with (go_at_call 37; refine (CW.out _).mono ?_; rintro e w' ⟨rfl, hw⟩; rw [hw]; clear hw w')
    refine (awake6_c _).mono ?_
    rintro e w3 ⟨rfl, hb3⟩
    have HB3 : Hid (Below W.heap.size W w3) := HB1.out.trans (hb3.mono HB1.out.size)
    clear hb3
    go_wp2_with fail
    go_ret
    exact ⟨rfl, HB3.out⟩
  have CW : Hid (∀ w, Calls Try.prog 37 #[.int .i64 r] w fun e w' => e = .returned (.int .i64 (r + 1)) ∧ w' = w) := fun w => by
    obtain ⟨R, rfl⟩ : ∃ R : Nat, r = R := ⟨r.toNat, by omega⟩
    exact words_yes R (by omega) (by omega) w
  have q1 : (1 : Int) ≤ r := by omega
  have q2 : r ≤ 8 := by omega
  have q3 : ((r + 1 : Int) == 0) = false := by rw [beq_eq_false_iff_ne]; omega
  by_cases w1 : words < 1
  · clear hno
    go_enter Try.func8, Try.ntmps8
    go_wp2_with fail
    refine HN.out.mono ?_
    rintro e w1 ⟨rfl, hb1, CE⟩
    have HB1 := Lib.hid hb1
    have HCE := Lib.hid CE
    clear hb1 CE HN
    go_wp2_with fail
    refine HCE.out.mono ?_
    rintro e w2 ⟨rfl, hw⟩
    rw [hw]
    clear hw w2 HCE
    go_wp2_with (go_at_call 37; refine (CW.out _).mono ?_; rintro e w' ⟨rfl, hw⟩; rw [hw]; clear hw w')
    refine (awake6_c _).mono ?_
    rintro e w3 ⟨rfl, hb3⟩
    have HB3 : Hid (Below W.heap.size W w3) := HB1.out.trans (hb3.mono HB1.out.size)
    clear hb3
    go_wp2_with fail
    go_ret
    exact ⟨rfl, HB3.out⟩
  by_cases w8 : 8192 < words
  · clear hno
    go_enter Try.func8, Try.ntmps8
    go_wp2_with fail
    refine HN.out.mono ?_
    rintro e w1 ⟨rfl, hb1, CE⟩
    have HB1 := Lib.hid hb1
    have HCE := Lib.hid CE
    clear hb1 CE HN
    go_wp2_with fail
    refine HCE.out.mono ?_
    rintro e w2 ⟨rfl, hw⟩
    rw [hw]
    clear hw w2 HCE
    go_wp2_with (go_at_call 37; refine (CW.out _).mono ?_; rintro e w' ⟨rfl, hw⟩; rw [hw]; clear hw w')
    refine (awake6_c _).mono ?_
    rintro e w3 ⟨rfl, hb3⟩
    have HB3 : Hid (Below W.heap.size W w3) := HB1.out.trans (hb3.mono HB1.out.size)
    clear hb3
    go_wp2_with fail
    go_ret
    exact ⟨rfl, HB3.out⟩
  by_cases k0 : word < 0
  · clear hno
    go_enter Try.func8, Try.ntmps8
    go_wp2_with fail
    refine HN.out.mono ?_
    rintro e w1 ⟨rfl, hb1, CE⟩
    have HB1 := Lib.hid hb1
    have HCE := Lib.hid CE
    clear hb1 CE HN
    go_wp2_with fail
    refine HCE.out.mono ?_
    rintro e w2 ⟨rfl, hw⟩
    rw [hw]
    clear hw w2 HCE
    go_wp2_with (go_at_call 37; refine (CW.out _).mono ?_; rintro e w' ⟨rfl, hw⟩; rw [hw]; clear hw w')
    refine (awake6_c _).mono ?_
    rintro e w3 ⟨rfl, hb3⟩
    have HB3 : Hid (Below W.heap.size W w3) := HB1.out.trans (hb3.mono HB1.out.size)
    clear hb3
    go_wp2_with fail
    go_ret
    exact ⟨rfl, HB3.out⟩
  have k1 : words - r - 1 < word := by omega
  clear hno
  go_enter Try.func8, Try.ntmps8
  go_wp2_with fail
  refine HN.out.mono ?_
  rintro e w1 ⟨rfl, hb1, CE⟩
  have HB1 := Lib.hid hb1
  have HCE := Lib.hid CE
  clear hb1 CE HN
  go_wp2_with fail
  refine HCE.out.mono ?_
  rintro e w2 ⟨rfl, hw⟩
  rw [hw]
  clear hw w2 HCE
  go_wp2_with (go_at_call 37; refine (CW.out _).mono ?_; rintro e w' ⟨rfl, hw⟩; rw [hw]; clear hw w')
  refine (awake6_c _).mono ?_
  rintro e w3 ⟨rfl, hb3⟩
  have HB3 : Hid (Below W.heap.size W w3) := HB1.out.trans (hb3.mono HB1.out.size)
  clear hb3
  go_wp2_with fail
  go_ret
  exact ⟨rfl, HB3.out⟩
set_option maxHeartbeats 2000000 in
theorem makes_yes (N wd R : Nat) (W : World) (h1 : 1 ≤ R) (h8 : R ≤ 8) (hN : N ≤ 8192) (hfit : wd + R + 1 ≤ N) :
    Calls Try.prog 8 #[.int .i64 N, .int .i64 wd, .int .i64 R] W fun e w' => e = .returned (.bool true) ∧ Below W.heap.size W w' := by
  have HN := Lib.hid (mNew_yes N (by omega) hN W)
  have CE := Lib.hid (fun w1 (hm : MemAt w1 W.heap.size N 0 (fun _ => 0) (fun _ => 0)) => eNew_yes W.heap.size N 0 _ _ hm wd R h1 h8 hfit hN (by omega))
  have CW : Hid (∀ w, Calls Try.prog 37 #[.int .i64 R] w fun e w' => e = .returned (.int .i64 ((R : Int) + 1)) ∧ w' = w) := fun w => words_yes R h1 h8 w
  have q1 : (1 : Int) ≤ R := by omega
  have q2 : (R : Int) ≤ 8 := by omega
  have q3 : ((R + 1 : Int) == 0) = false := by rw [beq_eq_false_iff_ne]; omega
  have w1 : ¬ (N : Int) < 1 := by omega
  have w8 : ¬ (8192 : Int) < N := by omega
  have k0 : ¬ (wd : Int) < 0 := by omega
  have k1 : ¬ (N : Int) - R - 1 < wd := by omega
  have HH := Lib.hid hfit
  clear hfit h1 h8
  go_enter Try.func8, Try.ntmps8
  go_wp2_with fail
  refine HN.out.mono ?_
  rintro e v1 ⟨rfl, hb1, hm1⟩
  have C2 := Lib.hid (CE.out v1 hm1)
  have HB1 := Lib.hid hb1
  clear hb1 hm1 HN CE
  unfold pm at *
  go_wp2_with fail
  refine C2.out.mono ?_
  rintro e v2 ⟨p, s, rfl, hM, hw, hR, hn, hep, hfr, ho, hE, hPb⟩
  have hsz := HB1.out.size
  have HB2 : Hid (Below W.heap.size W v2) := HB1.out.trans ⟨ho.os, ho.tape, ho.output, ho.size, fun k hk => ho.block k (by omega) (by omega)⟩
  have CN := now_c hep
  rw [hfr.now] at CN
  have e00 : ((0 : Nat) : Int) = 0 := rfl
  rw [e00] at CN
  have HCN := Lib.hid CN
  have HCP := Lib.hid (pinned_no hep (R : Int) (by rw [hR]; omega))
  have HP1 := Lib.hid (fun w' (hb : Below v2.heap.size v2 w') => pin_no (hep.below hb) (-1) (by omega))
  have HP2 := Lib.hid (fun w' (hb : Below v2.heap.size v2 w') => pin_no (hep.below hb) (R : Int) (by rw [hR]; omega))
  have HP3 := Lib.hid (fun w' (hb : Below v2.heap.size v2 w') => unpin_no (hep.below hb) (R : Int) (by rw [hR]; omega))
  clear hM hw hR hn hep hfr ho hE hPb hsz CN C2 e00
  unfold pE at *
  go_wp2_with (first | (go_at_call 37; refine (CW.out _).mono ?_; rintro e w' ⟨rfl, hw⟩; rw [hw]; clear hw w') | (go_at_call 38; refine HCN.out.mono ?_; rintro e w' ⟨rfl, hw⟩; rw [hw]; clear hw w') | (go_at_call 39; refine HCP.out.mono ?_; rintro e w' ⟨rfl, hw⟩; rw [hw]; clear hw w'))
  refine (HP1.out v2 (Below.refl _ _)).mono ?_
  rintro e v3 ⟨rfl, hb3⟩
  have HB3 := Lib.hid hb3
  clear hb3
  go_wp2_with fail
  refine (HP2.out v3 HB3.out).mono ?_
  rintro e v4 ⟨rfl, hb4⟩
  have HB4 : Hid (Below v2.heap.size v2 v4) := HB3.out.trans (hb4.mono HB3.out.size)
  clear hb4
  go_wp2_with fail
  refine (HP3.out v4 HB4.out).mono ?_
  rintro e v5 ⟨rfl, hb5⟩
  have HB5 : Hid (Below W.heap.size W v5) := HB2.out.trans ((HB4.out.trans (hb5.mono HB4.out.size)).mono HB2.out.size)
  clear hb5
  go_wp2_with fail
  refine (awake6_c _).mono ?_
  rintro e v6 ⟨rfl, hb6⟩
  have HB6 : Hid (Below W.heap.size W v6) := HB5.out.trans (hb6.mono HB5.out.size)
  clear hb6
  go_wp2_with fail
  go_ret
  exact ⟨rfl, HB6.out⟩
theorem makes_walk (words word r : Int) (W : World) : Calls Try.prog 8 #[.int .i64 words, .int .i64 word, .int .i64 r] W fun e w' => e = .returned (.bool true) ∧ Below W.heap.size W w' := by
  by_cases h : (words < 1 ∨ 8192 < words) ∨ (r < 1 ∨ 8 < r) ∨ word < 0 ∨ words - (r + 1) < word
  · exact makes_no words word r W h
  · obtain ⟨N, rfl⟩ : ∃ N : Nat, words = N := ⟨words.toNat, by omega⟩
    obtain ⟨wd, rfl⟩ : ∃ N : Nat, word = N := ⟨word.toNat, by omega⟩
    obtain ⟨R, rfl⟩ : ∃ N : Nat, r = N := ⟨r.toNat, by omega⟩
    exact makes_yes N wd R W (by omega) (by omega) (by omega) (by omega)
end Go.Proofs.Ytpooieeeicffpaa

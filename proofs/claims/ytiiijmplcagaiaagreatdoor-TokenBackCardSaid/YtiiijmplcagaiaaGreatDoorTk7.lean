/-
  The program's reader: literals, quoted texts, strings: contracts.
-/
import Derived.Test.YtiiijmplcagaiaaGreatDoorTk6
set_option linter.unusedVariables false
set_option linter.unusedSimpArgs false
namespace Go.Proofs.YtiiijmplcagaiaaGreatDoor
open Go Go.RowKit
variable {W : World} {g : Nat} {s : RS}

theorem must_of (s : RS) (x : List UInt8) : (if wordB s x then wordS s x else .gone) = mustS s x := by
  unfold mustS wordS
  split <;> rfl
theorem numN_le (s : RS) : numN s ≤ 4294967295 := by
  unfold numN
  cases hn : numO s with
  | none => exact Nat.zero_le _
  | some v =>
    unfold numO numR at hn
    split at hn
    · cases hn
    · split at hn
      · split at hn
        · cases hn; assumption
        · cases hn
      · cases hn

set_option maxRecDepth 100000 in
set_option maxHeartbeats 1000000 in
theorem tkLiteral_c (h : PR W g s) (hok : s.Ok) (hl : s.l.length ≤ 100000) (hE : Errs W) (hg : Away g) : Calls Tryz.prog 21 #[pt g] W (Does W g (.string (txt (litV s))) (litS s)) := by
  have C1 := tkWord_c h hl [123] (by decide)
  have M1 : ∀ w, PR w g (wordS s [123]) → Calls Tryz.prog 26 #[pt g, .bool (wordB s [123])] w (Does w g (.tuple #[]) (mustS s [123])) := fun w hw => by
    have := tkmust_c hw (wordB s [123])
    rwa [must_of] at this
  have C2 : ∀ w, PR w g (mustS s [123]) → Errs w → Calls Tryz.prog 33 #[pt g] w (Does w g (.int .u32 (litN s)) (numS (mustS s [123]))) := fun w hw he =>
    tkNumber_c hw (hok.must _) (Nat.le_trans (must_le _ _) hl) he hg
  have hl2 : (numS (mustS s [123])).l.length ≤ 100000 := Nat.le_trans (num_le _) (Nat.le_trans (must_le _ _) hl)
  have C3 : ∀ w, PR w g (numS (mustS s [123])) → Calls Tryz.prog 27 #[pt g, .string (txt [125, 13, 10])] w (Does w g (.bool (wordB (numS (mustS s [123])) [125, 13, 10])) (wordS (numS (mustS s [123])) [125, 13, 10])) := fun w hw =>
    tkWord_c hw hl2 _ (by decide)
  have M3 : ∀ w, PR w g (wordS (numS (mustS s [123])) [125, 13, 10]) → Calls Tryz.prog 26 #[pt g, .bool (wordB (numS (mustS s [123])) [125, 13, 10])] w (Does w g (.tuple #[]) (litH s)) := fun w hw => by
    have := tkmust_c hw (wordB (numS (mustS s [123])) [125, 13, 10])
    rwa [must_of] at this
  have hn9 : litN s ≤ 4294967295 := numN_le _
  have hl3 := Nat.le_trans (litH_le s) hl
  unfold litV litS litB
  rw [show txt [123] = ⟨#[123]⟩ from rfl] at C1
  rw [show txt [125, 13, 10] = ⟨#[125, 13, 10]⟩ from rfl] at C3
  obtain ⟨v1, hv1⟩ : ∃ v, Value.bool (wordB s [123]) = v := ⟨_, rfl⟩
  obtain ⟨v3, hv3⟩ : ∃ v, Value.bool (wordB (numS (mustS s [123])) [125, 13, 10]) = v := ⟨_, rfl⟩
  obtain ⟨t3, ht3⟩ : ∃ t, wordS (numS (mustS s [123])) [125, 13, 10] = t := ⟨_, rfl⟩
  obtain ⟨s2, hs2⟩ : ∃ t, numS (mustS s [123]) = t := ⟨_, rfl⟩
  obtain ⟨s1, hs1⟩ : ∃ t, mustS s [123] = t := ⟨_, rfl⟩
  obtain ⟨t1, ht1⟩ : ∃ t, wordS s [123] = t := ⟨_, rfl⟩
  obtain ⟨n, hn⟩ : ∃ n, litN s = n := ⟨_, rfl⟩
  obtain ⟨⟨l, f⟩, hs3⟩ : ∃ t, litH s = t := ⟨_, rfl⟩
  rw [hv1, ht1] at C1
  rw [hv1, ht1, hs1] at M1
  rw [hs2, hs1, hn] at C2
  rw [hv3, ht3, hs2] at C3
  rw [hv3, ht3, hs3] at M3
  rw [hs3, hn]
  rw [hn] at hn9
  rw [hs3] at hl3
  dsimp only at hl3 ⊢
  have C1 := Lib.hid C1
  have M1 := Lib.hid M1
  have C2 := Lib.hid C2
  have C3 := Lib.hid C3
  have M3 := Lib.hid M3
  have HE := Lib.hid hE
  obtain ⟨rv, hrv⟩ : ∃ rv, (if (!f && (decide (n ≤ 65536) && decide (n ≤ l.length))) = true then l.take n else []) = rv := ⟨_, rfl⟩
  obtain ⟨rs, hrs⟩ : ∃ rs, (if (!f && (decide (n ≤ 65536) && decide (n ≤ l.length))) = true then (⟨l.drop n, false⟩ : RS) else .gone) = rs := ⟨_, rfl⟩
  rw [hrv, hrs]
  have e1 := txt_size l
  obtain ⟨N, hN⟩ : ∃ N, l.length = N := ⟨_, rfl⟩
  rw [hN] at hrv hrs e1 hl3
  have hex : (txt l).extract 0 n = txt (l.take n) := ext_take l
  have hed : (txt l).extract n N = txt (l.drop n) := ext_drop l hN.symm
  obtain ⟨B, hB⟩ : ∃ B, txt l = B := ⟨_, rfl⟩
  rw [hB] at e1 hex hed
  have HB := Lib.hid hB
  have HEX := Lib.hid hex
  have HED := Lib.hid hed
  have HRV := Lib.hid hrv
  have HRS := Lib.hid hrs
  clear h hE hv1 hv3 ht3 hs2 hs1 ht1 hn hs3 hrv hrs hN hB hex hed
  go_enter Tryz.func21, Tryz.ntmps21
  go_wp2_with fail
  refine C1.out.mono ?_
  rintro e w1 ⟨rfl, h1, k1⟩
  have D1 := Lib.hid (M1.out _ h1)
  have K1 := Lib.hid k1
  clear h1 k1
  go_wp2_with fail
  refine D1.out.mono ?_
  rintro e w2 ⟨rfl, h2, k2⟩
  have K2 := Lib.hid (K1.out.trans k2)
  have D2 := Lib.hid (C2.out _ h2 (HE.out.tk K2.out hg))
  clear h2 k2
  go_wp2_with fail
  refine D2.out.mono ?_
  rintro e w3 ⟨rfl, h3, k3⟩
  have K3 := Lib.hid (K2.out.trans k3)
  have D3 := Lib.hid (C3.out _ h3)
  clear h3 k3
  go_wp2_with fail
  refine D3.out.mono ?_
  rintro e w4 ⟨rfl, h4, k4⟩
  have K4 := Lib.hid (K3.out.trans k4)
  have D4 := Lib.hid (M3.out _ h4)
  clear h4 k4
  go_wp2_with fail
  refine D4.out.mono ?_
  rintro e w5 ⟨rfl, h5, k5⟩
  have K5 := Lib.hid (K4.out.trans k5)
  obtain ⟨c0, c1, hb, f0, f1⟩ := h5.facts
  dsimp only at c0 c1
  rw [HB.out] at c0
  have H5 := Lib.hid h5
  have CF := Lib.hid (tkFail_c h5)
  clear h5 k5 C1 M1 C2 C3 M3 D1 D2 D3 D4 K1 K2 K3 K4
  cases f with
  | true =>
    have HQ : Hid ([] = rv ∧ RS.gone = rs) := ⟨by rw [← HRV.out]; rfl, by rw [← HRS.out]; rfl⟩
    go_wp2_with fail
    refine CF.out.mono ?_
    rintro e w6 ⟨rfl, h6, k6⟩
    have H6 := Lib.hid h6
    have K6 := Lib.hid (K5.out.trans k6)
    clear h6 k6
    go_wp2_with fail
    go_ret
    exact ⟨by rw [← HQ.out.1]; rfl, HQ.out.2 ▸ H6.out, K6.out⟩
  | false =>
    by_cases h1 : n ≤ 65536
    · have q1 : ¬ (65536 : Int) < n := by omega
      by_cases h2 : n ≤ N
      · have q2 : ¬ (N : Int) < n := by omega
        have q3 : (n : Int) ≤ N := by omega
        have HQ : Hid (l.take n = rv ∧ (⟨l.drop n, false⟩ : RS) = rs) := ⟨by rw [← HRV.out]; simp [h1, h2], by rw [← HRS.out]; simp [h1, h2]⟩
        go_wp2_with fail
        go_ret
        refine ⟨by rw [← HQ.out.1, ← HEX.out]; rfl, ?_, K5.out.trans (Tk.set _ _ _)⟩
        rw [← HQ.out.2]
        have h7 := H5.out.set0 (l.drop n)
        rw [← HED.out] at h7
        exact h7
      · have q2 : (N : Int) < n := by omega
        have HQ : Hid ([] = rv ∧ RS.gone = rs) := ⟨by rw [← HRV.out]; simp [h2], by rw [← HRS.out]; simp [h2]⟩
        go_wp2_with fail
        refine CF.out.mono ?_
        rintro e w6 ⟨rfl, h6, k6⟩
        have H6 := Lib.hid h6
        have K6 := Lib.hid (K5.out.trans k6)
        clear h6 k6
        go_wp2_with fail
        go_ret
        exact ⟨by rw [← HQ.out.1]; rfl, HQ.out.2 ▸ H6.out, K6.out⟩
    · have q1 : (65536 : Int) < n := by omega
      have HQ : Hid ([] = rv ∧ RS.gone = rs) := ⟨by rw [← HRV.out]; simp [h1], by rw [← HRS.out]; simp [h1]⟩
      go_wp2_with fail
      refine CF.out.mono ?_
      rintro e w6 ⟨rfl, h6, k6⟩
      have H6 := Lib.hid h6
      have K6 := Lib.hid (K5.out.trans k6)
      clear h6 k6
      go_wp2_with fail
      go_ret
      exact ⟨by rw [← HQ.out.1]; rfl, HQ.out.2 ▸ H6.out, K6.out⟩
end Go.Proofs.YtiiijmplcagaiaaGreatDoor

/-
  The document's reader: literals, strings: contracts.
-/
import Derived.Test.YtidhnhjhdmfpiaaDoorTkD
set_option linter.unusedVariables false
set_option linter.unusedSimpArgs false
namespace Go.Proofs.YtidhnhjhdmfpiaaDoor
open Go Go.RowKit
variable {W : World} {g : Nat} {s : RS} {S : List UInt8}

theorem DRS.gone_of (h : DRS W g S s) (hf : s.f = true) : s = .gone := by
  obtain ⟨a, f, _, _, rfl⟩ := h
  cases f with
  | true => rfl
  | false => cases hf
theorem litH_ok (s : RS) : (litH s).f = true → litV s = [] ∧ litS s = .gone := fun h => by
  have hb : litB s = false := by unfold litB; rw [h]; rfl
  unfold litV litS; rw [hb]; exact ⟨rfl, rfl⟩

set_option maxRecDepth 100000 in
set_option maxHeartbeats 2000000 in
theorem rtLiteral_c (h : DRS W g S s) (hl : S.length ≤ 100000) : Calls Tryd.prog 22 #[pt g] W (DoesD W g S (.string (txt (litV s))) (litS s)) := by
  have M1 := rtMust_c h hl [123] (by decide)
  have C2 : ∀ w, DRS w g S (mustS s [123]) → Calls Tryd.prog 20 #[pt g] w (DoesD w g S (.int .u32 (litN s)) (numS (mustS s [123]))) := fun w hw => rtNumber_c hw hl
  have M3 : ∀ w, DRS w g S (numS (mustS s [123])) → Calls Tryd.prog 24 #[pt g, .string (txt [125, 13, 10])] w (DoesD w g S (.tuple #[]) (litH s)) := fun w hw => rtMust_c hw hl _ (by decide)
  have hn9 : litN s ≤ 4294967295 := numN_le _
  have hgone := litH_ok s
  have hbad : (litH s).f = false → ¬ (litN s ≤ 65536 ∧ litN s ≤ (litH s).l.length) → litV s = [] ∧ litS s = .gone := fun hf hn => by
    have hb : litB s = false := by
      unfold litB; rw [hf]
      by_cases h1 : litN s ≤ 65536
      · have h2 : ¬ litN s ≤ (litH s).l.length := fun h => hn ⟨h1, h⟩
        simp [h1, h2]
      · simp [h1]
    unfold litV litS; rw [hb]; exact ⟨rfl, rfl⟩
  have hgood : (litH s).f = false → litN s ≤ 65536 → litN s ≤ (litH s).l.length → litV s = (litH s).l.take (litN s) ∧ litS s = ⟨(litH s).l.drop (litN s), false⟩ := fun hf h1 h2 => by
    have hb : litB s = true := by unfold litB; rw [hf]; simp [h1, h2]
    unfold litV litS; rw [hb]; exact ⟨rfl, rfl⟩
  rw [show txt [123] = ⟨#[123]⟩ from rfl] at M1
  rw [show txt [125, 13, 10] = ⟨#[125, 13, 10]⟩ from rfl] at M3
  obtain ⟨s2, hs2⟩ : ∃ t, numS (mustS s [123]) = t := ⟨_, rfl⟩
  obtain ⟨s1, hs1⟩ : ∃ t, mustS s [123] = t := ⟨_, rfl⟩
  obtain ⟨n, hn⟩ : ∃ n, litN s = n := ⟨_, rfl⟩
  obtain ⟨s3, hs3⟩ : ∃ t, litH s = t := ⟨_, rfl⟩
  obtain ⟨rv, hrv⟩ : ∃ rv, litV s = rv := ⟨_, rfl⟩
  obtain ⟨rs, hrs⟩ : ∃ rs, litS s = rs := ⟨_, rfl⟩
  rw [hs1] at M1
  rw [hs2, hs1, hn] at C2
  rw [hs2, hs3] at M3
  rw [hs3, hrv, hrs] at hgone
  rw [hs3, hrv, hrs, hn] at hbad hgood
  rw [hrv, hrs]
  rw [hn] at hn9
  have M1 := Lib.hid M1
  have C2 := Lib.hid C2
  have M3 := Lib.hid M3
  have HG := Lib.hid hgone
  have HBAD := Lib.hid hbad
  have HGOOD := Lib.hid hgood
  clear h hs2 hs1 hn hs3 hrv hrs hgone hbad hgood
  go_enter Tryd.func22, Tryd.ntmps22
  go_wp2_with fail
  refine M1.out.mono ?_
  rintro e w1 ⟨rfl, h1, k1⟩
  have D1 := Lib.hid (C2.out _ h1)
  have K1 := Lib.hid k1
  clear h1 k1
  go_wp2_with fail
  refine D1.out.mono ?_
  rintro e w2 ⟨rfl, h2, k2⟩
  have K2 := Lib.hid (K1.out.trans k2)
  have D2 := Lib.hid (M3.out _ h2)
  clear h2 k2
  go_wp2_with fail
  refine D2.out.mono ?_
  rintro e w3 ⟨rfl, h3, k3⟩
  have K3 := Lib.hid (K2.out.trans k3)
  have H3 := Lib.hid h3
  have CF := Lib.hid (rtFail_c h3)
  have CR := rtRest_c h3
  have e1 := txt_size s3.l
  obtain ⟨N, hN⟩ : ∃ N, s3.l.length = N := ⟨_, rfl⟩
  have hle := h3.le
  rw [hN] at e1 hle
  obtain ⟨Bs, hBs⟩ : ∃ B, txt s3.l = B := ⟨_, rfl⟩
  rw [hBs] at CR e1
  have CR := Lib.hid CR
  have HN := Lib.hid hN
  clear h3 k3 hN hBs M1 C2 M3 D1 D2 K1 K2
  have hrest : s3.f = true ∨ s3.f = false := by cases s3.f <;> simp
  by_cases q1 : 65536 < n
  · have u1 : (65536 : Int) < n := by omega
    have HQ : Hid ([] = rv ∧ RS.gone = rs) := by
      rcases hrest with hf | hf
      · exact ⟨(HG.out hf).1.symm, (HG.out hf).2.symm⟩
      · have := HBAD.out hf (by omega); exact ⟨this.1.symm, this.2.symm⟩
    clear hrest
    go_wp2_with fail
    refine CF.out.mono ?_
    rintro e w4 ⟨rfl, h4, k4⟩
    have K4 := Lib.hid (K3.out.trans k4)
    have H4 := Lib.hid h4
    obtain ⟨a, f, hD, ha, hds⟩ := h4
    obtain rfl : f = true := by
      cases f with
      | true => rfl
      | false => have := congrArg RS.f hds; cases this
    obtain ⟨c0, c1, c2, hb, f1, f2⟩ := hD.facts
    clear hD hds k4 c0 c1 f1
    go_wp2_with fail
    go_ret
    exact ⟨by rw [← HQ.out.1]; rfl, HQ.out.2 ▸ H4.out, K4.out⟩
  · have u1 : ¬ (65536 : Int) < n := by omega
    by_cases q2 : N < n
    · have u2 : (N : Int) < n := by omega
      have HQ : Hid ([] = rv ∧ RS.gone = rs) := by
        rcases hrest with hf | hf
        · exact ⟨(HG.out hf).1.symm, (HG.out hf).2.symm⟩
        · have := HBAD.out hf (by rw [HN.out]; omega); exact ⟨this.1.symm, this.2.symm⟩
      clear hrest
      go_wp2_with fail
      refine CR.out.mono ?_
      rintro e w4 ⟨rfl, m, hm⟩
      have h4 : DRS w4 g S s3 := by rw [hm]; exact H3.out
      have CF4 := Lib.hid (rtFail_c h4)
      have K4 : Hid (Tk g W w4) := by rw [hm]; exact K3.out.drewN _
      clear h4 hm
      go_wp2_with fail
      refine CF4.out.mono ?_
      rintro e w5 ⟨rfl, h5, k5⟩
      have K5 := Lib.hid (K4.out.trans k5)
      have H5 := Lib.hid h5
      obtain ⟨a, f, hD, ha, hds⟩ := h5
      obtain rfl : f = true := by
        cases f with
        | true => rfl
        | false => have := congrArg RS.f hds; cases this
      obtain ⟨c0, c1, c2, hb, f1, f2⟩ := hD.facts
      clear hD hds k5 c0 c1 f1
      go_wp2_with fail
      go_ret
      exact ⟨by rw [← HQ.out.1]; rfl, HQ.out.2 ▸ H5.out, K5.out⟩
    · have u2 : ¬ (N : Int) < n := by omega
      rcases hrest with hf | hf
      · have HQ : Hid ([] = rv ∧ RS.gone = rs) := ⟨(HG.out hf).1.symm, (HG.out hf).2.symm⟩
        have h9 := H3.out.gone_of hf
        have HS9 := Lib.hid h9
        clear hf h9
        go_wp2_with fail
        refine CR.out.mono ?_
        rintro e w4 ⟨rfl, m, hm⟩
        have h4 : DRS w4 g S .gone := by rw [hm, ← HS9.out]; exact H3.out
        have K4 : Hid (Tk g W w4) := by rw [hm]; exact K3.out.drewN _
        have H4 := Lib.hid h4
        obtain ⟨a, f, hD, ha, hds⟩ := h4
        obtain rfl : f = true := by
          cases f with
          | true => rfl
          | false => have := congrArg RS.f hds; cases this
        obtain ⟨c0, c1, c2, hb, f1, f2⟩ := hD.facts
        clear hD hds hm c0 c1 f1
        go_wp2_with fail
        go_ret
        exact ⟨by rw [← HQ.out.1]; rfl, HQ.out.2 ▸ H4.out, K4.out⟩
      · obtain ⟨a, hD, ha, hla⟩ := H3.out.at hf
        have hgo := HGOOD.out hf (by omega) (by rw [HN.out]; omega)
        have haN : a + N = S.length := by rw [← HN.out, hla, List.length_drop]; omega
        have haK : a + n ≤ S.length := by omega
        have hv : txt rv = (txt S).extract a (a + n) := by
          rw [ext_mid, List.drop_take, Nat.add_sub_cancel_left, ← hla, hgo.1]
        have hs : rs = dS S (a + n) false := by rw [dS_drop, ← hla, hgo.2]
        have e3 := txt_size S
        obtain ⟨M, hM⟩ : ∃ M, S.length = M := ⟨_, rfl⟩
        obtain ⟨B, hB⟩ : ∃ B, txt S = B := ⟨_, rfl⟩
        rw [hM] at e3 haK hl
        rw [hB] at e3 hv
        have HV := Lib.hid hv
        have HS := Lib.hid hs
        have HB := Lib.hid hB
        have HM := Lib.hid hM
        have HD := Lib.hid hD
        clear hf hD ha hla hgo haN hv hs hB hM
        go_wp2_with fail
        refine CR.out.mono ?_
        rintro e w4 ⟨rfl, m, hm⟩
        have h4 : DR w4 g S a false := by rw [hm]; exact HD.out
        have K4 : Hid (Tk g W w4) := by rw [hm]; exact K3.out.drewN _
        obtain ⟨c0, c1, c2, hb, f1, f2⟩ := h4.facts
        rw [HB.out] at c0
        have H4 := Lib.hid h4
        clear h4 hm
        go_wp2_with fail
        obtain ⟨w5, hw5⟩ : ∃ w5, w4.setCell ⟨g, 1, none⟩ (.int .i64 ((a : Int) + n)) = w5 := ⟨_, rfl⟩
        have h5 : DR w5 g S (a + n) false := by rw [← hw5]; exact H4.out.set1 _ _ (by omega)
        have K5 : Hid (Tk g W w5) := by rw [← hw5]; exact K4.out.trans (Tk.set _ _ _)
        obtain ⟨d0, d1, d2, hd, g1, g2⟩ := h5.facts
        rw [HB.out] at d0
        have H5 := Lib.hid h5
        rw [hw5]
        rw [show ((a + n : Nat) : Int) = (a : Int) + n by omega] at d1
        have q1 : (a : Int) + n ≤ M := by omega
        have kw : IntKind.i64.wrap (a : Int) = a := IntWalk.i64_in _ (by omega)
        have q4 : (a : Int) ≤ (a : Int) + n := by omega
        have q5 : (0 : Int) ≤ (a : Int) := by omega
        clear h5 hw5 c0 c1 c2 hb f1 f2 H4 K4
        go_quiet (fail)
        go_wp2_with fail
        go_ret
        refine ⟨?_, HS.out ▸ ⟨a + n, false, H5.out, by have := HM.out; omega, rfl⟩, K5.out.drewN _⟩
        rw [HV.out]; rfl
end Go.Proofs.YtidhnhjhdmfpiaaDoor

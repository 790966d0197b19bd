/-
  The document's reader: numbers, words, literals: contracts.
-/
import Derived.Test.YtidhnhjhdmfpiaaDoorTkC
set_option linter.unusedVariables false
set_option linter.unusedSimpArgs false
namespace Go.Proofs.YtidhnhjhdmfpiaaDoor
open Go Go.RowKit
variable {W : World} {g : Nat} {s : RS} {S : List UInt8}

set_option maxRecDepth 100000 in
set_option maxHeartbeats 1000000 in
theorem rtNumber_c (h : DRS W g S s) (hl : S.length ≤ 100000) : Calls Tryd.prog 20 #[pt g] W (DoesD W g S (.int .u32 (numN s)) (numS s)) := by
  have CR := Lib.hid (rtRest_c h)
  have hle := h.le
  have CW := Lib.hid (fun w => rtrow1_c s.l (by omega) w)
  have hex : (txt s.l).extract 0 (s.l.takeWhile digB).length = txt (s.l.takeWhile digB) := by rw [ext_take, (tw_take s.l).1]
  have hKN := tw_le (p := digB) s.l
  have CN := fun w => rnumber_c (txt (s.l.takeWhile digB)) (by rw [txt_size]; omega) 4294967295 (Nat.le_refl _) w
  rw [data_txt, ← hex] at CN
  obtain ⟨K, hK⟩ : ∃ K, (s.l.takeWhile digB).length = K := ⟨_, rfl⟩
  rw [hK] at CW CN hKN
  have CN := Lib.hid CN
  have H := Lib.hid h
  have e2 := txt_size s.l
  obtain ⟨M, hM⟩ : ∃ M, s.l.length = M := ⟨_, rfl⟩
  rw [hM] at e2 hKN hle
  obtain ⟨Bs, hBs⟩ : ∃ B, txt s.l = B := ⟨_, rfl⟩
  rw [hBs] at CR CW CN e2
  have qK : (K : Int) ≤ M := by omega
  have hnum : ∀ v, numR (s.l.takeWhile digB) 4294967295 = some v → ∃ a, DR W g S a false ∧ a + K ≤ S.length ∧ numN s = v ∧ numS s = dS S (a + K) false := fun v hv => by
    have hf : s.f = false := by
      cases hf : s.f with
      | false => rfl
      | true => rw [h.ok hf] at hv; cases hv
    obtain ⟨a, hD, ha, hla⟩ := h.at hf
    have h0 : numO s = some v := hv
    refine ⟨a, hD, ?_, ?_, ?_⟩
    · have h1 := tw_le (p := digB) s.l
      rw [hK, hla, List.length_drop] at h1
      omega
    · unfold numN; rw [h0]; rfl
    · unfold numS; rw [h0, dS_drop, ← hla, ← hK, (tw_take s.l).2, hf]; rfl
  have hnone : numR (s.l.takeWhile digB) 4294967295 = none → numN s = 0 ∧ numS s = .gone := fun hv => by
    have h0 : numO s = none := hv
    unfold numN numS; rw [h0]; exact ⟨rfl, rfl⟩
  obtain ⟨n, hn⟩ : ∃ n, numN s = n := ⟨_, rfl⟩
  obtain ⟨t, ht⟩ : ∃ t, numS s = t := ⟨_, rfl⟩
  rw [hn, ht] at hnum hnone ⊢
  have HNU := Lib.hid hnum
  have HNO := Lib.hid hnone
  clear h hex hK hM hBs hnum hnone hn ht
  go_enter Tryd.func20, Tryd.ntmps20
  go_wp2_with fail
  refine CR.out.mono ?_
  rintro e w1 ⟨rfl, m, hm⟩
  have h1 : DRS w1 g S s := by rw [hm]; exact H.out
  have hd : ∀ a, DR W g S a false → DR w1 g S a false := fun a h => by rw [hm]; exact h
  have K1 : Hid (Tk g W w1) := by rw [hm]; exact Tk.drew _ _
  have CF := Lib.hid (rtFail_c h1)
  have HD1 := Lib.hid hd
  clear h1 hm hd
  go_wp2_with fail
  refine (CW.out _).mono ?_
  rintro e w' ⟨rfl, rfl⟩
  go_wp2_with fail
  refine (CN.out _).mono ?_
  rintro e w2 ⟨hr, rfl⟩
  rcases hr with ⟨v, hv, hv9, rfl⟩ | ⟨hv, x, hx, rfl⟩
  · obtain ⟨a, hD, ha, rfl, rfl⟩ := HNU.out v hv
    have h1 := HD1.out a hD
    obtain ⟨c0, c1, c2, hb, f1, f2⟩ := h1.facts
    have HH : Hid (DRS (w'.setCell ⟨g, 1, none⟩ (.int .i64 ((a : Int) + K))) g S (dS S (a + K) false)) := ⟨a + K, false, h1.set1 _ _ (by omega), ha, rfl⟩
    have hm : (n : Int) % 4294967296 = n := by omega
    have q9 : (a : Int) + K ≤ 100000 := by omega
    clear h1 hD hv c0 c2 f2
    go_wp2_with fail
    go_ret
    exact ⟨by simp [hm], HH.out, K1.out.trans (Tk.set _ _ _)⟩
  · obtain ⟨rfl, rfl⟩ := HNO.out hv
    clear hv
    go_wp2_with fail
    refine CF.out.mono ?_
    rintro e w3 ⟨rfl, h2, k2⟩
    have H2 := Lib.hid h2
    have K2 := Lib.hid (K1.out.trans k2)
    clear h2 k2
    go_wp2_with fail
    go_ret
    exact ⟨rfl, H2.out, K2.out⟩

set_option maxRecDepth 100000 in
set_option maxHeartbeats 1000000 in
theorem rtWord_c (h : DRS W g S s) (hl : S.length ≤ 100000) (x : List UInt8) (hx : x.length ≤ 100000) : Calls Tryd.prog 25 #[pt g, .string (txt x)] W (DoesD W g S (.bool (wordB s x)) (wordS s x)) := by
  have CR := Lib.hid (rtRest_c h)
  have hle := h.le
  have H := Lib.hid h
  have e2 := txt_size x
  obtain ⟨X, hX⟩ : ∃ X, txt x = X := ⟨_, rfl⟩
  obtain ⟨M, hM⟩ : ∃ M, x.length = M := ⟨_, rfl⟩
  cases hf : s.f with
  | true =>
    have hw : wordB s x = false := by unfold wordB; rw [hf]; rfl
    have hD : ∃ a, DR W g S a true := by
      obtain ⟨a, f, h1, h2, rfl⟩ := h
      cases f with
      | true => exact ⟨a, h1⟩
      | false => cases hf
    obtain ⟨a, hD⟩ := hD
    unfold wordS
    rw [hw, hX]
    rw [hX, hM] at e2
    obtain ⟨Bs, hBs⟩ : ∃ B, txt s.l = B := ⟨_, rfl⟩
    rw [hBs] at CR
    have HD := Lib.hid hD
    clear h hw hf hX hM hBs hD
    go_enter Tryd.func25, Tryd.ntmps25
    go_wp2_with fail
    refine CR.out.mono ?_
    rintro e w1 ⟨rfl, m, hm⟩
    have h1 : DRS w1 g S s := by rw [hm]; exact H.out
    have hd : DR w1 g S a true := by rw [hm]; exact HD.out
    obtain ⟨c0, c1, c2, hb, f1, f2⟩ := hd.facts
    have K1 : Hid (Tk g W w1) := by rw [hm]; exact Tk.drew _ _
    have H1 := Lib.hid h1
    clear h1 hm hd c0 c1 f1
    go_wp2_with fail
    go_ret
    exact ⟨rfl, H1.out, K1.out⟩
  | false =>
    obtain ⟨a, hD, ha, hla⟩ := h.at hf
    have e1 := txt_size s.l
    obtain ⟨N, hN⟩ : ∃ N, s.l.length = N := ⟨_, rfl⟩
    have haN : a + N = S.length := by rw [← hN, hla, List.length_drop]; omega
    by_cases hlt : N < M
    · have hw : wordB s x = false := by unfold wordB; rw [hN, hM, hf]; simp; omega
      unfold wordS
      rw [hw, hX]
      rw [hX, hM] at e2
      obtain ⟨Bs, hBs⟩ : ∃ B, txt s.l = B := ⟨_, rfl⟩
      rw [hBs] at CR e1
      rw [hN] at e1
      have q1 : (N : Int) < M := by omega
      have HD := Lib.hid hD
      clear h hw hf hX hM hBs hD hla
      go_enter Tryd.func25, Tryd.ntmps25
      go_wp2_with fail
      refine CR.out.mono ?_
      rintro e w1 ⟨rfl, m, hm⟩
      have h1 : DRS w1 g S s := by rw [hm]; exact H.out
      have hd : DR w1 g S a false := by rw [hm]; exact HD.out
      obtain ⟨c0, c1, c2, hb, f1, f2⟩ := hd.facts
      have K1 : Hid (Tk g W w1) := by rw [hm]; exact Tk.drew _ _
      have H1 := Lib.hid h1
      clear h1 hm hd c0 c1 f1
      go_wp2_with fail
      go_ret
      exact ⟨rfl, H1.out, K1.out⟩
    · have q1 : ¬ (N : Int) < M := by omega
      have q2 : (M : Int) ≤ N := by omega
      have hex : (txt s.l).extract 0 M = txt (s.l.take M) := ext_take s.l
      have C1 := fun w => rtUpper_c (s.l.take M) (by rw [List.length_take]; omega) w
      have C2 := fun w => rtUpper_c x hx w
      rw [← hex] at C1
      obtain ⟨Bs, hBs⟩ : ∃ B, txt s.l = B := ⟨_, rfl⟩
      rw [hBs] at CR e1 C1
      rw [hX] at e2 C2 ⊢
      rw [hN] at e1
      rw [hM] at e2
      have C1 := Lib.hid C1
      have C2 := Lib.hid C2
      have HD := Lib.hid hD
      by_cases hup : (s.l.take M).map upB = x.map upB
      · have hw : wordB s x = true := by unfold wordB; rw [hN, hM, hup, hf]; simp; omega
        have hS : wordS s x = dS S (a + M) false := by unfold wordS; rw [hw, hM, dS_drop, ← hla]; rfl
        rw [hw, hS]
        rw [hup] at C1
        obtain ⟨Y, hY⟩ : ∃ Y, txt (x.map upB) = Y := ⟨_, rfl⟩
        rw [hY] at C1 C2
        have HA : Hid (a + M ≤ S.length) := by show _ ≤ _; omega
        have q9 : (a : Int) + M ≤ 100000 := by omega
        clear h hw hf hX hM hN hBs hD hla hup hY hex hS
        go_enter Tryd.func25, Tryd.ntmps25
        go_wp2_with fail
        refine CR.out.mono ?_
        rintro e w1 ⟨rfl, m, hm⟩
        have hd : DR w1 g S a false := by rw [hm]; exact HD.out
        obtain ⟨c0, c1, c2, hb, f1, f2⟩ := hd.facts
        have K1 : Hid (Tk g W w1) := by rw [hm]; exact Tk.drew _ _
        have HD1 := Lib.hid hd
        clear hm hd c0 c1 f1
        go_wp2_with fail
        refine (C1.out _).mono ?_
        rintro e w2 ⟨rfl, b2⟩
        have B2 := Lib.hid b2
        clear b2
        go_wp2_with fail
        refine (C2.out _).mono ?_
        rintro e w3 ⟨rfl, b3⟩
        have hb3 := B2.out.trans (b3.mono B2.out.size)
        have h3 : DR w3 g S a false := Cells.later HD1.out (hb3.block g (Cells.lt HD1.out))
        obtain ⟨d0, d1, d2, hd, g1, g2⟩ := h3.facts
        have K3 : Hid (Tk g W w3) := K1.out.trans (Tk.of_below hb3)
        have HH : Hid (DRS (w3.setCell ⟨g, 1, none⟩ (.int .i64 ((a : Int) + M))) g S (dS S (a + M) false)) := ⟨a + M, false, h3.set1 _ _ (by omega), HA.out, rfl⟩
        clear b3 hb3 h3 d0 d2 g2 c2 hb f2
        go_wp2_with fail
        go_ret
        exact ⟨rfl, HH.out, K3.out.trans (Tk.set _ _ _)⟩
      · have hne : ((s.l.take M).map upB == x.map upB) = false := by rw [beq_eq_false_iff_ne]; exact hup
        have hw : wordB s x = false := by unfold wordB; rw [hM, hne]; simp
        have hS : wordS s x = s := by unfold wordS; rw [hw]; rfl
        rw [hw, hS]
        have u0 := bne_txt hup
        obtain ⟨Y, hY⟩ : ∃ Y, txt (x.map upB) = Y := ⟨_, rfl⟩
        obtain ⟨Z, hZ⟩ : ∃ Z, txt ((s.l.take M).map upB) = Z := ⟨_, rfl⟩
        rw [hY] at C2 u0
        rw [hZ] at C1 u0
        clear h hw hf hX hM hN hBs hD hla hup hY hex hS hZ hne
        go_enter Tryd.func25, Tryd.ntmps25
        go_wp2_with fail
        refine CR.out.mono ?_
        rintro e w1 ⟨rfl, m, hm⟩
        have h1 : DRS w1 g S s := by rw [hm]; exact H.out
        have hd : DR w1 g S a false := by rw [hm]; exact HD.out
        obtain ⟨c0, c1, c2, hb, f1, f2⟩ := hd.facts
        have K1 : Hid (Tk g W w1) := by rw [hm]; exact Tk.drew _ _
        have H1 := Lib.hid h1
        clear h1 hm hd c0 c1 f1
        go_wp2_with fail
        refine (C1.out _).mono ?_
        rintro e w2 ⟨rfl, b2⟩
        have B2 := Lib.hid b2
        clear b2
        go_wp2_with fail
        refine (C2.out _).mono ?_
        rintro e w3 ⟨rfl, b3⟩
        have hb3 := B2.out.trans (b3.mono B2.out.size)
        have HB3 := Lib.hid hb3
        clear b3 hb3
        go_wp2_with fail
        go_ret
        exact ⟨rfl, H1.out.tk (Tk.of_below (g := g + 1) HB3.out) (by omega), K1.out.trans (Tk.of_below HB3.out)⟩

set_option maxRecDepth 100000 in
theorem rtMust_c (h : DRS W g S s) (hl : S.length ≤ 100000) (x : List UInt8) (hx : x.length ≤ 100000) : Calls Tryd.prog 24 #[pt g, .string (txt x)] W (DoesD W g S (.tuple #[]) (mustS s x)) := by
  have C := rtWord_c h hl x hx
  have hm := must_of s x
  obtain ⟨X, hX⟩ : ∃ X, txt x = X := ⟨_, rfl⟩
  obtain ⟨b, hb⟩ : ∃ b, wordB s x = b := ⟨_, rfl⟩
  obtain ⟨t, ht⟩ : ∃ t, wordS s x = t := ⟨_, rfl⟩
  rw [hX, hb, ht] at C
  rw [hb, ht] at hm
  rw [hX, ← hm]
  have C := Lib.hid C
  clear h hm hX hb ht
  cases b with
  | true =>
    go_enter Tryd.func24, Tryd.ntmps24
    go_wp2_with fail
    refine C.out.mono ?_
    rintro e w1 ⟨rfl, h1, k1⟩
    have H1 := Lib.hid h1
    have K1 := Lib.hid k1
    clear h1 k1
    go_wp2_with fail
    go_end0
    exact ⟨rfl, H1.out, K1.out⟩
  | false =>
    go_enter Tryd.func24, Tryd.ntmps24
    go_wp2_with fail
    refine C.out.mono ?_
    rintro e w1 ⟨rfl, h1, k1⟩
    have CF := Lib.hid (rtFail_c h1)
    have K1 := Lib.hid k1
    clear h1 k1
    go_wp2_with fail
    refine CF.out.mono ?_
    rintro e w2 ⟨rfl, h2, k2⟩
    have H2 := Lib.hid h2
    have K2 := Lib.hid (K1.out.trans k2)
    clear h2 k2
    go_wp2_with fail
    go_end0
    exact ⟨rfl, H2.out, K2.out⟩

set_option maxRecDepth 20000 in
theorem rtNext_c (h : DRS W g S s) (n : Nat) (c : UInt8) (hn : n = c.toNat) : Calls Tryd.prog 26 #[pt g, .int .u8 n] W fun e w' => e = .returned (.bool (nextB s c)) ∧ ∃ m, w' = W.drewN m := by
  have CR := rtRest_c h
  unfold nextB
  cases hl : s.l with
  | nil =>
    rw [hl] at CR
    have e0 : (txt []).toList.isEmpty = true := isEmpty_txt' []
    obtain ⟨B, hB⟩ : ∃ B, txt [] = B := ⟨_, rfl⟩
    rw [hB] at CR e0
    have CR := Lib.hid CR
    clear h
    go_enter Tryd.func26, Tryd.ntmps26
    go_wp2_with fail
    refine CR.out.mono ?_
    rintro e w1 ⟨rfl, m, rfl⟩
    go_wp2_with fail
    go_ret
    exact ⟨by simp [e0], m, rfl⟩
  | cons x r =>
    rw [hl] at CR
    have e0 : (txt (x :: r)).toList.isEmpty = false := isEmpty_txt' (x :: r)
    have e1 : (txt (x :: r)).size = r.length + 1 := txt_size (x :: r)
    have e2 : (txt (x :: r))[0]'(by omega) = x := at_txt (l := x :: r) (k := 0) (by simp)
    obtain ⟨B, hB⟩ : ∃ B, txt (x :: r) = B := ⟨_, rfl⟩
    rw [hB] at CR
    simp only [hB] at e0 e1 e2
    have CR := Lib.hid CR
    have hsz : 0 < B.size := by omega
    have hq1 : (0 : Int) < B.size := by omega
    have hc1 : B[0].toNat < 256 := B[0].toNat_lt
    by_cases hx : x = c
    · subst hx
      subst hn
      have u : ((x.toNat : Int) == (x.toNat : Int)) = true := by rw [beq_iff_eq]
      go_enter Tryd.func26, Tryd.ntmps26
      go_wp2_with fail
      refine CR.out.mono ?_
      rintro e w1 ⟨rfl, m, rfl⟩
      go_wp2_with fail
      go_ret
      exact ⟨by simp, m, rfl⟩
    · have u : ((x.toNat : Int) == (n : Int)) = false := by
        rw [beq_eq_false_iff_ne, hn]; intro h; exact hx (UInt8.toNat_inj.1 (by omega))
      have u2 : ((x :: r).head? == some c) = false := by simp [hx]
      rw [u2]
      clear hx hn
      go_enter Tryd.func26, Tryd.ntmps26
      go_wp2_with fail
      refine CR.out.mono ?_
      rintro e w1 ⟨rfl, m, rfl⟩
      go_wp2_with fail
      go_ret
      exact ⟨by simp [u], m, rfl⟩
end Go.Proofs.YtidhnhjhdmfpiaaDoor

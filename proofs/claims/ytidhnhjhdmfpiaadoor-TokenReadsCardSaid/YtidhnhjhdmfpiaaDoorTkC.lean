/-
  The document's reader: atoms, numbers, words, literals: contracts.
-/
import Derived.Test.YtidhnhjhdmfpiaaDoorTkB
set_option linter.unusedVariables false
set_option linter.unusedSimpArgs false
namespace Go.Proofs.YtidhnhjhdmfpiaaDoor
open Go Go.RowKit
variable {W : World} {g : Nat} {s : RS} {S : List UInt8}

/-- What Number gives back. -/
def NumIs (l : List UInt8) (most : Nat) (e : Ending) : Prop := (∃ v : Nat, numR l most = some v ∧ v ≤ most ∧ e = .returned (.tuple #[.int .u64 v, .bool true])) ∨ (numR l most = none ∧ ∃ v : Nat, v ≤ 9999999999 ∧ e = .returned (.tuple #[.int .u64 v, .bool false]))

set_option maxRecDepth 100000 in
set_option maxHeartbeats 1000000 in
theorem rnumber_c (s : ByteArray) (hs : s.size ≤ 100000) (most : Nat) (hm : most ≤ 4294967295) (w : World) : Calls Tryd.prog 38 #[.string s, .int .u64 most] w fun e w' => NumIs s.data.toList most e ∧ w = w' := by
  have HL := Lib.hid (ba_len s)
  by_cases h0 : s.size < 1
  · have q0 : (s.size : Int) < 1 := by omega
    go_enter Tryd.func38, Tryd.ntmps38
    go_wp2_with fail
    go_ret2
    exact ⟨.inr ⟨by unfold numR; rw [if_pos (.inl (by rw [HL.out]; exact h0))], 0, by omega, rfl⟩, rfl⟩
  have q0 : ¬ (s.size : Int) < 1 := by omega
  have d0 : decide ((s.size : Int) < 1) = false := by simpa using q0
  by_cases h10 : 10 < s.size
  · have q1 : (10 : Int) < s.size := by omega
    go_enter Tryd.func38, Tryd.ntmps38
    go_wp2_with fail
    go_ret2
    exact ⟨.inr ⟨by unfold numR; rw [if_pos (.inr (.inl (by rw [HL.out]; exact h10)))], 0, by omega, rfl⟩, rfl⟩
  have q1 : ¬ (10 : Int) < s.size := by omega
  have hsz : 0 < s.size := by omega
  have hq1 : (0 : Int) < s.size := by omega
  have hc1 : s[0].toNat < 256 := s[0].toNat_lt
  have HH := Lib.hid (head_eq hsz)
  by_cases hz : 1 < s.size ∧ s[0].toNat = 48
  · have q2 : (1 : Int) < s.size := by omega
    have e48 : ((s[0].toNat : Int) == 48) = true := by simpa using (by omega : (s[0].toNat : Int) = 48)
    have HZ := Lib.hid hz
    clear hz
    go_enter Tryd.func38, Tryd.ntmps38
    go_wp2_with fail
    go_ret2
    exact ⟨.inr ⟨by unfold numR; rw [if_pos (.inr (.inr ⟨by rw [HL.out]; exact HZ.out.1, by rw [HH.out, UInt8.toNat_inj.1 (show s[0].toNat = (48 : UInt8).toNat from HZ.out.2)]⟩))], 0, by omega, rfl⟩, rfl⟩
  have hR : numR s.data.toList most = match numV 0 s.data.toList with | some n => if n ≤ most then some n else none | none => none := by
    unfold numR
    rw [if_neg]; rfl
    rw [HL.out, HH.out]
    rintro (h | h | ⟨h, h'⟩)
    · exact h0 h
    · exact h10 h
    · exact hz ⟨h, by rw [Option.some.inj h']; rfl⟩
  have HR := Lib.hid hR
  have HS := Lib.hid h10
  have hg : decide ((1 : Int) < s.size) = false ∨ (decide ((1 : Int) < s.size) = true ∧ ((s[0].toNat : Int) == 48) = false) := by
    by_cases h1 : 1 < s.size
    · refine .inr ⟨decide_eq_true (by omega), ?_⟩
      simpa using fun h : (s[0].toNat : Int) = 48 => hz ⟨h1, by omega⟩
    · exact .inl (decide_eq_false (by omega))
  clear hz hR h10
  rcases hg with hg | ⟨hg, hg2⟩
  all_goals
    go_enter Tryd.func38, Tryd.ntmps38
    go_wp2_with fail
    go_loop [6, 7] (fun n i => ∃ (k a : Nat), k ≤ s.size ∧ i = .int .i64 k ∧ n = .int .u64 a ∧ a < 10 ^ k ∧ Hid (numV 0 s.data.toList = numV a (s.data.toList.drop k))) (fun _ i => s.size - (intOf i).toNat)
    case atStart => exact ⟨0, 0, by omega, rfl, rfl, by simp, rfl⟩
    case round =>
      obtain ⟨k, a, hk, rfl, rfl, ha, HV⟩ := hrel
      clear hg
      by_cases hlt : k < s.size
      · have hq1 : ((k : Int)) < s.size := by omega
        have hc1 : (s[k].toNat) < 256 := s[k].toNat_lt
        have hv := HV.out
        rw [drop_eq hlt] at hv
        rw [numV_cons] at hv
        have ha2 : a < 10 ^ 9 := Nat.lt_of_lt_of_le ha (Nat.pow_le_pow_right (by omega) (by have := HS.out; omega))
        have HA := Lib.hid ha
        clear ha
        by_cases h48 : 48 ≤ s[k].toNat
        · have u1 : ¬ (s[k].toNat : Int) < 48 := by omega
          by_cases h57 : s[k].toNat ≤ 57
          · have u2 : ¬ (57 : Int) < (s[k].toNat : Int) := by omega
            rw [if_pos (show dig s[k] from ⟨h48, h57⟩)] at hv
            have HV2 := Lib.hid hv
            clear hv
            go_wp2_with fail
            go_round
            case rel => 
              refine ⟨k + 1, 10 * a + (s[k].toNat - 48), by omega, by go_num, ?_, ?_, HV2.out⟩
              · go_num
              · have := HA.out; rw [Nat.pow_succ]; omega
            case measure => simp [intOf]; omega
          · have u2 : (57 : Int) < (s[k].toNat : Int) := by omega
            rw [if_neg (show ¬ dig s[k] from fun h => h57 h.2)] at hv
            have HV2 := Lib.hid hv
            clear hv
            go_wp2_with fail
            go_ret2
            exact ⟨.inr ⟨by rw [HR.out, HV2.out], 0, by omega, rfl⟩, rfl⟩
        · have u1 : (s[k].toNat : Int) < 48 := by omega
          rw [if_neg (show ¬ dig s[k] from fun h => h48 h.1)] at hv
          have HV2 := Lib.hid hv
          clear hv
          go_wp2_with fail
          go_ret2
          exact ⟨.inr ⟨by rw [HR.out, HV2.out], 0, by omega, rfl⟩, rfl⟩
      · obtain rfl : k = s.size := by omega
        have hv := HV.out
        rw [List.drop_of_length_le (by rw [ba_len]; exact Nat.le_refl _)] at hv
        have ha2 : a < 10 ^ 10 := Nat.lt_of_lt_of_le ha (Nat.pow_le_pow_right (by omega) (by have := HS.out; omega))
        have HV2 := Lib.hid hv
        clear hv HV ha
        by_cases hle : a ≤ most
        · have u3 : (a : Int) ≤ most := by omega
          go_wp2_with fail
          go_ret2
          exact ⟨.inl ⟨a, by rw [HR.out, HV2.out]; exact if_pos hle, hle, rfl⟩, rfl⟩
        · have u3 : ¬ (a : Int) ≤ most := by omega
          go_wp2_with fail
          go_ret2
          exact ⟨.inr ⟨by rw [HR.out, HV2.out]; exact if_neg hle, a, by omega, rfl⟩, rfl⟩


theorem mid_tw {p : UInt8 → Bool} {S : List UInt8} {a K : Nat} (hK : ((S.drop a).takeWhile p).length = K) : (S.take (a + K)).drop a = (S.drop a).takeWhile p := by
  rw [List.drop_take, Nat.add_sub_cancel_left, ← hK]
  exact (tw_take (S.drop a)).1
theorem dS_drop {S : List UInt8} {a K : Nat} : dS S (a + K) false = ⟨(S.drop a).drop K, false⟩ := by
  unfold dS; rw [if_neg (by decide), List.drop_drop]
theorem DRS.at (h : DRS W g S s) (hf : s.f = false) : ∃ a, DR W g S a false ∧ a ≤ S.length ∧ s.l = S.drop a := by
  obtain ⟨a, f, h1, h2, rfl⟩ := h
  cases f with
  | true => cases hf
  | false => exact ⟨a, h1, h2, rfl⟩
theorem Tk.drew {g : Nat} (a : World) (n : Nat) : Tk g a (a.drewN n) := ⟨rfl, rfl, rfl, Nat.le_refl _, fun _ _ _ => rfl⟩

set_option maxRecDepth 100000 in
set_option maxHeartbeats 1000000 in
theorem rtAtom_c (h : DRS W g S s) (hl : S.length ≤ 100000) : Calls Tryd.prog 19 #[pt g] W (DoesD W g S (.string (txt (atomV s))) (atomS s)) := by
  have CR := Lib.hid (rtRest_c h)
  have hle := h.le
  have CW := Lib.hid (fun w => rtrow0_c s.l (by omega) w)
  obtain ⟨K, hK⟩ : ∃ K, (s.l.takeWhile atomB).length = K := ⟨_, rfl⟩
  rw [hK] at CW
  have H := Lib.hid h
  obtain ⟨Bs, hBs⟩ : ∃ B, txt s.l = B := ⟨_, rfl⟩
  rw [hBs] at CR CW
  by_cases hz : K = 0
  · have h0 : s.l.takeWhile atomB = [] := List.length_eq_zero_iff.1 (by omega)
    have hv : atomV s = [] := h0
    have hs : atomS s = .gone := by unfold atomS; rw [if_pos h0]
    rw [hv, hs]
    subst hz
    clear h h0 hv hs hK hBs
    go_enter Tryd.func19, Tryd.ntmps19
    go_wp2_with fail
    refine CR.out.mono ?_
    rintro e w1 ⟨rfl, m, hm⟩
    have h1 : DRS w1 g S s := by rw [hm]; exact H.out
    have K1 : Hid (Tk g W w1) := by rw [hm]; exact Tk.drew _ _
    have CF := Lib.hid (rtFail_c h1)
    clear h1 hm
    go_wp2_with fail
    refine (CW.out _).mono ?_
    rintro e w' ⟨rfl, rfl⟩
    go_wp2_with fail
    refine CF.out.mono ?_
    rintro e w2 ⟨rfl, h2, k2⟩
    have H2 := Lib.hid h2
    have K2 := Lib.hid (K1.out.trans k2)
    clear h2 k2
    go_wp2_with fail
    go_ret
    exact ⟨rfl, H2.out, K2.out⟩
  · have hf : s.f = false := by
      cases hf : s.f with
      | false => rfl
      | true => rw [h.ok hf] at hK; exact absurd hK.symm hz
    obtain ⟨a, hD, ha, hla⟩ := h.at hf
    have hs : atomS s = dS S (a + K) false := by
      rw [dS_drop, ← hla]
      unfold atomS
      rw [if_neg (fun e => hz (by rw [← hK, e]; rfl)), ← hK, (tw_take s.l).2, hf]
    have hv : txt (atomV s) = (txt S).extract a (a + K) := by
      rw [ext_mid, mid_tw (by rw [← hla]; exact hK), ← hla]; rfl
    rw [hv, hs]
    have haK : a + K ≤ S.length := by
      have h1 := tw_le (p := atomB) s.l
      rw [hK, hla, List.length_drop] at h1
      omega
    have e1 := txt_size S
    obtain ⟨N, hN⟩ : ∃ N, S.length = N := ⟨_, rfl⟩
    obtain ⟨B, hB⟩ : ∃ B, txt S = B := ⟨_, rfl⟩
    rw [hN] at e1 haK hl
    have e0 : ((K : Int) == 0) = false := by rw [beq_eq_false_iff_ne]; omega
    have hKq : ¬ (K : Int) = 0 := by omega
    have HB := Lib.hid hB
    have HD := Lib.hid hD
    rw [hB] at e1 ⊢
    have HN := Lib.hid hN
    clear h hv hs hK hBs hN hB hD hla ha hle
    go_enter Tryd.func19, Tryd.ntmps19
    go_wp2_with fail
    refine CR.out.mono ?_
    rintro e w1 ⟨rfl, m, hm⟩
    have h1 : DR w1 g S a false := by rw [hm]; exact HD.out
    have K1 : Hid (Tk g W w1) := by rw [hm]; exact Tk.drew _ _
    obtain ⟨c0, c1, c2, hb, f1, f2⟩ := h1.facts
    rw [HB.out] at c0
    have H1 := Lib.hid h1
    clear h1 hm
    go_wp2_with fail
    refine (CW.out _).mono ?_
    rintro e w' ⟨rfl, rfl⟩
    go_wp2_with fail
    obtain ⟨w2, hw2⟩ : ∃ w2, w'.setCell ⟨g, 1, none⟩ (.int .i64 ((a : Int) + K)) = w2 := ⟨_, rfl⟩
    have h2 : DR w2 g S (a + K) false := by rw [← hw2]; exact H1.out.set1 _ _ (by omega)
    have K2 : Hid (Tk g W w2) := by rw [← hw2]; exact K1.out.trans (Tk.set _ _ _)
    obtain ⟨d0, d1, d2, hd, g1, g2⟩ := h2.facts
    rw [HB.out] at d0
    have H2 := Lib.hid h2
    rw [hw2]
    rw [show ((a + K : Nat) : Int) = (a : Int) + K by omega] at d1
    have q1 : (a : Int) + K ≤ N := by omega
    have kw : IntKind.i64.wrap (a : Int) = a := IntWalk.i64_in _ (by omega)
    have q4 : (a : Int) ≤ (a : Int) + K := by omega
    have q5 : (0 : Int) ≤ (a : Int) := by omega
    have q2 : (0 : Int) ≤ (a : Int) + K - K := by omega
    have q3 : (a : Int) + K - K ≤ (a : Int) + K := by omega
    clear h2 hw2 c0 c1 c2 hb f1 f2 H1 K1
    go_quiet (fail)
    go_wp2_with fail
    go_ret
    refine ⟨?_, ⟨a + K, false, H2.out, by have := HN.out; omega, rfl⟩, K2.out.drewN _⟩
    rfl
end Go.Proofs.YtidhnhjhdmfpiaaDoor

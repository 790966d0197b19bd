/-
  The law ListDiffs: its walk.
-/
import Derived.Test.YtebkpejiloabnaaLsI
set_option linter.unusedVariables false
set_option linter.unusedSimpArgs false
namespace Go.Proofs.Ytebkpejiloabnaa
open Go Go.RowKit
variable {W W' : World} {v va vb : Value} {l now : List EL}

set_option maxRecDepth 100000 in
set_option maxHeartbeats 8000000 in
theorem ldiffs_walk (hl : EntRow W va l) (hn : EntRow W vb now) : Calls Try.prog 3 #[va, vb] W fun e w' => e = .returned (.bool true) ∧ Below W.heap.size W w' := by
  obtain ⟨la, lc, hva⟩ := hl.form
  obtain ⟨na, nc, hvb⟩ := hn.form
  obtain ⟨N, hN⟩ : ∃ N, l.length = N := ⟨_, rfl⟩
  obtain ⟨M, hM⟩ : ∃ M, now.length = M := ⟨_, rfl⟩
  rw [hN] at hva
  rw [hM] at hvb
  by_cases h1 : 80 < N
  · have d1 : decide ((80 : Int) < (N : Int)) = true := decide_eq_true (by omega)
    have d1' : (80 : Int) < N := by omega
    subst hva
    subst hvb
    clear hl hn hN hM h1
    go_enter Try.func3, Try.ntmps3
    go_wp2_with fail
    go_ret
    exact ⟨rfl, Below.refl _ _⟩
  · have d1 : decide ((80 : Int) < (N : Int)) = false := decide_eq_false (by omega)
    have d1' : ¬ (80 : Int) < N := by omega
    by_cases h2 : 80 < M
    · have d2 : decide ((80 : Int) < (M : Int)) = true := decide_eq_true (by omega)
      have d2' : (80 : Int) < M := by omega
      subst hva
      subst hvb
      clear hl hn hN hM h1 h2
      go_enter Try.func3, Try.ntmps3
      go_wp2_with fail
      go_ret
      exact ⟨rfl, Below.refl _ _⟩
    · have d2 : decide ((80 : Int) < (M : Int)) = false := decide_eq_false (by omega)
      have d2' : ¬ (80 : Int) < M := by omega
      have CM := rMay_c hl hn (by omega) (by omega)
      have HL := Lib.hid hl
      have HW := Lib.hid hn
      have HN := Lib.hid hN
      have HM := Lib.hid hM
      have HVA := Lib.hid hva
      have HVB := Lib.hid hvb
      obtain ⟨mb, hmb⟩ : ∃ mb, mayB l now = mb := ⟨_, rfl⟩
      rw [hmb] at CM
      cases mb with
      | false =>
        rw [hva, hvb] at CM
        have CM := Lib.hid CM
        clear hl hn hN hM h1 h2 hmb
        subst hva
        subst hvb
        go_enter Try.func3, Try.ntmps3
        go_wp2_with fail
        refine CM.out.mono ?_
        rintro e w1 ⟨rfl, hb1⟩
        have HB1 := Lib.hid hb1
        clear hb1
        go_wp2_with fail
        go_ret
        exact ⟨rfl, HB1.out⟩
      | true =>
        have HMY : Hid (MayE l now) := by classical exact of_decide_eq_true hmb
        rw [hva, hvb] at CM
        have CM := Lib.hid CM
        have hN9 : N ≤ 80 := by omega
        have hM9 : M ≤ 80 := by omega
        clear hl hn hN hM h1 h2 hmb
        subst hva
        subst hvb
        go_enter Try.func3, Try.ntmps3
        go_wp2_with fail
        refine CM.out.mono ?_
        rintro e w1 ⟨rfl, hb1⟩
        have HB1 := Lib.hid hb1
        have C2 := Lib.hid (own11_c (by have := HN.out; omega) (HL.out.below hb1))
        clear hb1 CM
        go_wp2_with fail
        refine C2.out.mono ?_
        rintro e w2 ⟨xv, rfl, ho2, hb2⟩
        have HB2 := Lib.hid (HB1.out.trans (hb2.mono HB1.out.size))
        have hx2 : EntRow w2 xv l := RowK.of_own encE_len ho2
        have HX2 := Lib.hid hx2
        have C3 := Lib.hid (own11_c (by have := HM.out; omega) (HW.out.below HB2.out))
        clear ho2 hb2 hx2 C2 HB1
        go_wp2_with fail
        refine C3.out.mono ?_
        rintro e w3 ⟨yv, rfl, ho3, hb3⟩
        have HB3 := Lib.hid (HB2.out.trans (hb3.mono HB2.out.size))
        have hy3 : EntRow w3 yv now := RowK.of_own encE_len ho3
        have C4 := Lib.hid (lDiff_c (HX2.out.below hb3) hy3 HMY.out (by have := HN.out; omega) (by have := HM.out; omega))
        clear ho3 hb3 hy3 C3 HB2 HX2
        go_wp2_with fail
        refine C4.out.mono ?_
        rintro e w4 ⟨nv, rfl, ho4, hb4⟩
        have HB4 := Lib.hid (HB3.out.trans (hb4.mono HB3.out.size))
        have hn4 : NoteRow w4 nv (diffL l now) := RowK.of_own encN_len ho4
        have HN4 := Lib.hid hn4
        have C5 := Lib.hid (rDiff_c (HL.out.below HB4.out) (HW.out.below HB4.out) (by have := HN.out; omega) (by have := HM.out; omega))
        clear ho4 hb4 hn4 C4 HB3
        go_wp2_with fail
        refine C5.out.mono ?_
        rintro e w5 ⟨rv, rfl, ho5, hb5⟩
        have HB5 := Lib.hid (HB4.out.trans (hb5.mono HB4.out.size))
        have hn5 : NoteRow w5 rv (diffL l now) := RowK.of_own encN_len ho5
        have HN5 := Lib.hid (HN4.out.below hb5)
        have hdl : (diffL l now).length ≤ 161 := by have := diffL_len l now; have := HN.out; have := HM.out; omega
        have C6 := Lib.hid (notes11_c (by omega) hn5)
        clear ho5 hb5 hn5 C5 HB4 HN4
        go_wp2_with fail
        refine C6.out.mono ?_
        rintro e w6 ⟨wv, rfl, ho6, hb6⟩
        have HB6 := Lib.hid (HB5.out.trans (hb6.mono HB5.out.size))
        have hw6 : NoteRow w6 wv (diffL l now) := RowK.of_own encN_len ho6
        have hn6 := HN5.out.below hb6
        obtain ⟨na2, nc2, hnv⟩ := hn6.form
        obtain ⟨wa2, wc2, hwv⟩ := hw6.form
        subst hnv
        subst hwv
        obtain ⟨Q, hQ⟩ : ∃ Q, (diffL l now).length = Q := ⟨_, rfl⟩
        rw [hQ] at hn6 hw6 hdl ⊢
        have HN6 := Lib.hid hn6
        have HW6 := Lib.hid hw6
        have HQ := Lib.hid hQ
        have q0 : ((Q : Int) == Q) = true := by rw [beq_iff_eq]
        have q1 : ((Q : Int) != Q) = false := by rw [bne_eq_false_iff_eq]
        clear ho6 hb6 hw6 hn6 hQ C6 HB5 HN5
        go_wp2_with fail
        go_loopw [7] (fun iv wr => ∃ k : Nat, k ≤ Q ∧ iv = .int .i64 k ∧ Hid (Below w6.heap.size w6 wr)) (fun iv _ => Q - (intOf iv).toNat)
        case atStart => exact ⟨0, Nat.zero_le _, rfl, Below.refl _ _⟩
        case round =>
          obtain ⟨k, hk, rfl, HB⟩ := hrel
          by_cases hlt : k < Q
          · have hq : (k : Int) < Q := by omega
            have hq0 : (0 : Int) ≤ k := by omega
            obtain ⟨r, hr⟩ : ∃ r, (diffL l now)[k]? = some r := ⟨_, List.getElem?_eq_getElem (by have := HQ.out; omega)⟩
            obtain ⟨b, off, rfl, hbb, c0, c1, c2, c3⟩ := NoteRow.at (HN6.out.below HB.out) hr
            obtain ⟨d, og, rfl, hdd, d0, d1, d2, d3⟩ := NoteRow.at (HW6.out.below HB.out) hr
            obtain ⟨⟨kd, sq, ⟨x, y⟩⟩, rfl⟩ : ∃ q : NL, q = r := ⟨_, rfl⟩
            dsimp only at c0 c1 c2 c3 d0 d1 d2 d3
            clear hr
            go_wp2_with fail
            go_quiet (fail)
            go_wp2_with fail
            go_roundw
            case rel => exact ⟨k + 1, by omega, by go_num, below_drewN HB.out _⟩
            case measure => simp [intOf]; omega
          · obtain rfl : k = Q := by omega
            have hq : ¬ (k : Int) < k := by omega
            have C7 := Lib.hid (awake11_c wr)
            go_wp2_with fail
            refine C7.out.mono ?_
            rintro e w7 ⟨rfl, hb7⟩
            have HB7 := Lib.hid ((HB6.out.trans (HB.out.mono HB6.out.size)).trans (hb7.mono (Nat.le_trans HB6.out.size HB.out.size)))
            clear hb7 C7
            go_wp2_with fail
            go_ret
            exact ⟨rfl, HB7.out⟩
end Go.Proofs.Ytebkpejiloabnaa

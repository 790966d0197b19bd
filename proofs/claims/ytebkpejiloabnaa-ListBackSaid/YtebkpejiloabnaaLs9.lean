/-
  May a list become another one, by the document: contract.
-/
import Derived.Test.YtebkpejiloabnaaLs4
set_option linter.unusedVariables false
set_option linter.unusedSimpArgs false
namespace Go.Proofs.Ytebkpejiloabnaa
open Go Go.RowKit
variable {W W' : World} {v va vb : Value} {l now : List EL}

def MayE (l now : List EL) : Prop := UpE l ∧ UpE now ∧ ∀ e ∈ now, findI l e.uid < 0 → l ≠ [] → lastE l ≤ e.uid
open Classical in
noncomputable def mayB (l now : List EL) : Bool := decide (MayE l now)

set_option maxRecDepth 20000 in
set_option maxHeartbeats 4000000 in
theorem rMay_c (hl : EntRow W va l) (hn : EntRow W vb now) (hm : l.length ≤ 1000000) (hm2 : now.length ≤ 1000000) : Calls Try.prog 6 #[va, vb] W fun e w' => e = .returned (.bool (mayB l now)) ∧ Below W.heap.size W w' := by
  have C1 := rRises11_c hl (by omega)
  by_cases hu1 : upB l = true
  · rw [hu1] at C1
    have C1 := Lib.hid C1
    have HC2 : Hid (∀ W', Below W.heap.size W W' → Calls Try.prog 19 #[vb] W' fun e w' => e = .returned (.bool (upB now)) ∧ Below W'.heap.size W' w') := fun W' hb => rRises11_c (hn.below hb) (by omega)
    by_cases hu2 : upB now = true
    · rw [hu2] at HC2
      obtain ⟨la, lc, rfl⟩ := hl.form
      obtain ⟨na, nc, rfl⟩ := hn.form
      obtain ⟨N, hN⟩ : ∃ N, l.length = N := ⟨_, rfl⟩
      obtain ⟨M, hM⟩ : ∃ M, now.length = M := ⟨_, rfl⟩
      rw [hN] at hl hm C1 ⊢
      rw [hM] at hn hm2 HC2 ⊢
      have HL := Lib.hid hl
      have HW := Lib.hid hn
      have HN := Lib.hid hN
      have HM := Lib.hid hM
      have HU : Hid (UpE l ∧ UpE now) := ⟨of_decide_eq_true hu1, of_decide_eq_true hu2⟩
      clear hl hn hN hM hu1 hu2
      go_enter Try.func6, Try.ntmps6
      go_wp2_with fail
      refine C1.out.mono ?_
      rintro e w1 ⟨rfl, hb1⟩
      have HB1 := Lib.hid hb1
      clear hb1
      go_wp2_with fail
      refine (HC2.out w1 HB1.out).mono ?_
      rintro e w2 ⟨rfl, hb2⟩
      have HB2 := Lib.hid (HB1.out.trans (hb2.mono HB1.out.size))
      clear hb2 HB1 C1 HC2
      go_wp2_with fail
      go_loopw [5] (fun i wr => ∃ (k : Nat), k ≤ M ∧ i = .int .i64 k ∧ Hid (∀ j q, j < k → now[j]? = some q → findI l q.uid < 0 → l ≠ [] → lastE l ≤ q.uid) ∧ Hid (Below W.heap.size W wr)) (fun i _ => M - (intOf i).toNat)
      case atStart => exact ⟨0, Nat.zero_le _, rfl, fun j q h => by omega, HB2.out⟩
      case round =>
        clear HB2
        obtain ⟨k, hk, rfl, HI, HB⟩ := hrel
        by_cases hlt : k < M
        · have hq : (k : Int) < M := by omega
          have hq0 : (0 : Int) ≤ k := by omega
          obtain ⟨r, hr⟩ : ∃ r, now[k]? = some r := ⟨_, List.getElem?_eq_getElem (by have := HM.out; omega)⟩
          obtain ⟨b, off, rfl, hbb, c0, c1⟩ := EntRow.at (HW.out.below HB.out) hr
          obtain ⟨u, hu⟩ : ∃ u, r.uid = u := ⟨_, rfl⟩
          obtain ⟨x, hx⟩ : ∃ x, findI l r.uid = x := ⟨_, rfl⟩
          have CF : Hid (∀ m, Calls Try.prog 17 #[.slice la N lc, .int .u32 u] (wr.drewN m) fun e w' => e = .returned (.int .i64 x) ∧ w' = wr.drewN m) := fun m => by
            have h := rFind11_c (HL.out.below (below_drewN HB.out m)) r.uid (by have := HN.out; omega)
            rw [hx, hu] at h
            exact h
          rw [hu] at c0
          have hgo : Hid ((findI l r.uid < 0 → l ≠ [] → lastE l ≤ r.uid) → ∀ j q, j < k + 1 → now[j]? = some q → findI l q.uid < 0 → l ≠ [] → lastE l ≤ q.uid) := fun h j q hj hq2 => by
            by_cases e : j = k
            · subst e; rw [hr] at hq2; cases hq2; exact h
            · exact HI.out j q (by omega) hq2
          have hmem := List.mem_of_getElem? hr
          by_cases hx0 : x < 0
          · have e0 : decide (x < 0) = true := decide_eq_true hx0
            by_cases hN0 : N = 0
            · have hl0 : l = [] := List.length_eq_zero_iff.1 (by have := HN.out; omega)
              have HS := Lib.hid (hgo.out (fun _ h => absurd hl0 h))
              have e1 : decide ((0 : Int) < (N : Int)) = false := decide_eq_false (by omega)
              have e2 : decide (0 < N) = false := decide_eq_false (by omega)
              clear hr hu hx hgo hmem hl0 hN0 c1
              go_wp2_with fail
              go_quiet ((go_at_call 17; exact Calls.quiet_of_same (CF.out _)))
              have HB2 := Lib.hid (below_drewN HB.out nq)
              obtain ⟨W4, hW4⟩ : ∃ W4, wr.drewN nq = W4 := ⟨_, rfl⟩
              rw [hW4] at HB2 ⊢
              clear hW4
              go_wp2_with fail
              go_roundw
              case rel => exact ⟨k + 1, by omega, by go_num, HS.out, HB2.out⟩
              case measure => simp [intOf]; omega
            · have e1 : decide ((0 : Int) < (N : Int)) = true := decide_eq_true (by omega)
              have e2 : decide (0 < N) = true := decide_eq_true (by omega)
              have e3 : 0 < N := by omega
              have p1 : (0 : Int) ≤ (N : Int) - 1 := by omega
              have p2 : (N : Int) - 1 < N := by omega
              obtain ⟨z, hz⟩ : ∃ z, l[N - 1]? = some z := ⟨_, List.getElem?_eq_getElem (by have := HN.out; omega)⟩
              obtain ⟨b2, o2, rfl, hb2, d0, d1⟩ := EntRow.at (HL.out.below HB.out) hz
              have hlast : lastE l = z.uid := by unfold lastE; rw [List.getLast?_eq_getElem?, HN.out, hz]
              have hne : l ≠ [] := fun h => by have := HN.out; rw [h] at this; simp at this; omega
              obtain ⟨y, hy⟩ : ∃ y, z.uid = y := ⟨_, rfl⟩
              rw [hy] at d0 hlast
              by_cases hlu : u < y
              · have e4 : (u : Int) < y := by omega
                have e5 : decide ((u : Int) < (y : Int)) = true := decide_eq_true e4
                have HG : Hid (mayB l now = false) := by
                  classical
                  exact decide_eq_false fun h => by
                    have := h.2.2 r hmem (by omega) hne
                    omega
                clear hr hu hx hgo hmem hN0 c1 hz d1 hlast hne hy
                go_wp2_with fail
                go_quiet ((go_at_call 17; exact Calls.quiet_of_same (CF.out _)))
                go_wp2_with fail
                go_ret
                exact ⟨by rw [HG.out]; rfl, below_drewN HB.out _⟩
              · have e4 : ¬ (u : Int) < y := by omega
                have e5 : decide ((u : Int) < (y : Int)) = false := decide_eq_false e4
                have HS := Lib.hid (hgo.out (fun _ _ => by omega))
                clear hr hu hx hgo hmem hN0 c1 hz d1 hlast hne hy
                go_wp2_with fail
                go_quiet ((go_at_call 17; exact Calls.quiet_of_same (CF.out _)))
                have HB2 := Lib.hid (below_drewN HB.out nq)
                obtain ⟨W4, hW4⟩ : ∃ W4, wr.drewN nq = W4 := ⟨_, rfl⟩
                rw [hW4] at HB2 ⊢
                clear hW4
                go_wp2_with fail
                go_roundw
                case rel => exact ⟨k + 1, by omega, by go_num, HS.out, HB2.out⟩
                case measure => simp [intOf]; omega
          · have e0 : decide (x < 0) = false := decide_eq_false hx0
            have HS := Lib.hid (hgo.out (fun h => by omega))
            clear hr hu hx hgo hmem c1
            go_wp2_with fail
            go_quiet ((go_at_call 17; exact Calls.quiet_of_same (CF.out _)))
            have HB2 := Lib.hid (below_drewN HB.out nq)
            obtain ⟨W4, hW4⟩ : ∃ W4, wr.drewN nq = W4 := ⟨_, rfl⟩
            rw [hW4] at HB2 ⊢
            clear hW4
            go_wp2_with fail
            go_roundw
            case rel => exact ⟨k + 1, by omega, by go_num, HS.out, HB2.out⟩
            case measure => simp [intOf]; omega
        · obtain rfl : k = M := by omega
          have hq : ¬ (k : Int) < k := by omega
          have HG : Hid (mayB l now = true) := by
            classical
            refine decide_eq_true ⟨HU.out.1, HU.out.2, fun e he => ?_⟩
            obtain ⟨j, hj, rfl⟩ := List.mem_iff_getElem.1 he
            exact HI.out j _ (by have := HM.out; omega) (List.getElem?_eq_getElem hj)
          go_wp2_with fail
          go_ret
          exact ⟨by rw [HG.out]; rfl, HB.out⟩
    · have h2 : upB now = false := by simpa using hu2
      rw [h2] at HC2
      have HG : Hid (mayB l now = false) := by
        classical
        exact decide_eq_false fun h => of_decide_eq_false h2 h.2.1
      clear hu1 hu2 h2 hl hn
      go_enter Try.func6, Try.ntmps6
      go_wp2_with fail
      refine C1.out.mono ?_
      rintro e w1 ⟨rfl, hb1⟩
      have HB1 := Lib.hid hb1
      clear hb1
      go_wp2_with fail
      refine (HC2.out w1 HB1.out).mono ?_
      rintro e w2 ⟨rfl, hb2⟩
      have HB2 := Lib.hid (HB1.out.trans (hb2.mono HB1.out.size))
      clear hb2
      go_wp2_with fail
      go_ret
      exact ⟨by rw [HG.out]; rfl, HB2.out⟩
  · have h1 : upB l = false := by simpa using hu1
    rw [h1] at C1
    have HG : Hid (mayB l now = false) := by
      classical
      exact decide_eq_false fun h => of_decide_eq_false h1 h.1
    have C1 := Lib.hid C1
    clear hu1 h1 hl hn
    go_enter Try.func6, Try.ntmps6
    go_wp2_with fail
    refine C1.out.mono ?_
    rintro e w1 ⟨rfl, hb1⟩
    have HB1 := Lib.hid hb1
    clear hb1
    go_wp2_with fail
    go_ret
    exact ⟨by rw [HG.out]; rfl, HB1.out⟩
end Go.Proofs.Ytebkpejiloabnaa

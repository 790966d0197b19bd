/-
  The document's set of numbers: the reference's Of: contract.
-/
import Derived.Test.YtmfpfebnlflfiaaDoorOf
set_option linter.unusedVariables false
set_option linter.unusedSimpArgs false
namespace Go.Proofs.YtmfpfebnlflfiaaDoor
open Go Go.RowKit

theorem infoRR : (Tryd.prog.info? 89).map (fun i => (i.zero, i.size, i.bytes)) = some (some (.agg #[.int .u32 0, .int .u32 0]), 2, 8) := by kernel_rfl

set_option maxRecDepth 20000 in
set_option maxHeartbeats 4000000 in
theorem rqof_c (p : Option Addr) (cap : Nat) (l : List Nat) (hl : l.length ≤ 1000) (w : World) (hp : NumsAt w p l) :
    Calls Tryd.prog 30 #[.slice p l.length cap] w fun e w' => ∃ v, e = .returned v ∧ w'.ownsRow w.heap.size 89 2 v (ofN l).length (cellsP (ofN l)) ∧ Below w.heap.size w w' := by
  obtain ⟨i0, hi0, hz0, hz1, hz2⟩ := info_parts infoRR
  obtain ⟨N, hN⟩ : ∃ N, N = l.length := ⟨_, rfl⟩
  rw [← hN] at hl ⊢
  have HN := Lib.hid hN
  have HP := Lib.hid hp
  clear hN hp
  go_enter Tryd.func30, Tryd.ntmps30
  go_wp2_with fail
  go_loopw [3, 4] (fun t3 t4 wr => ∃ (k : Nat) (A : List (Nat × Nat)), k ≤ N ∧ t4 = .int .i64 k ∧ A.length ≤ k ∧ Hid (Rise (l.take k)) ∧ Hid (A = runs (l.take k)) ∧ Hid (wr.ownsRow w.heap.size 89 2 t3 A.length (cellsP A)) ∧ Hid (Below w.heap.size w wr)) (fun _ t4 _ => N - (intOf t4).toNat)
  case atStart => exact ⟨0, [], by omega, rfl, Nat.le_refl _, ⟨List.Pairwise.nil, fun n h => by simp at h⟩, rfl, World.ownsRow_nil _ _ _ _, Below.refl _ _⟩
  case round =>
    obtain ⟨k, A, hk, rfl, hAl, HR, HA, HO, HB⟩ := hrel
    obtain ⟨ad, cp, hv⟩ := own_form HO.out
    subst hv
    have hls := HB.out.size
    by_cases hlt : k < N
    · have hkl : k < l.length := by rw [← HN.out]; exact hlt
      obtain ⟨n, hn, htk⟩ := take_lt hkl
      obtain ⟨hmx, b, off, rfl, hbw, kc⟩ := HP.out k n hn
      have hq : (k : Int) < N := by omega
      have kc : wr.cell? ⟨b, off + k, none⟩ = some (.int .u32 n) := by rw [HB.out.cell (p := ⟨b, off + k, none⟩) hbw]; exact kc
      have hbr : b < wr.heap.size := Nat.lt_of_lt_of_le hbw hls
      have PC : Hid (∀ w', Below w.heap.size w w' → w'.cell? ⟨b, off + k, none⟩ = some (.int .u32 n)) := fun w' hb => by
        rw [hb.cell (p := ⟨b, off + k, none⟩) hbw, ← HB.out.cell (p := ⟨b, off + k, none⟩) hbw]; exact kc
      have HTK := Lib.hid htk
      clear htk hn
      have hk1 : (0 : Int) ≤ k := by omega
      by_cases hk0 : k = 0
      · have hA0 : A = [] := List.length_eq_zero_iff.1 (by omega)
        subst hA0
        have g0 : decide (0 < k) = false := decide_eq_false (by omega)
        have HK0 := Lib.hid hk0
        clear hk0
        by_cases hn0 : n = 0
        · have HNR : Hid (ofN l = []) := ofN_no (not_rise_take (k := k + 1) (by
            rw [HTK.out, rise_snoc]
            rintro ⟨_, h⟩
            omega))
          have ez : ((n : Int) == 0) = true := by rw [beq_iff_eq]; omega
          go_wp2_with fail
          go_quiet (fail)
          go_wp2_with fail
          go_ret
          exact ⟨_, rfl, by rw [HNR.out]; exact World.ownsRow_nil _ _ _ _, below_drewN HB.out _⟩
        · have ez : ((n : Int) == 0) = false := by rw [beq_eq_false_iff_ne]; omega
          go_wp2_with fail
          go_quiet (fail)
          have HB5 : Hid (Below w.heap.size w (wr.drewN nq)) := below_drewN HB.out nq
          have HO5 : Hid ((wr.drewN nq).ownsRow w.heap.size 89 2 (.slice ad 0 cp) 0 []) := HO.out
          have kc5 : (wr.drewN nq).cell? ⟨b, off + k, none⟩ = some (.int .u32 n) := kc
          have hb5 : b < (wr.drewN nq).heap.size := hbr
          have hls5 : w.heap.size ≤ (wr.drewN nq).heap.size := hls
          clear kc hbr hls HO HB
          generalize wr.drewN nq = w5 at HB5 HO5 kc5 hb5 hls5 ⊢
          go_wp2_with fail
          go_quiet (fail)
          have HB6 : Hid (Below w.heap.size w (w5.drewN nq)) := below_drewN HB5.out nq
          have HO6 : Hid ((w5.drewN nq).ownsRow w.heap.size 89 2 (.slice ad 0 cp) 0 []) := HO5.out
          have kc6 : (w5.drewN nq).cell? ⟨b, off + k, none⟩ = some (.int .u32 n) := kc5
          have hb6 : b < (w5.drewN nq).heap.size := hb5
          have hls6 : w.heap.size ≤ (w5.drewN nq).heap.size := hls5
          clear kc5 hb5 hls5 HO5 HB5
          generalize w5.drewN nq = w6 at HB6 HO6 kc6 hb6 hls6 ⊢
          have HR2 : Hid (Rise (l.take (k + 1))) := by
            show Rise _
            rw [HTK.out, rise_snoc, HK0.out]; exact ⟨by simpa [HK0.out] using HR.out, by simp [lastN]; omega⟩
          have HA2 : Hid ([(n, n)] = runs (l.take (k + 1))) := by show _ = _; rw [HTK.out, runs_snoc, ← HA.out]; rfl
          clear hkl
          go_wp2_with fail
          go_region_held3 (fun w' => w'.cell? ⟨b, off + k, none⟩ = some (.int .u32 n))
            (first | exact PC.out _ HB6.out.drew | exact PC.out _ (HB6.out.alloc hls6 _).drew | exact PC.out _ (HB6.out.alloc hls6 _) | exact PC.out _ hb3)
            ((refine step_append_lies _ (by rfl) (.tmp 57) (.tmp 67) _ (by rfl) w.heap.size 89 i0 _ 2 8 Tryd.underlying47 hi0 hz0 hz1 hz2 rfl (by omega) (.slice ad 0 cp) 0 [] (by rfl) ((HO6.out.alloc _).drew) ⟨w6.heap.size, 0, none⟩ 1 1 [.int .u32 n, .int .u32 n] (by rfl) (by rfl) (World.news_of_block (cs := #[.int .u32 n, .int .u32 n]) (t := 89) (fr := (0, 0)) (heap_alloc_new w6 _)) (by simp [Value.oneCell']) (by omega) (by unfold maxLen; omega) (by omega) (by simp; omega) (w6.heap.size + 1) (by simp) ?_; intro g2 cap2 w3 hown3 hgrow hat hlt3; have hb3 : Below w.heap.size w w3 := (HB6.out.alloc hls6 _).drew.grown hgrow (by simp; omega) (fun q hq => (HO6.out.lt q hq).1)))
          have HO3 := Lib.hid hown3
          have HB3 := Lib.hid hb3
          clear hown3 hb3 hgrow hat hlt3
          go_wp2_with fail
          go_roundw
          case rel => exact ⟨k + 1, [(n, n)], by omega, by go_num, by simp, HR2, HA2, HO3.out, HB3.out⟩
          case measure => simp [intOf]; omega
      · have g0 : decide (0 < k) = true := decide_eq_true (by omega)
        have hk2 : (0 : Int) ≤ (k : Int) - 1 := by omega
        have hk3 : (k : Int) - 1 < N := by omega
        obtain ⟨j, hj⟩ : ∃ j, k = j + 1 := ⟨k - 1, by omega⟩
        obtain ⟨m, hm, htj⟩ := take_lt (l := l) (k := j) (by omega)
        have HTJ : Hid (l.take k = l.take j ++ [m]) := by show _ = _; rw [hj]; exact htj
        obtain ⟨hmm, b2, off2, he, _, kd⟩ := HP.out j m hm
        cases he
        have kd : wr.cell? ⟨b, off + (k - 1), none⟩ = some (.int .u32 m) := by rw [HB.out.cell (p := ⟨b, off + (k - 1), none⟩) hbw, hj]; exact kd
        have HLN : Hid (lastN (l.take k) = m) := by show _ = _; rw [HTJ.out, lastN_snoc]
        clear hm htj hj hkl
        by_cases hnm : n ≤ m
        · have hq1 : (n : Int) ≤ m := by omega
          have HNR : Hid (ofN l = []) := ofN_no (not_rise_take (k := k + 1) (by
            rw [HTK.out, rise_snoc, HLN.out]
            rintro ⟨_, h⟩
            omega))
          by_cases hn0 : n = 0
          · have ez : ((n : Int) == 0) = true := by rw [beq_iff_eq]; omega
            go_wp2_with fail
            go_quiet (fail)
            go_wp2_with fail
            go_ret
            exact ⟨_, rfl, by rw [HNR.out]; exact World.ownsRow_nil _ _ _ _, below_drewN HB.out _⟩
          · have ez : ((n : Int) == 0) = false := by rw [beq_eq_false_iff_ne]; omega
            go_wp2_with fail
            go_quiet (fail)
            go_wp2_with fail
            go_ret
            exact ⟨_, rfl, by rw [HNR.out]; exact World.ownsRow_nil _ _ _ _, below_drewN HB.out _⟩
        · have hq1 : ¬ (n : Int) ≤ m := by omega
          have ez : ((n : Int) == 0) = false := by rw [beq_eq_false_iff_ne]; omega
          go_wp2_with fail
          go_quiet (fail)
          have HB5 : Hid (Below w.heap.size w (wr.drewN nq)) := below_drewN HB.out nq
          have HO5 : Hid ((wr.drewN nq).ownsRow w.heap.size 89 2 (.slice ad A.length cp) A.length (cellsP A)) := HO.out
          have kc5 : (wr.drewN nq).cell? ⟨b, off + k, none⟩ = some (.int .u32 n) := kc
          have kd5 : (wr.drewN nq).cell? ⟨b, off + (k - 1), none⟩ = some (.int .u32 m) := kd
          have hb5 : b < (wr.drewN nq).heap.size := hbr
          have hls5 : w.heap.size ≤ (wr.drewN nq).heap.size := hls
          clear kc kd hbr hls HO HB
          generalize wr.drewN nq = w5 at HB5 HO5 kc5 kd5 hb5 hls5 ⊢
          obtain ⟨I, z, hAz, hzl⟩ := (runs_ok _ (l.take k) rfl HR.out).last (by rw [HTJ.out]; simp)
          rw [← HA.out] at hAz
          rw [HLN.out] at hzl
          subst hAz
          have hIl : (I ++ [z]).length = I.length + 1 := by simp
          rw [hIl] at HO5 hAl
          have HR2 : Hid (Rise (l.take (k + 1))) := by
            show Rise _
            rw [HTK.out, rise_snoc, HLN.out]; exact ⟨HR.out, by omega⟩
          have HA2 : Hid (runs (l.take (k + 1)) = runStep (I ++ [z]) n) := by show _ = _; rw [HTK.out, runs_snoc, ← HA.out]
          rw [hIl]
          by_cases hj1 : m + 1 = n
          · have ej : ((n : Int) - m == 1) = true := by rw [beq_iff_eq]; omega
            have HJ : Hid (runStep (I ++ [z]) n = I ++ [(z.1, n)]) := runStep_join I z n (by omega)
            clear hj1 hIl
            go_wp2_with fail
            go_quiet (fail)
            have HB6 : Hid (Below w.heap.size w (w5.drewN nq)) := below_drewN HB5.out nq
            have HO6 : Hid ((w5.drewN nq).ownsRow w.heap.size 89 2 (.slice ad (I.length + 1) cp) (I.length + 1) (cellsP (I ++ [z]))) := HO5.out
            have kc6 : (w5.drewN nq).cell? ⟨b, off + k, none⟩ = some (.int .u32 n) := kc5
            have hb6 : b < (w5.drewN nq).heap.size := hb5
            have hls6 : w.heap.size ≤ (w5.drewN nq).heap.size := hls5
            clear kc5 kd5 hb5 hls5 HO5 HB5
            generalize w5.drewN nq = w6 at HB6 HO6 kc6 hb6 hls6 ⊢
            obtain ⟨g3, rfl⟩ : ∃ g, ad = some ⟨g, 0, none⟩ := by
              rcases HO6.out.2 with ⟨h, h2⟩ | ⟨g, cap, cur, h, _⟩
              · omega
              · cases h; exact ⟨g, rfl⟩
            have hg3 : g3 < w6.heap.size := (HO6.out.lt g3 rfl).2
            have hz := (cellsP_at (l := I ++ [z]) (k := I.length) (by simp)).2
            rw [List.getElem_append_right (Nat.le_refl _)] at hz
            simp only [Nat.sub_self, List.getElem_cons_zero] at hz
            have kz : w6.cell? ⟨g3, I.length * 2 + 1, none⟩ = some (.int .u32 z.2) := by rw [HO6.out.cellAt _ (by omega)]; exact hz
            have fz : w6.frozen? ⟨g3, I.length * 2 + 1, none⟩ = false := HO6.out.frozenAt _
            have hiI : (0 : Int) ≤ I.length := by omega
            clear hz
            go_wp2_with fail
            go_roundw
            case rel =>
              refine ⟨k + 1, I ++ [(z.1, n)], by omega, by go_num, by simp; omega, HR2, by show _ = _; rw [HA2.out, HJ.out], ?_, HB6.out.setCell (p := ⟨g3, _, none⟩) (HO6.out.lt g3 rfl).1 _⟩
              show World.ownsRow _ _ _ _ _ _ _
              have h := (HO6.out.stored (I.length * 2 + 1) (.int .u32 n)).1
              rw [cellsP_set] at h
              rw [show (I ++ [(z.1, n)]).length = I.length + 1 by simp]
              exact h
            case measure => simp [intOf]; omega
          · have ej : ((n : Int) - m == 1) = false := by rw [beq_eq_false_iff_ne]; omega
            have HJ : Hid (runStep (I ++ [z]) n = I ++ [z] ++ [(n, n)]) := runStep_new I z n (by omega)
            clear hj1 hIl
            go_wp2_with fail
            go_quiet (fail)
            have HB6 : Hid (Below w.heap.size w (w5.drewN nq)) := below_drewN HB5.out nq
            have HO6 : Hid ((w5.drewN nq).ownsRow w.heap.size 89 2 (.slice ad (I.length + 1) cp) (I.length + 1) (cellsP (I ++ [z]))) := HO5.out
            have kc6 : (w5.drewN nq).cell? ⟨b, off + k, none⟩ = some (.int .u32 n) := kc5
            have hb6 : b < (w5.drewN nq).heap.size := hb5
            have hls6 : w.heap.size ≤ (w5.drewN nq).heap.size := hls5
            clear kc5 kd5 hb5 hls5 HO5 HB5
            generalize w5.drewN nq = w6 at HB6 HO6 kc6 hb6 hls6 ⊢
            go_wp2_with fail
            go_region_held3 (fun w' => w'.cell? ⟨b, off + k, none⟩ = some (.int .u32 n))
              (first | exact PC.out _ HB6.out.drew | exact PC.out _ (HB6.out.alloc hls6 _).drew | exact PC.out _ (HB6.out.alloc hls6 _) | exact PC.out _ hb3)
              ((refine step_append_lies _ (by rfl) (.tmp 57) (.tmp 67) _ (by rfl) w.heap.size 89 i0 _ 2 8 Tryd.underlying47 hi0 hz0 hz1 hz2 rfl (by omega) (.slice ad (I.length + 1) cp) (I.length + 1) (cellsP (I ++ [z])) (by rfl) ((HO6.out.alloc _).drew) ⟨w6.heap.size, 0, none⟩ 1 1 [.int .u32 n, .int .u32 n] (by rfl) (by rfl) (World.news_of_block (cs := #[.int .u32 n, .int .u32 n]) (t := 89) (fr := (0, 0)) (heap_alloc_new w6 _)) (by simp [Value.oneCell']) (by omega) (by unfold maxLen; omega) (by omega) (by simp; omega) (w6.heap.size + 1) (by simp) ?_; intro g2 cap2 w3 hown3 hgrow hat hlt3; have hb3 : Below w.heap.size w w3 := (HB6.out.alloc hls6 _).drew.grown hgrow (by simp; omega) (fun q hq => (HO6.out.lt q hq).1)))
            have HO3 := Lib.hid hown3
            have HB3 := Lib.hid hb3
            clear hown3 hb3 hgrow hat hlt3
            go_wp2_with fail
            go_roundw
            case rel =>
              refine ⟨k + 1, I ++ [z] ++ [(n, n)], by omega, by go_num, by simp; omega, HR2, by show _ = _; rw [HA2.out, HJ.out], ?_, HB3.out⟩
              show World.ownsRow _ _ _ _ _ _ _
              rw [cellsP_snoc (I ++ [z])]
              have e : (I ++ [z] ++ [(n, n)]).length = I.length + 1 + 1 := by simp
              rw [e]
              exact HO3.out
            case measure => simp [intOf]; omega
    · obtain rfl : k = N := by omega
      have h1 := HR.out
      have h2 := HA.out
      rw [List.take_of_length_le (by rw [← HN.out]; exact Nat.le_refl _)] at h1 h2
      have HE : Hid (ofN l = A) := by show _ = _; rw [ofN_yes h1, h2]
      clear h1 h2
      go_wp2_with fail
      go_ret
      exact ⟨_, rfl, by rw [HE.out]; exact HO.out, HB.out⟩
end Go.Proofs.YtmfpfebnlflfiaaDoor

/-
  The set of numbers: the program's Of: contract.
-/
import Derived.Test.YtmfpfebnlflfiaaDoorOfP
set_option linter.unusedVariables false
set_option linter.unusedSimpArgs false
namespace Go.Proofs.YtmfpfebnlflfiaaDoor
open Go Go.RowKit

/-- Numbers, as a row lies. -/
def NumsAt (w : World) (p : Option Addr) (l : List Nat) : Prop :=
  ∀ (i n : Nat), l[i]? = some n → n ≤ 4294967295 ∧ ∃ b off, p = some ⟨b, off, none⟩ ∧ b < w.heap.size ∧ w.cell? ⟨b, off + i, none⟩ = some (.int .u32 n)
theorem NumsAt.below {w w' : World} {p : Option Addr} {l : List Nat} (h : NumsAt w p l) (hb : Below w.heap.size w w') : NumsAt w' p l := by
  intro i r hr
  obtain ⟨hm, b, off, e, hlt, h1⟩ := h i r hr
  exact ⟨hm, b, off, e, Nat.lt_of_lt_of_le hlt hb.size, by rw [hb.cell (p := ⟨b, _, none⟩) hlt]; exact h1⟩
theorem take_lt {l : List Nat} {k : Nat} (h : k < l.length) : ∃ n, l[k]? = some n ∧ l.take (k + 1) = l.take k ++ [n] := ⟨l[k], List.getElem?_eq_getElem h, List.take_succ_eq_append_getElem h⟩
theorem not_rise_take {l : List Nat} {k : Nat} (h : ¬ Rise (l.take k)) : ¬ Rise l := fun hr => h (rise_take hr k)

set_option maxRecDepth 20000 in
set_option maxHeartbeats 4000000 in
theorem qof_c (p : Option Addr) (cap : Nat) (l : List Nat) (hl : l.length ≤ 1000) (w : World) (hp : NumsAt w p l) :
    Calls Tryd.prog 29 #[.slice p l.length cap] w fun e w' => ∃ v, e = .returned v ∧ w'.ownsRow w.heap.size 83 2 v (ofN l).length (cellsP (ofN l)) ∧ Below w.heap.size w w' := by
  obtain ⟨i0, hi0, hz0, hz1, hz2⟩ := info_parts infoR
  obtain ⟨N, hN⟩ : ∃ N, N = l.length := ⟨_, rfl⟩
  rw [← hN] at hl ⊢
  have HN := Lib.hid hN
  have HP := Lib.hid hp
  clear hN hp
  go_enter Tryd.func29, Tryd.ntmps29
  go_wp2_with fail
  go_step3
  go_wp2_with fail
  go_step3
  go_wp2_with fail
  go_loopw [3, 4, 10] (fun t3 t4 t10 wr => ∃ (k m : Nat) (A : List (Nat × Nat)), k ≤ N ∧ t10 = .int .i64 k ∧ t4 = .int .u32 m ∧ A.length ≤ k ∧ Hid (Rise (l.take k)) ∧ Hid (m = lastN (l.take k)) ∧ Hid (A = runs (l.take k)) ∧ Hid (wr.ownsRow w.heap.size 83 2 t3 A.length (cellsP A)) ∧ Hid (Below w.heap.size w wr)) (fun _ _ t10 _ => N - (intOf t10).toNat)
  case atStart => exact ⟨0, 0, [], by omega, rfl, rfl, Nat.le_refl _, ⟨List.Pairwise.nil, fun n h => by simp at h⟩, rfl, rfl, World.ownsRow_nil _ _ _ _, Below.refl _ _⟩
  case round =>
    obtain ⟨k, m, A, hk, rfl, rfl, hAl, HR, HM, HA, HO, HB⟩ := hrel
    have hls := HB.out.size
    by_cases hlt : k < N
    · have hkl : k < l.length := by rw [← HN.out]; exact hlt
      obtain ⟨n, hn, htk⟩ := take_lt hkl
      obtain ⟨hmx, b, off, rfl, hbw, kc⟩ := HP.out k n hn
      have hq : (k : Int) < N := by omega
      have kc : wr.cell? ⟨b, off + k, none⟩ = some (.int .u32 n) := by rw [HB.out.cell (p := ⟨b, off + k, none⟩) hbw]; exact kc
      have hbr : b < wr.heap.size := Nat.lt_of_lt_of_le hbw hls
      have HTK := Lib.hid htk
      clear htk hn hkl
      by_cases hnm : n ≤ m
      · have hq1 : (n : Int) ≤ m := by omega
        have HNR : Hid (ofN l = []) := ofN_no (not_rise_take (k := k + 1) (by
          rw [HTK.out, rise_snoc]
          rintro ⟨_, h⟩
          rw [← HM.out] at h; omega))
        go_wp2_with fail
        rw [Exit.noGoto_ret]
        go_ret
        refine ⟨_, rfl, ?_, HB.out⟩
        rw [HNR.out]; exact World.ownsRow_nil _ _ _ _
      · have hq1 : ¬ (n : Int) ≤ m := by omega
        have hq2 : (1 : Int) ≤ n := by omega
        have HR2 : Hid (Rise (l.take (k + 1))) := by
          show Rise _
          rw [HTK.out, rise_snoc]; exact ⟨HR.out, by rw [← HM.out]; omega⟩
        have HM2 : Hid (n = lastN (l.take (k + 1))) := by show _ = _; rw [HTK.out, lastN_snoc]
        have HA2 : Hid (runs (l.take (k + 1)) = runStep A n) := by show _ = _; rw [HTK.out, runs_snoc, HA.out]
        rcases List.eq_nil_or_concat A with rfl | ⟨I, z, hAz⟩
        · obtain ⟨ad3, cp3, hv⟩ := own_form HO.out
          rw [List.length_nil] at hv
          subst hv
          have hd0 : decide ((0 : Int) ≤ -1) = false := by decide
          go_wp2_with (at_builtin; refine wpList_append_own _ rfl (.tmp 38) (.tmp 42) 44 rfl w.heap.size 83 i0 (.agg #[.int .u32 0, .int .u32 0]) 2 8 Tryd.underlying44 hi0 hz0 hz1 hz2 rfl (by decide) _ _ _ rfl (HO.out.alloc _) ⟨wr.heap.size, 0, none⟩ 1 1 [.int .u32 n, .int .u32 n] rfl rfl (World.news_of_block (cs := #[.int .u32 n, .int .u32 n]) (t := 83) (fr := (0, 0)) (heap_alloc_new wr _)) (fun x hx => by simp at hx; subst hx; rfl) (by unfold maxLen; omega) (by omega) (by simp; omega) ?_)
          intro v' w4 hown4 hgrow4 _
          have hb4 : Below w.heap.size w w4 := Below.grown (HB.out.alloc hls _) hgrow4 (by simp; omega) (fun i hi => (HO.out.lt _ hi).1)
          have HO4 := Lib.hid hown4
          have HB4 := Lib.hid hb4
          clear hown4 hgrow4 hb4
          go_wp2_with fail
          go_roundw
          case rel => exact ⟨k + 1, n, [(n, n)], by omega, by go_num, rfl, by simp, HR2, HM2, by show _ = _; rw [HA2.out]; rfl, HO4.out, HB4.out⟩
          case measure => simp [intOf]; omega
        · rw [List.concat_eq_append] at hAz
          subst hAz
          obtain ⟨ad3, cp3, hv⟩ := own_form HO.out
          have hIl : (I ++ [z]).length = I.length + 1 := by simp
          rw [hIl] at hv HO hAl
          subst hv
          clear hIl
          obtain ⟨g3, rfl⟩ : ∃ g, ad3 = some ⟨g, 0, none⟩ := by
            rcases HO.out.2 with ⟨h, h2⟩ | ⟨g, cap, cur, h, _⟩
            · omega
            · cases h; exact ⟨g, rfl⟩
          have hg3 : g3 < wr.heap.size := (HO.out.lt g3 rfl).2
          have hz := (cellsP_at (l := I ++ [z]) (k := I.length) (by simp)).2
          rw [List.getElem_append_right (Nat.le_refl _)] at hz
          simp only [Nat.sub_self, List.getElem_cons_zero] at hz
          have kz : wr.cell? ⟨g3, I.length * 2 + 1, none⟩ = some (.int .u32 z.2) := by rw [HO.out.cellAt _ (by omega)]; exact hz
          have fz : wr.frozen? ⟨g3, I.length * 2 + 1, none⟩ = false := HO.out.frozenAt _
          have hiI : (0 : Int) ≤ I.length := by omega
          clear hz
          by_cases hj : z.2 + 1 = n
          · have ej : (((z.2 : Nat) : Int) == (n : Int) - 1) = true := by rw [beq_iff_eq]; omega
            have HJ : Hid (runStep (I ++ [z]) n = I ++ [(z.1, n)]) := runStep_join I z n hj
            clear hj
            go_wp2_with fail
            go_roundw
            case rel =>
              refine ⟨k + 1, n, I ++ [(z.1, n)], by omega, by go_num, rfl, by simp; omega, HR2, HM2, by show _ = _; rw [HA2.out, HJ.out], ?_, HB.out.setCell (p := ⟨g3, _, none⟩) (HO.out.lt g3 rfl).1 _⟩
              show World.ownsRow _ _ _ _ _ _ _
              have h := (HO.out.stored (I.length * 2 + 1) (.int .u32 n)).1
              rw [cellsP_set] at h
              rw [show (I ++ [(z.1, n)]).length = I.length + 1 by simp]
              exact h
            case measure => simp [intOf]; omega
          · have ej : (((z.2 : Nat) : Int) == (n : Int) - 1) = false := by rw [beq_eq_false_iff_ne]; omega
            have HJ : Hid (runStep (I ++ [z]) n = I ++ [z] ++ [(n, n)]) := runStep_new I z n hj
            clear hj
            go_wp2_with (at_builtin; refine wpList_append_own _ rfl (.tmp 38) (.tmp 42) 44 rfl w.heap.size 83 i0 (.agg #[.int .u32 0, .int .u32 0]) 2 8 Tryd.underlying44 hi0 hz0 hz1 hz2 rfl (by decide) _ _ _ rfl (HO.out.alloc _) ⟨wr.heap.size, 0, none⟩ 1 1 [.int .u32 n, .int .u32 n] rfl rfl (World.news_of_block (cs := #[.int .u32 n, .int .u32 n]) (t := 83) (fr := (0, 0)) (heap_alloc_new wr _)) (fun x hx => by simp at hx; subst hx; rfl) (by unfold maxLen; omega) (by omega) (by simp; omega) ?_)
            intro v' w4 hown4 hgrow4 _
            have hb4 : Below w.heap.size w w4 := Below.grown (HB.out.alloc hls _) hgrow4 (by simp; omega) (fun i hi => (HO.out.lt _ hi).1)
            have HO4 := Lib.hid hown4
            have HB4 := Lib.hid hb4
            clear hown4 hgrow4 hb4
            go_wp2_with fail
            go_roundw
            case rel =>
              refine ⟨k + 1, n, I ++ [z] ++ [(n, n)], by omega, by go_num, rfl, by simp; omega, HR2, HM2, by show _ = _; rw [HA2.out, HJ.out], ?_, HB4.out⟩
              show World.ownsRow _ _ _ _ _ _ _
              rw [cellsP_snoc (I ++ [z])]
              have e : (I ++ [z] ++ [(n, n)]).length = I.length + 1 + 1 := by simp
              rw [e]
              exact HO4.out
            case measure => simp [intOf]; omega
    · obtain rfl : k = N := by omega
      have h1 := HR.out
      have h2 := HA.out
      rw [List.take_of_length_le (by rw [← HN.out]; exact Nat.le_refl _)] at h1 h2
      have HE : Hid (ofN l = A) := by show _ = _; rw [ofN_yes h1, h2]
      clear h1 h2
      go_wp2_with fail
      rw [Exit.noGoto_ret]
      go_ret
      refine ⟨_, rfl, ?_, HB.out⟩
      rw [HE.out]; exact HO.out
end Go.Proofs.YtmfpfebnlflfiaaDoor

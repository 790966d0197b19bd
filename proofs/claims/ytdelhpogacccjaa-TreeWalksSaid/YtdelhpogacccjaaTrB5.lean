/-
  Build, walked.
-/
import Derived.Test.YtdelhpogacccjaaTrB4
import Derived.OneCell
set_option linter.unusedVariables false
set_option linter.unusedSimpArgs false
namespace Go.Proofs.Ytdelhpogacccjaa
open Go Go.RowKit

theorem zero_rn : (Try.prog.built 79 []) = some (rnA ⟨false, 0, fun _ => 0, noR⟩) := by kernel_rfl
theorem own_succ7 {w : World} {base e size n : Nat} {v : Value} {xs : List Value} (h : w.ownsRow base e size v (n + 1) xs) : ∃ g cap, v = .slice (some ⟨g, 0, none⟩) (n + 1) cap := by
  rcases h.2 with ⟨_, h0⟩ | ⟨g, cap, cur, rfl, _⟩
  · omega
  · exact ⟨g, cap, rfl⟩
set_option maxRecDepth 20000 in
set_option maxHeartbeats 4000000 in
theorem build_c (k : Nat) : ∀ (W : World) (base : Nat) (v lv : Value) (nodes : List RN) (l : List R7), W.ownsRow base 79 21 v nodes.length (cellsN nodes) → base ≤ W.heap.size → RecRow W lv l →
    (∀ g, v.ownBlock = some g → lv.ownBlock ≠ some g) → l ≠ [] → Up l → Agree l k → k ≤ 8 → nodes.length + (k + 1) * l.length ≤ 100000 →
    Calls Try.prog 26 #[v, lv, .int .i64 ((k : Int) - 1)] W fun e w' => BuildP base v nodes k l W e w' := by
  induction k with
  | zero =>
    intro W base v lv nodes l ho hbase hl hsep hne hu ha hk hn
    exact build0_c ho hbase hl hne (by omega)
  | succ k ih =>
    intro W base v lv nodes l ho hbase hl hsep hne hu ha hk hn
    rw [show (((k + 1 : Nat) : Int) - 1) = (k : Int) by omega]
    have hlen := tree_len (k + 1) nodes.length l hne hu ha
    have IH := Lib.hid ih
    have HLE := Lib.hid hlen
    obtain ⟨ad, cp, hv⟩ := own_form ho
    obtain ⟨la, lc, hlv⟩ := hl.form
    subst hv hlv
    obtain ⟨N, hN⟩ : ∃ N, nodes.length = N := ⟨_, rfl⟩
    obtain ⟨L, hL⟩ : ∃ L, l.length = L := ⟨_, rfl⟩
    have hD0 : ∀ g, (Value.slice ad nodes.length cp).ownBlock = some g → g < W.heap.size := fun g hg => (ho.lt g hg).2
    unfold BuildP
    rw [hN] at ho hn hD0 hsep HLE ⊢
    rw [hL] at hl hn hsep HLE ⊢
    have q0 : ¬ (k : Int) < 0 := by omega
    have HO := Lib.hid ho
    have HL := Lib.hid hl
    have HSP := Lib.hid hsep
    have HU := Lib.hid hu
    have HA := Lib.hid ha
    have HNE := Lib.hid hne
    have HNN := Lib.hid hN
    have HLL := Lib.hid hL
    have HD0 := Lib.hid hD0
    have HBD := Lib.hid hn
    have hN1 : N ≤ 100000 := by omega
    have hL1 : L ≤ 100000 := by have : 1 * L ≤ (k + 1 + 1) * L := Nat.mul_le_mul_right _ (by omega); omega
    have hk8 : k < 8 := by omega
    obtain ⟨i0, hi0, hz0, hz1, hz2⟩ := info_parts infoRN
    obtain ⟨j0, hj0, jz0, jz1, jz2⟩ := info_parts info7R
    have HB := Lib.hid (built_br L)
    have HS := Lib.hid (slice_rn (brN L (fun _ => 0)))
    clear ih hlen ho hl hsep hne hu ha hN hL hD0 hn
    go_enter Try.func26, Try.ntmps26
    go_upto_region 5 with (first
      | (refine wpList_build_as rfl 79 #[(1, .tmp 26)] rfl (rnA (brN L (fun _ => 0))) (Eq.trans (by kernel_rfl) HB.out) ?_)
      | (refine wpList_store_row rfl 79 (.tmp 9) (.tmp 27) rfl W.heap.size (rnA (brN L (fun _ => 0))) rfl rfl 79 (rnA ⟨false, 0, fun _ => 0, noR⟩) (heap_alloc_new _ _) sizeRN rfl (rnA_one _) ?_))
    refine (show Code.wp _ _ _ _ ((W.alloc (.cells (rnA ⟨false, 0, fun _ => 0, noR⟩) 79)).setRow W.heap.size (rnA (brN L (fun _ => 0)))) from ?_)
    rw [World.setRow_alloc_new]
    have hbx : Bx7 (W.alloc (.cells (rnA (brN L (fun _ => 0))) 79)) W.heap.size (brN L (fun _ => 0)) := heap_alloc_new W _
    have hb1 : Below W.heap.size W (W.alloc (.cells (rnA (brN L (fun _ => 0))) 79)) := (Below.refl _ _).alloc (Nat.le_refl _) _
    obtain ⟨W1, hW1⟩ : ∃ W1, W.alloc (.cells (rnA (brN L (fun _ => 0))) 79) = W1 := ⟨_, rfl⟩
    have hW1s : W1.heap.size = W.heap.size + 1 := by rw [← hW1, World.size_alloc]
    rw [hW1] at hbx hb1 ⊢
    obtain ⟨D, hD⟩ : ∃ D, W.heap.size = D := ⟨_, rfl⟩
    rw [hD] at hbx hb1 hW1s ⊢
    have HBX := Lib.hid hbx
    have HB1 := Lib.hid hb1
    have HDD := Lib.hid hD
    have HO1 : Hid (W1.ownsRow base 79 21 (.slice ad N cp) N (cellsN nodes)) := own_kept7 HO.out fun g hg => HB1.out.block g (by rw [← HDD.out]; exact HD0.out g hg)
    have HRG := Lib.hid hbx.range
    obtain ⟨n0, hn0⟩ : ∃ n0, brN (L : Int) (fun _ => 0) = n0 := ⟨_, rfl⟩
    rw [hn0] at HS HBX HRG
    have HN0 := Lib.hid hn0
    have hb0 : base ≤ D := by omega
    have hbxlt : D < W1.heap.size := by omega
    clear hbx hb1 hD hW1 HB hn0 hbase
    go_upto_region 6 with (first
      | (refine wpList_load_mid rfl 79 (.tmp 9) rfl D 0 rfl (rnA n0).toList _ HRG.out Try.underlying79 rfl sizeRN ?_)
      | (refine Great.wpList_buildSliceTo rfl 75 79 1 #[(0, .tmp 29)] rfl W1.heap.size rfl (some 30) rfl Try.underlying75 (rnA n0) (Eq.trans (by kernel_rfl) HS.out) ?_)
      | (at_builtin; refine wpList_append_own_at _ rfl (.tmp 28) (.tmp 30) 75 rfl base 79 i0 zeroRN 21 168 Try.underlying75 hi0 hz0 hz1 hz2 rfl (by decide) _ _ _ rfl (HO1.out.alloc _) ⟨W1.heap.size, 0, none⟩ 1 1 (rnA n0).toList rfl rfl (World.news_of_block (heap_alloc_new W1 _)) (rnA_mem n0) (by unfold maxLen; omega) (by omega) (by rw [World.size_alloc]; omega) ?_; intro v1 w2 hown hgrow hnil hat; have HOW := Lib.hid hown; have HGR := Lib.hid (Gro.append hgrow hat); clear hown hgrow hnil hat))
    have hvD : (Value.slice ad N cp).ownBlock ≠ some D := fun e => by have := HD0.out D e; have := HDD.out; omega
    have HOI : Hid (OI W D base (.slice ad N cp) nodes k l 0 v1 w2) := by
      have e1 : curB nodes k l 0 = nodes ++ [n0] := by unfold curB; rw [HLL.out, HN0.out]; rfl
      have e2 : boxB nodes k l 0 = n0 := by unfold boxB; rw [HLL.out, ← HN0.out]; congr 1
      have hgw : Gro (.slice ad N cp) v1 W w2 := by
        have h0 : Gro (.slice ad N cp) (.slice ad N cp) W W1 := (Gro.refl _ W).made (by rw [HDD.out]; exact HB1.out)
        exact h0.trans HGR.out
      refine ⟨?_, ?_, hgw, fun e => ?_, by rw [HDD.out]; exact Nat.le_refl _⟩
      · rw [e1, List.length_append, HNN.out, cellsN_app, cellsN_one]; exact HOW.out
      · rw [e2]; exact (HGR.out.keep hbxlt hvD).trans HBX.out
      · rcases HGR.out.2 D e with h | h
        · exact hvD h
        · omega
    clear HOW HGR HBX HB1 HO1 HRG HS hbxlt hW1s
    go_wp2_with fail
    go_loopw [0, 10] (fun nv dv wr => ∃ (i : Nat), i ≤ 16 ∧ dv = .int .i64 i ∧ Hid (OI W D base (.slice ad N cp) nodes k l i nv wr)) (fun _ dv _ => 16 - (intOf dv).toNat)
    case atStart => exact ⟨0, Nat.zero_le _, rfl, HOI⟩
    case round =>
      obtain ⟨i, hi, rfl, HI⟩ := hrel
      obtain ⟨wo, rfl⟩ : ∃ wo, wo = wr := ⟨wr, rfl⟩
      by_cases hlt : i < 16
      · have g1 : (i : Int) < 16 := by omega
        have g2 : (0 : Int) ≤ i := by omega
        have HLr : Hid (∀ w2, Below wo.heap.size wo w2 → RecRow w2 (.slice la L lc) l) := fun w2 hb => (HL.out.gro HSP.out HI.out.gro).below hb
        have hnvl : ∀ g, u0.ownBlock = some g → g < wo.heap.size := fun g hg => (HI.out.own.lt g hg).2
        have HNV := Lib.hid hnvl
        have HDo : Hid (D < wo.heap.size) := HI.out.box.lt
        clear hnvl HOI
        go_wp2_with fail
        go_loopw [11, 12] (fun pv jv w2 => ∃ (j m : Nat), j ≤ L ∧ jv = .int .i64 j ∧ m ≤ j ∧ Hid (m = (part k i (l.take j)).length) ∧ Hid (w2.ownsRow wo.heap.size 50 3 pv m (cellsR (part k i (l.take j)))) ∧ Hid (Below wo.heap.size wo w2)) (fun _ jv _ => L - (intOf jv).toNat)
        case atStart => exact ⟨0, 0, Nat.zero_le _, rfl, Nat.le_refl _, by show _ = _; rfl, World.ownsRow_nil _ _ _ _, Below.refl _ _⟩
        case round =>
          obtain ⟨j, m, hj, rfl, hmj, HM, HP, HBj⟩ := hrel
          by_cases hjl : j < L
          · have g3 : (j : Int) < L := by omega
            have g4 : (0 : Int) ≤ j := by omega
            obtain ⟨r, hr⟩ : ∃ r, l[j]? = some r := ⟨_, List.getElem?_eq_getElem (by rw [HLL.out]; exact hjl)⟩
            obtain ⟨b, off, hab, hb, c0, c1, c2⟩ := (HLr.out wr HBj.out).at hr
            subst hab
            have hpt := part_take (k := k) (d := i) hr
            have CD := Lib.hid (rDigit7_c r.uid k (HU.out.2 r (List.mem_of_getElem? hr)) (by omega) wr)
            have hwos : wo.heap.size ≤ wr.heap.size := HBj.out.size
            obtain ⟨dg, hdg⟩ : ∃ dg, dig r.uid k = dg := ⟨_, rfl⟩
            rw [hdg] at CD hpt
            by_cases hd : dg = i
            · have g5 : ((dg : Int) == (i : Int)) = true := by rw [beq_iff_eq]; omega
              rw [if_pos hd] at hpt
              have HM2 : Hid (m + 1 = (part k i (l.take (j + 1))).length) := by show _ = _; rw [hpt, List.length_append, HM.out]; rfl
              have HC2 : Hid (cellsR (part k i (l.take (j + 1))) = cellsR (part k i (l.take j)) ++ [.int .u32 r.uid, .int .u8 r.fl, .string r.tx]) := by show _ = _; rw [hpt, cellsR_app]; rfl
              obtain ⟨pa, pc, hpv⟩ := own_form HP.out
              subst hpv
              clear hpt hr hd hdg
              go_wp2_with (first
                | (go_at_call 57; refine CD.out.mono ?_; rintro e w' ⟨rfl, hw⟩; rw [hw]; clear hw w')
                | (at_builtin; refine wpList_append_own_at _ rfl (.tmp 51) (.tmp 56) 22 rfl wo.heap.size 50 j0 (.agg #[.int .u32 0, .int .u8 0, .string ⟨#[]⟩]) 3 24 Try.underlying22 hj0 jz0 jz1 jz2 rfl (by decide) _ _ _ rfl (HP.out.alloc _) ⟨wr.heap.size, 0, none⟩ 1 1 [.int .u32 r.uid, .int .u8 r.fl, .string r.tx] rfl rfl (World.news_of_block (cs := #[.int .u32 r.uid, .int .u8 r.fl, .string r.tx]) (t := 50) (fr := (0, 0)) (heap_alloc_new wr _)) (fun u hu => by simp at hu; rcases hu with rfl | rfl | rfl <;> rfl) (by unfold maxLen; omega) (by omega) (by rw [World.size_alloc]; omega) ?_; intro v3 w3 hown hgrow hnil hat; have HOW := Lib.hid hown; have HGR := Lib.hid (Gro.append hgrow hat); clear hown hgrow hnil hat))
              have HB3 : Hid (Below wo.heap.size wo w3) := HBj.out.trans (HGR.out.below hwos (fun g hg => (HP.out.lt g hg).1))
              have HP3 : Hid (w3.ownsRow wo.heap.size 50 3 v3 (m + 1) (cellsR (part k i (l.take (j + 1))))) := by rw [HC2.out]; exact HOW.out
              clear HOW HGR HC2 HBj HP
              go_roundw
              case rel => exact ⟨j + 1, m + 1, by omega, by go_num, by omega, HM2, HP3, HB3⟩
              case measure => simp [intOf]; omega
            · have g5 : ((dg : Int) == (i : Int)) = false := by rw [beq_eq_false_iff_ne]; omega
              rw [if_neg hd, List.append_nil] at hpt
              have HM2 : Hid (m = (part k i (l.take (j + 1))).length) := by show _ = _; rw [hpt]; exact HM.out
              have HP2 : Hid (wr.ownsRow wo.heap.size 50 3 u11 m (cellsR (part k i (l.take (j + 1))))) := by rw [hpt]; exact HP.out
              clear hpt hr hd hdg c1 c2 HP HM
              go_wp2_with (go_at_call 57; refine CD.out.mono ?_; rintro e w' ⟨rfl, hw⟩; rw [hw]; clear hw w')
              go_roundw
              case rel => exact ⟨j + 1, m, by omega, by go_num, by omega, HM2, HP2, HBj⟩
              case measure => simp [intOf]; omega
          · obtain rfl : j = L := by omega
            have g3 : ¬ (j : Int) < j := by omega
            have hI2 := HI.out.below HBj.out
            obtain ⟨b1, b2⟩ := hI2.box.cell i hlt
            have hDl := hI2.box.lt
            have HI2 := Lib.hid hI2
            have hpl : part k i (l.take j) = part k i l := by rw [List.take_of_length_le (by rw [HLL.out]; exact Nat.le_refl _)]
            rw [hpl] at HM HP
            obtain ⟨pa, pc, hpv⟩ := own_form HP.out
            obtain ⟨M, hM⟩ : ∃ M, (curB nodes k l i).length = M := ⟨_, rfl⟩
            obtain ⟨na, nc, hnv⟩ : ∃ na nc, u0 = .slice na M nc := by rw [← hM]; exact own_form hI2.own
            subst hpv hnv
            by_cases hpe : part k i l = []
            · obtain rfl : m = 0 := by have := HM.out; rw [hpe] at this; exact this
              have HI3 := Lib.hid (hI2.empty hlt hpe)
              clear hI2 hpl hM hpe HI HBj HP HM HLr
              go_wp2_with fail
              go_roundw
              case rel => exact ⟨i + 1, by omega, by go_num, HI3⟩
              case measure => simp [intOf]; omega
            · have hm1 : 1 ≤ m := by have := HM.out; have := List.length_pos_iff.2 hpe; omega
              have g6 : (0 : Int) < m := by omega
              have hput := hI2.put hlt (-1)
              have hPr : RecRow (wr.setCell ⟨D, 2 + i, none⟩ (.int .i64 (-1))) (.slice pa m pc) (part k i l) := by
                refine RecRow.of_own (D := wo.heap.size) ?_
                rw [← HM.out]
                exact ownsRow_setCell_other HP.out (fun e => by have := (HP.out.lt D e).1; have := HDo.out; omega) _
              have hcb := cur_bound HU.out HA.out HNE.out hlt (by rw [HLL.out]; exact HBD.out) HNN.out
              have CB := Lib.hid (IH.out (wr.setCell ⟨D, 2 + i, none⟩ (.int .i64 (-1))) base (.slice na M nc) (.slice pa m pc) (curB nodes k l i) (part k i l) hput.2.1 (by rw [size_setCell7]; omega) hPr
                (fun g hg hg2 => by have := HNV.out g hg; have := (HP.out.lt g hg2).1; omega) hpe (HU.out.filter _) (HA.out.part i) (by omega) hcb)
              have HPE := Lib.hid hpe
              have HFU := Lib.hid (fun v2 w4 => hI2.full (v2 := v2) (w4 := w4) hlt hpe)
              rw [hM] at HFU
              unfold BuildP at CB
              rw [hM] at CB
              clear hI2 hpl hM hpe HI HBj HM HLr hput hPr hcb HP IH
              go_wp2_with (go_at_call 26; refine CB.out.mono ?_; rintro e w4 ⟨v2, rfl, ho4, hg4⟩; obtain ⟨hbx4, hI4⟩ := HFU.out v2 w4 ho4 hg4; obtain ⟨b3, b4⟩ := hbx4.cell i hlt; have hDl4 := hbx4.lt; have HI4 := Lib.hid hI4; clear ho4 hg4 hbx4 hI4)
              go_roundw
              case rel => exact ⟨i + 1, by omega, by go_num, HI4⟩
              case measure => simp [intOf]; omega
      · obtain rfl : i = 16 := by omega
        have g1 : ¬ (16 : Int) < 16 := by omega
        have hI := HI.out
        have hlen : (curB nodes k l 16).length = (nodes ++ treeL (k + 1) N l).length := by rw [curB_len, List.length_append, HNN.out]; show _ = N + ((subsF (treeL k) k N l 16).length + 1); omega
        obtain ⟨M, hM⟩ : ∃ M, (curB nodes k l 16).length = M := ⟨_, rfl⟩
        have hMN : N + 1 ≤ M := by rw [← hM, curB_len, HNN.out]; omega
        have how := hI.own
        rw [hM] at how
        obtain ⟨g, nc, hnv⟩ : ∃ g nc, u0 = .slice (some ⟨g, 0, none⟩) M nc := by
          obtain ⟨M', hM'⟩ : ∃ M', M = M' + 1 := ⟨M - 1, by omega⟩
          rw [hM'] at how ⊢
          exact own_succ7 how
        subst hnv
        have HRG := Lib.hid hI.box.range
        have HTH := Lib.hid (own_there how (N * 21) 21 (by have : (N + 1) * 21 ≤ M * 21 := Nat.mul_le_mul_right _ hMN; rw [Nat.add_mul] at this; omega))
        obtain ⟨hst, hgr⟩ := own_stored (rnA (boxB nodes k l 16)).toList wo (cellsN (curB nodes k l 16)) (N * 21) how
        have hfin : setL (cellsN (curB nodes k l 16)) (N * 21) (rnA (boxB nodes k l 16)).toList = cellsN (nodes ++ treeL (k + 1) N l) := by
          have h1 := setL_mid (rnA (boxB nodes k l 16)).toList (cellsN nodes) (rnA (brN l.length (fun _ => 0))).toList (cellsN (subsF (treeL k) k nodes.length l 16)) rfl
          rw [cellsN_len, HNN.out] at h1
          have h2 : cellsN (curB nodes k l 16) = cellsN nodes ++ (rnA (brN l.length (fun _ => 0))).toList ++ cellsN (subsF (treeL k) k N l 16) := by
            unfold curB
            rw [HNN.out, cellsN_app, List.append_assoc]
            rfl
          rw [h2, h1, boxB_all, HNN.out, cellsN_app, List.append_assoc]
          rfl
        rw [hfin] at hst
        rw [hM] at hlen
        rw [hlen] at hst
        have HST : Hid ((wo.setCells g (N * 21) (rnA (boxB nodes k l 16)).toList).ownsRow base 79 21 (.slice (some ⟨g, 0, none⟩) M nc) (nodes ++ treeL (k + 1) N l).length (cellsN (nodes ++ treeL (k + 1) N l))) := by rw [hlen]; exact hst
        have HGF : Hid (Gro (.slice ad N cp) (.slice (some ⟨g, 0, none⟩) M nc) W (wo.setCells g (N * 21) (rnA (boxB nodes k l 16)).toList)) := hI.gro.trans ⟨hgr, fun g' h => .inl h⟩
        have HR := Lib.hid (hI.gro.2)
        have q6 : (0 : Int) ≤ N := by omega
        have q7 : (N : Int) < M := by omega
        clear hI hlen hM how hst hgr hfin HI HOI IH HL HSP HLE HN0
        go_wp2_with (first
          | (refine wpList_load_mid rfl 79 (.tmp 9) rfl D 0 rfl (rnA (boxB nodes k l 16)).toList _ HRG.out Try.underlying79 rfl sizeRN ?_)
          | (refine wpList_store_mid rfl 79 (.tmp 78) (.tmp 77) rfl g (N * 21) (rnA (boxB nodes k l 16)) rfl rfl HTH.out sizeRN (rnA_one _) ?_))
        go_ret2
        exact ⟨_, rfl, by first | exact HST.out | (have h := HST.out; rw [List.length_append] at h; exact h), HGF.out⟩
end Go.Proofs.Ytdelhpogacccjaa

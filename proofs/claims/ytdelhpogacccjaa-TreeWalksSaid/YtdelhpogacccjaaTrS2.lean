/-
  Stand, walked.
-/
import Derived.Test.YtdelhpogacccjaaTrS3
set_option linter.unusedVariables false
set_option linter.unusedSimpArgs false
namespace Go.Proofs.Ytdelhpogacccjaa
open Go Go.RowKit

variable {W W' : World} {lv : Value} {l : List R7}
def StandP (gap more : Nat) (l : List R7) (W : World) (e : Ending) (w' : World) : Prop :=
  ∃ sv ns r H, e = .returned (.tuple #[sv, .agg #[.int .i64 r, .int .i64 (H : Nat)]]) ∧ ShelfRow w' sv ns ∧ Below W.heap.size W w' ∧ StandIs gap more l ns r H
set_option maxRecDepth 20000 in
set_option maxHeartbeats 4000000 in
theorem stand_c (hl : RecRow W lv l) (hu : Up l) (hm : l.length ≤ 1000) (gap more : Nat) (hg : gap ≤ 9) (hmo : more ≤ 100) :
    Calls Try.prog 8 #[lv, .int .i64 gap, .int .i64 more] W fun e w' => StandP gap more l W e w' := by
  have hb1 := TB.new W 0 0
  have hB := (Below.refl W.heap.size W).alloc (Nat.le_refl _) (.cells #[.int .i64 0, .int .i64 0] 27)
  have HTB := Lib.hid hb1
  have HB := Lib.hid hB
  obtain ⟨la, lc, hlv⟩ := hl.form
  subst hlv
  obtain ⟨N, hN⟩ : ∃ N, l.length = N := ⟨_, rfl⟩
  have HL := Lib.hid hl
  have HU := Lib.hid hu
  unfold StandP
  rw [hN] at HL hm ⊢
  by_cases h0 : N = 0
  · have hl0 : l = [] := List.length_eq_zero_iff.1 (by omega)
    have q : ((N : Int) == 0) = true := by rw [beq_iff_eq]; omega
    have HS : Hid (StandIs gap more l [] (-1) 0) := .inl ⟨hl0, rfl, rfl, rfl⟩
    clear hl0 hN h0 hl hb1 hB hu
    go_enter Try.func8, Try.ntmps8
    go_upto_region 2 with fail
    obtain ⟨W1, hW1⟩ : ∃ W1, W.alloc (.cells #[.int .i64 0, .int .i64 0] 27) = W1 := ⟨_, rfl⟩
    rw [hW1] at HTB HB ⊢
    clear hW1
    obtain ⟨c0, c1⟩ := HTB.out.cell
    obtain ⟨f0, f1⟩ := HTB.out.free
    have hlt := HTB.out.lt
    have HT2 := Lib.hid (HTB.out.set (-1) 0)
    have HB2 := Lib.hid ((HB.out.setCell (p := ⟨W.heap.size, 0, none⟩) (Nat.le_refl _) (.int .i64 (-1))).setCell (p := ⟨W.heap.size, 1, none⟩) (Nat.le_refl _) (.int .i64 0))
    go_wp2_with fail
    refine bodyPost_ret (results_stand _ _ _ _ _ _ HT2.out rfl rfl) rfl ⟨_, [], -1, 0, rfl, .inl ⟨rfl, rfl⟩, HB2.out, HS.out⟩
  · have q : ((N : Int) == 0) = false := by rw [beq_eq_false_iff_ne]; omega
    have hne : l ≠ [] := fun h => by rw [h] at hN; exact h0 hN.symm
    have HNE := Lib.hid hne
    have CH := Lib.hid (fun w2 (hb : Below W.heap.size W w2) => rHeight7_c (hl.below hb) hu.2 (by omega))
    obtain ⟨hh1, hh8, hhs⟩ := height_small hu hne
    have HHS := Lib.hid hhs
    obtain ⟨h, hh⟩ : ∃ h, heightOf l = h := ⟨_, rfl⟩
    rw [hh] at hh1 hh8 HHS CH
    rw [hN] at CH
    have HHH := Lib.hid hh
    have HNN := Lib.hid hN
    obtain ⟨i0, hi0, hz0, hz1, hz2⟩ := info_parts infoTN
    clear hN h0 hl hb1 hB hu hhs hh hne
    go_enter Try.func8, Try.ntmps8
    go_upto_region 3 with fail
    obtain ⟨W1, hW1⟩ : ∃ W1, W.alloc (.cells #[.int .i64 0, .int .i64 0] 27) = W1 := ⟨_, rfl⟩
    have hW1s : W1.heap.size = W.heap.size + 1 := by rw [← hW1, World.size_alloc]
    rw [hW1] at HTB HB ⊢
    clear hW1
    go_wp2_with (go_at_call 21; refine (CH.out _ HB.out).mono ?_; rintro e w' ⟨rfl, hw⟩; rw [hw]; clear hw w')
    obtain ⟨H, hH⟩ : ∃ H, min 8 (h + more) = H := ⟨_, rfl⟩
    have hH1 : 1 ≤ H := by omega
    have hH8 : H ≤ 8 := by omega
    have hHi : min 8 ((h : Int) + (more : Int)) = (H : Int) := by omega
    rw [hHi]
    have HAg : Hid (Agree l H) := ⟨0, fun x hx => Nat.div_eq_of_lt (Nat.lt_of_lt_of_le (HHS.out x hx) (Nat.pow_le_pow_right (by omega) (by omega)))⟩
    have HHD : Hid (H = min 8 (heightOf l + more)) := by show _ = _; rw [HHH.out]; exact hH.symm
    have HNB : Hid (Below W1.heap.size W1 W1) := Below.refl _ _
    clear hHi hH HHS HHH CH
    go_loopw [9, 10] (fun sv iv wr => ∃ (i : Nat), i ≤ gap ∧ iv = .int .i64 i ∧ Hid (wr.ownsRow W1.heap.size 45 26 sv i (cellsT (List.replicate i noTN))) ∧ Hid (Below W1.heap.size W1 wr)) (fun _ iv _ => gap - (intOf iv).toNat)
    case atStart => exact ⟨0, Nat.zero_le _, rfl, World.ownsRow_nil _ _ _ _, HNB⟩
    case round =>
      obtain ⟨i, hi, rfl, HO, HBr⟩ := hrel
      by_cases hlt : i < gap
      · have g1 : (i : Int) < gap := by omega
        obtain ⟨sa, sc, hsv⟩ := own_form HO.out
        subst hsv
        have hws : W1.heap.size ≤ wr.heap.size := HBr.out.size
        go_wp2_with (first
          | (refine wpList_build_as rfl 45 #[] rfl (nodeA noTN) built_no ?_)
          | (refine Great.wpList_buildSliceTo rfl 25 45 1 #[(0, .tmp 31)] rfl wr.heap.size rfl (some 32) rfl Try.underlying25 (nodeA noTN) (Eq.trans (by kernel_rfl) (slice_tn noTN)) ?_)
          | (at_builtin; refine wpList_append_own_at _ rfl (.tmp 30) (.tmp 32) 25 rfl W1.heap.size 45 i0 (.agg (nodeA noTN)) 26 200 Try.underlying25 hi0 hz0 hz1 hz2 rfl (by decide) _ _ _ rfl (HO.out.alloc _) ⟨wr.heap.size, 0, none⟩ 1 1 (nodeA noTN).toList rfl rfl (World.news_of_block (heap_alloc_new wr _)) (nodeA_mem noTN) (by unfold maxLen; omega) (by omega) (by rw [World.size_alloc]; omega) ?_; intro v2 w2 hown hgrow hnil hat; have HOW := Lib.hid hown; have HGR := Lib.hid (Gro.append hgrow hat); clear hown hgrow hnil hat))
        have HO2 : Hid (w2.ownsRow W1.heap.size 45 26 v2 (i + 1) (cellsT (List.replicate (i + 1) noTN))) := by
          show World.ownsRow _ _ _ _ _ _ _
          rw [List.replicate_succ', cellsT_app, cellsT_one]
          exact HOW.out
        have HB2 : Hid (Below W1.heap.size W1 w2) := HBr.out.trans (HGR.out.below hws (fun g hg => (HO.out.lt g hg).1))
        clear HOW HGR HO HBr HNB
        go_roundw
        case rel => exact ⟨i + 1, by omega, by go_num, HO2, HB2⟩
        case measure => simp [intOf]; omega
      · obtain rfl : i = gap := by omega
        have g1 : ¬ (i : Int) < i := by omega
        have hws : W1.heap.size ≤ wr.heap.size := HBr.out.size
        have hbd : ([] : List RN).length + (H + 1) * l.length ≤ 100000 := by
          rw [HNN.out]
          have : (H + 1) * N ≤ 9 * N := Nat.mul_le_mul_right _ (by omega)
          simp
          omega
        have CB := build_c H wr wr.heap.size (.slice none 0 0) (.slice la N lc) [] l (World.ownsRow_nil _ _ _ _) (Nat.le_refl _) (HL.out.below (HB.out.trans (HBr.out.mono (by omega)))) (fun g hg => by cases hg) HNE.out HU.out HAg.out hH8 hbd
        have hRl := tree_len H 0 l HNE.out HU.out HAg.out
        have hRk := tree_kids H 0 l
        have hRne : treeL H 0 l ≠ [] := by
          obtain ⟨H', rfl⟩ : ∃ H', H = H' + 1 := ⟨H - 1, by omega⟩
          simp [treeL]
        unfold BuildP at CB
        rw [List.nil_append, List.length_nil] at CB
        obtain ⟨R, hR⟩ : ∃ R, treeL H 0 l = R := ⟨_, rfl⟩
        rw [hR] at CB hRl hRk hRne
        obtain ⟨M, hM⟩ : ∃ M, R.length = M := ⟨_, rfl⟩
        have hM9 : M ≤ 9000 := by
          rw [← hM]
          rw [HNN.out] at hRl
          have : (H + 1) * N ≤ 9 * N := Nat.mul_le_mul_right _ (by omega)
          omega
        have HRK : Hid (∀ n, n ∈ R → ∀ d, d < 16 → -1 ≤ n.kids d ∧ n.kids d ≤ 9000) := fun n hn d hd => by
          have := hRk n hn d hd
          rw [hM] at this
          omega
        have HCB := Lib.hid CB
        have HR := Lib.hid hR
        have HM := Lib.hid hM
        have HRN := Lib.hid hRne
        clear CB hRl hRk hRne hR hM HNB hbd
        go_wp2_with (go_at_call 26; refine HCB.out.mono ?_; rintro e wb ⟨nv, rfl, hon, hgn⟩; have HON := Lib.hid hon; have HGN := Lib.hid hgn; clear hon hgn)
        have hbb : Below wr.heap.size wr wb := HGN.out.below (Nat.le_refl _) (fun g hg => by cases hg)
        obtain ⟨hrn, hnd⟩ := RNRow.of_own HON.out HRN.out
        have HO2 : Hid (wb.ownsRow W1.heap.size 45 26 u9 i (cellsT (List.replicate i noTN))) := own_kept7 HO.out fun g hg => hbb.block g (HO.out.lt g hg).2
        have HB2 : Hid (Below W1.heap.size W1 wb) := HBr.out.trans (hbb.mono hws)
        have HSP : Hid (Sep u9 nv) := fun g h1 h2 => by have := (HO.out.lt g h1).2; have := hnd g h2; omega
        have HRR := Lib.hid hrn
        obtain ⟨ng, nc, hnv⟩ : ∃ ng nc, nv = .slice (some ⟨ng, 0, none⟩) M nc := by
          obtain ⟨g, c, h, _⟩ := hrn
          rw [HM.out] at h
          exact ⟨g, c, h⟩
        subst hnv
        have hws2 : W1.heap.size ≤ wb.heap.size := HB2.out.size
        clear hbb hrn hnd HON HGN HCB HO HBr
        go_loopw [9, 13] (fun sv iv wr => ∃ (j : Nat), j ≤ M ∧ iv = .int .i64 j ∧ Hid (wr.ownsRow W1.heap.size 45 26 sv (i + j) (cellsT (List.replicate i noTN ++ (R.take j).map (conv i)))) ∧ Hid (Below W1.heap.size W1 wr) ∧ Hid (RNRow wr (.slice (some ⟨ng, 0, none⟩) M nc) R) ∧ Hid (Sep sv (.slice (some ⟨ng, 0, none⟩) M nc))) (fun _ iv _ => M - (intOf iv).toNat)
        case atStart => exact ⟨0, Nat.zero_le _, rfl, by show World.ownsRow _ _ _ _ _ _ _; rw [List.take_zero, List.map_nil, List.append_nil]; exact HO2.out, HB2, HRR, HSP⟩
        case round =>
          obtain ⟨j, hj, rfl, HOj, HBj, HRj, HSj⟩ := hrel
          clear HO2 HB2 HRR HSP
          by_cases hjm : j < M
          · have g3 : (j : Int) < M := by omega
            have g4 : (0 : Int) ≤ j := by omega
            obtain ⟨n, hn⟩ : ∃ n, R[j]? = some n := ⟨_, List.getElem?_eq_getElem (by rw [HM.out]; exact hjm)⟩
            have hrg : wr.rangeAt ng (j * 21) (rnA n).toList ∧ ng < wr.heap.size := by
              obtain ⟨g, c, he, hlt, hr⟩ := HRj.out
              cases he
              exact ⟨hr j n hn, hlt⟩
            have hng := hrg.2
            have HNR := Lib.hid hrg.1
            have hkn := HRK.out n (List.mem_of_getElem? hn)
            have HKN := Lib.hid hkn
            have k0 : wr.cell? ⟨ng, j * 21, none⟩ = some (.bool n.leaf) := hrg.1 0 _ rfl
            have k1 : wr.cell? ⟨ng, j * 21 + 1, none⟩ = some (.int .i64 n.cnt) := hrg.1 1 _ rfl
            have HBT := Lib.hid (built_tbr n.cnt)
            have HBN0 : Hid (Bn7 (wr.alloc (.cells (nodeA ⟨1, n.cnt, fun _ => 0, noR⟩) 45)) wr.heap.size ⟨1, n.cnt, fun _ => 0, noR⟩) := heap_alloc_new wr _
            have HBB0 : Hid (Below wr.heap.size wr (wr.alloc (.cells (nodeA ⟨1, n.cnt, fun _ => 0, noR⟩) 45))) := (Below.refl _ _).alloc (Nat.le_refl _) _
            have HN := Lib.hid hn
            obtain ⟨sa, sc, hsv⟩ := own_form HOj.out
            subst hsv
            clear hrg hkn hn
            go_upto_region 14 with (first
              | (refine wpList_build_as rfl 45 #[(0, .const (.int .u8 1)), (1, .tmp 51)] rfl (nodeA ⟨1, n.cnt, fun _ => 0, noR⟩) (Eq.trans (by kernel_rfl) HBT.out) ?_)
              | (refine wpList_store_row rfl 45 (.tmp 14) (.tmp 52) rfl wr.heap.size (nodeA ⟨1, n.cnt, fun _ => 0, noR⟩) rfl rfl 45 (nodeA noTN) (heap_alloc_new _ _) sizeNode rfl (nodeA_one _) ?_))
            refine (show Code.wp _ _ _ _ ((wr.alloc (.cells (nodeA noTN) 45)).setRow wr.heap.size (nodeA ⟨1, n.cnt, fun _ => 0, noR⟩)) from ?_)
            rw [World.setRow_alloc_new]
            obtain ⟨w4, hw4⟩ : ∃ w4, wr.alloc (.cells (nodeA ⟨1, n.cnt, fun _ => 0, noR⟩) 45) = w4 := ⟨_, rfl⟩
            rw [hw4] at HBN0 HBB0 ⊢
            clear hw4 k0 k1 HBT
            have HSI0 : Hid (SI W1 i j R (.slice sa (i + j) sc) (.slice (some ⟨ng, 0, none⟩) M nc) wr.heap.size w4) :=
              ⟨own_kept7 HOj.out fun g hg => HBB0.out.block g (HOj.out.lt g hg).2, HRj.out.below HBB0.out, HBj.out.trans (HBB0.out.mono HBj.out.size), HSj.out, fun e => by have := (HOj.out.lt _ e).2; omega, fun e => by have := HRj.out.lt _ e; omega, HBj.out.size⟩
            obtain ⟨B, hB⟩ : ∃ B, wr.heap.size = B := ⟨_, rfl⟩
            rw [hB] at HBN0 HSI0 hng ⊢
            have hB4 : B < w4.heap.size := HBN0.out.lt
            clear HOj HBj HRj HSj HNR HBB0 hB
            have RD : Hid (∀ w, SI W1 i j R (.slice sa (i + j) sc) (.slice (some ⟨ng, 0, none⟩) M nc) B w → w.rangeAt ng (j * 21) (rnA n).toList ∧ ng < w.heap.size) := fun w h => by
              obtain ⟨g, c, he, hlt, hr⟩ := h.rn
              cases he
              exact ⟨hr j n HN.out, hlt⟩
            obtain ⟨hrg, hng4⟩ := RD.out w4 HSI0.out
            have k0 : w4.cell? ⟨ng, j * 21, none⟩ = some (.bool n.leaf) := hrg 0 _ rfl
            have LF0 : Hid (∀ b, n.leaf = b → n.leaf = b) := fun b h => h
            cases hlf : n.leaf with
            | true =>
              rw [hlf] at k0
              have kr0 : w4.cell? ⟨ng, j * 21 + 18, none⟩ = some (.int .u32 n.rc.uid) := hrg 18 _ rfl
              have kr1 : w4.cell? ⟨ng, j * 21 + 18 + 1, none⟩ = some (.int .u8 n.rc.fl) := hrg 19 _ rfl
              have kr2 : w4.cell? ⟨ng, j * 21 + 18 + 2, none⟩ = some (.string n.rc.tx) := hrg 20 _ rfl
              have C7 := Lib.hid (own7_c n.rc w4)
              have HBL := Lib.hid (built_tleaf n.rc)
              have HCL := Lib.hid (conv_leaf (i := i) hlf)
              have HS1 := Lib.hid (slice_tn ⟨2, 0, fun _ => 0, n.rc⟩)
              have LF := Lib.hid hlf
              clear hrg hlf HKN LF0
              unfold rV at C7 HBL
              go_upto_region 16 with (first
                | (go_at_call 27; refine C7.out.mono ?_; rintro e w5 ⟨rfl, hb5⟩; have HB5 := Lib.hid hb5; clear hb5)
                | (refine wpList_build_as rfl 45 #[(0, .const (.int .u8 2)), (3, .tmp 63)] rfl (nodeA ⟨2, 0, fun _ => 0, n.rc⟩) (Eq.trans (by kernel_rfl) HBL.out) ?_)
                | (refine wpList_store_row rfl 45 (.tmp 14) (.tmp 64) rfl B (nodeA ⟨2, 0, fun _ => 0, n.rc⟩) rfl rfl 45 (nodeA ⟨1, n.cnt, fun _ => 0, noR⟩) (HBN0.out.below HB5.out hB4) sizeNode rfl (nodeA_one _) ?_))
              have HSI6 := Lib.hid (HSI0.out.grown ((grown_below HB5.out (some B)).trans (grown_setRow w5 B (nodeA ⟨2, 0, fun _ => 0, n.rc⟩))))
              have hbn6 : Bn7 (w5.setRow B (nodeA ⟨2, 0, fun _ => 0, n.rc⟩)) B ⟨2, 0, fun _ => 0, n.rc⟩ := setRow_heap _ _ _ _ _ _ (HBN0.out.below HB5.out hB4)
              obtain ⟨w6, hw6⟩ : ∃ w6, w5.setRow B (nodeA ⟨2, 0, fun _ => 0, n.rc⟩) = w6 := ⟨_, rfl⟩
              rw [hw6] at HSI6 hbn6 ⊢
              obtain ⟨hrg6, hng6⟩ := RD.out w6 HSI6.out
              have k6 : w6.cell? ⟨ng, j * 21, none⟩ = some (.bool true) := by rw [← LF.out]; exact hrg6 0 _ rfl
              have HBR := Lib.hid hbn6.range
              have hb6 : B < w6.heap.size := hbn6.lt
              clear hw6 hrg6 HB5 HBN0 HSI0 k0 kr0 kr1 kr2 hng4 hB4 C7 HBL hbn6
              go_wp2_with fail
              go_loopw [15] (fun kv wr => kv = .int .i64 0 ∧ wr = w6) (fun _ _ => 0)
              case atStart => exact ⟨rfl, rfl⟩
              case round =>
                obtain ⟨rfl, hwr⟩ := hrel
                rw [hwr]
                clear hwr wr
                obtain ⟨wr, hwr⟩ : ∃ wr, w6 = wr := ⟨_, rfl⟩
                rw [hwr] at HSI6 k6 HBR hb6 hng6 ⊢
                clear hwr
                have HSI := HSI6
                have hwsr : W1.heap.size ≤ wr.heap.size := HSI.out.bl.size
                go_wp2_with (first
                  | (refine wpList_load_mid rfl 45 (.tmp 14) rfl B 0 rfl (nodeA ⟨2, 0, fun _ => 0, n.rc⟩).toList _ HBR.out Try.underlying45 rfl sizeNode ?_)
                  | (refine Great.wpList_buildSliceTo rfl 25 45 1 #[(0, .tmp 101)] rfl wr.heap.size rfl (some 102) rfl Try.underlying25 (nodeA ⟨2, 0, fun _ => 0, n.rc⟩) (Eq.trans (by kernel_rfl) HS1.out) ?_)
                  | (at_builtin; refine wpList_append_own_at _ rfl (.tmp 100) (.tmp 102) 25 rfl W1.heap.size 45 i0 (.agg (nodeA noTN)) 26 200 Try.underlying25 hi0 hz0 hz1 hz2 rfl (by decide) _ _ _ rfl (HSI.out.own.alloc _) ⟨wr.heap.size, 0, none⟩ 1 1 (nodeA ⟨2, 0, fun _ => 0, n.rc⟩).toList rfl rfl (World.news_of_block (heap_alloc_new wr _)) (nodeA_mem ⟨2, 0, fun _ => 0, n.rc⟩) (by unfold maxLen; omega) (by omega) (by rw [World.size_alloc]; omega) ?_; intro v2 w2 hown hgrow hnil hat; have HOW := Lib.hid hown; have HGR := Lib.hid (Gro.append hgrow hat); clear hown hgrow hnil hat))
                have HNX := Lib.hid (HSI.out.next HN.out (by rw [HCL.out]; exact HOW.out) HGR.out)
                clear HOW HGR HSI HSI6 HBR k6
                go_roundw
                case rel => exact ⟨j + 1, by omega, by go_num, HNX.out.1, HNX.out.2.1, HNX.out.2.2.1, HNX.out.2.2.2⟩
                case measure => simp [intOf]; omega
            | false =>
              rw [hlf] at k0
              have HS1 := Lib.hid (slice_tn (boxT i n 16))
              have HCL := Lib.hid (boxT_all (i := i) hlf)
              have HB00 : Hid (Bn7 w4 B (boxT i n 0)) := HBN0.out
              have LF := Lib.hid hlf
              clear hrg hlf HBN0 LF0
              go_wp2_with fail
              go_loopw [15] (fun kv wr => ∃ (k : Nat), k ≤ 16 ∧ kv = .int .i64 k ∧ Hid (SI W1 i j R (.slice sa (i + j) sc) (.slice (some ⟨ng, 0, none⟩) M nc) B wr) ∧ Hid (Bn7 wr B (boxT i n k))) (fun kv _ => 16 - (intOf kv).toNat)
              case atStart => exact ⟨0, Nat.zero_le _, rfl, HSI0, HB00⟩
              case round =>
                obtain ⟨k, hk, rfl, HSI, HBk⟩ := hrel
                clear HSI0 HB00 k0 hng4 hB4
                obtain ⟨hrg, hng4⟩ := RD.out wr HSI.out
                have k0 : wr.cell? ⟨ng, j * 21, none⟩ = some (.bool false) := by rw [← LF.out]; exact hrg 0 _ rfl
                have hB4 : B < wr.heap.size := HBk.out.lt
                have hwsr : W1.heap.size ≤ wr.heap.size := HSI.out.bl.size
                by_cases hk16 : k < 16
                · have g5 : (k : Int) < 16 := by omega
                  have g6 : (0 : Int) ≤ k := by omega
                  have k2 : wr.cell? ⟨ng, j * 21 + 2 + k, none⟩ = some (.int .i64 (n.kids k)) := by rw [Nat.add_assoc]; exact hrg (2 + k) _ (by simpa using rnA_at n k hk16)
                  obtain ⟨b1, b2⟩ := HBk.out.cell k hk16
                  have hxb := HKN.out k hk16
                  obtain ⟨x, hx⟩ : ∃ x, n.kids k = x := ⟨_, rfl⟩
                  have HBk1 := Lib.hid (HBk.out.set k hk16 (n.kids k))
                  have HSI1 := Lib.hid (HSI.out.grown (grown_setCell wr B (2 + k) (.int .i64 (n.kids k))))
                  have HX := Lib.hid hx
                  rw [hx] at k2 hxb HBk1 HSI1
                  clear hrg hx HS1 HCL
                  go_upto_region 20 with fail
                  obtain ⟨w7, hw7⟩ : ∃ w7, wr.setCell ⟨B, 2 + k, none⟩ (.int .i64 x) = w7 := ⟨_, rfl⟩
                  rw [hw7] at HBk1 HSI1 ⊢
                  obtain ⟨b3, b4⟩ := HBk1.out.cell k hk16
                  have b5 : ((boxT i n k).put k x).kids k = x := by show (if k = k then x else _) = x; rw [if_pos rfl]
                  rw [b5] at b3
                  have hB7 : B < w7.heap.size := HBk1.out.lt
                  clear hw7 b1 b2 b5 k2 k0 hng4
                  by_cases hx0 : 0 ≤ x
                  · have g7 : (0 : Int) ≤ x := hx0
                    have HBk2 : Hid (Bn7 (w7.setCell ⟨B, 2 + k, none⟩ (.int .i64 (x + i))) B (boxT i n (k + 1))) := by
                      show Bn7 _ _ _
                      rw [← boxT_pos (i := i) (n := n) (k := k) (by rw [HX.out]; exact hx0), HX.out]
                      exact HBk1.out.set k hk16 (x + i)
                    have HSI2 := Lib.hid (HSI1.out.grown (grown_setCell w7 B (2 + k) (.int .i64 (x + i))))
                    clear HBk1 HSI1 HBk HSI
                    go_wp2_with fail
                    go_roundw
                    case rel => exact ⟨k + 1, by omega, by go_num, HSI2, HBk2⟩
                    case measure => simp [intOf]; omega
                  · have g7 : ¬ (0 : Int) ≤ x := hx0
                    have HBk2 : Hid (Bn7 w7 B (boxT i n (k + 1))) := by
                      show Bn7 _ _ _
                      rw [← boxT_neg (i := i) (n := n) (k := k) (by rw [HX.out]; exact hx0), HX.out]
                      exact HBk1.out
                    clear HBk1 HBk HSI
                    go_wp2_with fail
                    go_roundw
                    case rel => exact ⟨k + 1, by omega, by go_num, HSI1, HBk2⟩
                    case measure => simp [intOf]; omega
                · obtain rfl : k = 16 := by omega
                  have g5 : ¬ (16 : Int) < 16 := by omega
                  have HBR := Lib.hid HBk.out.range
                  clear hrg k0 HBk
                  go_wp2_with (first
                    | (refine wpList_load_mid rfl 45 (.tmp 14) rfl B 0 rfl (nodeA (boxT i n 16)).toList _ HBR.out Try.underlying45 rfl sizeNode ?_)
                    | (refine Great.wpList_buildSliceTo rfl 25 45 1 #[(0, .tmp 101)] rfl wr.heap.size rfl (some 102) rfl Try.underlying25 (nodeA (boxT i n 16)) (Eq.trans (by kernel_rfl) HS1.out) ?_)
                    | (at_builtin; refine wpList_append_own_at _ rfl (.tmp 100) (.tmp 102) 25 rfl W1.heap.size 45 i0 (.agg (nodeA noTN)) 26 200 Try.underlying25 hi0 hz0 hz1 hz2 rfl (by decide) _ _ _ rfl (HSI.out.own.alloc _) ⟨wr.heap.size, 0, none⟩ 1 1 (nodeA (boxT i n 16)).toList rfl rfl (World.news_of_block (heap_alloc_new wr _)) (nodeA_mem (boxT i n 16)) (by unfold maxLen; omega) (by omega) (by rw [World.size_alloc]; omega) ?_; intro v2 w2 hown hgrow hnil hat; have HOW := Lib.hid hown; have HGR := Lib.hid (Gro.append hgrow hat); clear hown hgrow hnil hat))
                  have HNX := Lib.hid (HSI.out.next HN.out (by rw [← HCL.out]; exact HOW.out) HGR.out)
                  clear HOW HGR HSI HBR
                  go_roundw
                  case rel => exact ⟨j + 1, by omega, by go_num, HNX.out.1, HNX.out.2.1, HNX.out.2.2.1, HNX.out.2.2.2⟩
                  case measure => simp [intOf]; omega
          · obtain rfl : j = M := by omega
            have g3 : ¬ (j : Int) < j := by omega
            have htk : R.take j = R := List.take_of_length_le (by rw [HM.out]; exact Nat.le_refl _)
            rw [htk] at HOj
            have hD0 : W.heap.size < W1.heap.size := by omega
            have hTB := HTB.out.below HBj.out hD0
            obtain ⟨c0, c1⟩ := hTB.cell
            obtain ⟨f0, f1⟩ := hTB.free
            have hlt2 := hTB.lt
            have hne : ∀ g, u9.ownBlock = some g → g ≠ W.heap.size := fun g hgg => by have := (HOj.out.lt g hgg).1; omega
            have HT2 := Lib.hid (hTB.set i H)
            have hWr := HB.out.trans (HBj.out.mono (Nat.le_of_lt hD0))
            have HB2 := Lib.hid ((hWr.setCell (p := ⟨W.heap.size, 0, none⟩) (Nat.le_refl _) (.int .i64 i)).setCell (p := ⟨W.heap.size, 1, none⟩) (Nat.le_refl _) (.int .i64 H))
            have HO2 : Hid (((wr.setCell ⟨W.heap.size, 0, none⟩ (.int .i64 i)).setCell ⟨W.heap.size, 1, none⟩ (.int .i64 H)).ownsRow W1.heap.size 45 26 u9 (i + j) (cellsT (List.replicate i noTN ++ R.map (conv i)))) :=
              ownsRow_setCell_other (ownsRow_setCell_other HOj.out (fun e => hne _ e rfl) _) (fun e => hne _ e rfl) _
            have hlen : (List.replicate i noTN ++ R.map (conv i)).length = i + j := by rw [List.length_append, List.length_replicate, List.length_map, HM.out]
            have HSR : Hid (ShelfRow ((wr.setCell ⟨W.heap.size, 0, none⟩ (.int .i64 i)).setCell ⟨W.heap.size, 1, none⟩ (.int .i64 H)) u9 (List.replicate i noTN ++ R.map (conv i))) := by
              refine ShelfRow.of_own (D := W1.heap.size) ?_
              rw [hlen]
              exact HO2.out
            have HIS : Hid (StandIs i more l (List.replicate i noTN ++ R.map (conv i)) i H) := .inr ⟨HNE.out, HHD.out, rfl, by rw [HR.out]⟩
            clear htk HOj HBj HRj HSj hTB hne hWr HO2 hlen
            go_wp2_with fail
            exact bodyPost_ret (results_stand _ _ _ _ _ _ HT2.out rfl rfl) rfl ⟨_, _, _, H, rfl, HSR.out, HB2.out, HIS.out⟩
end Go.Proofs.Ytdelhpogacccjaa

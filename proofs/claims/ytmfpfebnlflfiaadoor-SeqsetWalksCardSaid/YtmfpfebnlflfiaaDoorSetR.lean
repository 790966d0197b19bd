/-
  The set of a text, by the document: contract.
-/
import Derived.Test.YtmfpfebnlflfiaaDoorSplit
import Derived.Deep.Onto
set_option linter.unusedVariables false
set_option linter.unusedSimpArgs false
namespace Go.Proofs.YtmfpfebnlflfiaaDoor
open Go Go.RowKit

theorem splitB_part {c : UInt8} : ∀ {l : List UInt8} {p : List UInt8}, p ∈ splitB c l → p.length ≤ l.length
  | [], p, h => by simp [splitB] at h; simp [h]
  | x :: r, p, h => by
    by_cases hx : x = c
    · rw [splitB, if_pos hx] at h
      rcases List.mem_cons.1 h with rfl | h
      · simp
      · have := splitB_part h; simp; omega
    · rw [splitB, if_neg hx] at h
      cases hs : splitB c r with
      | nil => exact absurd hs (splitB_ne c r)
      | cons a t =>
        rw [hs] at h
        rcases List.mem_cons.1 h with rfl | h
        · have : a ∈ splitB c r := by rw [hs]; simp
          have := splitB_part this; simp; omega
        · have : p ∈ splitB c r := by rw [hs]; simp [h]
          have := splitB_part this; simp; omega

/-- The parts of a text at ':'. -/
theorem rangeOf_parts (l : List UInt8) : (∃ a, splitB 58 l = [a] ∧ rangeOf l = pair2 (endB a) (endB a)) ∨ (∃ a b, splitB 58 l = [a, b] ∧ rangeOf l = pair2 (endB a) (endB b)) ∨ (2 < (splitB 58 l).length ∧ rangeOf l = none) := by
  unfold rangeOf
  cases h : splitB 58 l with
  | nil => exact absurd h (splitB_ne _ _)
  | cons a t => cases t with
    | nil => exact .inl ⟨a, rfl, rfl⟩
    | cons b t => cases t with
      | nil => exact .inr (.inl ⟨a, b, rfl, rfl⟩)
      | cons c t => exact .inr (.inr ⟨by simp, rfl⟩)

theorem Tryd.infoRRange : (Tryd.prog.info? 89).map (fun i => (i.zero, i.size, i.bytes)) = some (some (.agg #[.int .u32 0, .int .u32 0]), 2, 8) := by kernel_rfl
theorem pair2_of {a b : Option Nat} {x y : Nat} (ha : a = some x) (hb : b = some y) : pair2 a b = some (x, y) := by subst ha hb; rfl
theorem pair2_nr {a b : Option Nat} (hb : b = none) : pair2 a b = none := by subst hb; exact pair2_none_r a
theorem pair2_nl {a b : Option Nat} (ha : a = none) : pair2 a b = none := by subst ha; rfl
theorem txt_list (l : List UInt8) : (txt l).data.toList = l := by simp [txt]
theorem drop_cons {α : Type} {l : List α} {k : Nat} (h : k < l.length) : l.drop k = l[k] :: l.drop (k + 1) := by rw [List.drop_eq_getElem_cons h]

set_option maxRecDepth 100000 in
set_option maxHeartbeats 4000000 in
theorem rqparse_c (A : ByteArray) (hA : A.size ≤ 10000) (w : World) : Calls Tryd.prog 21 #[.string A] w fun e w' => SetIs w.heap.size 89 (setOf A.data.toList) e w' ∧ Below w.heap.size w w' := by
  obtain ⟨i0, hi, hz0, hz1, hz2⟩ := info_parts Tryd.infoRRange
  obtain ⟨R, hR⟩ : ∃ R, R = setOf A.data.toList := ⟨_, rfl⟩
  obtain ⟨segs, hsegs⟩ : ∃ segs, segs = splitB 44 A.data.toList := ⟨_, rfl⟩
  have hpart : ∀ p ∈ segs, p.length ≤ 10000 := fun p hp => by rw [hsegs] at hp; have := splitB_part hp; rw [ba_len] at this; omega
  have hlen : segs.length ≤ 10001 := by rw [hsegs]; have := splitB_len 44 A.data.toList; rw [ba_len] at this; omega
  have hpos : 0 < segs.length := by rw [hsegs]; exact List.length_pos_iff.2 (splitB_ne _ _)
  rw [← hR]
  have hR2 : R = mapR segs := by rw [hR, hsegs]; rfl
  have HR := Lib.hid hR2
  have HP := Lib.hid hpart
  have HS := Lib.hid (rsplit_c A (by omega) 44 w)
  rw [← hsegs] at HS
  clear hR hR2 hsegs hpart
  go_enter Tryd.func21, Tryd.ntmps21
  go_wp2_with fail
  refine HS.out.mono ?_
  rintro e w1 ⟨⟨v1, rfl, ho1⟩, hb1⟩
  obtain ⟨N, hN⟩ : ∃ N, N = segs.length := ⟨_, rfl⟩
  rw [← hN] at ho1 hlen hpos
  obtain ⟨g, cp, rfl⟩ : ∃ g cp, v1 = .slice (some ⟨g, 0, none⟩) N cp := by
    obtain ⟨M, rfl⟩ : ∃ M, N = M + 1 := ⟨N - 1, by omega⟩
    exact ownsRow_succ ho1
  have HO1 := Lib.hid ho1
  have HB1 := Lib.hid hb1
  have HNN := Lib.hid hN
  clear ho1 hb1 hN
  go_wp2_with fail
  go_loopw [5, 6, 7, 8, 9, 10, 11] (fun t5 t6 _ _ _ _ _ wr => ∃ (k : Nat) (ad : Option Addr) (c5 : Nat) (done : List (Nat × Nat)), k ≤ N ∧ t6 = .int .i64 k ∧ t5 = .slice ad k c5 ∧
      Hid (done.length = k) ∧ Hid (R = (mapR (segs.drop k)).map (done ++ ·)) ∧ Hid (wr.ownsRow w1.heap.size 89 2 (.slice ad k c5) k (cellsP done)) ∧ Hid (Below w1.heap.size w1 wr)) (fun _ i _ _ _ _ _ _ => N - (intOf i).toNat)
  case atStart =>
    refine ⟨0, none, 0, [], by omega, rfl, rfl, rfl, ?_, World.ownsRow_nil _ _ _ _, Below.refl _ _⟩
    show R = _
    rw [HR.out, List.drop_zero]; cases mapR segs <;> simp
  case round =>
    obtain ⟨k, ad, c5, done, hk, rfl, rfl, HL, HM, HO, HB⟩ := hrel
    have HBW : Hid (Below w.heap.size w wr) := HB1.out.trans (HB.out.mono HB1.out.size)
    by_cases hlt : k < N
    · have hks : k < segs.length := by rw [← HNN.out]; exact hlt
      obtain ⟨seg, hseg⟩ : ∃ seg, seg = segs[k] := ⟨_, rfl⟩
      have hsl : seg.length ≤ 10000 := by rw [hseg]; exact HP.out _ (List.getElem_mem hks)
      have hm := HM.out
      rw [drop_cons hks, ← hseg] at hm
      have HM2 := Lib.hid hm
      have k0 : wr.cell? ⟨g, k, none⟩ = some (.string (txt seg)) := by
        rw [(own_below HO1.out HB.out).cellAt _ (by omega), hseg]; simp [cellsS, hks]
      have HSP := Lib.hid (rsplit_c (txt seg) (by rw [txt_size]; omega) 58 wr)
      rw [txt_list] at HSP
      have hq1 : (k : Int) < N := by omega
      clear hm hseg hks
      go_wp2_with fail
      refine HSP.out.mono ?_
      rintro e w2 ⟨⟨v2, rfl, ho2⟩, hb2⟩
      have HB2 : Hid (Below w1.heap.size w1 w2) := HB.out.trans (hb2.mono HB.out.size)
      have HBW2 : Hid (Below w.heap.size w w2) := HBW.out.trans (hb2.mono HBW.out.size)
      have HO2 : Hid (w2.ownsRow w1.heap.size 89 2 (.slice ad k c5) k (cellsP done)) := own_below HO.out hb2
      clear hb2 k0
      have hpl : ∀ p ∈ splitB 58 seg, p.length ≤ 10000 := fun p hp => by have := splitB_part hp; omega
      rcases rangeOf_parts seg with ⟨a, hsp, hrg⟩ | ⟨a, b, hsp, hrg⟩ | ⟨hgt, hrg⟩
      · rw [hsp] at ho2 hpl
        have hal : a.length ≤ 10000 := hpl a (by simp)
        obtain ⟨g2, cp2, rfl⟩ := ownsRow_succ (k := 0) ho2
        have k1 : w2.cell? ⟨g2, 0, none⟩ = some (.string (txt a)) := by rw [World.ownsRow.cellAt (n := 1) ho2 0 (by omega)]; rfl
        clear ho2 hpl hsp
        have HEA := Lib.hid (rend_c (txt a) (by rw [txt_size]; omega) w2)
        have HEZ := Lib.hid (rend_c (txt a) (by rw [txt_size]; omega) w2)
        rw [txt_list] at HEA HEZ
        have HRG := Lib.hid hrg
        clear hrg
        go_wp2_with fail
        refine HEA.out.mono ?_
        rintro e w3 ⟨h, rfl⟩
        rcases h with ⟨x, hx, hxl, rfl⟩ | ⟨hx, x, hxl, rfl⟩
        · have HX := Lib.hid hx
          clear hx
          go_wp2_with fail
          refine HEZ.out.mono ?_
          rintro e w3 ⟨h, rfl⟩
          rcases h with ⟨y, hy, hyl, rfl⟩ | ⟨hy, y, hyl, rfl⟩
          · have HRN := Lib.hid (setStep HM2.out (x := (x, y)) (HRG.out.trans (pair2_of HX.out hy)))
            have hls := HB2.out.size
            clear hy
            go_wp2_with (at_builtin; refine wpList_append_own _ rfl (.tmp 51) (.tmp 55) 47 rfl w1.heap.size 89 i0 (.agg #[.int .u32 0, .int .u32 0]) 2 8 Tryd.underlying47 hi hz0 hz1 hz2 rfl (by decide) _ _ _ rfl (HO2.out.alloc _) ⟨w2.heap.size, 0, none⟩ 1 1 [.int .u32 x, .int .u32 y] rfl rfl (cell_two_new _ _ _ _) (fun x hx => by simp at hx; rcases hx with rfl | rfl <;> rfl) (by unfold maxLen; omega) (by omega) (by simp; omega) ?_)
            intro v' w4 hown4 hgrow4 _
            have hb4 : Below w1.heap.size w1 w4 := Below.grown (HB2.out.alloc hls _) hgrow4 (by simp; omega) (fun j hj => (HO2.out.lt _ hj).1)
            obtain ⟨ad4, cp4, rfl⟩ := own_form hown4
            have HO4 := Lib.hid hown4
            have HB4 := Lib.hid hb4
            clear hown4 hgrow4 hb4
            go_wp2_with fail
            go_roundw
            case rel =>
              refine ⟨k + 1, ad4, cp4, done ++ [(x, y)], by omega, by go_num, rfl, by show (done ++ [(x, y)]).length = k + 1; rw [List.length_append, HL.out]; rfl, HRN.out, ?_, HB4.out⟩
              show World.ownsRow _ _ _ _ _ _ _
              rw [cellsP_snoc]; exact HO4.out
            case measure => simp [intOf]; omega
          · have HRN := Lib.hid (setFail HM2.out (HRG.out.trans (pair2_nr hy)))
            clear hy
            go_wp2_with fail
            go_ret2
            exact ⟨SetIs.bad HRN.out, HBW2.out⟩
        · have HRN := Lib.hid (setFail HM2.out (HRG.out.trans (pair2_nl hx)))
          clear hx
          go_wp2_with fail
          refine HEZ.out.mono ?_
          rintro e w3 ⟨h, rfl⟩
          rcases h with ⟨y, hy, hyl, rfl⟩ | ⟨hy, y, hyl, rfl⟩
          all_goals
            clear hy
            go_wp2_with fail
            go_ret2
            exact ⟨SetIs.bad HRN.out, HBW2.out⟩
      · rw [hsp] at ho2 hpl
        have hal : a.length ≤ 10000 := hpl a (by simp)
        have hbl : b.length ≤ 10000 := hpl b (by simp)
        obtain ⟨g2, cp2, rfl⟩ := ownsRow_succ (k := 1) ho2
        have k1 : w2.cell? ⟨g2, 0, none⟩ = some (.string (txt a)) := by rw [World.ownsRow.cellAt (n := 2) ho2 0 (by omega)]; rfl
        have k2 : w2.cell? ⟨g2, 1, none⟩ = some (.string (txt b)) := by rw [World.ownsRow.cellAt (n := 2) ho2 1 (by omega)]; rfl
        clear ho2 hpl hsp
        have HEA := Lib.hid (rend_c (txt a) (by rw [txt_size]; omega) w2)
        have HEZ := Lib.hid (rend_c (txt b) (by rw [txt_size]; omega) w2)
        rw [txt_list] at HEA HEZ
        have HRG := Lib.hid hrg
        clear hrg
        go_wp2_with fail
        refine HEA.out.mono ?_
        rintro e w3 ⟨h, rfl⟩
        rcases h with ⟨x, hx, hxl, rfl⟩ | ⟨hx, x, hxl, rfl⟩
        · have HX := Lib.hid hx
          clear hx
          go_wp2_with fail
          refine HEZ.out.mono ?_
          rintro e w3 ⟨h, rfl⟩
          rcases h with ⟨y, hy, hyl, rfl⟩ | ⟨hy, y, hyl, rfl⟩
          · have HRN := Lib.hid (setStep HM2.out (x := (x, y)) (HRG.out.trans (pair2_of HX.out hy)))
            have hls := HB2.out.size
            clear hy
            go_wp2_with (at_builtin; refine wpList_append_own _ rfl (.tmp 51) (.tmp 55) 47 rfl w1.heap.size 89 i0 (.agg #[.int .u32 0, .int .u32 0]) 2 8 Tryd.underlying47 hi hz0 hz1 hz2 rfl (by decide) _ _ _ rfl (HO2.out.alloc _) ⟨w2.heap.size, 0, none⟩ 1 1 [.int .u32 x, .int .u32 y] rfl rfl (cell_two_new _ _ _ _) (fun x hx => by simp at hx; rcases hx with rfl | rfl <;> rfl) (by unfold maxLen; omega) (by omega) (by simp; omega) ?_)
            intro v' w4 hown4 hgrow4 _
            have hb4 : Below w1.heap.size w1 w4 := Below.grown (HB2.out.alloc hls _) hgrow4 (by simp; omega) (fun j hj => (HO2.out.lt _ hj).1)
            obtain ⟨ad4, cp4, rfl⟩ := own_form hown4
            have HO4 := Lib.hid hown4
            have HB4 := Lib.hid hb4
            clear hown4 hgrow4 hb4
            go_wp2_with fail
            go_roundw
            case rel =>
              refine ⟨k + 1, ad4, cp4, done ++ [(x, y)], by omega, by go_num, rfl, by show (done ++ [(x, y)]).length = k + 1; rw [List.length_append, HL.out]; rfl, HRN.out, ?_, HB4.out⟩
              show World.ownsRow _ _ _ _ _ _ _
              rw [cellsP_snoc]; exact HO4.out
            case measure => simp [intOf]; omega
          · have HRN := Lib.hid (setFail HM2.out (HRG.out.trans (pair2_nr hy)))
            clear hy
            go_wp2_with fail
            go_ret2
            exact ⟨SetIs.bad HRN.out, HBW2.out⟩
        · have HRN := Lib.hid (setFail HM2.out (HRG.out.trans (pair2_nl hx)))
          clear hx
          go_wp2_with fail
          refine HEZ.out.mono ?_
          rintro e w3 ⟨h, rfl⟩
          rcases h with ⟨y, hy, hyl, rfl⟩ | ⟨hy, y, hyl, rfl⟩
          all_goals
            clear hy
            go_wp2_with fail
            go_ret2
            exact ⟨SetIs.bad HRN.out, HBW2.out⟩
      · obtain ⟨ad2, cp2, rfl⟩ := own_form ho2
        obtain ⟨M, hM⟩ : ∃ M, M = (splitB 58 seg).length := ⟨_, rfl⟩
        rw [← hM] at hgt ⊢
        have q2 : (2 : Int) < M := by omega
        have HRN := Lib.hid (setFail HM2.out hrg)
        clear ho2 hpl hrg hM
        go_wp2_with fail
        go_ret2
        exact ⟨SetIs.bad HRN.out, HBW2.out⟩
    · obtain rfl : k = N := by omega
      have hRR : R = some done := by
        rw [HM.out, List.drop_of_length_le (by rw [← HNN.out]; exact Nat.le_refl _)]; simp [mapR]
      have HRR := Lib.hid hRR
      clear hRR
      by_cases hl : 64 < k
      · have q64 : (64 : Int) < k := by omega
        go_wp2_with fail
        go_ret2
        exact ⟨SetIs.long HRR.out (by rw [HL.out]; exact hl), HBW.out⟩
      · have q64 : ¬ (64 : Int) < k := by omega
        go_wp2_with fail
        go_ret2
        refine ⟨SetIs.good HRR.out (by rw [HL.out]; exact hl) ?_, HBW.out⟩
        rw [HL.out]
        exact HO.out.mono HB1.out.size
end Go.Proofs.YtmfpfebnlflfiaaDoor

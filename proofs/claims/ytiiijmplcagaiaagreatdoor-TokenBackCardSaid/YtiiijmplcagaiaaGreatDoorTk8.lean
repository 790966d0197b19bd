/-
  The program's reader: quoted texts, strings: contracts.
-/
import Derived.Test.YtiiijmplcagaiaaGreatDoorTk7
import Derived.Lib.UnsafeStr
import Derived.Lib.OthersKept
import Derived.Maps.AppendAt
set_option linter.unusedVariables false
set_option linter.unusedSimpArgs false
namespace Go.Proofs.YtiiijmplcagaiaaGreatDoor
open Go Go.RowKit
variable {W : World} {g : Nat} {s : RS}

theorem Tryz.infoByte : (Tryz.prog.info? 5).map (fun i => (i.zero, i.size, i.bytes)) = some (some (.int .u8 0), 1, 1) := by kernel_rfl
theorem own_str {w : World} {base n : Nat} {v : Value} {l : List UInt8} (ho : w.ownsRow base 5 1 v n (Lib.byteCells l)) (hn : l.length = n) : (convert 37 9 v).run Tryz.prog w = .ok (.string (txt l)) w := by
  subst hn
  rcases ho.2 with ⟨rfl, h0⟩ | ⟨g, cap, cur, rfl, hg, hgg, rest⟩
  · obtain rfl : l = [] := List.length_eq_zero_iff.1 h0
    kernel_rfl
  · refine run_convert_bytes_back (P := Tryz.prog) w 37 9 5 ⟨g, 0, none⟩ cap l Tryz.underlying37 Tryz.underlying5 Tryz.underlying9 (fun j hj => ?_)
    exact ho.cells (g := g) rfl j _ (by simp [Lib.byteCells, List.getElem?_map, List.getElem?_eq_getElem hj])

theorem qd_at {l : List UInt8} {k : Nat} (hk : k < l.length) {c : UInt8} (hc : l[k] = c) :
    qd (l.drop k) = if c = 34 then some ([], l.drop (k + 1)) else if c = 13 ∨ c = 10 then none else if c = 92 then
      (match l.drop (k + 1) with | [] => none | d :: r' => if d = 34 ∨ d = 92 then (qd r').map fun x => (d :: x.1, x.2) else none) else (qd (l.drop (k + 1))).map fun x => (c :: x.1, x.2) := by
  rw [List.drop_eq_getElem_cons hk, hc]
  conv => lhs; unfold qd
  rfl
theorem qd_end {l : List UInt8} {k : Nat} (hk : l.length ≤ k) : qd (l.drop k) = none := by
  rw [List.drop_of_length_le hk]; rfl

def qS (R : Option (List UInt8 × List UInt8)) : RS := match R with | some x => ⟨x.2, false⟩ | none => .gone
def qV (R : Option (List UInt8 × List UInt8)) : List UInt8 := (R.map (·.1)).getD []

set_option maxRecDepth 100000 in
set_option maxHeartbeats 4000000 in
theorem tkquoted_c (h : PR W g s) (hf : s.f = false) (hl : s.l.length ≤ 100000) : Calls Tryz.prog 24 #[pt g] W
    (Does W g (.string (txt (qV (qd s.l.tail)))) (qS (qd s.l.tail))) := by
  obtain ⟨i0, hi, hz0, hz1, hz2⟩ := info_parts Tryz.infoByte
  obtain ⟨c0, c1, hb, f0, f1⟩ := h.facts
  have H := Lib.hid h
  obtain ⟨l, f⟩ := s
  dsimp only at hf c0 c1 hl ⊢
  subst hf
  have e1 := txt_size l
  obtain ⟨N, hN⟩ : ∃ N, l.length = N := ⟨_, rfl⟩
  obtain ⟨R, hR⟩ : ∃ R, qd l.tail = R := ⟨_, rfl⟩
  have hR1 : qd (l.drop 1) = R := by rw [← hR, List.drop_one]
  rw [hR]
  obtain ⟨X, hX⟩ : ∃ X, qV R = X := ⟨_, rfl⟩
  obtain ⟨Y, hY⟩ : ∃ Y, qS R = Y := ⟨_, rfl⟩
  rw [hX, hY]
  have HX := Lib.hid hX
  have HY := Lib.hid hY
  have hed : ∀ k, (txt l).extract k N = txt (l.drop k) := fun k => ext_drop l hN.symm
  obtain ⟨B, hB⟩ : ∃ B, txt l = B := ⟨_, rfl⟩
  have hat : ∀ k (hk : k < B.size), l[k]? = some B[k] := fun k hk => by
    subst hB
    rw [at_txt (by rw [txt_size] at hk; exact hk)]; exact List.getElem?_eq_getElem _
  simp only [hB] at hed
  rw [hB] at c0 e1
  rw [hN] at e1 hl
  have HN := Lib.hid hN
  have HR := Lib.hid hR1
  have HED := Lib.hid hed
  have HAT := Lib.hid hat
  have HB := Lib.hid hB
  clear h hN hR hR1 hed hat hB hX hY
  go_enter Tryz.func24, Tryz.ntmps24
  go_wp2_with fail
  go_step3
  go_wp2_with fail
  go_step3
  go_wp2_with fail
  clear c0 c1 f0 f1
  go_loopw [3, 4, 5, 6] (fun bv ev iv _ wr => ev = .int .i64 0 ∧ ∃ (k : Nat) (acc : List UInt8) (n : Nat), k ≤ N + 1 ∧ 1 ≤ k ∧ iv = .int .i64 k ∧ n ≤ k ∧ (∃ a c, bv = .slice a n c) ∧ Hid (acc.length = n) ∧ Hid (R = (qd (l.drop k)).map fun x => (acc ++ x.1, x.2)) ∧ Hid (wr.ownsRow W.heap.size 5 1 bv n (Lib.byteCells acc)) ∧ Hid (Below W.heap.size W wr)) (fun _ _ iv _ _ => N + 1 - (intOf iv).toNat)
  case atStart => exact ⟨rfl, 1, [], 0, by omega, Nat.le_refl _, rfl, Nat.zero_le _, ⟨none, 0, rfl⟩, rfl, by show R = _; rw [HR.out]; simp, World.ownsRow_nil _ _ _ _, Below.refl _ _⟩
  case round =>
    obtain ⟨rfl, k, acc, n, hk, hk1, rfl, hnk, ⟨ba, bc, rfl⟩, HL, HM, HO, HW⟩ := hrel
    have hp := H.out.tk (Tk.of_below (g := g + 1) HW.out) (by omega)
    obtain ⟨c0, c1, hbr, f0, f1⟩ := hp.facts
    dsimp only at c0 c1
    rw [HB.out] at c0
    have CF := Lib.hid (tkFail_c hp)
    have HP := Lib.hid hp
    have hsz := HW.out.size
    clear hp
    have hno : R = none → Hid ([] = X ∧ RS.gone = Y) := fun h => ⟨by rw [← HX.out, h]; rfl, by rw [← HY.out, h]; rfl⟩
    have HNO := Lib.hid hno
    clear hno
    by_cases hlt : k < N
    · have hq : (k : Int) < N := by omega
      have hq0 : (0 : Int) ≤ k := by omega
      have hkB : k < B.size := by omega
      have hc1 : B[k].toNat < 256 := B[k].toNat_lt
      obtain ⟨hkl, hkc⟩ := List.getElem?_eq_some_iff.1 (HAT.out k hkB)
      have hqd := qd_at hkl hkc
      by_cases h34 : B[k].toNat = 34
      · have ec : ((B[k].toNat : Int) == 34) = true := by rw [beq_iff_eq]; omega
        have h34' : B[k] = 34 := UInt8.toNat_inj.1 h34
        rw [if_pos h34'] at hqd
        have HQ : Hid (acc = X ∧ (⟨l.drop (k + 1), false⟩ : RS) = Y) := by
          have hRR := HM.out
          rw [hqd] at hRR
          exact ⟨by rw [← HX.out, hRR]; simp [qV], by rw [← HY.out, hRR]; rfl⟩
        have ek : ((k : Int) == 0) = false := by rw [beq_eq_false_iff_ne]; omega
        have kc : ∀ v, (wr.setCell ⟨g, 0, none⟩ v).ownsRow W.heap.size 5 1 (.slice ba n bc) n (Lib.byteCells acc) → (convert 37 9 (.slice ba n bc)).run Tryz.prog (wr.setCell ⟨g, 0, none⟩ v) = .ok (.string (txt acc)) (wr.setCell ⟨g, 0, none⟩ v) := fun v h => own_str h HL.out
        have ho : ∀ v, (wr.setCell ⟨g, 0, none⟩ v).ownsRow W.heap.size 5 1 (.slice ba n bc) n (Lib.byteCells acc) := fun v => by
          have h0 := HO.out
          refine ⟨h0.1, ?_⟩
          rcases h0.2 with hn | ⟨g', cap, cur, hv, hg', hgg, rest⟩
          · exact .inl hn
          · exact .inr ⟨g', cap, cur, hv, hg', (Below.heap_setCell wr ⟨g, 0, none⟩ v g' (by show g' ≠ g; omega)).trans hgg, rest⟩
        have kc2 := fun v => kc v (ho v)
        have hkN : (k : Int) + 1 ≤ N := by omega
        clear kc ho hqd hkc h34 h34'
        go_wp2_with fail
        rw [Exit.noGoto_ret]
        go_ret
        refine ⟨by rw [← HQ.out.1]; rfl, ?_, (Tk.of_below HW.out).trans (Tk.set _ _ _)⟩
        rw [← HQ.out.2]
        have h7 := HP.out.set0 (l.drop (k + 1))
        rw [← HED.out] at h7
        exact h7
      · have ec : ((B[k].toNat : Int) == 34) = false := by rw [beq_eq_false_iff_ne]; omega
        have h34' : B[k] ≠ 34 := fun e => h34 (by rw [e]; rfl)
        rw [if_neg h34'] at hqd
        by_cases h13 : B[k].toNat = 13
        · have ed : ((B[k].toNat : Int) == 13) = true := by rw [beq_iff_eq]; omega
          rw [if_pos (.inl (UInt8.toNat_inj.1 h13))] at hqd
          have HQ := HNO.out (by rw [HM.out, hqd]; rfl)
          clear hqd hkc h34 h34' h13
          go_wp2_with fail
          refine CF.out.mono ?_
          rintro e w6 ⟨rfl, h6, k6⟩
          have H6 := Lib.hid h6
          have K6 := Lib.hid ((Tk.of_below HW.out).trans k6)
          clear h6 k6
          go_wp2_with fail
          rw [Exit.noGoto_ret]
          go_ret
          exact ⟨by rw [← HQ.out.1]; rfl, HQ.out.2 ▸ H6.out, K6.out⟩
        · have ed : ((B[k].toNat : Int) == 13) = false := by rw [beq_eq_false_iff_ne]; omega
          by_cases h10 : B[k].toNat = 10
          · have ee : ((B[k].toNat : Int) == 10) = true := by rw [beq_iff_eq]; omega
            rw [if_pos (.inr (UInt8.toNat_inj.1 h10))] at hqd
            have HQ := HNO.out (by rw [HM.out, hqd]; rfl)
            clear hqd hkc h34 h34' h13 h10
            go_wp2_with fail
            refine CF.out.mono ?_
            rintro e w6 ⟨rfl, h6, k6⟩
            have H6 := Lib.hid h6
            have K6 := Lib.hid ((Tk.of_below HW.out).trans k6)
            clear h6 k6
            go_wp2_with fail
            rw [Exit.noGoto_ret]
            go_ret
            exact ⟨by rw [← HQ.out.1]; rfl, HQ.out.2 ▸ H6.out, K6.out⟩
          · have ee : ((B[k].toNat : Int) == 10) = false := by rw [beq_eq_false_iff_ne]; omega
            rw [if_neg (by rintro (e | e); · exact h13 (by rw [e]; rfl)
                           · exact h10 (by rw [e]; rfl))] at hqd
            by_cases h92 : B[k].toNat = 92
            · have eg : ((B[k].toNat : Int) == 92) = true := by rw [beq_iff_eq]; omega
              rw [if_pos (UInt8.toNat_inj.1 h92)] at hqd
              by_cases hlt2 : k + 1 < N
              · have eh : ((k : Int) + 1 == (N : Int)) = false := by rw [beq_eq_false_iff_ne]; omega
                have hr2 : (k : Int) + 1 < N := by omega
                have hkB2 : k + 1 < B.size := by omega
                have hc2 : B[k + 1].toNat < 256 := B[k + 1].toNat_lt
                obtain ⟨hkl2, hkc2⟩ := List.getElem?_eq_some_iff.1 (HAT.out (k + 1) hkB2)
                rw [List.drop_eq_getElem_cons hkl2, hkc2] at hqd
                dsimp only at hqd
                by_cases hd : B[k + 1].toNat = 34 ∨ B[k + 1].toNat = 92
                · rw [if_pos (by rcases hd with e | e; · exact .inl (UInt8.toNat_inj.1 e)
                                 · exact .inr (UInt8.toNat_inj.1 e))] at hqd
                  have HM2 : Hid (R = (qd (l.drop (k + 2))).map fun x => ((acc ++ [B[k + 1]]) ++ x.1, x.2)) := by
                    show R = _
                    rw [HM.out, hqd, Option.map_map]; congr 1; funext x; simp
                  rcases hd with hd | hd
                  · have ei : (B[k + 1].toNat : Int) = 34 := by omega
                    have HM2 : Hid (R = (qd (l.drop (k + 2))).map fun x => ((acc ++ [34]) ++ x.1, x.2)) := by have := HM2.out; rw [UInt8.toNat_inj.1 (show B[k + 1].toNat = (34 : UInt8).toNat from hd)] at this; exact this
                    clear hqd hkc hkc2 h34 h34' h13 h10 h92 hd
                    go_wp2_with (at_builtin; refine wpList_append_own _ rfl (.tmp 64) (.tmp 66) 37 rfl W.heap.size 5 i0 (.int .u8 0) 1 1 Tryz.underlying37 hi hz0 hz1 hz2 rfl (by decide) _ _ _ rfl (HO.out.alloc _) ⟨wr.heap.size, 0, none⟩ 1 1 [.int .u8 34] rfl rfl (cell_one_new _ _ _) (fun x hx => by simp at hx; subst hx; rfl) (by unfold maxLen; omega) (by omega) (by simp; omega) ?_)
                    intro v' w4 hown4 hgrow4 _
                    have hb4 : Below W.heap.size W w4 := Below.grown (HW.out.alloc HW.out.size _) hgrow4 (by simp; omega) (fun j hj => (HO.out.lt _ hj).1)
                    obtain ⟨a4, c4, hv4⟩ := own_form hown4
                    have HO4 : Hid (w4.ownsRow W.heap.size 5 1 v' (n + 1) (Lib.byteCells (acc ++ [34]))) := by
                      show World.ownsRow _ _ _ _ _ _ _
                      rw [Lib.byteCells_append]; exact hown4
                    have HB4 := Lib.hid hb4
                    subst hv4
                    clear hown4 hgrow4 hb4
                    go_wp2_with fail
                    go_roundw
                    case rel => exact ⟨rfl, k + 2, acc ++ [34], n + 1, by omega, by omega, by go_num, by omega, ⟨_, _, rfl⟩, by show (acc ++ [34]).length = n + 1; rw [List.length_append, HL.out]; rfl, HM2.out, HO4.out, HB4.out⟩
                    case measure => simp [intOf]; omega
                  · have ei : ¬ (B[k + 1].toNat : Int) = 34 := by omega
                    have ej : (B[k + 1].toNat : Int) = 92 := by omega
                    have HM2 : Hid (R = (qd (l.drop (k + 2))).map fun x => ((acc ++ [92]) ++ x.1, x.2)) := by have := HM2.out; rw [UInt8.toNat_inj.1 (show B[k + 1].toNat = (92 : UInt8).toNat from hd)] at this; exact this
                    have h34n : B[k + 1].toNat ≠ 34 := by omega
                    clear hqd hkc hkc2 h34 h34' h13 h10 h92 hd
                    go_wp2_with (at_builtin; refine wpList_append_own _ rfl (.tmp 64) (.tmp 66) 37 rfl W.heap.size 5 i0 (.int .u8 0) 1 1 Tryz.underlying37 hi hz0 hz1 hz2 rfl (by decide) _ _ _ rfl (HO.out.alloc _) ⟨wr.heap.size, 0, none⟩ 1 1 [.int .u8 92] rfl rfl (cell_one_new _ _ _) (fun x hx => by simp at hx; subst hx; rfl) (by unfold maxLen; omega) (by omega) (by simp; omega) ?_)
                    intro v' w4 hown4 hgrow4 _
                    have hb4 : Below W.heap.size W w4 := Below.grown (HW.out.alloc HW.out.size _) hgrow4 (by simp; omega) (fun j hj => (HO.out.lt _ hj).1)
                    obtain ⟨a4, c4, hv4⟩ := own_form hown4
                    have HO4 : Hid (w4.ownsRow W.heap.size 5 1 v' (n + 1) (Lib.byteCells (acc ++ [92]))) := by
                      show World.ownsRow _ _ _ _ _ _ _
                      rw [Lib.byteCells_append]; exact hown4
                    have HB4 := Lib.hid hb4
                    subst hv4
                    clear hown4 hgrow4 hb4
                    go_wp2_with fail
                    go_roundw
                    case rel => exact ⟨rfl, k + 2, acc ++ [92], n + 1, by omega, by omega, by go_num, by omega, ⟨_, _, rfl⟩, by show (acc ++ [92]).length = n + 1; rw [List.length_append, HL.out]; rfl, HM2.out, HO4.out, HB4.out⟩
                    case measure => simp [intOf]; omega
                · have ei : ¬ (B[k + 1].toNat : Int) = 34 := fun e => hd (.inl (by omega))
                  have ej : ¬ (B[k + 1].toNat : Int) = 92 := fun e => hd (.inr (by omega))
                  have ei2 : ((B[k + 1].toNat : Int) != 34) = true := by rw [bne_iff_ne]; exact ei
                  have ej2 : ((B[k + 1].toNat : Int) != 92) = true := by rw [bne_iff_ne]; exact ej
                  rw [if_neg (by rintro (e | e); · exact hd (.inl (by rw [e]; rfl))
                                 · exact hd (.inr (by rw [e]; rfl)))] at hqd
                  have HQ := HNO.out (by rw [HM.out, hqd]; rfl)
                  clear hqd hkc hkc2 h34 h34' h13 h10 h92 hd
                  go_wp2_with fail
                  refine CF.out.mono ?_
                  rintro e w6 ⟨rfl, h6, k6⟩
                  have H6 := Lib.hid h6
                  have K6 := Lib.hid ((Tk.of_below HW.out).trans k6)
                  clear h6 k6
                  go_wp2_with fail
                  rw [Exit.noGoto_ret]
                  go_ret
                  exact ⟨by rw [← HQ.out.1]; rfl, HQ.out.2 ▸ H6.out, K6.out⟩
              · have eh : ((k : Int) + 1 == (N : Int)) = true := by rw [beq_iff_eq]; omega
                rw [show l.drop (k + 1) = [] from List.drop_of_length_le (by rw [HN.out]; omega)] at hqd
                dsimp only at hqd
                have HQ := HNO.out (by rw [HM.out, hqd]; rfl)
                clear hqd hkc h34 h34' h13 h10 h92
                go_wp2_with fail
                refine CF.out.mono ?_
                rintro e w6 ⟨rfl, h6, k6⟩
                have H6 := Lib.hid h6
                have K6 := Lib.hid ((Tk.of_below HW.out).trans k6)
                clear h6 k6
                go_wp2_with fail
                rw [Exit.noGoto_ret]
                go_ret
                exact ⟨by rw [← HQ.out.1]; rfl, HQ.out.2 ▸ H6.out, K6.out⟩
            · have eg : ((B[k].toNat : Int) == 92) = false := by rw [beq_eq_false_iff_ne]; omega
              rw [if_neg (fun e => h92 (by rw [e]; rfl))] at hqd
              have HM2 : Hid (R = (qd (l.drop (k + 1))).map fun x => ((acc ++ [B[k]]) ++ x.1, x.2)) := by
                show R = _
                rw [HM.out, hqd, Option.map_map]; congr 1; funext x; simp
              clear hqd hkc h34 h34' h13 h10 h92
              go_wp2_with (at_builtin; refine wpList_append_own _ rfl (.tmp 64) (.tmp 66) 37 rfl W.heap.size 5 i0 (.int .u8 0) 1 1 Tryz.underlying37 hi hz0 hz1 hz2 rfl (by decide) _ _ _ rfl (HO.out.alloc _) ⟨wr.heap.size, 0, none⟩ 1 1 [.int .u8 B[k].toNat] rfl rfl (cell_one_new _ _ _) (fun x hx => by simp at hx; subst hx; rfl) (by unfold maxLen; omega) (by omega) (by simp; omega) ?_)
              intro v' w4 hown4 hgrow4 _
              have hb4 : Below W.heap.size W w4 := Below.grown (HW.out.alloc HW.out.size _) hgrow4 (by simp; omega) (fun j hj => (HO.out.lt _ hj).1)
              obtain ⟨a4, c4, hv4⟩ := own_form hown4
              have HO4 : Hid (w4.ownsRow W.heap.size 5 1 v' (n + 1) (Lib.byteCells (acc ++ [B[k]]))) := by
                show World.ownsRow _ _ _ _ _ _ _
                rw [Lib.byteCells_append]; exact hown4
              have HB4 := Lib.hid hb4
              subst hv4
              clear hown4 hgrow4 hb4
              go_wp2_with fail
              go_roundw
              case rel => exact ⟨rfl, k + 1, acc ++ [B[k]], n + 1, by omega, by omega, by go_num, by omega, ⟨_, _, rfl⟩, by show (acc ++ [B[k]]).length = n + 1; rw [List.length_append, HL.out]; rfl, HM2.out, HO4.out, HB4.out⟩
              case measure => simp [intOf]; omega
    · have hq : ¬ (k : Int) < N := by omega
      have HQ := HNO.out (by rw [HM.out, qd_end (by rw [HN.out]; omega)]; rfl)
      go_wp2_with fail
      refine CF.out.mono ?_
      rintro e w6 ⟨rfl, h6, k6⟩
      have H6 := Lib.hid h6
      have K6 := Lib.hid ((Tk.of_below HW.out).trans k6)
      clear h6 k6
      go_wp2_with fail
      rw [Exit.noGoto_ret]
      go_ret
      exact ⟨by rw [← HQ.out.1]; rfl, HQ.out.2 ▸ H6.out, K6.out⟩
end Go.Proofs.YtiiijmplcagaiaaGreatDoor

/-
  The program's reader: quoted texts, strings: contracts.
  The program's reader: strings: contract; the chapter's examples.
  isAtom: contract.
  A region that draws its order, by what holds behind whichever of its operations have come up: a case for each operation, not for each order.
  The chapter's examples; the law TokenGivesUp: its walk.
-/
import Derived.Test.YtdpmnmiimfhlhaaGreatDoorZL05
import Derived.Test.YtdpmnmiimfhlhaaGreatDoorZL07
import Derived.Lib.UnsafeStr
import Derived.Lib.OthersKept
import Derived.Maps.AppendAt
import Derived.Test.YtdpmnmiimfhlhaaGreatDoorZL06
import Derived.Orders
import Derived.RegionTactic
import Derived.Deep.RegionHeld
import Derived.Test.YtdpmnmiimfhlhaaGreatDoorProg
set_option linter.unusedVariables false
set_option linter.unusedSimpArgs false
namespace Go.Proofs.YtdpmnmiimfhlhaaGreatDoor
open Go Go.RowKit
variable {W : World} {g : Nat} {s : RS}

theorem own_str {w : World} {base n : Nat} {v : Value} {l : List UInt8} (ho : w.ownsRow base 5 1 v n (Lib.byteCells l)) (hn : l.length = n) : (convert 97 9 v).run Tryz.prog w = .ok (.string (txt l)) w := by
  subst hn
  rcases ho.2 with ⟨rfl, h0⟩ | ⟨g, cap, cur, rfl, hg, hgg, rest⟩
  · obtain rfl : l = [] := List.length_eq_zero_iff.1 h0
    kernel_rfl
  · refine run_convert_bytes_back (P := Tryz.prog) w 97 9 5 ⟨g, 0, none⟩ cap l Tryz.underlying97 Tryz.underlying5 Tryz.underlying9 (fun j hj => ?_)
    exact ho.cells (g := g) rfl j _ (by simp [Lib.byteCells, List.getElem?_map, List.getElem?_eq_getElem hj])

theorem qd_at {l : List UInt8} {k : Nat} (hk : k < l.length) {c : UInt8} (hc : l[k] = c) :
    qd (l.drop k) = if c = 34 then some ([], l.drop (k + 1)) else if c = 13 ∨ c = 10 then none else if c = 92 then
      (match l.drop (k + 1) with | [] => none | d :: r' => if d = 34 ∨ d = 92 then (qd r').map fun x => (d :: x.1, x.2) else none) else (qd (l.drop (k + 1))).map fun x => (c :: x.1, x.2) := by
  rw [List.drop_eq_getElem_cons hk, hc]
  conv => lhs; unfold qd
  rfl
theorem qd_end {l : List UInt8} {k : Nat} (hk : l.length ≤ k) : qd (l.drop k) = none := by
  rw [List.drop_of_length_le hk]; rfl

def qS (R : Option (List UInt8 × List UInt8)) : RS := match R with | some x => ⟨x.2, false⟩ | none => .gone
def qV (R : Option (List UInt8 × List UInt8)) : List UInt8 := (R.map (·.1)).getD []

set_option maxRecDepth 100000 in
set_option maxHeartbeats 4000000 in
theorem tkquoted_c (h : PR W g s) (hf : s.f = false) (hl : s.l.length ≤ 100000) : Calls Tryz.prog 183 #[pt g] W
    (Does W g (.string (txt (qV (qd s.l.tail)))) (qS (qd s.l.tail))) := by
  obtain ⟨i0, hi, hz0, hz1, hz2⟩ := info_parts Tryz.infoByte
  obtain ⟨c0, c1, hb, f0, f1⟩ := h.facts
  have H := Lib.hid h
  obtain ⟨l, f⟩ := s
  dsimp only at hf c0 c1 hl ⊢
  subst hf
  have e1 := txt_size l
  obtain ⟨N, hN⟩ : ∃ N, l.length = N := ⟨_, rfl⟩
  obtain ⟨R, hR⟩ : ∃ R, qd l.tail = R := ⟨_, rfl⟩
  have hR1 : qd (l.drop 1) = R := by rw [← hR, List.drop_one]
  rw [hR]
  obtain ⟨X, hX⟩ : ∃ X, qV R = X := ⟨_, rfl⟩
  obtain ⟨Y, hY⟩ : ∃ Y, qS R = Y := ⟨_, rfl⟩
  rw [hX, hY]
  have HX := Lib.hid hX
  have HY := Lib.hid hY
  have hed : ∀ k, (txt l).extract k N = txt (l.drop k) := fun k => ext_drop l hN.symm
  obtain ⟨B, hB⟩ : ∃ B, txt l = B := ⟨_, rfl⟩
  have hat : ∀ k (hk : k < B.size), l[k]? = some B[k] := fun k hk => by
    subst hB
    rw [at_txt (by rw [txt_size] at hk; exact hk)]; exact List.getElem?_eq_getElem _
  simp only [hB] at hed
  rw [hB] at c0 e1
  rw [hN] at e1 hl
  have HN := Lib.hid hN
  have HR := Lib.hid hR1
  have HED := Lib.hid hed
  have HAT := Lib.hid hat
  have HB := Lib.hid hB
  clear h hN hR hR1 hed hat hB hX hY
  go_enter Tryz.func183, Tryz.ntmps183
  go_wp2_with fail
  go_step3
  go_wp2_with fail
  go_step3
  go_wp2_with fail
  clear c0 c1 f0 f1
  go_loopw [3, 4, 5, 6] (fun bv ev iv _ wr => ev = .int .i64 0 ∧ ∃ (k : Nat) (acc : List UInt8) (n : Nat), k ≤ N + 1 ∧ 1 ≤ k ∧ iv = .int .i64 k ∧ n ≤ k ∧ (∃ a c, bv = .slice a n c) ∧ Hid (acc.length = n) ∧ Hid (R = (qd (l.drop k)).map fun x => (acc ++ x.1, x.2)) ∧ Hid (wr.ownsRow W.heap.size 5 1 bv n (Lib.byteCells acc)) ∧ Hid (Below W.heap.size W wr)) (fun _ _ iv _ _ => N + 1 - (intOf iv).toNat)
  case atStart => exact ⟨rfl, 1, [], 0, by omega, Nat.le_refl _, rfl, Nat.zero_le _, ⟨none, 0, rfl⟩, rfl, by show R = _; rw [HR.out]; simp, World.ownsRow_nil _ _ _ _, Below.refl _ _⟩
  case round =>
    obtain ⟨rfl, k, acc, n, hk, hk1, rfl, hnk, ⟨ba, bc, rfl⟩, HL, HM, HO, HW⟩ := hrel
    have hp := H.out.tk (Tk.of_below (g := g + 1) HW.out) (by omega)
    obtain ⟨c0, c1, hbr, f0, f1⟩ := hp.facts
    dsimp only at c0 c1
    rw [HB.out] at c0
    have CF := Lib.hid (tkFail_c hp)
    have HP := Lib.hid hp
    have hsz := HW.out.size
    clear hp
    have hno : R = none → Hid ([] = X ∧ RS.gone = Y) := fun h => ⟨by rw [← HX.out, h]; rfl, by rw [← HY.out, h]; rfl⟩
    have HNO := Lib.hid hno
    clear hno
    by_cases hlt : k < N
    · have hq : (k : Int) < N := by omega
      have hq0 : (0 : Int) ≤ k := by omega
      have hkB : k < B.size := by omega
      have hc1 : B[k].toNat < 256 := B[k].toNat_lt
      obtain ⟨hkl, hkc⟩ := List.getElem?_eq_some_iff.1 (HAT.out k hkB)
      have hqd := qd_at hkl hkc
      by_cases h34 : B[k].toNat = 34
      · have ec : ((B[k].toNat : Int) == 34) = true := by rw [beq_iff_eq]; omega
        have h34' : B[k] = 34 := UInt8.toNat_inj.1 h34
        rw [if_pos h34'] at hqd
        have HQ : Hid (acc = X ∧ (⟨l.drop (k + 1), false⟩ : RS) = Y) := by
          have hRR := HM.out
          rw [hqd] at hRR
          exact ⟨by rw [← HX.out, hRR]; simp [qV], by rw [← HY.out, hRR]; rfl⟩
        have ek : ((k : Int) == 0) = false := by rw [beq_eq_false_iff_ne]; omega
        have kc : ∀ v, (wr.setCell ⟨g, 0, none⟩ v).ownsRow W.heap.size 5 1 (.slice ba n bc) n (Lib.byteCells acc) → (convert 97 9 (.slice ba n bc)).run Tryz.prog (wr.setCell ⟨g, 0, none⟩ v) = .ok (.string (txt acc)) (wr.setCell ⟨g, 0, none⟩ v) := fun v h => own_str h HL.out
        have ho : ∀ v, (wr.setCell ⟨g, 0, none⟩ v).ownsRow W.heap.size 5 1 (.slice ba n bc) n (Lib.byteCells acc) := fun v => by
          have h0 := HO.out
          refine ⟨h0.1, ?_⟩
          rcases h0.2 with hn | ⟨g', cap, cur, hv, hg', hgg, rest⟩
          · exact .inl hn
          · exact .inr ⟨g', cap, cur, hv, hg', (Below.heap_setCell wr ⟨g, 0, none⟩ v g' (by show g' ≠ g; omega)).trans hgg, rest⟩
        have kc2 := fun v => kc v (ho v)
        have hkN : (k : Int) + 1 ≤ N := by omega
        clear kc ho hqd hkc h34 h34'
        go_wp2_with fail
        rw [Exit.noGoto_ret]
        go_ret
        refine ⟨by rw [← HQ.out.1]; rfl, ?_, (Tk.of_below HW.out).trans (Tk.set _ _ _)⟩
        rw [← HQ.out.2]
        have h7 := HP.out.set0 (l.drop (k + 1))
        rw [← HED.out] at h7
        exact h7
      · have ec : ((B[k].toNat : Int) == 34) = false := by rw [beq_eq_false_iff_ne]; omega
        have h34' : B[k] ≠ 34 := fun e => h34 (by rw [e]; rfl)
        rw [if_neg h34'] at hqd
        by_cases h13 : B[k].toNat = 13
        · have ed : ((B[k].toNat : Int) == 13) = true := by rw [beq_iff_eq]; omega
          rw [if_pos (.inl (UInt8.toNat_inj.1 h13))] at hqd
          have HQ := HNO.out (by rw [HM.out, hqd]; rfl)
          clear hqd hkc h34 h34' h13
          go_wp2_with fail
          refine CF.out.mono ?_
          rintro e w6 ⟨rfl, h6, k6⟩
          have H6 := Lib.hid h6
          have K6 := Lib.hid ((Tk.of_below HW.out).trans k6)
          clear h6 k6
          go_wp2_with fail
          rw [Exit.noGoto_ret]
          go_ret
          exact ⟨by rw [← HQ.out.1]; rfl, HQ.out.2 ▸ H6.out, K6.out⟩
        · have ed : ((B[k].toNat : Int) == 13) = false := by rw [beq_eq_false_iff_ne]; omega
          by_cases h10 : B[k].toNat = 10
          · have ee : ((B[k].toNat : Int) == 10) = true := by rw [beq_iff_eq]; omega
            rw [if_pos (.inr (UInt8.toNat_inj.1 h10))] at hqd
            have HQ := HNO.out (by rw [HM.out, hqd]; rfl)
            clear hqd hkc h34 h34' h13 h10
            go_wp2_with fail
            refine CF.out.mono ?_
            rintro e w6 ⟨rfl, h6, k6⟩
            have H6 := Lib.hid h6
            have K6 := Lib.hid ((Tk.of_below HW.out).trans k6)
            clear h6 k6
            go_wp2_with fail
            rw [Exit.noGoto_ret]
            go_ret
            exact ⟨by rw [← HQ.out.1]; rfl, HQ.out.2 ▸ H6.out, K6.out⟩
          · have ee : ((B[k].toNat : Int) == 10) = false := by rw [beq_eq_false_iff_ne]; omega
            rw [if_neg (by rintro (e | e); · exact h13 (by rw [e]; rfl)
                           · exact h10 (by rw [e]; rfl))] at hqd
            by_cases h92 : B[k].toNat = 92
            · have eg : ((B[k].toNat : Int) == 92) = true := by rw [beq_iff_eq]; omega
              rw [if_pos (UInt8.toNat_inj.1 h92)] at hqd
              by_cases hlt2 : k + 1 < N
              · have eh : ((k : Int) + 1 == (N : Int)) = false := by rw [beq_eq_false_iff_ne]; omega
                have hr2 : (k : Int) + 1 < N := by omega
                have hkB2 : k + 1 < B.size := by omega
                have hc2 : B[k + 1].toNat < 256 := B[k + 1].toNat_lt
                obtain ⟨hkl2, hkc2⟩ := List.getElem?_eq_some_iff.1 (HAT.out (k + 1) hkB2)
                rw [List.drop_eq_getElem_cons hkl2, hkc2] at hqd
                dsimp only at hqd
                by_cases hd : B[k + 1].toNat = 34 ∨ B[k + 1].toNat = 92
                · rw [if_pos (by rcases hd with e | e; · exact .inl (UInt8.toNat_inj.1 e)
                                 · exact .inr (UInt8.toNat_inj.1 e))] at hqd
                  have HM2 : Hid (R = (qd (l.drop (k + 2))).map fun x => ((acc ++ [B[k + 1]]) ++ x.1, x.2)) := by
                    show R = _
                    rw [HM.out, hqd, Option.map_map]; congr 1; funext x; simp
                  rcases hd with hd | hd
                  · have ei : (B[k + 1].toNat : Int) = 34 := by omega
                    have HM2 : Hid (R = (qd (l.drop (k + 2))).map fun x => ((acc ++ [34]) ++ x.1, x.2)) := by have := HM2.out; rw [UInt8.toNat_inj.1 (show B[k + 1].toNat = (34 : UInt8).toNat from hd)] at this; exact this
                    clear hqd hkc hkc2 h34 h34' h13 h10 h92 hd
                    go_wp2_with (at_builtin; refine wpList_append_own _ rfl (.tmp 64) (.tmp 66) 97 rfl W.heap.size 5 i0 (.int .u8 0) 1 1 Tryz.underlying97 hi hz0 hz1 hz2 rfl (by decide) _ _ _ rfl (HO.out.alloc _) ⟨wr.heap.size, 0, none⟩ 1 1 [.int .u8 34] rfl rfl (cell_one_new _ _ _) (fun x hx => by simp at hx; subst hx; rfl) (by unfold maxLen; omega) (by omega) (by simp; omega) ?_)
                    intro v' w4 hown4 hgrow4 _
                    have hb4 : Below W.heap.size W w4 := Below.grown (HW.out.alloc HW.out.size _) hgrow4 (by simp; omega) (fun j hj => (HO.out.lt _ hj).1)
                    obtain ⟨a4, c4, hv4⟩ := own_form hown4
                    have HO4 : Hid (w4.ownsRow W.heap.size 5 1 v' (n + 1) (Lib.byteCells (acc ++ [34]))) := by
                      show World.ownsRow _ _ _ _ _ _ _
                      rw [Lib.byteCells_append]; exact hown4
                    have HB4 := Lib.hid hb4
                    subst hv4
                    clear hown4 hgrow4 hb4
                    go_wp2_with fail
                    go_roundw
                    case rel => exact ⟨rfl, k + 2, acc ++ [34], n + 1, by omega, by omega, by go_num, by omega, ⟨_, _, rfl⟩, by show (acc ++ [34]).length = n + 1; rw [List.length_append, HL.out]; rfl, HM2.out, HO4.out, HB4.out⟩
                    case measure => simp [intOf]; omega
                  · have ei : ¬ (B[k + 1].toNat : Int) = 34 := by omega
                    have ej : (B[k + 1].toNat : Int) = 92 := by omega
                    have HM2 : Hid (R = (qd (l.drop (k + 2))).map fun x => ((acc ++ [92]) ++ x.1, x.2)) := by have := HM2.out; rw [UInt8.toNat_inj.1 (show B[k + 1].toNat = (92 : UInt8).toNat from hd)] at this; exact this
                    have h34n : B[k + 1].toNat ≠ 34 := by omega
                    clear hqd hkc hkc2 h34 h34' h13 h10 h92 hd
                    go_wp2_with (at_builtin; refine wpList_append_own _ rfl (.tmp 64) (.tmp 66) 97 rfl W.heap.size 5 i0 (.int .u8 0) 1 1 Tryz.underlying97 hi hz0 hz1 hz2 rfl (by decide) _ _ _ rfl (HO.out.alloc _) ⟨wr.heap.size, 0, none⟩ 1 1 [.int .u8 92] rfl rfl (cell_one_new _ _ _) (fun x hx => by simp at hx; subst hx; rfl) (by unfold maxLen; omega) (by omega) (by simp; omega) ?_)
                    intro v' w4 hown4 hgrow4 _
                    have hb4 : Below W.heap.size W w4 := Below.grown (HW.out.alloc HW.out.size _) hgrow4 (by simp; omega) (fun j hj => (HO.out.lt _ hj).1)
                    obtain ⟨a4, c4, hv4⟩ := own_form hown4
                    have HO4 : Hid (w4.ownsRow W.heap.size 5 1 v' (n + 1) (Lib.byteCells (acc ++ [92]))) := by
                      show World.ownsRow _ _ _ _ _ _ _
                      rw [Lib.byteCells_append]; exact hown4
                    have HB4 := Lib.hid hb4
                    subst hv4
                    clear hown4 hgrow4 hb4
                    go_wp2_with fail
                    go_roundw
                    case rel => exact ⟨rfl, k + 2, acc ++ [92], n + 1, by omega, by omega, by go_num, by omega, ⟨_, _, rfl⟩, by show (acc ++ [92]).length = n + 1; rw [List.length_append, HL.out]; rfl, HM2.out, HO4.out, HB4.out⟩
                    case measure => simp [intOf]; omega
                · have ei : ¬ (B[k + 1].toNat : Int) = 34 := fun e => hd (.inl (by omega))
                  have ej : ¬ (B[k + 1].toNat : Int) = 92 := fun e => hd (.inr (by omega))
                  have ei2 : ((B[k + 1].toNat : Int) != 34) = true := by rw [bne_iff_ne]; exact ei
                  have ej2 : ((B[k + 1].toNat : Int) != 92) = true := by rw [bne_iff_ne]; exact ej
                  rw [if_neg (by rintro (e | e); · exact hd (.inl (by rw [e]; rfl))
                                 · exact hd (.inr (by rw [e]; rfl)))] at hqd
                  have HQ := HNO.out (by rw [HM.out, hqd]; rfl)
                  clear hqd hkc hkc2 h34 h34' h13 h10 h92 hd
                  go_wp2_with fail
                  refine CF.out.mono ?_
                  rintro e w6 ⟨rfl, h6, k6⟩
                  have H6 := Lib.hid h6
                  have K6 := Lib.hid ((Tk.of_below HW.out).trans k6)
                  clear h6 k6
                  go_wp2_with fail
                  rw [Exit.noGoto_ret]
                  go_ret
                  exact ⟨by rw [← HQ.out.1]; rfl, HQ.out.2 ▸ H6.out, K6.out⟩
              · have eh : ((k : Int) + 1 == (N : Int)) = true := by rw [beq_iff_eq]; omega
                rw [show l.drop (k + 1) = [] from List.drop_of_length_le (by rw [HN.out]; omega)] at hqd
                dsimp only at hqd
                have HQ := HNO.out (by rw [HM.out, hqd]; rfl)
                clear hqd hkc h34 h34' h13 h10 h92
                go_wp2_with fail
                refine CF.out.mono ?_
                rintro e w6 ⟨rfl, h6, k6⟩
                have H6 := Lib.hid h6
                have K6 := Lib.hid ((Tk.of_below HW.out).trans k6)
                clear h6 k6
                go_wp2_with fail
                rw [Exit.noGoto_ret]
                go_ret
                exact ⟨by rw [← HQ.out.1]; rfl, HQ.out.2 ▸ H6.out, K6.out⟩
            · have eg : ((B[k].toNat : Int) == 92) = false := by rw [beq_eq_false_iff_ne]; omega
              rw [if_neg (fun e => h92 (by rw [e]; rfl))] at hqd
              have HM2 : Hid (R = (qd (l.drop (k + 1))).map fun x => ((acc ++ [B[k]]) ++ x.1, x.2)) := by
                show R = _
                rw [HM.out, hqd, Option.map_map]; congr 1; funext x; simp
              clear hqd hkc h34 h34' h13 h10 h92
              go_wp2_with (at_builtin; refine wpList_append_own _ rfl (.tmp 64) (.tmp 66) 97 rfl W.heap.size 5 i0 (.int .u8 0) 1 1 Tryz.underlying97 hi hz0 hz1 hz2 rfl (by decide) _ _ _ rfl (HO.out.alloc _) ⟨wr.heap.size, 0, none⟩ 1 1 [.int .u8 B[k].toNat] rfl rfl (cell_one_new _ _ _) (fun x hx => by simp at hx; subst hx; rfl) (by unfold maxLen; omega) (by omega) (by simp; omega) ?_)
              intro v' w4 hown4 hgrow4 _
              have hb4 : Below W.heap.size W w4 := Below.grown (HW.out.alloc HW.out.size _) hgrow4 (by simp; omega) (fun j hj => (HO.out.lt _ hj).1)
              obtain ⟨a4, c4, hv4⟩ := own_form hown4
              have HO4 : Hid (w4.ownsRow W.heap.size 5 1 v' (n + 1) (Lib.byteCells (acc ++ [B[k]]))) := by
                show World.ownsRow _ _ _ _ _ _ _
                rw [Lib.byteCells_append]; exact hown4
              have HB4 := Lib.hid hb4
              subst hv4
              clear hown4 hgrow4 hb4
              go_wp2_with fail
              go_roundw
              case rel => exact ⟨rfl, k + 1, acc ++ [B[k]], n + 1, by omega, by omega, by go_num, by omega, ⟨_, _, rfl⟩, by show (acc ++ [B[k]]).length = n + 1; rw [List.length_append, HL.out]; rfl, HM2.out, HO4.out, HB4.out⟩
              case measure => simp [intOf]; omega
    · have hq : ¬ (k : Int) < N := by omega
      have HQ := HNO.out (by rw [HM.out, qd_end (by rw [HN.out]; omega)]; rfl)
      go_wp2_with fail
      refine CF.out.mono ?_
      rintro e w6 ⟨rfl, h6, k6⟩
      have H6 := Lib.hid h6
      have K6 := Lib.hid ((Tk.of_below HW.out).trans k6)
      clear h6 k6
      go_wp2_with fail
      rw [Exit.noGoto_ret]
      go_ret
      exact ⟨by rw [← HQ.out.1]; rfl, HQ.out.2 ▸ H6.out, K6.out⟩
end Go.Proofs.YtdpmnmiimfhlhaaGreatDoor
set_option linter.unusedVariables false
set_option linter.unusedSimpArgs false
namespace Go.Proofs.YtdpmnmiimfhlhaaGreatDoor
open Go Go.RowKit
variable {W : World} {g : Nat} {s : RS}

set_option maxRecDepth 100000 in
set_option maxHeartbeats 1000000 in
theorem tkString_c (h : PR W g s) (hok : s.Ok) (hl : s.l.length ≤ 100000) (hE : Errs W) (hg : Away g) : Calls Tryz.prog 137 #[pt g] W (Does W g (.string (txt (strV s))) (strS s)) := by
  have N1 := tkNext_c h 34 34 rfl
  have N2 := tkNext_c h 123 123 rfl
  unfold nextB at N1 N2
  rw [show ((34 : Nat) : Int) = 34 from rfl] at N1
  rw [show ((123 : Nat) : Int) = 123 from rfl] at N2
  by_cases h1 : s.l.head? = some 34
  · have hf : s.f = false := by
      cases hf : s.f with
      | false => rfl
      | true => rw [hok hf] at h1; cases h1
    have C := tkquoted_c h hf hl
    have hv : strV s = qV (qd s.l.tail) := by unfold strV; rw [if_pos h1]; rfl
    have hs : strS s = qS (qd s.l.tail) := by unfold strS qS; rw [if_pos h1]; cases qd s.l.tail <;> simp [hf]
    rw [hv, hs]
    rw [show (s.l.head? == some 34) = true by rw [h1]; rfl] at N1
    obtain ⟨V, hV⟩ : ∃ V, txt (qV (qd s.l.tail)) = V := ⟨_, rfl⟩
    obtain ⟨T, hT⟩ : ∃ T, qS (qd s.l.tail) = T := ⟨_, rfl⟩
    rw [hV, hT] at C ⊢
    have C := Lib.hid C
    have N1 := Lib.hid N1
    clear h hV hT hv hs h1 N2
    go_enter Tryz.func137, Tryz.ntmps137
    go_wp2_with fail
    refine N1.out.mono ?_
    rintro e w1 ⟨rfl, rfl⟩
    go_wp2_with fail
    refine C.out.mono ?_
    rintro e w2 ⟨rfl, h2, k2⟩
    have H2 := Lib.hid h2
    have K2 := Lib.hid k2
    clear h2 k2
    go_wp2_with fail
    go_ret
    exact ⟨rfl, H2.out, K2.out⟩
  · rw [show (s.l.head? == some 34) = false by rw [beq_eq_false_iff_ne]; exact h1] at N1
    by_cases h2 : s.l.head? = some 123
    · have C := tkLiteral_c h hok hl hE hg
      have hv : strV s = litV s := by unfold strV; rw [if_neg h1, if_pos h2]
      have hs : strS s = litS s := by unfold strS; rw [if_neg h1, if_pos h2]
      rw [hv, hs]
      rw [show (s.l.head? == some 123) = true by rw [h2]; rfl] at N2
      obtain ⟨V, hV⟩ : ∃ V, txt (litV s) = V := ⟨_, rfl⟩
      obtain ⟨T, hT⟩ : ∃ T, litS s = T := ⟨_, rfl⟩
      rw [hV, hT] at C ⊢
      have C := Lib.hid C
      have N1 := Lib.hid N1
      have N2 := Lib.hid N2
      clear h hV hT hv hs h1 h2
      go_enter Tryz.func137, Tryz.ntmps137
      go_wp2_with fail
      refine N1.out.mono ?_
      rintro e w1 ⟨rfl, rfl⟩
      go_wp2_with fail
      refine N2.out.mono ?_
      rintro e w1 ⟨rfl, rfl⟩
      go_wp2_with fail
      refine C.out.mono ?_
      rintro e w2 ⟨rfl, h2, k2⟩
      have H2 := Lib.hid h2
      have K2 := Lib.hid k2
      clear h2 k2
      go_wp2_with fail
      go_ret
      exact ⟨rfl, H2.out, K2.out⟩
    · have C := tkAtom_c h hok hl
      have hv : strV s = atomV s := by unfold strV; rw [if_neg h1, if_neg h2]
      have hs : strS s = atomS s := by unfold strS; rw [if_neg h1, if_neg h2]
      rw [hv, hs]
      rw [show (s.l.head? == some 123) = false by rw [beq_eq_false_iff_ne]; exact h2] at N2
      obtain ⟨V, hV⟩ : ∃ V, txt (atomV s) = V := ⟨_, rfl⟩
      obtain ⟨T, hT⟩ : ∃ T, atomS s = T := ⟨_, rfl⟩
      rw [hV, hT] at C ⊢
      have C := Lib.hid C
      have N1 := Lib.hid N1
      have N2 := Lib.hid N2
      clear h hV hT hv hs h1 h2
      go_enter Tryz.func137, Tryz.ntmps137
      go_wp2_with fail
      refine N1.out.mono ?_
      rintro e w1 ⟨rfl, rfl⟩
      go_wp2_with fail
      refine N2.out.mono ?_
      rintro e w1 ⟨rfl, rfl⟩
      go_wp2_with fail
      refine C.out.mono ?_
      rintro e w2 ⟨rfl, h2, k2⟩
      have H2 := Lib.hid h2
      have K2 := Lib.hid k2
      clear h2 k2
      go_wp2_with fail
      go_ret
      exact ⟨rfl, H2.out, K2.out⟩
end Go.Proofs.YtdpmnmiimfhlhaaGreatDoor
set_option linter.unusedVariables false
set_option linter.unusedSimpArgs false
namespace Go.Proofs.YtdpmnmiimfhlhaaGreatDoor
open Go Go.RowKit
/-- Is all of a text one atom? -/
def isAtomB (l : List UInt8) : Bool := !(atomS ⟨l, false⟩).f && (atomS ⟨l, false⟩).l.isEmpty
theorem tkisAtom_c (l : List UInt8) (hl : l.length ≤ 100000) (W : World) : Calls Tryz.prog 147 #[.string (txt l)] W fun e w' => e = .returned (.bool (isAtomB l)) ∧ Below W.heap.size W w' := by
  have C := Lib.hid (tkRead_c l W)
  obtain ⟨B, hB⟩ : ∃ B, txt l = B := ⟨_, rfl⟩
  rw [hB] at C ⊢
  go_enter Tryz.func147, Tryz.ntmps147
  go_wp2_with (first | (refine C.out.mono ?_; rintro e w1 ⟨rfl, hp, hb⟩; have C2 := Lib.hid (tkAtom_c hp (fun h => by cases h) hl); have HB := Lib.hid hb; clear hp hb) | (refine C2.out.mono ?_; rintro e w2 ⟨rfl, hp, hk⟩; have C3 := Lib.hid (tkEnd_c hp); have HD := Lib.hid hk; clear hp hk) | (refine C3.out.mono ?_; rintro e w3 ⟨rfl, rfl⟩))
  go_ret
  exact ⟨rfl, HB.out.trans (HD.out.below (Nat.le_refl _) HB.out.size)⟩
end Go.Proofs.YtdpmnmiimfhlhaaGreatDoor
set_option linter.unusedVariables false
namespace Go.Proofs.YtdpmnmiimfhlhaaGreatDoor
open Go

theorem countP_less {l : List Nat} {p q : Nat → Bool} (h : ∀ x ∈ l, q x = true → p x = true) {i : Nat} (hi : i ∈ l) (hp : p i = true) (hq : q i = false) : l.countP q < l.countP p := by
  induction l with
  | nil => simp at hi
  | cons x r ih =>
    rw [List.countP_cons, List.countP_cons]
    have hle : r.countP q ≤ r.countP p := List.countP_mono_left fun y hy => h y (by simp [hy])
    rcases List.mem_cons.1 hi with e | hi
    · subst e
      rw [hp, hq]
      simp
      omega
    · have := ih (fun y hy => h y (by simp [hy])) hi
      have hx := h x (by simp)
      by_cases hqx : q x = true
      · rw [hqx, hx hqx]; simp; omega
      · rw [if_neg hqx]
        split <;> omega
/-- Each operation waits for earlier ones alone. -/
def backB (ops : Array Oper) : Bool := (List.range ops.size).all fun i => ((ops[i]?).map fun o => o.after.all fun e => decide (e.on < i)).getD true
theorem backB_at {ops : Array Oper} (h : backB ops = true) {i : Nat} {o : Oper} (ho : ops[i]? = some o) : ∀ e ∈ o.after, e.on < i := by
  intro e he
  have hi := (Array.getElem?_eq_some_iff.1 ho).1
  have h2 := List.all_eq_true.1 h i (List.mem_range.2 hi)
  rw [ho] at h2
  have h3 : (o.after.all fun e => decide (e.on < i)) = true := h2
  rw [Array.all_eq_true'] at h3
  simpa using h3 e he
theorem wpAny_inv {P : Program} {md : Region.Mode} {ops : Array Oper} {Q : Exit → Act → World → Prop} (I : (Nat → Bool) → Act → World → Prop) (hb : backB ops = true)
    (hstep : ∀ (i : Nat) (o : Oper) (L : Nat → Bool) (a : Act) (w : World), ops[i]? = some o → L i = false → (∀ e ∈ o.after, Region.binds md e = true → L e.on = true) → I L a w →
      wpOp P ops Q i (fun a' w' => I (fun j => if j = i then true else L j) a' w') a w)
    (hend : ∀ (L : Nat → Bool) (a : Act) (w : World), (∀ i, i < ops.size → L i = true) → I L a w → Q .normal a w) :
    ∀ (fuel : Nat) (listed : Array Bool) (a : Act) (w : World), listed.size = ops.size → (List.range ops.size).countP (fun j => !listed.getD j true) ≤ fuel → I (fun j => listed.getD j false) a w → wpAny P md ops Q fuel listed a w := by
  have hnil : ∀ listed : Array Bool, listed.size = ops.size → Region.ready md ops listed = [] → ∀ i, i < ops.size → listed.getD i false = true := by
    intro listed hs hr i
    induction i using Nat.strongRecOn with
    | _ i ih =>
      intro hi
      cases hl : listed.getD i true with
      | true => simpa [show i < listed.size by omega] using hl
      | false =>
        have : i ∈ Region.ready md ops listed := mem_ready.2 ⟨hl, ops[i], Array.getElem?_eq_getElem hi, fun e he _ => by
          have hlt := backB_at hb (Array.getElem?_eq_getElem hi) e he
          exact ih e.on hlt (by omega)⟩
        rw [hr] at this
        simp at this
  intro fuel
  induction fuel with
  | zero =>
    intro listed a w hs hc hI
    have hall : ∀ i, i < ops.size → listed.getD i true = true := fun i hi => by
      have h0 := List.countP_eq_zero.1 (Nat.le_zero.1 hc) i (List.mem_range.2 hi)
      simpa using h0
    have hr : Region.ready md ops listed = [] := by
      cases hq : Region.ready md ops listed with
      | nil => rfl
      | cons x xs =>
        have hx : x ∈ Region.ready md ops listed := by rw [hq]; simp
        obtain ⟨h1, o, ho, _⟩ := mem_ready.1 hx
        have := hall x (Array.getElem?_eq_some_iff.1 ho).1
        rw [this] at h1; cases h1
    exact ⟨hr, hend _ _ _ (hnil listed hs hr) hI⟩
  | succ fuel ih =>
    intro listed a w hs hc hI
    refine ⟨fun hr => hend _ _ _ (hnil listed hs hr) hI, fun i hi => ?_⟩
    obtain ⟨h1, o, ho, hall⟩ := mem_ready.1 hi
    have hil := (Array.getElem?_eq_some_iff.1 ho).1
    have h2 : listed.getD i false = false := by simpa [show i < listed.size by omega] using h1
    refine wpOp_mono (fun a' w' h => ih _ _ _ (by simpa using hs) ?_ ?_) (hstep i o _ a w ho h2 hall hI)
    · have hlt : (List.range ops.size).countP (fun j => !(listed.setIfInBounds i true).getD j true) < (List.range ops.size).countP (fun j => !listed.getD j true) :=
        countP_less (i := i) (fun x hx hq => by
          by_cases e : i = x
          · subst e; simp [show i < listed.size by omega] at hq
          · rw [getD_set_ne true e] at hq; exact hq) (List.mem_range.2 hil) (by rw [h1]; rfl) (by simp [show i < listed.size by omega])
      omega
    · have e : (fun j => (listed.setIfInBounds i true).getD j false) = fun j => if j = i then true else listed.getD j false := by
        funext j
        by_cases e : i = j
        · subst e; simp [show i < listed.size by omega]
        · rw [getD_set_ne false e, if_neg (fun h => e h.symm)]
      rw [e]
      exact h
/-- Slots of a frame, filled. -/
def slotsPut : List Nat → (Nat → Value) → Act → Act
  | [], _, a => a
  | s :: r, vs, a => slotsPut r vs (a.put (some s) (vs s))
theorem wp_region_slots {P : Program} {id : Nat} {ops : Array Oper} {Q : Exit → Act → World → Prop} {a : Act} {w : World} (slots : List Nat) (J : (Nat → Bool) → (Nat → Value) → World → Prop) (hm : P.follows .mixedOrders = true) (hb : backB ops = true)
    (h0 : ∃ vs, a = slotsPut slots vs a ∧ J (fun _ => false) vs w.drew)
    (hstep : ∀ (i : Nat) (o : Oper) (L : Nat → Bool) (vs : Nat → Value) (w : World), ops[i]? = some o → L i = false → (∀ e ∈ o.after, Region.binds .any e = true → L e.on = true) → J L vs w →
      wpOp P ops Q i (fun a' w' => ∃ vs', a' = slotsPut slots vs' a ∧ J (fun j => if j = i then true else L j) vs' w') (slotsPut slots vs a) w)
    (hend : ∀ (L : Nat → Bool) (vs : Nat → Value) (w : World), (∀ i, i < ops.size → L i = true) → J L vs w → Q .normal (slotsPut slots vs a) w) : (Code.region id ops true).wp P Q a w := by
  refine wp_region_any hm (wpAny_inv (fun L a' w' => ∃ vs, a' = slotsPut slots vs a ∧ J L vs w') hb (fun i o L a' w' ho hL hA hI => ?_) (fun L a' w' hL hI => ?_) ops.size _ a _ (by simp) ?_ ?_)
  · obtain ⟨vs, rfl, hJ⟩ := hI
    exact hstep i o L vs w' ho hL hA hJ
  · obtain ⟨vs, rfl, hJ⟩ := hI
    exact hend L vs w' hL hJ
  · exact Nat.le_trans List.countP_le_length (by simp)
  · have e : (fun j => (Array.replicate ops.size false).getD j false) = fun _ => false := by
      funext j
      by_cases h : j < ops.size <;> simp [h]
    rw [e]
    exact h0
theorem put_self (a : Act) (s : Nat) : a.put (some s) (a.tmps.getD s undef) = a := by
  cases a with
  | mk t d =>
    show Act.mk (t.setIfInBounds s (t.getD s undef)) d = Act.mk t d
    congr 1
    apply Array.ext
    · simp
    · intro i h1 h2
      rw [Array.getElem_setIfInBounds]
      split
      · rename_i e; subst e; simp [h2]
      · rfl
theorem slots_self (slots : List Nat) (a : Act) : slotsPut slots (fun s => a.tmps.getD s undef) a = a := by
  induction slots with
  | nil => rfl
  | cons s r ih =>
    unfold slotsPut
    rw [put_self, ih]
/-- The same, whatever stands in the slots ahead. -/
theorem wp_region_slots2 {P : Program} {id : Nat} {ops : Array Oper} {Q : Exit → Act → World → Prop} {a : Act} {w : World} (slots : List Nat) (J : (Nat → Bool) → (Nat → Value) → World → Prop) (hm : P.follows .mixedOrders = true) (hb : backB ops = true)
    (h0 : ∀ vs, J (fun _ => false) vs w.drew)
    (hstep : ∀ (i : Nat) (o : Oper) (L : Nat → Bool) (vs : Nat → Value) (w : World), ops[i]? = some o → L i = false → (∀ e ∈ o.after, Region.binds .any e = true → L e.on = true) → J L vs w →
      wpOp P ops Q i (fun a' w' => ∃ vs', a' = slotsPut slots vs' a ∧ J (fun j => if j = i then true else L j) vs' w') (slotsPut slots vs a) w)
    (hend : ∀ (L : Nat → Bool) (vs : Nat → Value) (w : World), (∀ i, i < ops.size → L i = true) → J L vs w → Q .normal (slotsPut slots vs a) w) : (Code.region id ops true).wp P Q a w :=
  wp_region_slots slots J hm hb ⟨_, (slots_self slots a).symm, h0 _⟩ hstep hend
end Go.Proofs.YtdpmnmiimfhlhaaGreatDoor
set_option linter.unusedVariables false
set_option linter.unusedSimpArgs false
namespace Go.Proofs.YtdpmnmiimfhlhaaGreatDoor
open Go Go.RowKit
variable {W : World} {g : Nat} {s : RS}

theorem Errs.away {w : World} (h : Errs w) (hg : w.heap.size ≤ g) : Away g := by
  obtain ⟨⟨t1, p1, h1⟩, t2, p2, h2⟩ := h
  have a := cell_ltA h1
  have b := cell_ltA h2
  exact ⟨by dsimp only at a; omega, by dsimp only at b; omega⟩
def exA : RS := ⟨[34, 97, 92, 34, 98, 34], false⟩
def exB : RS := ⟨[123, 50, 125, 13, 10, 120, 121, 122], false⟩
theorem exA_v : strV exA = [97, 34, 98] := by decide +kernel
theorem exA_s : (strS exA).l = [] ∧ (strS exA).f = false := by decide +kernel
theorem exB_v : litV exB = [120, 121] := by decide +kernel
theorem exB_s : (litS exB).l = [122] ∧ (litS exB).f = false := by decide +kernel

theorem numS_gone : numN .gone = 0 ∧ numS .gone = .gone := by
  have h : numO .gone = none := rfl
  unfold numN numS
  rw [h]
  exact ⟨rfl, rfl⟩
theorem word_gone (x : List UInt8) : wordB .gone x = false ∧ wordS .gone x = .gone ∧ mustS .gone x = .gone := by
  have h : wordB .gone x = false := rfl
  unfold wordS mustS
  rw [h]
  exact ⟨rfl, rfl, rfl⟩
theorem atom_gone : atomV .gone = [] ∧ atomS .gone = .gone := ⟨rfl, rfl⟩
theorem lit_gone : litV .gone = [] ∧ litS .gone = .gone := by
  have hH : litH .gone = .gone := by unfold litH; rw [(word_gone _).2.2, numS_gone.2, (word_gone _).2.2]
  have h : litB .gone = false := by unfold litB; rw [hH]; rfl
  unfold litV litS
  rw [h]
  exact ⟨rfl, rfl⟩
theorem str_gone : strV .gone = [] ∧ strS .gone = .gone := ⟨rfl, rfl⟩

end Go.Proofs.YtdpmnmiimfhlhaaGreatDoor

/-
  The document's reader: strings: contract.
-/
import Derived.Test.YtidhnhjhdmfpiaaDoorTkE
set_option linter.unusedVariables false
set_option linter.unusedSimpArgs false
namespace Go.Proofs.YtidhnhjhdmfpiaaDoor
open Go Go.RowKit
variable {W : World} {g : Nat} {s : RS} {S : List UInt8}

def szV : Value → Nat | .string B => B.size | _ => 0
theorem qd_cons (c : UInt8) (r : List UInt8) : qd (c :: r) = if c = 34 then some ([], r) else if c = 13 ∨ c = 10 then none else if c = 92 then
      (match r with | [] => none | d :: r' => if d = 34 ∨ d = 92 then (qd r').map fun x => (d :: x.1, x.2) else none) else (qd r).map fun x => (c :: x.1, x.2) := by
  conv => lhs; unfold qd
  rfl
theorem drop_cons {S : List UInt8} {a : Nat} {c : UInt8} {r : List UInt8} (h : S.drop a = c :: r) : S.drop (a + 1) = r := by
  rw [← List.drop_drop, h]; rfl
theorem drop_cons2 {S : List UInt8} {a : Nat} {c d : UInt8} {r : List UInt8} (h : S.drop a = c :: d :: r) : S.drop (a + 2) = r := by
  rw [← List.drop_drop, h]; rfl

set_option maxRecDepth 100000 in
set_option maxHeartbeats 4000000 in
theorem rtString_c (h : DRS W g S s) (hl : S.length ≤ 100000) : Calls Tryd.prog 21 #[pt g] W (DoesD W g S (.string (txt (strV s))) (strS s)) := by
  have N1 := rtNext_c h 123 123 rfl
  rw [show ((123 : Nat) : Int) = 123 from rfl] at N1
  unfold nextB at N1
  have H := Lib.hid h
  by_cases h2 : s.l.head? = some 123
  · have h1 : ¬ s.l.head? = some 34 := fun e => by rw [h2] at e; cases e
    have hv : strV s = litV s := by unfold strV; rw [if_neg h1, if_pos h2]
    have hs : strS s = litS s := by unfold strS; rw [if_neg h1, if_pos h2]
    rw [hv, hs]
    rw [show (s.l.head? == some 123) = true by rw [h2]; rfl] at N1
    have C := fun w (hw : DRS w g S s) => rtLiteral_c hw hl
    obtain ⟨V, hV⟩ : ∃ V, txt (litV s) = V := ⟨_, rfl⟩
    obtain ⟨T, hT⟩ : ∃ T, litS s = T := ⟨_, rfl⟩
    rw [hV, hT] at C ⊢
    have C := Lib.hid C
    have N1 := Lib.hid N1
    clear h hV hT hv hs h1 h2
    go_enter Tryd.func21, Tryd.ntmps21
    go_wp2_with fail
    refine N1.out.mono ?_
    rintro e w1 ⟨rfl, m, hm⟩
    have h1 : DRS w1 g S s := by rw [hm]; exact H.out
    have C1 := Lib.hid (C.out _ h1)
    have K1 : Hid (Tk g W w1) := by rw [hm]; exact Tk.drew _ _
    clear h1 hm
    go_wp2_with fail
    refine C1.out.mono ?_
    rintro e w2 ⟨rfl, h2, k2⟩
    have H2 := Lib.hid h2
    have K2 := Lib.hid (K1.out.trans k2)
    clear h2 k2
    go_wp2_with fail
    go_ret
    exact ⟨rfl, H2.out, K2.out⟩
  · rw [show (s.l.head? == some 123) = false by rw [beq_eq_false_iff_ne]; exact h2] at N1
    have N2 : ∀ w, DRS w g S s → _ := fun w hw => rtNext_c hw 34 34 rfl
    rw [show ((34 : Nat) : Int) = 34 from rfl] at N2
    unfold nextB at N2
    by_cases h1 : s.l.head? = some 34
    · rw [show (s.l.head? == some 34) = true by rw [h1]; rfl] at N2
      have hf : s.f = false := by
        cases hf : s.f with
        | false => rfl
        | true => rw [h.ok hf] at h1; cases h1
      obtain ⟨a0, hD, ha0, hla⟩ := h.at hf
      obtain ⟨R, hR⟩ : ∃ R, qd s.l.tail = R := ⟨_, rfl⟩
      have hv : strV s = qV R := by unfold strV; rw [if_pos h1, hR]; rfl
      have hs : strS s = qS R := by unfold strS qS; rw [if_pos h1, hR]; cases R <;> simp [hf]
      have hne : a0 < S.length := by
        rcases Nat.lt_or_ge a0 S.length with h | h
        · exact h
        · rw [hla, List.drop_of_length_le h] at h1; cases h1
      have hR1 : qd (S.drop (a0 + 1)) = R := by
        rw [← hR, hla, ← List.drop_drop, List.drop_one]
      rw [hv, hs]
      obtain ⟨X, hX⟩ : ∃ X, qV R = X := ⟨_, rfl⟩
      obtain ⟨Y, hY⟩ : ∃ Y, qS R = Y := ⟨_, rfl⟩
      rw [hX, hY]
      obtain ⟨NL, hNL⟩ : ∃ NL, S.length = NL := ⟨_, rfl⟩
      rw [hNL] at hl hne
      have HX := Lib.hid hX
      have HY := Lib.hid hY
      have HR1 := Lib.hid hR1
      have HNL := Lib.hid hNL
      have HD0 := Lib.hid hD
      have N1 := Lib.hid N1
      have N2 := Lib.hid N2
      clear h hR hv hs hX hY hR1 hNL hD hla h1 h2 hf ha0
      go_enter Tryd.func21, Tryd.ntmps21
      go_wp2_with fail
      refine N1.out.mono ?_
      rintro e w1 ⟨rfl, m, hm⟩
      have C2 := Lib.hid (N2.out w1 (by rw [hm]; exact H.out))
      have hd1 : DR w1 g S a0 false := by rw [hm]; exact HD0.out
      have HD1 := Lib.hid hd1
      have K1 : Hid (Tk g W w1) := by rw [hm]; exact Tk.drew _ _
      clear hd1 hm
      go_wp2_with fail
      refine C2.out.mono ?_
      rintro e w2 ⟨rfl, m, hm⟩
      have hd2 : DR w2 g S a0 false := by rw [hm]; exact HD1.out
      obtain ⟨c0, c1, c2, hb, f1, f2⟩ := hd2.facts
      have HD2 := Lib.hid hd2
      have K2 : Hid (Tk g W w2) := by rw [hm]; exact K1.out.drewN _
      have HH : Hid (DR (w2.setCell ⟨g, 1, none⟩ (.int .i64 ((a0 : Int) + 1))) g S (a0 + 1) false) := hd2.set1 _ _ (by omega)
      have HKK : Hid (Tk g W (w2.setCell ⟨g, 1, none⟩ (.int .i64 ((a0 : Int) + 1)))) := K2.out.trans (Tk.set _ _ _)
      clear hd2 hm c0 c2 f2 HD1 K1 C2
      go_wp2_with fail
      clear c1 f1
      go_loopw [3, 4] (fun ov _ wr => ∃ (a : Nat) (acc : List UInt8) (B : ByteArray), ov = .string B ∧ B.size ≤ a ∧ Hid (B = txt acc) ∧ Hid (a ≤ NL) ∧ Hid (R = (qd (S.drop a)).map fun x => (acc ++ x.1, x.2)) ∧ Hid (DR wr g S a false) ∧ Hid (Tk g W wr)) (fun ov _ _ => NL + 1 - szV ov)
      case atStart => exact ⟨a0 + 1, [], _, rfl, Nat.zero_le _, rfl, by show _ ≤ _; omega, by show R = _; rw [HR1.out]; simp, HH.out, HKK.out⟩
      case round =>
        obtain ⟨a, acc, B, rfl, hBa, HBT, HAL, HM, HD, HK⟩ := hrel
        have haL := HAL.out
        have HA : Hid (a ≤ S.length) := by show _ ≤ _; rw [HNL.out]; exact haL
        have CR := rtRest_c (s := dS S a false) ⟨a, false, HD.out, HA.out, rfl⟩
        rw [show (dS S a false).l = S.drop a from rfl] at CR
        have hno : R = none → Hid ([] = X ∧ RS.gone = Y) := fun h => ⟨by rw [← HX.out, h]; rfl, by rw [← HY.out, h]; rfl⟩
        have HNO := Lib.hid hno
        clear hno
        cases hdr : S.drop a with
        | nil =>
          rw [hdr] at CR
          have HQ := HNO.out (by rw [HM.out, hdr]; rfl)
          have e0 : (txt []).toList.isEmpty = true := isEmpty_txt' []
          obtain ⟨Bs, hBs⟩ : ∃ B, txt [] = B := ⟨_, rfl⟩
          rw [hBs] at CR e0
          have CR := Lib.hid CR
          clear hdr hBs
          go_wp2_with fail
          refine CR.out.mono ?_
          rintro e w1 ⟨rfl, m, hm⟩
          have h1 : DR w1 g S a false := by rw [hm]; exact HD.out
          have K1 : Hid (Tk g W w1) := by rw [hm]; exact HK.out.drewN _
          have CF := Lib.hid (rtFail_c (s := dS S a false) ⟨a, false, h1, HA.out, rfl⟩)
          obtain ⟨c0, c1, c2, hb, f1, f2⟩ := h1.facts
          have H1 := Lib.hid h1
          clear h1 hm c0 c2 f2
          go_wp2_with fail
          refine CF.out.mono ?_
          rintro e w6 ⟨rfl, h6, k6⟩
          have H6 := Lib.hid h6
          have K6 := Lib.hid (K1.out.trans k6)
          clear h6 k6
          go_wp2_with fail
          go_ret
          exact ⟨by rw [← HQ.out.1]; rfl, HQ.out.2 ▸ H6.out, K6.out⟩
        | cons c r =>
          rw [hdr] at CR
          have hRR := HM.out
          rw [hdr, qd_cons] at hRR
          have hlen : r.length + 1 + a = NL := by
            have := congrArg List.length hdr
            rw [List.length_drop, HNL.out, List.length_cons] at this
            omega
          have e0 : (txt (c :: r)).toList.isEmpty = false := isEmpty_txt' (c :: r)
          have e1 : (txt (c :: r)).size = r.length + 1 := txt_size (c :: r)
          have hx01 : (txt (c :: r)).extract 0 1 = txt [c] := ext_take (c :: r)
          obtain ⟨Bs, hBs⟩ : ∃ B, txt (c :: r) = B := ⟨_, rfl⟩
          have hat : ∀ k (hk : k < Bs.size), (c :: r)[k]? = some Bs[k] := fun k hk => by
            subst hBs
            rw [at_txt (by rw [txt_size] at hk; exact hk)]; exact List.getElem?_eq_getElem _
          rw [hBs] at CR e0 e1 hx01
          have hsz : 0 < Bs.size := by omega
          have hq1 : (0 : Int) < Bs.size := by omega
          have hc1 : Bs[0].toNat < 256 := Bs[0].toNat_lt
          have hb0 : c = Bs[0] := by have := hat 0 hsz; simpa using this
          rw [hb0] at hRR
          have CR := Lib.hid CR
          obtain ⟨rl, hrl⟩ : ∃ rl, r.length = rl := ⟨_, rfl⟩
          rw [hrl] at e1 hlen
          have HX01 := Lib.hid hx01
          have HAT := Lib.hid hat
          have HDR := Lib.hid hdr
          have HB0 := Lib.hid hb0
          have HRL := Lib.hid hrl
          clear hdr hx01 hBs hat hb0 hrl
          by_cases h13 : Bs[0].toNat = 13
          · have ed : ((Bs[0].toNat : Int) == 13) = true := by rw [beq_iff_eq]; omega
            have hz : Bs[0] = 13 := UInt8.toNat_inj.1 h13
            rw [if_neg (by rw [hz]; decide), if_pos (.inl hz)] at hRR
            have HQ := HNO.out (by rw [hRR]; rfl)
            clear hRR hz h13
            go_wp2_with fail
            refine CR.out.mono ?_
            rintro e w1 ⟨rfl, m, hm⟩
            have h1 : DR w1 g S a false := by rw [hm]; exact HD.out
            have K1 : Hid (Tk g W w1) := by rw [hm]; exact HK.out.drewN _
            have CF := Lib.hid (rtFail_c (s := dS S a false) ⟨a, false, h1, HA.out, rfl⟩)
            obtain ⟨c0, c1, c2, hb, f1, f2⟩ := h1.facts
            have H1 := Lib.hid h1
            clear h1 hm c0 c2 f2
            go_wp2_with fail
            refine CF.out.mono ?_
            rintro e w6 ⟨rfl, h6, k6⟩
            have H6 := Lib.hid h6
            have K6 := Lib.hid (K1.out.trans k6)
            clear h6 k6
            go_wp2_with fail
            go_ret
            exact ⟨by rw [← HQ.out.1]; rfl, HQ.out.2 ▸ H6.out, K6.out⟩
          have ed : ((Bs[0].toNat : Int) == 13) = false := by rw [beq_eq_false_iff_ne]; omega
          by_cases h10 : Bs[0].toNat = 10
          · have ee : ((Bs[0].toNat : Int) == 10) = true := by rw [beq_iff_eq]; omega
            have hz : Bs[0] = 10 := UInt8.toNat_inj.1 h10
            rw [if_neg (by rw [hz]; decide), if_pos (.inr hz)] at hRR
            have HQ := HNO.out (by rw [hRR]; rfl)
            clear hRR hz h10 h13
            go_wp2_with fail
            refine CR.out.mono ?_
            rintro e w1 ⟨rfl, m, hm⟩
            have h1 : DR w1 g S a false := by rw [hm]; exact HD.out
            have K1 : Hid (Tk g W w1) := by rw [hm]; exact HK.out.drewN _
            have CF := Lib.hid (rtFail_c (s := dS S a false) ⟨a, false, h1, HA.out, rfl⟩)
            obtain ⟨c0, c1, c2, hb, f1, f2⟩ := h1.facts
            have H1 := Lib.hid h1
            clear h1 hm c0 c2 f2
            go_wp2_with fail
            refine CF.out.mono ?_
            rintro e w6 ⟨rfl, h6, k6⟩
            have H6 := Lib.hid h6
            have K6 := Lib.hid (K1.out.trans k6)
            clear h6 k6
            go_wp2_with fail
            go_ret
            exact ⟨by rw [← HQ.out.1]; rfl, HQ.out.2 ▸ H6.out, K6.out⟩
          have ee : ((Bs[0].toNat : Int) == 10) = false := by rw [beq_eq_false_iff_ne]; omega
          by_cases h34 : Bs[0].toNat = 34
          · have ec : ((Bs[0].toNat : Int) == 34) = true := by rw [beq_iff_eq]; omega
            rw [if_pos (UInt8.toNat_inj.1 h34)] at hRR
            have HQ : Hid (acc = X ∧ (⟨r, false⟩ : RS) = Y) := ⟨by rw [← HX.out, hRR]; simp [qV], by rw [← HY.out, hRR]; rfl⟩
            clear hRR h34 h10 h13
            go_wp2_with fail
            refine CR.out.mono ?_
            rintro e w1 ⟨rfl, m, hm⟩
            have h1 : DR w1 g S a false := by rw [hm]; exact HD.out
            have K1 : Hid (Tk g W w1) := by rw [hm]; exact HK.out.drewN _
            have CF := Lib.hid (rtFail_c (s := dS S a false) ⟨a, false, h1, HA.out, rfl⟩)
            obtain ⟨c0, c1, c2, hb, f1, f2⟩ := h1.facts
            have H1 := Lib.hid h1
            clear h1 hm c0 c2 f2
            have HH2 : Hid (DRS (w1.setCell ⟨g, 1, none⟩ (.int .i64 ((a : Int) + 1))) g S ⟨r, false⟩) := ⟨a + 1, false, H1.out.set1 _ _ (by omega), by rw [HNL.out]; omega, by unfold dS; rw [drop_cons HDR.out]; rfl⟩
            have HKK2 : Hid (Tk g W (w1.setCell ⟨g, 1, none⟩ (.int .i64 ((a : Int) + 1)))) := K1.out.trans (Tk.set _ _ _)
            go_wp2_with fail
            go_ret
            exact ⟨by rw [← HQ.out.1, ← HBT.out]; rfl, HQ.out.2 ▸ HH2.out, HKK2.out⟩
          have ec : ((Bs[0].toNat : Int) == 34) = false := by rw [beq_eq_false_iff_ne]; omega
          rw [if_neg (fun e => h34 (by rw [e]; rfl)), if_neg (not_or.2 ⟨fun e => h13 (by rw [e]; rfl), fun e => h10 (by rw [e]; rfl)⟩)] at hRR
          by_cases h92 : Bs[0].toNat = 92
          · have eg : ((Bs[0].toNat : Int) == 92) = true := by rw [beq_iff_eq]; omega
            rw [if_pos (UInt8.toNat_inj.1 h92)] at hRR
            match hrr : r with
            | [] =>
              have hrl0 : rl = 0 := by rw [← HRL.out]; rfl
              have q2 : (Bs.size : Int) < 2 := by omega
              dsimp only at hRR
              have HQ := HNO.out (by rw [hRR]; rfl)
              clear hRR h92 h34 h10 h13
              go_wp2_with fail
              refine CR.out.mono ?_
              rintro e w1 ⟨rfl, m, hm⟩
              have h1 : DR w1 g S a false := by rw [hm]; exact HD.out
              have K1 : Hid (Tk g W w1) := by rw [hm]; exact HK.out.drewN _
              have CF := Lib.hid (rtFail_c (s := dS S a false) ⟨a, false, h1, HA.out, rfl⟩)
              obtain ⟨c0, c1, c2, hb, f1, f2⟩ := h1.facts
              have H1 := Lib.hid h1
              clear h1 hm c0 c2 f2
              go_wp2_with fail
              refine CF.out.mono ?_
              rintro e w6 ⟨rfl, h6, k6⟩
              have H6 := Lib.hid h6
              have K6 := Lib.hid (K1.out.trans k6)
              clear h6 k6
              go_wp2_with fail
              go_ret
              exact ⟨by rw [← HQ.out.1]; rfl, HQ.out.2 ▸ H6.out, K6.out⟩
            | d :: r' =>
              have hrl1 : rl = r'.length + 1 := by rw [← HRL.out]; rfl
              have q2 : ¬ (Bs.size : Int) < 2 := by omega
              have hsz2 : 1 < Bs.size := by omega
              have hq2 : (1 : Int) < Bs.size := by omega
              have hc2 : Bs[1].toNat < 256 := Bs[1].toNat_lt
              have hb1 : d = Bs[1] := by have := HAT.out 1 hsz2; simpa using this
              dsimp only at hRR
              have hx12 : Bs.extract 1 2 = txt [d] := by
                have h01 := HX01.out
                apply extract_txt
                apply List.ext_getElem?
                intro i
                rw [List.getElem?_drop, List.getElem?_take]
                match i with
                | 0 =>
                  rw [if_pos (by omega), Array.getElem?_toList, Array.getElem?_eq_getElem (show 1 < Bs.data.size from hsz2), hb1]; rfl
                | i + 1 => rw [if_neg (by omega)]; rfl
              have HX12 := Lib.hid hx12
              clear hx12
              by_cases hd : Bs[1].toNat = 34 ∨ Bs[1].toNat = 92
              · rw [if_pos (by rw [hb1]; exact hd.imp (fun e => UInt8.toNat_inj.1 e) (fun e => UInt8.toNat_inj.1 e))] at hRR
                have HM2 : Hid (R = (qd (S.drop (a + 2))).map fun x => ((acc ++ [d]) ++ x.1, x.2)) := by
                  show R = _
                  rw [hRR, drop_cons2 HDR.out, Option.map_map]; congr 1; funext x; simp
                have hob : (B ++ Bs.extract 1 2).size = B.size + 1 := by rw [ByteArray.size_append, HX12.out]; rfl
                have HOB := Lib.hid hob
                have ha2 : a + 2 ≤ NL := by omega
                clear hob
                rcases hd with hd | hd
                · have ei : (Bs[1].toNat : Int) = 34 := by omega
                  clear hRR h92 h34 h10 h13 hb1
                  go_wp2_with fail
                  refine CR.out.mono ?_
                  rintro e w1 ⟨rfl, m, hm⟩
                  have h1 : DR w1 g S a false := by rw [hm]; exact HD.out
                  have K1 : Hid (Tk g W w1) := by rw [hm]; exact HK.out.drewN _
                  have CF := Lib.hid (rtFail_c (s := dS S a false) ⟨a, false, h1, HA.out, rfl⟩)
                  obtain ⟨c0, c1, c2, hb, f1, f2⟩ := h1.facts
                  have H1 := Lib.hid h1
                  clear h1 hm c0 c2 f2
                  have HH : Hid (DR (w1.setCell ⟨g, 1, none⟩ (.int .i64 ((a : Int) + 2))) g S (a + 2) false) := H1.out.set1 _ _ (by omega)
                  have HKK : Hid (Tk g W (w1.setCell ⟨g, 1, none⟩ (.int .i64 ((a : Int) + 2)))) := K1.out.trans (Tk.set _ _ _)
                  go_wp2_with fail
                  go_roundw
                  case rel => exact ⟨a + 2, acc ++ [d], _, rfl, by rw [HOB.out]; omega, by show _ = _; rw [HBT.out, HX12.out, txt_append], by show _ ≤ _; omega, HM2.out, HH.out, HKK.out⟩
                  case measure => (first | (show NL + 1 - ByteArray.size _ < NL + 1 - B.size; rw [HOB.out]; omega) | (simp only [szV]; rw [HOB.out]; omega))
                · have ei : ¬ (Bs[1].toNat : Int) = 34 := by omega
                  have ej : (Bs[1].toNat : Int) = 92 := by omega
                  clear hRR h92 h34 h10 h13 hb1
                  go_wp2_with fail
                  refine CR.out.mono ?_
                  rintro e w1 ⟨rfl, m, hm⟩
                  have h1 : DR w1 g S a false := by rw [hm]; exact HD.out
                  have K1 : Hid (Tk g W w1) := by rw [hm]; exact HK.out.drewN _
                  have CF := Lib.hid (rtFail_c (s := dS S a false) ⟨a, false, h1, HA.out, rfl⟩)
                  obtain ⟨c0, c1, c2, hb, f1, f2⟩ := h1.facts
                  have H1 := Lib.hid h1
                  clear h1 hm c0 c2 f2
                  have HH : Hid (DR (w1.setCell ⟨g, 1, none⟩ (.int .i64 ((a : Int) + 2))) g S (a + 2) false) := H1.out.set1 _ _ (by omega)
                  have HKK : Hid (Tk g W (w1.setCell ⟨g, 1, none⟩ (.int .i64 ((a : Int) + 2)))) := K1.out.trans (Tk.set _ _ _)
                  go_wp2_with fail
                  go_roundw
                  case rel => exact ⟨a + 2, acc ++ [d], _, rfl, by rw [HOB.out]; omega, by show _ = _; rw [HBT.out, HX12.out, txt_append], by show _ ≤ _; omega, HM2.out, HH.out, HKK.out⟩
                  case measure => (first | (show NL + 1 - ByteArray.size _ < NL + 1 - B.size; rw [HOB.out]; omega) | (simp only [szV]; rw [HOB.out]; omega))
              · have ei : ¬ (Bs[1].toNat : Int) = 34 := fun e => hd (.inl (by omega))
                have ej : ¬ (Bs[1].toNat : Int) = 92 := fun e => hd (.inr (by omega))
                have ei2 : ((Bs[1].toNat : Int) != 34) = true := by rw [bne_iff_ne]; exact ei
                have ej2 : ((Bs[1].toNat : Int) != 92) = true := by rw [bne_iff_ne]; exact ej
                rw [if_neg (by rw [hb1]; exact not_or.2 ⟨fun e => hd (.inl (by rw [e]; rfl)), fun e => hd (.inr (by rw [e]; rfl))⟩)] at hRR
                have HQ := HNO.out (by rw [hRR]; rfl)
                clear hRR h92 h34 h10 h13 hb1 hd
                go_wp2_with fail
                refine CR.out.mono ?_
                rintro e w1 ⟨rfl, m, hm⟩
                have h1 : DR w1 g S a false := by rw [hm]; exact HD.out
                have K1 : Hid (Tk g W w1) := by rw [hm]; exact HK.out.drewN _
                have CF := Lib.hid (rtFail_c (s := dS S a false) ⟨a, false, h1, HA.out, rfl⟩)
                obtain ⟨c0, c1, c2, hb, f1, f2⟩ := h1.facts
                have H1 := Lib.hid h1
                clear h1 hm c0 c2 f2
                go_wp2_with fail
                refine CF.out.mono ?_
                rintro e w6 ⟨rfl, h6, k6⟩
                have H6 := Lib.hid h6
                have K6 := Lib.hid (K1.out.trans k6)
                clear h6 k6
                go_wp2_with fail
                go_ret
                exact ⟨by rw [← HQ.out.1]; rfl, HQ.out.2 ▸ H6.out, K6.out⟩
          have eg : ((Bs[0].toNat : Int) == 92) = false := by rw [beq_eq_false_iff_ne]; omega
          rw [if_neg (fun e => h92 (by rw [e]; rfl))] at hRR
          have HM2 : Hid (R = (qd (S.drop (a + 1))).map fun x => ((acc ++ [c]) ++ x.1, x.2)) := by
            show R = _
            rw [hRR, drop_cons HDR.out, Option.map_map]; congr 1; funext x; simp [HB0.out]
          have hob : (B ++ Bs.extract 0 1).size = B.size + 1 := by rw [ByteArray.size_append, HX01.out]; rfl
          have HOB := Lib.hid hob
          have ha2 : a + 1 ≤ NL := by omega
          clear hob hRR h92 h34 h10 h13
          go_wp2_with fail
          refine CR.out.mono ?_
          rintro e w1 ⟨rfl, m, hm⟩
          have h1 : DR w1 g S a false := by rw [hm]; exact HD.out
          have K1 : Hid (Tk g W w1) := by rw [hm]; exact HK.out.drewN _
          have CF := Lib.hid (rtFail_c (s := dS S a false) ⟨a, false, h1, HA.out, rfl⟩)
          obtain ⟨c0, c1, c2, hb, f1, f2⟩ := h1.facts
          have H1 := Lib.hid h1
          clear h1 hm c0 c2 f2
          have HH : Hid (DR (w1.setCell ⟨g, 1, none⟩ (.int .i64 ((a : Int) + 1))) g S (a + 1) false) := H1.out.set1 _ _ (by omega)
          have HKK : Hid (Tk g W (w1.setCell ⟨g, 1, none⟩ (.int .i64 ((a : Int) + 1)))) := K1.out.trans (Tk.set _ _ _)
          go_wp2_with fail
          go_roundw
          case rel => exact ⟨a + 1, acc ++ [c], _, rfl, by rw [HOB.out]; omega, by show _ = _; rw [HBT.out, HX01.out, txt_append], by show _ ≤ _; omega, HM2.out, HH.out, HKK.out⟩
          case measure => (first | (show NL + 1 - ByteArray.size _ < NL + 1 - B.size; rw [HOB.out]; omega) | (simp only [szV]; rw [HOB.out]; omega))
    · rw [show (s.l.head? == some 34) = false by rw [beq_eq_false_iff_ne]; exact h1] at N2
      have hv : strV s = atomV s := by unfold strV; rw [if_neg h1, if_neg h2]
      have hs : strS s = atomS s := by unfold strS; rw [if_neg h1, if_neg h2]
      rw [hv, hs]
      have C := fun w (hw : DRS w g S s) => rtAtom_c hw hl
      obtain ⟨V, hV⟩ : ∃ V, txt (atomV s) = V := ⟨_, rfl⟩
      obtain ⟨T, hT⟩ : ∃ T, atomS s = T := ⟨_, rfl⟩
      rw [hV, hT] at C ⊢
      have C := Lib.hid C
      have N1 := Lib.hid N1
      have N2 := Lib.hid N2
      clear h hV hT hv hs h1 h2
      go_enter Tryd.func21, Tryd.ntmps21
      go_wp2_with fail
      refine N1.out.mono ?_
      rintro e w1 ⟨rfl, m, hm⟩
      have h1 : DRS w1 g S s := by rw [hm]; exact H.out
      have C1 := Lib.hid (N2.out _ h1)
      have HH1 := Lib.hid h1
      have K1 : Hid (Tk g W w1) := by rw [hm]; exact Tk.drew _ _
      clear h1 hm
      go_wp2_with fail
      refine C1.out.mono ?_
      rintro e w2 ⟨rfl, m, hm⟩
      have h2 : DRS w2 g S s := by rw [hm]; exact HH1.out
      have C2 := Lib.hid (C.out _ h2)
      have K2 : Hid (Tk g W w2) := by rw [hm]; exact K1.out.drewN _
      clear h2 hm
      go_wp2_with fail
      refine C2.out.mono ?_
      rintro e w3 ⟨rfl, h3, k3⟩
      have H3 := Lib.hid h3
      have K3 := Lib.hid (K2.out.trans k3)
      clear h3 k3
      go_wp2_with fail
      go_ret
      exact ⟨rfl, H3.out, K3.out⟩
end Go.Proofs.YtidhnhjhdmfpiaaDoor

/-
  The document's reading of a key: contract, one depth from the next. MADE by wip/tools/mkRk4.py.
-/
import Derived.Test.YtpnnchpaaopdcaaGreatDoorZR04
import Derived.Test.YtpnnchpaaopdcaaGreatDoorZR21
import Derived.Test.YtpnnchpaaopdcaaGreatDoorZR06
set_option linter.unusedVariables false
set_option linter.unusedSimpArgs false
namespace Go.Proofs.YtpnnchpaaopdcaaGreatDoor
open Go Go.RowKit
set_option maxRecDepth 100000 in
set_option maxHeartbeats 8000000 in
theorem rkey14_step {f : Nat} (ih : ReadAtD f) (hf : f ≤ 16) : ReadAtD (f + 1) := by
  intro d W g s S hd h hl
  have hgl := h.lt
  have hok := h.ok
  have hle := h.le
  obtain ⟨w0, hw0⟩ : ∃ w0, W.alloc (.cells #[.int .i64 0, .int .u8 0, .slice none 0 0, .int .u32 0, .string ⟨#[]⟩, .slice none 0 0] 26) = w0 := ⟨_, rfl⟩
  have hb0 : Below W.heap.size W w0 := by rw [← hw0]; exact (Below.refl _ W).alloc (Nat.le_refl _) _
  have hs0 : w0.heap.size = W.heap.size + 1 := by rw [← hw0]; simp
  have hc0 : Cells w0 W.heap.size 26 #[.int .i64 0, .int .u8 0, .slice none 0 0, .int .u32 0, .string ⟨#[]⟩, .slice none 0 0] := by rw [← hw0]; exact heap_alloc_new W _
  have hp0 : DRS w0 g S s := h.tk (Tk.of_below (g := g + 1) hb0) (by omega)
  have hl1 : S.length ≤ 100000 := by omega
  have FZ : Hid (∀ w, Tk g w0 w → Cells w W.heap.size 26 #[.int .i64 0, .int .u8 0, .slice none 0 0, .int .u32 0, .string ⟨#[]⟩, .slice none 0 0]) := fun w ht => Cells.later hc0 (ht.blk _ (Cells.lt hc0) (by omega))
  have CF : Hid (∀ (i : Nat) (hi : i < 5) w, Calls Tryz.prog 115 #[.int .i64 i] w fun e w' => e = .returned (.string (txt (flagT i))) ∧ Below w.heap.size w w') := fun i hi w => rFlag14_c i hi w
  have CWF : Hid (∀ (i : Nat) w, DRS w g S s → Calls Tryz.prog 102 #[pt g, .string (txt (flagT i))] w (DoesD w g S (.bool (wordB s (flagT i))) (wordS s (flagT i)))) := fun i w hw => rtWord_c hw hl1 _ (by have := flagT_len i; omega)
  have CWU : Hid (∀ (i : Nat) w, DRS w g S s → Calls Tryz.prog 102 #[pt g, .string (⟨#[85, 78]⟩ ++ txt (flagT i))] w (DoesD w g S (.bool (wordB s (unL ++ flagT i))) (wordS s (unL ++ flagT i)))) := fun i w hw => by
    rw [show (⟨#[85, 78]⟩ : ByteArray) ++ txt (flagT i) = txt (unL ++ flagT i) from txt_append unL (flagT i)]
    exact rtWord_c hw hl1 _ (by have := flagT_len i; simp [unL]; omega)
  have CW0 : Hid (∀ w, DRS w g S s → Calls Tryz.prog 102 #[pt g, .string ⟨#[65, 76, 76]⟩] w (DoesD w g S (.bool (wordB s (wl 0))) (wordS s (wl 0)))) := fun w hw => rtWord_c hw hl1 (wl 0) (by decide)
  have CW4 : Hid (∀ w, DRS w g S s → Calls Tryz.prog 102 #[pt g, .string ⟨#[85, 73, 68, 32]⟩] w (DoesD w g S (.bool (wordB s (wl 4))) (wordS s (wl 4)))) := fun w hw => rtWord_c hw hl1 (wl 4) (by decide)
  have CW5 : Hid (∀ w, DRS w g S s → Calls Tryz.prog 102 #[pt g, .string ⟨#[76, 65, 82, 71, 69, 82, 32]⟩] w (DoesD w g S (.bool (wordB s (wl 5))) (wordS s (wl 5)))) := fun w hw => rtWord_c hw hl1 (wl 5) (by decide)
  have CW6 : Hid (∀ w, DRS w g S s → Calls Tryz.prog 102 #[pt g, .string ⟨#[83, 77, 65, 76, 76, 69, 82, 32]⟩] w (DoesD w g S (.bool (wordB s (wl 6))) (wordS s (wl 6)))) := fun w hw => rtWord_c hw hl1 (wl 6) (by decide)
  have CW7 : Hid (∀ w, DRS w g S s → Calls Tryz.prog 102 #[pt g, .string ⟨#[66, 79, 68, 89, 32]⟩] w (DoesD w g S (.bool (wordB s (wl 7))) (wordS s (wl 7)))) := fun w hw => rtWord_c hw hl1 (wl 7) (by decide)
  have CW8 : Hid (∀ w, DRS w g S s → Calls Tryz.prog 102 #[pt g, .string ⟨#[78, 79, 84, 32]⟩] w (DoesD w g S (.bool (wordB s (wl 8))) (wordS s (wl 8)))) := fun w hw => rtWord_c hw hl1 (wl 8) (by decide)
  have CW9 : Hid (∀ w, DRS w g S s → Calls Tryz.prog 102 #[pt g, .string ⟨#[79, 82, 32]⟩] w (DoesD w g S (.bool (wordB s (wl 9))) (wordS s (wl 9)))) := fun w hw => rtWord_c hw hl1 (wl 9) (by decide)
  have CW10 : Hid (∀ w, DRS w g S s → Calls Tryz.prog 102 #[pt g, .string ⟨#[40]⟩] w (DoesD w g S (.bool (wordB s (wl 10))) (wordS s (wl 10)))) := fun w hw => rtWord_c hw hl1 (wl 10) (by decide)
  have CB : Hid (∀ w t, DRS w g S t → Calls Tryz.prog 102 #[pt g, .string ⟨#[41]⟩] w (DoesD w g S (.bool (wordB t [41])) (wordS t [41]))) := fun w t hw => rtWord_c hw hl1 [41] (by decide)
  have CM : Hid (∀ w t, DRS w g S t → Calls Tryz.prog 103 #[pt g, .string ⟨#[32]⟩] w (DoesD w g S (.tuple #[]) (mustS t [32]))) := fun w t hw => rtMust_c hw hl1 [32] (by decide)
  have CS : Hid (∀ w t, DRS w g S t → Calls Tryz.prog 28 #[pt g] w (SetDoesD w g S (rsetV t) (rsetS t))) := fun w t hw => rset14_c hw hl
  have CN : Hid (∀ w t, DRS w g S t → Calls Tryz.prog 139 #[pt g] w (DoesD w g S (.int .u32 (numN t)) (numS t))) := fun w t hw => rtNumber_c hw hl1
  have CT : Hid (∀ w t, DRS w g S t → Calls Tryz.prog 104 #[pt g] w (DoesD w g S (.string (txt (strV t))) (strS t))) := fun w t hw => rtString_c hw hl1
  have CI : Hid (∀ w t, DRS w g S t → Calls Tryz.prog 76 #[pt g, .int .i64 (d - 1)] w (ReadDoesD w g S (readD f t))) := fun w t hw => ih (d - 1) w g t S (by omega) hw hl
  have FW : Hid (∀ t, t.Ok → t.l.length ≤ 100000 → Fewer t (readD f t).2) := fun t h1 h2 => fewerD f t h1 h2
  obtain ⟨R, hR⟩ : ∃ R, readD (f + 1) s = R := ⟨_, rfl⟩
  rw [hR]
  have HR := Lib.hid hR
  have HB0 := Lib.hid hb0
  have HS0 := Lib.hid hs0
  have HOK := Lib.hid hok
  have HLE := Lib.hid (Nat.le_trans hle hl)
  have HP0 := Lib.hid hp0
  have HW0 := Lib.hid hw0
  have qd1 : ¬ d < 1 := by omega
  have qd2 : d ≤ 17 := by omega
  have qd3 : (1 : Int) ≤ d := by omega
  clear h hok hle hl hl1 hb0 hs0 hc0 hp0 hw0 hR ih hd
  go_enter Tryz.func76, Tryz.ntmps76
  go_wp2_with fail
  rw [HW0.out]
  clear HW0
  go_loopw [5] (fun v wr => ∃ i : Nat, i ≤ 5 ∧ v = .int .i64 i ∧ Hid (DRS wr g S s) ∧ Hid (Tk g w0 wr) ∧ Hid (∀ j, j < i → wordB s (flagT j) = false ∧ wordB s (unL ++ flagT j) = false)) (fun v _ => 5 - (intOf v).toNat)
  case atStart => exact ⟨0, by omega, rfl, HP0.out, Tk.refl _ _, fun j hj => absurd hj (Nat.not_lt_zero j)⟩
  case round =>
    obtain ⟨i, hi, rfl, HP, HT, HN⟩ := hrel
    by_cases hlt : i < 5
    · have q : (i : Int) < 5 := by omega
      have q0 : (0 : Int) ≤ i := by omega
      have F1 := CF.out i hlt
      have F2 := CWF.out i
      have F3 := CWU.out i
      obtain ⟨X, hX⟩ : ∃ X, txt (flagT i) = X := ⟨_, rfl⟩
      have hXs : (txt (flagT i)).size ≤ 9 := by rw [txt_size]; exact flagT_len i
      rw [hX] at hXs
      simp only [hX] at F1 F2 F3
      obtain ⟨b1, hb1⟩ : ∃ b, wordB s (flagT i) = b := ⟨_, rfl⟩
      obtain ⟨b2, hb2⟩ : ∃ b, wordB s (unL ++ flagT i) = b := ⟨_, rfl⟩
      simp only [hb1] at F2
      simp only [hb2] at F3
      have F1 := Lib.hid F1
      have F2 := Lib.hid F2
      have F3 := Lib.hid F3
      have H1 := Lib.hid hb1
      have H2 := Lib.hid hb2
      clear hX hb1 hb2
      go_wp2_with fail
      refine (F1.out wr).mono ?_
      rintro e w2 ⟨rfl, hbw⟩
      have K2 := Lib.hid (HT.out.trans (Tk.of_below (g := g) hbw))
      have P2 := Lib.hid (HP.out.tk (Tk.of_below (g := g + 1) hbw) (by omega))
      clear hbw
      cases b1 with
      | true =>
        go_wp2_with fail
        refine (F2.out w2 P2.out).mono ?_
        rintro e w3 ⟨rfl, hp3, hk3⟩
        have K3 := Lib.hid (K2.out.trans hk3)
        have P3 := Lib.hid hp3
        have HE := Lib.hid ((readD_flag (f := f) ((flag_first hlt HN.out).1 H1.out)).symm.trans HR.out)
        clear hp3 hk3 F1 F2 F3
        obtain rfl | rfl | rfl | rfl | rfl : i = 0 ∨ i = 1 ∨ i = 2 ∨ i = 3 ∨ i = 4 := by omega
        · have hcr := FZ.out _ K3.out
          have HCR := Lib.hid hcr
          have r0 := hcr.cell (i := 0) rfl
          have r1 := hcr.cell (i := 1) rfl
          have r2 := hcr.cell (i := 2) rfl
          have r3 := hcr.cell (i := 3) rfl
          have r4 := hcr.cell (i := 4) rfl
          have r5 := hcr.cell (i := 5) rfl
          have fr := fun i => hcr.frozen i
          have hrl := hcr.lt
          clear hcr
          go_wp2_with fail
          refine bodyPost_ret (results_r4 _ _ W.heap.size _ _ _ _ _ _ (Cells.six HCR.out _ _ _ _ _ _) rfl) rfl ?_
          exact rk_fin HB0.out HS0.out hgl K3.out P3.out (KT.mk 1 (2 ^ 0) [] 0 [] [] none 0 none 0) rfl (plain_c w3 (W.heap.size + 1) 1 (2 ^ 0) 0 [] (by omega) (by omega) (by simp)).1 (plain_c w3 (W.heap.size + 1) 1 (2 ^ 0) 0 [] (by omega) (by omega) (by simp)).2 R (HE.out)
        · have hcr := FZ.out _ K3.out
          have HCR := Lib.hid hcr
          have r0 := hcr.cell (i := 0) rfl
          have r1 := hcr.cell (i := 1) rfl
          have r2 := hcr.cell (i := 2) rfl
          have r3 := hcr.cell (i := 3) rfl
          have r4 := hcr.cell (i := 4) rfl
          have r5 := hcr.cell (i := 5) rfl
          have fr := fun i => hcr.frozen i
          have hrl := hcr.lt
          clear hcr
          go_wp2_with fail
          refine bodyPost_ret (results_r4 _ _ W.heap.size _ _ _ _ _ _ (Cells.six HCR.out _ _ _ _ _ _) rfl) rfl ?_
          exact rk_fin HB0.out HS0.out hgl K3.out P3.out (KT.mk 1 (2 ^ 1) [] 0 [] [] none 0 none 0) rfl (plain_c w3 (W.heap.size + 1) 1 (2 ^ 1) 0 [] (by omega) (by omega) (by simp)).1 (plain_c w3 (W.heap.size + 1) 1 (2 ^ 1) 0 [] (by omega) (by omega) (by simp)).2 R (HE.out)
        · have hcr := FZ.out _ K3.out
          have HCR := Lib.hid hcr
          have r0 := hcr.cell (i := 0) rfl
          have r1 := hcr.cell (i := 1) rfl
          have r2 := hcr.cell (i := 2) rfl
          have r3 := hcr.cell (i := 3) rfl
          have r4 := hcr.cell (i := 4) rfl
          have r5 := hcr.cell (i := 5) rfl
          have fr := fun i => hcr.frozen i
          have hrl := hcr.lt
          clear hcr
          go_wp2_with fail
          refine bodyPost_ret (results_r4 _ _ W.heap.size _ _ _ _ _ _ (Cells.six HCR.out _ _ _ _ _ _) rfl) rfl ?_
          exact rk_fin HB0.out HS0.out hgl K3.out P3.out (KT.mk 1 (2 ^ 2) [] 0 [] [] none 0 none 0) rfl (plain_c w3 (W.heap.size + 1) 1 (2 ^ 2) 0 [] (by omega) (by omega) (by simp)).1 (plain_c w3 (W.heap.size + 1) 1 (2 ^ 2) 0 [] (by omega) (by omega) (by simp)).2 R (HE.out)
        · have hcr := FZ.out _ K3.out
          have HCR := Lib.hid hcr
          have r0 := hcr.cell (i := 0) rfl
          have r1 := hcr.cell (i := 1) rfl
          have r2 := hcr.cell (i := 2) rfl
          have r3 := hcr.cell (i := 3) rfl
          have r4 := hcr.cell (i := 4) rfl
          have r5 := hcr.cell (i := 5) rfl
          have fr := fun i => hcr.frozen i
          have hrl := hcr.lt
          clear hcr
          go_wp2_with fail
          refine bodyPost_ret (results_r4 _ _ W.heap.size _ _ _ _ _ _ (Cells.six HCR.out _ _ _ _ _ _) rfl) rfl ?_
          exact rk_fin HB0.out HS0.out hgl K3.out P3.out (KT.mk 1 (2 ^ 3) [] 0 [] [] none 0 none 0) rfl (plain_c w3 (W.heap.size + 1) 1 (2 ^ 3) 0 [] (by omega) (by omega) (by simp)).1 (plain_c w3 (W.heap.size + 1) 1 (2 ^ 3) 0 [] (by omega) (by omega) (by simp)).2 R (HE.out)
        · have hcr := FZ.out _ K3.out
          have HCR := Lib.hid hcr
          have r0 := hcr.cell (i := 0) rfl
          have r1 := hcr.cell (i := 1) rfl
          have r2 := hcr.cell (i := 2) rfl
          have r3 := hcr.cell (i := 3) rfl
          have r4 := hcr.cell (i := 4) rfl
          have r5 := hcr.cell (i := 5) rfl
          have fr := fun i => hcr.frozen i
          have hrl := hcr.lt
          clear hcr
          go_wp2_with fail
          refine bodyPost_ret (results_r4 _ _ W.heap.size _ _ _ _ _ _ (Cells.six HCR.out _ _ _ _ _ _) rfl) rfl ?_
          exact rk_fin HB0.out HS0.out hgl K3.out P3.out (KT.mk 1 (2 ^ 4) [] 0 [] [] none 0 none 0) rfl (plain_c w3 (W.heap.size + 1) 1 (2 ^ 4) 0 [] (by omega) (by omega) (by simp)).1 (plain_c w3 (W.heap.size + 1) 1 (2 ^ 4) 0 [] (by omega) (by omega) (by simp)).2 R (HE.out)
      | false =>
        go_wp2_with fail
        refine (F2.out w2 P2.out).mono ?_
        rintro e w3 ⟨rfl, hp3, hk3⟩
        rw [wordS_no H1.out] at hp3
        have K3 := Lib.hid (K2.out.trans hk3)
        have P3 := Lib.hid hp3
        clear hp3 hk3
        go_wp2_with fail
        refine (F1.out w3).mono ?_
        rintro e w4 ⟨rfl, hbw⟩
        have K4 := Lib.hid (K3.out.trans (Tk.of_below (g := g) hbw))
        have P4 := Lib.hid (P3.out.tk (Tk.of_below (g := g + 1) hbw) (by omega))
        clear hbw
        cases b2 with
        | true =>
          go_wp2_with fail
          refine (F3.out w4 P4.out).mono ?_
          rintro e w5 ⟨rfl, hp5, hk5⟩
          have K5 := Lib.hid (K4.out.trans hk5)
          have P5 := Lib.hid hp5
          have HE := Lib.hid ((readD_flag (f := f) ((flag_first hlt HN.out).2 H1.out H2.out)).symm.trans HR.out)
          clear hp5 hk5 F1 F2 F3
          obtain rfl | rfl | rfl | rfl | rfl : i = 0 ∨ i = 1 ∨ i = 2 ∨ i = 3 ∨ i = 4 := by omega
          · have hcr := FZ.out _ K5.out
            have HCR := Lib.hid hcr
            have r0 := hcr.cell (i := 0) rfl
            have r1 := hcr.cell (i := 1) rfl
            have r2 := hcr.cell (i := 2) rfl
            have r3 := hcr.cell (i := 3) rfl
            have r4 := hcr.cell (i := 4) rfl
            have r5 := hcr.cell (i := 5) rfl
            have fr := fun i => hcr.frozen i
            have hrl := hcr.lt
            clear hcr
            go_wp2_with fail
            refine bodyPost_ret (results_r4 _ _ W.heap.size _ _ _ _ _ _ (Cells.six HCR.out _ _ _ _ _ _) rfl) rfl ?_
            exact rk_fin HB0.out HS0.out hgl K5.out P5.out (KT.mk 2 (2 ^ 0) [] 0 [] [] none 0 none 0) rfl (plain_c w5 (W.heap.size + 1) 2 (2 ^ 0) 0 [] (by omega) (by omega) (by simp)).1 (plain_c w5 (W.heap.size + 1) 2 (2 ^ 0) 0 [] (by omega) (by omega) (by simp)).2 R (HE.out)
          · have hcr := FZ.out _ K5.out
            have HCR := Lib.hid hcr
            have r0 := hcr.cell (i := 0) rfl
            have r1 := hcr.cell (i := 1) rfl
            have r2 := hcr.cell (i := 2) rfl
            have r3 := hcr.cell (i := 3) rfl
            have r4 := hcr.cell (i := 4) rfl
            have r5 := hcr.cell (i := 5) rfl
            have fr := fun i => hcr.frozen i
            have hrl := hcr.lt
            clear hcr
            go_wp2_with fail
            refine bodyPost_ret (results_r4 _ _ W.heap.size _ _ _ _ _ _ (Cells.six HCR.out _ _ _ _ _ _) rfl) rfl ?_
            exact rk_fin HB0.out HS0.out hgl K5.out P5.out (KT.mk 2 (2 ^ 1) [] 0 [] [] none 0 none 0) rfl (plain_c w5 (W.heap.size + 1) 2 (2 ^ 1) 0 [] (by omega) (by omega) (by simp)).1 (plain_c w5 (W.heap.size + 1) 2 (2 ^ 1) 0 [] (by omega) (by omega) (by simp)).2 R (HE.out)
          · have hcr := FZ.out _ K5.out
            have HCR := Lib.hid hcr
            have r0 := hcr.cell (i := 0) rfl
            have r1 := hcr.cell (i := 1) rfl
            have r2 := hcr.cell (i := 2) rfl
            have r3 := hcr.cell (i := 3) rfl
            have r4 := hcr.cell (i := 4) rfl
            have r5 := hcr.cell (i := 5) rfl
            have fr := fun i => hcr.frozen i
            have hrl := hcr.lt
            clear hcr
            go_wp2_with fail
            refine bodyPost_ret (results_r4 _ _ W.heap.size _ _ _ _ _ _ (Cells.six HCR.out _ _ _ _ _ _) rfl) rfl ?_
            exact rk_fin HB0.out HS0.out hgl K5.out P5.out (KT.mk 2 (2 ^ 2) [] 0 [] [] none 0 none 0) rfl (plain_c w5 (W.heap.size + 1) 2 (2 ^ 2) 0 [] (by omega) (by omega) (by simp)).1 (plain_c w5 (W.heap.size + 1) 2 (2 ^ 2) 0 [] (by omega) (by omega) (by simp)).2 R (HE.out)
          · have hcr := FZ.out _ K5.out
            have HCR := Lib.hid hcr
            have r0 := hcr.cell (i := 0) rfl
            have r1 := hcr.cell (i := 1) rfl
            have r2 := hcr.cell (i := 2) rfl
            have r3 := hcr.cell (i := 3) rfl
            have r4 := hcr.cell (i := 4) rfl
            have r5 := hcr.cell (i := 5) rfl
            have fr := fun i => hcr.frozen i
            have hrl := hcr.lt
            clear hcr
            go_wp2_with fail
            refine bodyPost_ret (results_r4 _ _ W.heap.size _ _ _ _ _ _ (Cells.six HCR.out _ _ _ _ _ _) rfl) rfl ?_
            exact rk_fin HB0.out HS0.out hgl K5.out P5.out (KT.mk 2 (2 ^ 3) [] 0 [] [] none 0 none 0) rfl (plain_c w5 (W.heap.size + 1) 2 (2 ^ 3) 0 [] (by omega) (by omega) (by simp)).1 (plain_c w5 (W.heap.size + 1) 2 (2 ^ 3) 0 [] (by omega) (by omega) (by simp)).2 R (HE.out)
          · have hcr := FZ.out _ K5.out
            have HCR := Lib.hid hcr
            have r0 := hcr.cell (i := 0) rfl
            have r1 := hcr.cell (i := 1) rfl
            have r2 := hcr.cell (i := 2) rfl
            have r3 := hcr.cell (i := 3) rfl
            have r4 := hcr.cell (i := 4) rfl
            have r5 := hcr.cell (i := 5) rfl
            have fr := fun i => hcr.frozen i
            have hrl := hcr.lt
            clear hcr
            go_wp2_with fail
            refine bodyPost_ret (results_r4 _ _ W.heap.size _ _ _ _ _ _ (Cells.six HCR.out _ _ _ _ _ _) rfl) rfl ?_
            exact rk_fin HB0.out HS0.out hgl K5.out P5.out (KT.mk 2 (2 ^ 4) [] 0 [] [] none 0 none 0) rfl (plain_c w5 (W.heap.size + 1) 2 (2 ^ 4) 0 [] (by omega) (by omega) (by simp)).1 (plain_c w5 (W.heap.size + 1) 2 (2 ^ 4) 0 [] (by omega) (by omega) (by simp)).2 R (HE.out)
        | false =>
          go_wp2_with fail
          refine (F3.out w4 P4.out).mono ?_
          rintro e w5 ⟨rfl, hp5, hk5⟩
          rw [wordS_no H2.out] at hp5
          have K5 := Lib.hid (K4.out.trans hk5)
          have P5 := Lib.hid hp5
          have HN2 : Hid (∀ j, j < i + 1 → wordB s (flagT j) = false ∧ wordB s (unL ++ flagT j) = false) := fun j hj => by
            by_cases e : j = i
            · subst e; exact ⟨H1.out, H2.out⟩
            · exact HN.out j (by omega)
          clear hp5 hk5
          go_wp2_with fail
          go_roundw
          case rel => exact ⟨i + 1, by omega, by go_num, P5.out, K5.out, HN2.out⟩
          case measure => simp [intOf]; omega
    · obtain rfl : i = 5 := by omega
      have HNW : Hid (NoWord s 0) := ⟨flagD_none HN.out, fun j hj => absurd hj (Nat.not_lt_zero j)⟩
      have q5 : ¬ ((5 : Nat) : Int) < 5 := by omega
      obtain ⟨v0, hv0⟩ : ∃ v0, wr = v0 := ⟨_, rfl⟩
      rw [hv0] at HP HT ⊢
      clear hv0 HN HP0
      obtain ⟨b0, hb0⟩ : ∃ b, wordB s (wl 0) = b := ⟨_, rfl⟩
      have CK := CW0.out v0 HP.out
      rw [hb0] at CK
      have CK := Lib.hid CK
      have HK0 := Lib.hid hb0
      clear hb0 CW0
      go_wp2_with fail
      refine CK.out.mono ?_
      rintro e y0 ⟨rfl, hp, hk⟩
      clear CK
      cases b0 with
      | true =>
        have PK := Lib.hid hp
        have KK := Lib.hid (HT.out.trans hk)
        have HE := Lib.hid ((readD_0 (f := f) HNW.out.1 HK0.out).symm.trans HR.out)
        obtain ⟨t, ht⟩ : ∃ t, wordS s (wl 0) = t := ⟨_, rfl⟩
        have hok : t.Ok := by rw [← ht]; exact HOK.out.word _
        have hlt9 : t.l.length ≤ 10000 := by rw [← ht]; have := word_le s (wl 0); have := HLE.out; omega
        rw [ht] at PK HE
        clear hp hk ht
        have hcr := FZ.out _ KK.out
        have HCR := Lib.hid hcr
        have r0 := hcr.cell (i := 0) rfl
        have r1 := hcr.cell (i := 1) rfl
        have r2 := hcr.cell (i := 2) rfl
        have r3 := hcr.cell (i := 3) rfl
        have r4 := hcr.cell (i := 4) rfl
        have r5 := hcr.cell (i := 5) rfl
        have fr := fun i => hcr.frozen i
        have hrl := hcr.lt
        clear hcr
        go_wp2_with fail
        refine bodyPost_ret (results_r4 _ _ W.heap.size _ _ _ _ _ _ (Cells.six HCR.out _ _ _ _ _ _) rfl) rfl ?_
        exact rk_fin HB0.out HS0.out hgl KK.out PK.out (KT.mk 0 0 [] 0 [] [] none 0 none 0) rfl (plain_c y0 (W.heap.size + 1) 0 0 0 [] (by omega) (by omega) (by simp)).1 (plain_c y0 (W.heap.size + 1) 0 0 0 [] (by omega) (by omega) (by simp)).2 R (HE.out)
      | false =>
        rw [wordS_no HK0.out] at hp
        have P0 := Lib.hid hp
        have T0 := Lib.hid (HT.out.trans hk)
        have N0 : Hid (NoWord s 4) := ((((HNW.out.succ (.inr (.inr (.inr HK0.out)))).succ (.inl rfl)).succ (.inr (.inl rfl))).succ (.inr (.inr (.inl rfl))))
        clear hp hk
        obtain ⟨b4, hb4⟩ : ∃ b, wordB s (wl 4) = b := ⟨_, rfl⟩
        have CK := CW4.out y0 P0.out
        rw [hb4] at CK
        have CK := Lib.hid CK
        have HK4 := Lib.hid hb4
        clear hb4 CW4
        go_wp2_with fail
        refine CK.out.mono ?_
        rintro e y4 ⟨rfl, hp, hk⟩
        clear CK
        cases b4 with
        | true =>
          have PK := Lib.hid hp
          have KK := Lib.hid (T0.out.trans hk)
          have HE := Lib.hid ((readD_4 (f := f) N0.out HK4.out).symm.trans HR.out)
          obtain ⟨t, ht⟩ : ∃ t, wordS s (wl 4) = t := ⟨_, rfl⟩
          have hok : t.Ok := by rw [← ht]; exact HOK.out.word _
          have hlt9 : t.l.length ≤ 10000 := by rw [← ht]; have := word_le s (wl 4); have := HLE.out; omega
          rw [ht] at PK HE
          clear hp hk ht
          go_wp2_with fail
          refine (CS.out _ _ PK.out).mono ?_
          rintro e z4 ⟨⟨sp, cap, rfl, hps, hup⟩, hp4, hk4⟩
          have K4 := Lib.hid (KK.out.trans hk4)
          have P4 := Lib.hid hp4
          have HPS := Lib.hid hps
          have HUP := Lib.hid (hup.mono (by have := KK.out.size; have := HS0.out; omega : W.heap.size + 1 ≤ y4.heap.size))
          clear hps hup hp4 hk4
          have hcr := FZ.out _ K4.out
          have HCR := Lib.hid hcr
          have r0 := hcr.cell (i := 0) rfl
          have r1 := hcr.cell (i := 1) rfl
          have r2 := hcr.cell (i := 2) rfl
          have r3 := hcr.cell (i := 3) rfl
          have r4 := hcr.cell (i := 4) rfl
          have r5 := hcr.cell (i := 5) rfl
          have fr := fun i => hcr.frozen i
          have hrl := hcr.lt
          clear hcr
          go_wp2_with fail
          refine bodyPost_ret (results_r4 _ _ W.heap.size _ _ _ _ _ _ (Cells.six HCR.out _ _ _ _ _ _) rfl) rfl ?_
          exact rk_fin HB0.out HS0.out hgl K4.out P4.out (KT.mk 4 0 (rsetV t) 0 [] [] sp cap none 0) rfl (setk_c z4 (W.heap.size + 1) 4 _ sp cap (rsetV_len t) HPS.out HUP.out).1 (setk_c z4 (W.heap.size + 1) 4 _ sp cap (rsetV_len t) HPS.out HUP.out).2 R (HE.out)
        | false =>
          rw [wordS_no HK4.out] at hp
          have P4 := Lib.hid hp
          have T4 := Lib.hid (T0.out.trans hk)
          have N4 : Hid (NoWord s 5) := N0.out.succ (.inr (.inr (.inr HK4.out)))
          clear hp hk
          obtain ⟨b5, hb5⟩ : ∃ b, wordB s (wl 5) = b := ⟨_, rfl⟩
          have CK := CW5.out y4 P4.out
          rw [hb5] at CK
          have CK := Lib.hid CK
          have HK5 := Lib.hid hb5
          clear hb5 CW5
          go_wp2_with fail
          refine CK.out.mono ?_
          rintro e y5 ⟨rfl, hp, hk⟩
          clear CK
          cases b5 with
          | true =>
            have PK := Lib.hid hp
            have KK := Lib.hid (T4.out.trans hk)
            have HE := Lib.hid ((readD_5 (f := f) N4.out HK5.out).symm.trans HR.out)
            obtain ⟨t, ht⟩ : ∃ t, wordS s (wl 5) = t := ⟨_, rfl⟩
            have hok : t.Ok := by rw [← ht]; exact HOK.out.word _
            have hlt9 : t.l.length ≤ 10000 := by rw [← ht]; have := word_le s (wl 5); have := HLE.out; omega
            rw [ht] at PK HE
            clear hp hk ht
            go_wp2_with fail
            refine (CN.out _ _ PK.out).mono ?_
            rintro e z4 ⟨rfl, hp4, hk4⟩
            have K4 := Lib.hid (KK.out.trans hk4)
            have P4 := Lib.hid hp4
            clear hp4 hk4
            have hcr := FZ.out _ K4.out
            have HCR := Lib.hid hcr
            have r0 := hcr.cell (i := 0) rfl
            have r1 := hcr.cell (i := 1) rfl
            have r2 := hcr.cell (i := 2) rfl
            have r3 := hcr.cell (i := 3) rfl
            have r4 := hcr.cell (i := 4) rfl
            have r5 := hcr.cell (i := 5) rfl
            have fr := fun i => hcr.frozen i
            have hrl := hcr.lt
            clear hcr
            go_wp2_with fail
            refine bodyPost_ret (results_r4 _ _ W.heap.size _ _ _ _ _ _ (Cells.six HCR.out _ _ _ _ _ _) rfl) rfl ?_
            exact rk_fin HB0.out HS0.out hgl K4.out P4.out (KT.mk 5 0 [] (numN t) [] [] none 0 none 0) rfl (plain_c z4 (W.heap.size + 1) 5 0 (numN t) [] (by omega) (numN_le t) (by simp)).1 (plain_c z4 (W.heap.size + 1) 5 0 (numN t) [] (by omega) (numN_le t) (by simp)).2 R (HE.out)
          | false =>
            rw [wordS_no HK5.out] at hp
            have P5 := Lib.hid hp
            have T5 := Lib.hid (T4.out.trans hk)
            have N5 : Hid (NoWord s 6) := N4.out.succ (.inr (.inr (.inr HK5.out)))
            clear hp hk
            obtain ⟨b6, hb6⟩ : ∃ b, wordB s (wl 6) = b := ⟨_, rfl⟩
            have CK := CW6.out y5 P5.out
            rw [hb6] at CK
            have CK := Lib.hid CK
            have HK6 := Lib.hid hb6
            clear hb6 CW6
            go_wp2_with fail
            refine CK.out.mono ?_
            rintro e y6 ⟨rfl, hp, hk⟩
            clear CK
            cases b6 with
            | true =>
              have PK := Lib.hid hp
              have KK := Lib.hid (T5.out.trans hk)
              have HE := Lib.hid ((readD_6 (f := f) N5.out HK6.out).symm.trans HR.out)
              obtain ⟨t, ht⟩ : ∃ t, wordS s (wl 6) = t := ⟨_, rfl⟩
              have hok : t.Ok := by rw [← ht]; exact HOK.out.word _
              have hlt9 : t.l.length ≤ 10000 := by rw [← ht]; have := word_le s (wl 6); have := HLE.out; omega
              rw [ht] at PK HE
              clear hp hk ht
              go_wp2_with fail
              refine (CN.out _ _ PK.out).mono ?_
              rintro e z4 ⟨rfl, hp4, hk4⟩
              have K4 := Lib.hid (KK.out.trans hk4)
              have P4 := Lib.hid hp4
              clear hp4 hk4
              have hcr := FZ.out _ K4.out
              have HCR := Lib.hid hcr
              have r0 := hcr.cell (i := 0) rfl
              have r1 := hcr.cell (i := 1) rfl
              have r2 := hcr.cell (i := 2) rfl
              have r3 := hcr.cell (i := 3) rfl
              have r4 := hcr.cell (i := 4) rfl
              have r5 := hcr.cell (i := 5) rfl
              have fr := fun i => hcr.frozen i
              have hrl := hcr.lt
              clear hcr
              go_wp2_with fail
              refine bodyPost_ret (results_r4 _ _ W.heap.size _ _ _ _ _ _ (Cells.six HCR.out _ _ _ _ _ _) rfl) rfl ?_
              exact rk_fin HB0.out HS0.out hgl K4.out P4.out (KT.mk 6 0 [] (numN t) [] [] none 0 none 0) rfl (plain_c z4 (W.heap.size + 1) 6 0 (numN t) [] (by omega) (numN_le t) (by simp)).1 (plain_c z4 (W.heap.size + 1) 6 0 (numN t) [] (by omega) (numN_le t) (by simp)).2 R (HE.out)
            | false =>
              rw [wordS_no HK6.out] at hp
              have P6 := Lib.hid hp
              have T6 := Lib.hid (T5.out.trans hk)
              have N6 : Hid (NoWord s 7) := N5.out.succ (.inr (.inr (.inr HK6.out)))
              clear hp hk
              obtain ⟨b7, hb7⟩ : ∃ b, wordB s (wl 7) = b := ⟨_, rfl⟩
              have CK := CW7.out y6 P6.out
              rw [hb7] at CK
              have CK := Lib.hid CK
              have HK7 := Lib.hid hb7
              clear hb7 CW7
              go_wp2_with fail
              refine CK.out.mono ?_
              rintro e y7 ⟨rfl, hp, hk⟩
              clear CK
              cases b7 with
              | true =>
                have PK := Lib.hid hp
                have KK := Lib.hid (T6.out.trans hk)
                have HE := Lib.hid ((readD_7 (f := f) N6.out HK7.out).symm.trans HR.out)
                obtain ⟨t, ht⟩ : ∃ t, wordS s (wl 7) = t := ⟨_, rfl⟩
                have hok : t.Ok := by rw [← ht]; exact HOK.out.word _
                have hlt9 : t.l.length ≤ 10000 := by rw [← ht]; have := word_le s (wl 7); have := HLE.out; omega
                rw [ht] at PK HE
                clear hp hk ht
                go_wp2_with fail
                refine (CT.out _ _ PK.out).mono ?_
                rintro e z4 ⟨rfl, hp4, hk4⟩
                have K4 := Lib.hid (KK.out.trans hk4)
                have P4 := Lib.hid hp4
                clear hp4 hk4
                have hcr := FZ.out _ K4.out
                have HCR := Lib.hid hcr
                have r0 := hcr.cell (i := 0) rfl
                have r1 := hcr.cell (i := 1) rfl
                have r2 := hcr.cell (i := 2) rfl
                have r3 := hcr.cell (i := 3) rfl
                have r4 := hcr.cell (i := 4) rfl
                have r5 := hcr.cell (i := 5) rfl
                have fr := fun i => hcr.frozen i
                have hrl := hcr.lt
                clear hcr
                go_wp2_with fail
                refine bodyPost_ret (results_r4 _ _ W.heap.size _ _ _ _ _ _ (Cells.six HCR.out _ _ _ _ _ _) rfl) rfl ?_
                exact rk_fin HB0.out HS0.out hgl K4.out P4.out (KT.mk 7 0 [] 0 (strV t) [] none 0 none 0) rfl (plain_c z4 (W.heap.size + 1) 7 0 0 (strV t) (by omega) (by omega) (by have := strV_le t; omega)).1 (plain_c z4 (W.heap.size + 1) 7 0 0 (strV t) (by omega) (by omega) (by have := strV_le t; omega)).2 R (HE.out)
              | false =>
                rw [wordS_no HK7.out] at hp
                have P7 := Lib.hid hp
                have T7 := Lib.hid (T6.out.trans hk)
                have N7 : Hid (NoWord s 8) := N6.out.succ (.inr (.inr (.inr HK7.out)))
                clear hp hk
                clear CN CT
                go_wp2_with fail
                obtain ⟨yz, hyz⟩ : ∃ yz, y7.alloc (.cells #[.int .i64 0, .int .u8 0, .slice none 0 0, .int .u32 0, .string ⟨#[]⟩, .slice none 0 0] 26) = yz := ⟨_, rfl⟩
                have hbz : Below y7.heap.size y7 yz := by rw [← hyz]; exact (Below.refl _ y7).alloc (Nat.le_refl _) _
                have hcz : Cells yz y7.heap.size 26 #[.int .i64 0, .int .u8 0, .slice none 0 0, .int .u32 0, .string ⟨#[]⟩, .slice none 0 0] := by rw [← hyz]; exact heap_alloc_new y7 _
                rw [hyz]
                obtain ⟨T, hT⟩ : ∃ T, y7.heap.size = T := ⟨_, rfl⟩
                have hT1 : W.heap.size < T := by have := T7.out.size; have := HS0.out; omega
                have PZ : Hid (DRS yz g S s) := P7.out.tk (Tk.of_below (g := g + 1) hbz) (by omega)
                have TZ : Hid (Tk g w0 yz) := T7.out.trans (Tk.of_below hbz)
                rw [hT] at hcz ⊢
                have HCZ := Lib.hid hcz
                clear hyz hbz hcz hT
                obtain ⟨b8, hb8⟩ : ∃ b, wordB s (wl 8) = b := ⟨_, rfl⟩
                have CK := CW8.out yz PZ.out
                rw [hb8] at CK
                have CK := Lib.hid CK
                have HK8 := Lib.hid hb8
                clear hb8 CW8
                refine CK.out.mono ?_
                rintro e y8 ⟨rfl, hp, hk⟩
                clear CK
                go_upto_if 57 with fail
                go_cut [6, 7] from 58 (fun t6 t7 wc => ∃ (many : Nat) (kind : Int) (t : RS), many ≤ 2 ∧ t6 = .int .i64 many ∧ t7 = .pointer (some ⟨T, 0, none⟩) ∧ Hid (RkI W w0 g S kind T [] 0 t (.slice none 0 0) wc) ∧ Hid (t.Ok ∧ t.l.length ≤ 10000 ∧ (KT.mk (if many = 0 then 10 else kind) 0 [] 0 [] (loopD (readD f) many (t.l.length + 2) [] t).1 none 0 none 0, (loopD (readD f) many (t.l.length + 2) [] t).2) = R))
                case first =>
                  cases b8 with
                  | true =>
                    have PK := Lib.hid hp
                    have KK := Lib.hid (TZ.out.trans hk)
                    have HE := Lib.hid ((readD_8 (f := f) N7.out HK8.out).symm.trans HR.out)
                    obtain ⟨t, ht⟩ : ∃ t, wordS s (wl 8) = t := ⟨_, rfl⟩
                    have hok : t.Ok := by rw [← ht]; exact HOK.out.word _
                    have hlt9 : t.l.length ≤ 10000 := by rw [← ht]; have := word_le s (wl 8); have := HLE.out; omega
                    rw [ht] at PK HE
                    have hct := Cells.later HCZ.out (hk.blk _ (Cells.lt (HCZ.out)) (by omega))
                    have HCT := Lib.hid hct
                    have x0 := hct.cell (i := 0) rfl
                    have fx := fun i => hct.frozen i
                    have xl := hct.lt
                    clear hp hk ht hct
                    have HI : Hid (RkI W w0 g S 8 T [] 0 t (.slice none 0 0) (y8.setCell ⟨T, 0, none⟩ (.int .i64 8))) := ⟨hT1, HCT.out.set 0 _, rfl, World.ownsRow_nil _ _ _ _, fun x hx => by simp at hx, fun x hx => by simp at hx, fun x hx => by simp at hx, by simp [Value.ownBlock], PK.out.tk (Tk.set _ 0 _) (by omega), KK.out.fresh (Tk.set _ 0 _) (by have := HS0.out; omega)⟩
                    go_wp2_with fail
                    go_meet
                    case rel => exact ⟨1, 8, t, by omega, rfl, rfl, HI.out, hok, hlt9, HE.out⟩
                  | false =>
                    rw [wordS_no HK8.out] at hp
                    have P8 := Lib.hid hp
                    have T8 := Lib.hid (TZ.out.trans hk)
                    have N8 : Hid (NoWord s 9) := N7.out.succ (.inr (.inr (.inr HK8.out)))
                    have HC8 := Lib.hid (Cells.later HCZ.out (hk.blk _ (Cells.lt (HCZ.out)) (by omega)))
                    clear hp hk
                    obtain ⟨b9, hb9⟩ : ∃ b, wordB s (wl 9) = b := ⟨_, rfl⟩
                    have CK := CW9.out y8 P8.out
                    rw [hb9] at CK
                    have CK := Lib.hid CK
                    have HK9 := Lib.hid hb9
                    clear hb9 CW9
                    go_wp2_with fail
                    refine CK.out.mono ?_
                    rintro e y9 ⟨rfl, hp, hk⟩
                    clear CK
                    cases b9 with
                    | true =>
                      have PK := Lib.hid hp
                      have KK := Lib.hid (T8.out.trans hk)
                      have HE := Lib.hid ((readD_9 (f := f) N8.out HK9.out).symm.trans HR.out)
                      obtain ⟨t, ht⟩ : ∃ t, wordS s (wl 9) = t := ⟨_, rfl⟩
                      have hok : t.Ok := by rw [← ht]; exact HOK.out.word _
                      have hlt9 : t.l.length ≤ 10000 := by rw [← ht]; have := word_le s (wl 9); have := HLE.out; omega
                      rw [ht] at PK HE
                      have hct := Cells.later HC8.out (hk.blk _ (Cells.lt (HC8.out)) (by omega))
                      have HCT := Lib.hid hct
                      have x0 := hct.cell (i := 0) rfl
                      have fx := fun i => hct.frozen i
                      have xl := hct.lt
                      clear hp hk ht hct
                      have HI : Hid (RkI W w0 g S 9 T [] 0 t (.slice none 0 0) (y9.setCell ⟨T, 0, none⟩ (.int .i64 9))) := ⟨hT1, HCT.out.set 0 _, rfl, World.ownsRow_nil _ _ _ _, fun x hx => by simp at hx, fun x hx => by simp at hx, fun x hx => by simp at hx, by simp [Value.ownBlock], PK.out.tk (Tk.set _ 0 _) (by omega), KK.out.fresh (Tk.set _ 0 _) (by have := HS0.out; omega)⟩
                      go_wp2_with fail
                      go_meet
                      case rel => exact ⟨2, 9, t, by omega, rfl, rfl, HI.out, hok, hlt9, HE.out⟩
                    | false =>
                      rw [wordS_no HK9.out] at hp
                      have P9 := Lib.hid hp
                      have T9 := Lib.hid (T8.out.trans hk)
                      have N9 : Hid (NoWord s 10) := N8.out.succ (.inr (.inr (.inr HK9.out)))
                      have HC9 := Lib.hid (Cells.later HC8.out (hk.blk _ (Cells.lt (HC8.out)) (by omega)))
                      clear hp hk
                      obtain ⟨b10, hb10⟩ : ∃ b, wordB s (wl 10) = b := ⟨_, rfl⟩
                      have CK := CW10.out y9 P9.out
                      rw [hb10] at CK
                      have CK := Lib.hid CK
                      have HK10 := Lib.hid hb10
                      clear hb10 CW10
                      go_wp2_with fail
                      refine CK.out.mono ?_
                      rintro e y10 ⟨rfl, hp, hk⟩
                      clear CK
                      cases b10 with
                      | true =>
                        have PK := Lib.hid hp
                        have KK := Lib.hid (T9.out.trans hk)
                        have HE := Lib.hid ((readD_10 (f := f) N9.out HK10.out).symm.trans HR.out)
                        obtain ⟨t, ht⟩ : ∃ t, wordS s (wl 10) = t := ⟨_, rfl⟩
                        have hok : t.Ok := by rw [← ht]; exact HOK.out.word _
                        have hlt9 : t.l.length ≤ 10000 := by rw [← ht]; have := word_le s (wl 10); have := HLE.out; omega
                        rw [ht] at PK HE
                        have hct := Cells.later HC9.out (hk.blk _ (Cells.lt (HC9.out)) (by omega))
                        have HCT := Lib.hid hct
                        have x0 := hct.cell (i := 0) rfl
                        have fx := fun i => hct.frozen i
                        have xl := hct.lt
                        clear hp hk ht hct
                        have HI : Hid (RkI W w0 g S 0 T [] 0 t (.slice none 0 0) y10) := ⟨hT1, HCT.out, rfl, World.ownsRow_nil _ _ _ _, fun x hx => by simp at hx, fun x hx => by simp at hx, fun x hx => by simp at hx, by simp [Value.ownBlock], PK.out, KK.out⟩
                        clear x0 fx xl
                        go_wp2_with fail
                        go_meet
                        case rel => exact ⟨0, 0, t, by omega, rfl, rfl, HI.out, hok, hlt9, HE.out⟩
                      | false =>
                        rw [wordS_no HK10.out] at hp
                        have P10 := Lib.hid hp
                        have T10 := Lib.hid (T9.out.trans hk)
                        have N10 : Hid (NoWord s 11) := N9.out.succ (.inr (.inr (.inr HK10.out)))
                        have HC10 := Lib.hid (Cells.later HC9.out (hk.blk _ (Cells.lt (HC9.out)) (by omega)))
                        clear hp hk
                        have HE := Lib.hid ((readD_3 (f := f) N10.out).symm.trans HR.out)
                        go_wp2_with fail
                        refine (CS.out _ _ P10.out).mono ?_
                        rintro e z4 ⟨⟨sp, cap, rfl, hps, hup⟩, hp4, hk4⟩
                        have K4 := Lib.hid (T10.out.trans hk4)
                        have P4 := Lib.hid hp4
                        have HPS := Lib.hid hps
                        have HUP := Lib.hid (hup.mono (by have := T10.out.size; have := HS0.out; omega : W.heap.size + 1 ≤ y10.heap.size))
                        clear hps hup hp4 hk4
                        have hcr := FZ.out _ K4.out
                        have HCR := Lib.hid hcr
                        have r0 := hcr.cell (i := 0) rfl
                        have r1 := hcr.cell (i := 1) rfl
                        have r2 := hcr.cell (i := 2) rfl
                        have r3 := hcr.cell (i := 3) rfl
                        have r4 := hcr.cell (i := 4) rfl
                        have r5 := hcr.cell (i := 5) rfl
                        have fr := fun i => hcr.frozen i
                        have hrl := hcr.lt
                        clear hcr
                        go_wp2_with fail
                        refine bodyPost_ret (results_r4 _ _ W.heap.size _ _ _ _ _ _ (Cells.six HCR.out _ _ _ _ _ _) rfl) rfl ?_
                        exact rk_fin HB0.out HS0.out hgl K4.out P4.out (KT.mk 3 0 (rsetV s) 0 [] [] sp cap none 0) rfl (setk_c z4 (W.heap.size + 1) 3 _ sp cap (rsetV_len s) HPS.out HUP.out).1 (setk_c z4 (W.heap.size + 1) 3 _ sp cap (rsetV_len s) HPS.out HUP.out).2 R (HE.out)
                case rest =>
                  obtain ⟨many, kind0, t, hm2, rfl, rfl, HI0, HQ⟩ := hcut
                  obtain ⟨yc, hyc⟩ : ∃ yc, wc = yc := ⟨_, rfl⟩
                  rw [hyc] at HI0 ⊢
                  clear hyc
                  have HRT : Hid (t.Ok ∧ t.l.length ≤ 10000) := ⟨HQ.out.1, HQ.out.2.1⟩
                  obtain ⟨C, hC⟩ : ∃ C, t.l.length + 2 = C := ⟨_, rfl⟩
                  have hC9 : C ≤ 10002 := by have := HRT.out.2; omega
                  have HQ2 := Lib.hid HQ.out.2.2
                  rw [hC] at HQ2
                  have HC := Lib.hid hC
                  clear hC HQ CS CF CWF CWU
                  go_upto_if 69 with fail
                  go_cut [6, 7] from 68 (fun t6 t7 wc => t6 = .int .i64 many ∧ t7 = .pointer (some ⟨T, 0, none⟩) ∧ Hid (∃ kind : Int, RkI W w0 g S kind T [] 0 t (.slice none 0 0) wc ∧ (KT.mk kind 0 [] 0 [] (loopD (readD f) many C [] t).1 none 0 none 0, (loopD (readD f) many C [] t).2) = R))
                  case first =>
                    have hI := HI0.out
                    have hct := hI.ct
                    have x0 := hct.cell (i := 0) rfl
                    have fx := fun i => hct.frozen i
                    have xl := hct.lt
                    by_cases hm0 : many = 0
                    · have HJ : Hid (∃ kind : Int, RkI W w0 g S kind T [] 0 t (.slice none 0 0) (yc.setCell ⟨T, 0, none⟩ (.int .i64 10)) ∧ (KT.mk kind 0 [] 0 [] (loopD (readD f) many C [] t).1 none 0 none 0, (loopD (readD f) many C [] t).2) = R) := by
                        refine ⟨10, ⟨hT1, hct.set 0 _, rfl, World.ownsRow_nil _ _ _ _, fun x hx => by simp at hx, fun x hx => by simp at hx, fun x hx => by simp at hx, by simp [Value.ownBlock], hI.pr.tk (Tk.set _ 0 _) (by omega), hI.tk.fresh (Tk.set _ 0 _) (by have := HS0.out; omega)⟩, ?_⟩
                        have h9 := HQ2.out
                        rw [if_pos hm0] at h9
                        exact h9
                      clear hI hct
                      subst hm0
                      go_wp2_with fail
                      go_meet
                      case rel => exact ⟨rfl, rfl, HJ.out⟩
                    · have HJ : Hid (∃ kind : Int, RkI W w0 g S kind T [] 0 t (.slice none 0 0) yc ∧ (KT.mk kind 0 [] 0 [] (loopD (readD f) many C [] t).1 none 0 none 0, (loopD (readD f) many C [] t).2) = R) := by
                        refine ⟨kind0, hI, ?_⟩
                        have h9 := HQ2.out
                        rw [if_neg hm0] at h9
                        exact h9
                      have qm : ¬ (many : Int) = 0 := by omega
                      have qmb : ((many : Int) == 0) = false := beq_eq_false_iff_ne.2 qm
                      clear hI hct
                      go_wp2_with fail
                      go_meet
                      case rel => exact ⟨rfl, rfl, HJ.out⟩
                  case rest =>
                    obtain ⟨rfl, rfl, HJ⟩ := hcut
                    obtain ⟨yd, hyd⟩ : ∃ yd, wc = yd := ⟨_, rfl⟩
                    rw [hyd] at HJ ⊢
                    clear hyd HI0 HQ2
                    obtain ⟨kind, hI1, hQ1⟩ := HJ.out
                    obtain ⟨r0, hr0⟩ : ∃ r0, loopD (readD f) many C [] t = r0 := ⟨_, rfl⟩
                    rw [hr0] at hQ1
                    have HI1 := Lib.hid hI1
                    have HQ1 := Lib.hid hQ1
                    have HR0 := Lib.hid hr0
                    clear HJ hI1 hQ1 hr0
                    go_wp2_with fail
                    go_loopw [71] (fun t71 wr => Hid (∃ (kts : List KT) (n m : Nat) (u : RS) (v : Value), RkI W w0 g S kind T kts n u v wr ∧ loopD (readD f) many m (bareL kts) u = r0 ∧ (u.f = false → u.l.length + 2 ≤ m) ∧ n + m ≤ C ∧ u.Ok ∧ u.l.length ≤ 10000)) (fun _ wr => cntK T C wr)
                    case atStart => exact ⟨[], 0, C, t, .slice none 0 0, HI1.out, HR0.out, fun _ => by have := HC.out; omega, by omega, HRT.out.1, HRT.out.2⟩
                    case round =>
                      obtain ⟨kts, n, m, u, v, hI, hlo, hfu, hcn, huo, hul⟩ := hrel.out
                      obtain ⟨vad, vcp, hvv⟩ := own_form hI.own
                      subst hvv
                      obtain ⟨a, fl, hD, ha, hds⟩ := hI.pr
                      have hfl := drs_f hds
                      obtain ⟨_, _, c2, hgb, _, _⟩ := hD.facts
                      have HI := Lib.hid hI
                      have HLO := Lib.hid hlo
                      have HUO := Lib.hid huo
                      have HFL := Lib.hid hfl
                      have HCE : Hid (cntK T C wr = C + 1 - n) := cntK_of (hI.ct.cell (i := 5) rfl)
                      have hTl := hI.ct.lt
                      clear hrel hI hlo huo hD ha hds
                      cases fl with
                      | true =>
                        have hn9 : n ≤ 100000 := by omega
                        have HEQ : Hid ((KT.mk kind 0 [] 0 [] (bareL kts) none 0 none 0, u) = R) := by
                          have h9 := HLO.out
                          rw [loop_gone HFL.out] at h9
                          show (KT.mk kind 0 [] 0 [] (bareL kts) none 0 none 0, u) = R
                          rw [← HQ1.out, ← h9]
                        clear hfu hfl
                        have hii := HI.out
                        have HII := Lib.hid hii
                        have hct9 := hii.ct
                        have x0 := hct9.cell (i := 0) rfl
                        have x1 := hct9.cell (i := 1) rfl
                        have x2 := hct9.cell (i := 2) rfl
                        have x3 := hct9.cell (i := 3) rfl
                        have x4 := hct9.cell (i := 4) rfl
                        have x5 := hct9.cell (i := 5) rfl
                        have xl := hct9.lt
                        have hcr := FZ.out _ hii.tk
                        have HCR := Lib.hid hcr
                        have r0 := hcr.cell (i := 0) rfl
                        have r1 := hcr.cell (i := 1) rfl
                        have r2 := hcr.cell (i := 2) rfl
                        have r3 := hcr.cell (i := 3) rfl
                        have r4 := hcr.cell (i := 4) rfl
                        have r5 := hcr.cell (i := 5) rfl
                        have fr := fun i => hcr.frozen i
                        have hrl := hcr.lt
                        clear hcr
                        clear hii hct9
                        go_wp2_with fail
                        refine bodyPost_ret (results_r4 _ _ W.heap.size _ _ _ _ _ _ (Cells.six HCR.out _ _ _ _ _ _) rfl) rfl ?_
                        exact RkI.fin HB0.out HS0.out hgl HII.out (by omega) R (HEQ.out)
                      | false =>
                        have hfu2 := hfu HFL.out
                        obtain ⟨m', rfl, l1, l2, l3, l4⟩ := loop_next (rd := readD f) (many := many) (ks := bareL kts) HFL.out (by omega : 1 ≤ m)
                        rw [HLO.out] at l1 l2 l3 l4
                        have hlen : (bareL kts).length = n := by rw [bareL_map, List.length_map]; exact HI.out.len
                        rw [hlen] at l3 l4
                        have L1 := Lib.hid l1
                        have L2 := Lib.hid l2
                        have L3 := Lib.hid l3
                        have L4 := Lib.hid l4
                        have hfw := FW.out u HUO.out (by omega)
                        have HFW := Lib.hid hfw
                        have hl9 := hfw.2
                        have C1 := CI.out wr.drew u (HI.out.pr.tk (Tk.of_below (g := g + 1) (Below.refl _ _).drew) (by omega))
                        obtain ⟨kb, hkb⟩ : ∃ kb, (readD f u).1 = kb := ⟨_, rfl⟩
                        obtain ⟨u2, hu2⟩ : ∃ u2, (readD f u).2 = u2 := ⟨_, rfl⟩
                        have hrr : readD f u = (kb, u2) := by rw [← hkb, ← hu2]
                        rw [hrr] at C1
                        rw [hu2] at hl9 HFW
                        rw [hkb, hu2] at L1 L2 L3 L4
                        have C1 := Lib.hid C1
                        have hvo : ∀ q, (Value.slice vad n vcp).ownBlock = some q → W.heap.size + 1 ≤ q := fun q hq => (HI.out.own.lt q hq).1
                        have FS : Hid (∀ x : World, x.heap[T]? = wr.heap[T]? → x.cell? ⟨T, 5, none⟩ = some (.slice vad n vcp) ∧ T < x.heap.size) := fun x hx => by
                          have h5 := Cells.later HI.out.ct hx
                          exact ⟨h5.cell (i := 5) rfl, h5.lt⟩
                        obtain ⟨i0, hi0, hz0, hz1, hz2⟩ := info_parts Tryz.infoRKey9
                        have HFU := Lib.hid hfu2
                        clear hfu hfl l1 l2 l3 l4 hkb hu2 hrr hfw hlen
                        have HCT := Lib.hid HI.out.ct
                        have hTg : T ≠ g := by omega
                        have HVT := Lib.hid HI.out.vT
                        clear hvo FS
                        go_wp2_with fail
                        clear c2
                        refine wp_region_slotsF [76, 77, 78, 79, 80, 81, 82, 83, 84] (fun L vs w => ∃ (k2 : KT) (w4 : World) (g2 cap2 : Nat) (w6 : World), RkR W g S wr T n d (.slice vad n vcp) kb u2 (cellsK kts) k2 w4 g2 cap2 w6 L vs w) _ (fun vs => by simp only [slotsPut, Act.put, List.setIfInBounds_toArray, List.set_cons_zero, List.set_cons_succ]; rfl) (by kernel_rfl) (by kernel_rfl) ?_ ?_ ?_
                        · exact fun vs => ⟨kb, wr, 0, 0, wr, RkR.start W g S wr T n d _ kb u2 _ kb wr 0 0 wr vs⟩
                        · intro i o9 L vs w ho hL hA hJ
                          obtain ⟨k2, w4, g2, cap2, w6, h⟩ := hJ
                          have hi7 : i < 10 := (Array.getElem?_eq_some_iff.1 ho).1
                          have HH := Lib.hid h
                          clear h
                          obtain rfl | rfl | rfl | rfl | rfl | rfl | rfl | rfl | rfl | rfl : i = 0 ∨ i = 1 ∨ i = 2 ∨ i = 3 ∨ i = 4 ∨ i = 5 ∨ i = 6 ∨ i = 7 ∨ i = 8 ∨ i = 9 := by omega
                          all_goals
                            have ho' := Option.some.inj (show some _ = some o9 from ho)
                            subst ho'
                            clear ho
                          · clear hA
                            refine wpOp_step rfl (fun K' hK => ?_)
                            have HK := Lib.hid hK
                            clear hK
                            try dsimp only
                            go_wp2_with fail
                            exact HK.out _ _ ⟨upV vs 76 (.pointer (some ⟨T, 5, none⟩)), (by simp [upV]), k2, w4, g2, cap2, w6, HH.out.s0⟩
                          · have e0 := HH.out.l0 (hA ⟨0, .data⟩ (by simp) rfl)
                            have hc9 := HH.out.cell hL HCT.out hTg
                            have c5 := hc9.cell (i := 5) rfl
                            have l5 := hc9.lt
                            have HE := Lib.hid e0
                            clear hA e0 hc9
                            refine wpOp_step rfl (fun K' hK => ?_)
                            have HK := Lib.hid hK
                            clear hK
                            try dsimp only
                            rw [HE.out]
                            go_wp2_with fail
                            exact HK.out _ _ ⟨upV vs 77 (.slice vad n vcp), (by simp [upV, HE.out]), k2, w4, g2, cap2, w6, HH.out.s1⟩
                          · clear hA
                            refine wpOp_step rfl (fun K' hK => ?_)
                            have HK := Lib.hid hK
                            clear hK
                            try dsimp only
                            go_wp2_with fail
                            exact HK.out _ _ ⟨upV vs 78 (pt g), (by simp [upV, pt]), k2, w4, g2, cap2, w6, HH.out.s2⟩
                          · clear hA
                            refine wpOp_step rfl (fun K' hK => ?_)
                            have HK := Lib.hid hK
                            clear hK
                            try dsimp only
                            go_wp2_with fail
                            exact HK.out _ _ ⟨upV vs 79 (.int .i64 d), (by simp [upV]), k2, w4, g2, cap2, w6, HH.out.s3⟩
                          · have e3 := HH.out.l3 (hA ⟨3, .data⟩ (by simp) rfl)
                            have HE := Lib.hid e3
                            clear hA e3
                            refine wpOp_step rfl (fun K' hK => ?_)
                            have HK := Lib.hid hK
                            clear hK
                            try dsimp only
                            rw [HE.out]
                            go_wp2_with fail
                            exact HK.out _ _ ⟨upV vs 80 (.int .i64 (d - 1)), (by simp [upV, HE.out]), k2, w4, g2, cap2, w6, HH.out.s4⟩
                          · have e2 := HH.out.l2 (hA ⟨2, .data⟩ (by simp) rfl)
                            have e4 := HH.out.l4 (hA ⟨4, .data⟩ (by simp) rfl)
                            have ew := HH.out.a hL
                            subst ew
                            have HE := Lib.hid (And.intro e2 e4)
                            clear hA e2 e4
                            refine wpOp_step rfl (fun K' hK => ?_)
                            have HK := Lib.hid hK
                            clear hK
                            try dsimp only
                            rw [HE.out.1, HE.out.2]
                            go_wp2_with (go_at_call 76; refine C1.out.mono ?_; rintro e w' ⟨k3, rfl, hb3, hc3, hi3, hp3, ht3⟩)
                            exact HK.out _ _ ⟨upV vs 81 k3.val, (by simp [upV, HE.out.1, HE.out.2]), k3, w', g2, cap2, w6, HH.out.s5 hL hb3 hc3 hi3 hp3 ((Tk.of_below (g := g) (Below.refl wr.heap.size wr).drew).trans ht3)⟩
                          · have h5 := hA ⟨5, .data⟩ (by simp) rfl
                            obtain ⟨e5, _⟩ := HH.out.b h5
                            have ew := HH.out.b2 h5 hL
                            subst ew
                            have hs6 := HH.out.s6 h5 hL
                            obtain ⟨zk, zf, zm, zn, zl, zsp, zkp, zsc, zkc, Z, hv2, hcc⟩ := k2.form
                            have HV2 := Lib.hid hv2
                            rw [hcc] at hs6
                            have HS6 := Lib.hid hs6
                            have HE := Lib.hid e5
                            clear hA e5 hv2 hcc hs6
                            refine wpOp_step rfl (fun K' hK => ?_)
                            have HK := Lib.hid hK
                            clear hK
                            try dsimp only
                            rw [HE.out, HV2.out]
                            go_wp2_with fail
                            exact HK.out _ _ ⟨upV vs 82 (.slice (some ⟨w.heap.size, 0, none⟩) 1 1), (by simp [upV, HE.out, HV2.out]), k2, w, g2, cap2, w6, HS6.out⟩
                          · have h1 := hA ⟨1, .data⟩ (by simp) rfl
                            have h6 := hA ⟨6, .data⟩ (by simp) rfl
                            have h5 := HH.out.o6 h6
                            have e1 := HH.out.l1 h1
                            have e6 := HH.out.c h6
                            have ew := HH.out.c2 h6 hL
                            obtain ⟨_, _, _, _, _, ht4⟩ := HH.out.b h5
                            have hown : (w4.alloc (.cells k2.cells.toArray 26)).ownsRow (W.heap.size + 1) 26 6 (.slice vad n vcp) n (cellsK kts) := (own_far HI.out.own ht4 (fun b e => by have := (HI.out.own.lt b e).1; omega)).alloc _
                            have hz4 := ht4.size
                            have hzz : W.heap.size < wr.heap.size := by have := HI.out.tk.size; have := HS0.out; omega
                            subst ew
                            have HE := Lib.hid (And.intro e1 e6)
                            clear hA e1 e6 ht4
                            refine wpOp_step rfl (fun K' hK => ?_)
                            have HK := Lib.hid hK
                            clear hK
                            rw [HE.out.1, HE.out.2]
                            refine step_append_lies _ (by rfl) (.tmp 77) (.tmp 82) _ (by rfl) (W.heap.size + 1) 26 i0 _ 6 88 Tryz.underlyingRKids9 hi0 hz0 hz1 hz2 rfl (by omega) (.slice vad n vcp) n (cellsK kts) (by rfl) hown ⟨w4.heap.size, 0, none⟩ 1 1 k2.cells (by rfl) (by rw [cells_six]) (World.news_of_block (cs := k2.cells.toArray) (t := 26) (fr := (0, 0)) (heap_alloc_new w4 _)) (by rintro x hx; obtain ⟨b0, b1, b2, b3, b4, b5, b6, b7, b8, b9, _, hb⟩ := k2.form; have hb' := congrArg Array.toList hb; simp at hb'; rw [hb'] at hx; simp at hx; rcases hx with rfl | rfl | rfl | rfl | rfl | rfl <;> rfl) (by omega) (by unfold maxLen; omega) (by omega) (by simp; omega) (w4.heap.size + 1) (by simp) ?_
                            intro g3 cap3 w' ho3 hg3 hat3 hl3
                            exact HK.out _ _ ⟨upV vs 83 (.slice (some ⟨g3, 0, none⟩) (n + 1) cap3), (by simp [upV, Act.put, HE.out.1, HE.out.2]), k2, w4, g3, cap3, w', HH.out.s7 h1 h6 hL ho3 hg3 hat3⟩
                          · clear hA
                            refine wpOp_step rfl (fun K' hK => ?_)
                            have HK := Lib.hid hK
                            clear hK
                            try dsimp only
                            go_wp2_with fail
                            exact HK.out _ _ ⟨upV vs 84 (.pointer (some ⟨T, 5, none⟩)), (by simp [upV]), k2, w4, g2, cap2, w6, HH.out.s8⟩
                          · have h7 := hA ⟨7, .data⟩ (by simp) rfl
                            have e8 := HH.out.l8 (hA ⟨8, .data⟩ (by simp) rfl)
                            obtain ⟨e7, _⟩ := HH.out.e h7
                            have ew := HH.out.e2 h7 hL
                            have hct9 := HH.out.cell6 h7 HCT.out hTg HVT.out
                            have HS9 := Lib.hid (HH.out.s9 h7)
                            subst ew
                            have f5 := hct9.frozen 5
                            have c5 := hct9.cell (i := 5) rfl
                            have l5 := hct9.lt
                            have HE := Lib.hid (And.intro e8 e7)
                            clear hA e8 e7 hct9
                            refine wpOp_step rfl (fun K' hK => ?_)
                            have HK := Lib.hid hK
                            clear hK
                            try dsimp only
                            rw [HE.out.1, HE.out.2]
                            go_wp2_with fail
                            exact HK.out _ _ ⟨vs, (by simp [HE.out.1, HE.out.2]), k2, w4, g2, cap2, w, HS9.out⟩
                        · intro L vs we2 hall hJ
                          obtain ⟨k2, w4, g2, cap2, w6, h⟩ := hJ
                          obtain ⟨_, hb2, hc2, hi2, hp4, ht4⟩ := h.b (hall 5 (by decide))
                          obtain ⟨_, ho6, hg6, ha6⟩ := h.e (hall 7 (by decide))
                          have hw7 := h.f (hall 9 (by decide))
                          have hI7 := RkI.step hgl HS0.out HI.out ht4 hp4 hc2 hi2 (cs := k2.cells.toArray) rfl (by simpa using ho6) hg6 ha6
                          rw [← hw7] at hI7
                          obtain ⟨w7, hw8⟩ : ∃ w7, we2 = w7 := ⟨_, rfl⟩
                          rw [hw8] at hI7 ⊢
                          have HBK2 := Lib.hid hb2
                          have HI7 := Lib.hid hI7
                          have y5 := hI7.ct.cell (i := 5) rfl
                          have yl := hI7.ct.lt
                          clear h hall hb2 hc2 hi2 hp4 ht4 ho6 hg6 ha6 hw7 hw8 hI7 HCT HVT hTg
                          try dsimp only
                          generalize vs 76 = v76; generalize vs 77 = v77; generalize vs 78 = v78; generalize vs 79 = v79; generalize vs 80 = v80; generalize vs 81 = v81; generalize vs 82 = v82; generalize vs 83 = v83; generalize vs 84 = v84
                          obtain ⟨bz, hbz⟩ : ∃ b, wordB u2 [41] = b := ⟨_, rfl⟩
                          have HBZ := Lib.hid hbz
                          have HBN : Hid (bareL (kts ++ [k2]) = bareL kts ++ [kb]) := bareL_snoc HBK2.out
                          have hc9 : n + 1 + m' ≤ C := by omega
                          have HMS : Hid ((mustS u2 [32]).f = false → (mustS u2 [32]).l.length + 2 ≤ m') := fun h => by have := must_space HFW.out.1 h; have := HFU.out; omega
                          have HMO : Hid ((mustS u2 [32]).Ok ∧ (mustS u2 [32]).l.length ≤ 10000) := ⟨HFW.out.1.must _, by have := must_le u2 [32]; omega⟩
                          clear hbz
                          by_cases hm0 : many = 0
                          · have qm : (many : Int) = 0 := by omega
                            have qmb : ((many : Int) == 0) = true := by rw [qm]; rfl
                            have C2 := CB.out w7 u2 HI7.out.pr
                            rw [HBZ.out] at C2
                            have C2 := Lib.hid C2
                            have HM0 := Lib.hid hm0
                            clear qm hm0
                            go_wp2_with fail
                            refine C2.out.mono ?_
                            rintro e w8 ⟨rfl, hp8, hk8⟩
                            have HI8 := Lib.hid (RkI.tk' hgl HI7.out hk8 hp8)
                            clear hp8 hk8 y5 yl
                            cases bz with
                            | true =>
                              have HEQ : Hid ((KT.mk kind 0 [] 0 [] (bareL (kts ++ [k2])) none 0 none 0, wordS u2 [41]) = R) := by
                                show (KT.mk kind 0 [] 0 [] (bareL (kts ++ [k2])) none 0 none 0, wordS u2 [41]) = R
                                rw [← HQ1.out, L1.out HM0.out HBZ.out, HBN.out]
                              have hii := HI8.out
                              have HII := Lib.hid hii
                              have hct9 := hii.ct
                              have x0 := hct9.cell (i := 0) rfl
                              have x1 := hct9.cell (i := 1) rfl
                              have x2 := hct9.cell (i := 2) rfl
                              have x3 := hct9.cell (i := 3) rfl
                              have x4 := hct9.cell (i := 4) rfl
                              have x5 := hct9.cell (i := 5) rfl
                              have xl := hct9.lt
                              have hcr := FZ.out _ hii.tk
                              have HCR := Lib.hid hcr
                              have r0 := hcr.cell (i := 0) rfl
                              have r1 := hcr.cell (i := 1) rfl
                              have r2 := hcr.cell (i := 2) rfl
                              have r3 := hcr.cell (i := 3) rfl
                              have r4 := hcr.cell (i := 4) rfl
                              have r5 := hcr.cell (i := 5) rfl
                              have fr := fun i => hcr.frozen i
                              have hrl := hcr.lt
                              clear hcr
                              clear hii hct9
                              go_wp2_with fail
                              refine bodyPost_ret (results_r4 _ _ W.heap.size _ _ _ _ _ _ (Cells.six HCR.out _ _ _ _ _ _) rfl) rfl ?_
                              exact RkI.fin HB0.out HS0.out hgl HII.out (by omega) R (HEQ.out)
                            | false =>
                              have h8 := HI8.out
                              rw [wordS_no HBZ.out] at h8
                              have HI8 := Lib.hid h8
                              have y8 := h8.ct.cell (i := 5) rfl
                              have yl8 := h8.ct.lt
                              have qn : ¬ ((n : Int) + 1) = many := by have := HM0.out; omega
                              have qnb : (((n : Int) + 1) == (many : Int)) = false := beq_eq_false_iff_ne.2 qn
                              have C3 := Lib.hid (CM.out w8 u2 h8.pr)
                              clear h8
                              go_wp2_with fail
                              refine C3.out.mono ?_
                              rintro e w9 ⟨rfl, hp9, hk9⟩
                              have HI9 := Lib.hid (RkI.tk' hgl HI8.out hk9 hp9)
                              have HL9 : Hid (loopD (readD f) many m' (bareL (kts ++ [k2])) (mustS u2 [32]) = r0) := by
                                show loopD (readD f) many m' (bareL (kts ++ [k2])) (mustS u2 [32]) = r0
                                rw [HBN.out, ← L2.out HM0.out HBZ.out]
                              clear hp9 hk9 y8 yl8 qn qnb
                              go_wp2_with fail
                              go_roundw
                              case rel => exact ⟨kts ++ [k2], n + 1, m', mustS u2 [32], _, HI9.out, HL9.out, HMS.out, hc9, HMO.out.1, HMO.out.2⟩
                              case measure => rw [HCE.out, cntK_of (HI9.out.ct.cell (i := 5) rfl)]; omega
                          · have qm : ¬ (many : Int) = 0 := by omega
                            have qmb : ((many : Int) == 0) = false := beq_eq_false_iff_ne.2 qm
                            by_cases hnm : n + 1 = many
                            · have qn : ((n : Int) + 1) = many := by omega
                              have qnb : (((n : Int) + 1) == (many : Int)) = true := by rw [qn]; exact beq_self_eq_true _
                              have HEQ : Hid ((KT.mk kind 0 [] 0 [] (bareL (kts ++ [k2])) none 0 none 0, u2) = R) := by
                                show (KT.mk kind 0 [] 0 [] (bareL (kts ++ [k2])) none 0 none 0, u2) = R
                                rw [← HQ1.out, L3.out hm0 hnm, HBN.out]
                              clear qm qn hm0 hnm
                              have hii := HI7.out
                              have HII := Lib.hid hii
                              have hct9 := hii.ct
                              have x0 := hct9.cell (i := 0) rfl
                              have x1 := hct9.cell (i := 1) rfl
                              have x2 := hct9.cell (i := 2) rfl
                              have x3 := hct9.cell (i := 3) rfl
                              have x4 := hct9.cell (i := 4) rfl
                              have x5 := hct9.cell (i := 5) rfl
                              have xl := hct9.lt
                              have hcr := FZ.out _ hii.tk
                              have HCR := Lib.hid hcr
                              have r0 := hcr.cell (i := 0) rfl
                              have r1 := hcr.cell (i := 1) rfl
                              have r2 := hcr.cell (i := 2) rfl
                              have r3 := hcr.cell (i := 3) rfl
                              have r4 := hcr.cell (i := 4) rfl
                              have r5 := hcr.cell (i := 5) rfl
                              have fr := fun i => hcr.frozen i
                              have hrl := hcr.lt
                              clear hcr
                              clear hii hct9
                              go_wp2_with fail
                              refine bodyPost_ret (results_r4 _ _ W.heap.size _ _ _ _ _ _ (Cells.six HCR.out _ _ _ _ _ _) rfl) rfl ?_
                              exact RkI.fin HB0.out HS0.out hgl HII.out (by omega) R (HEQ.out)
                            · have qn : ¬ ((n : Int) + 1) = many := by omega
                              have qnb : (((n : Int) + 1) == (many : Int)) = false := beq_eq_false_iff_ne.2 qn
                              have C3 := Lib.hid (CM.out w7 u2 HI7.out.pr)
                              have HL9 : Hid (loopD (readD f) many m' (bareL (kts ++ [k2])) (mustS u2 [32]) = r0) := by
                                show loopD (readD f) many m' (bareL (kts ++ [k2])) (mustS u2 [32]) = r0
                                rw [HBN.out, ← L4.out hm0 hnm]
                              clear hm0 hnm
                              go_wp2_with fail
                              refine C3.out.mono ?_
                              rintro e w9 ⟨rfl, hp9, hk9⟩
                              have HI9 := Lib.hid (RkI.tk' hgl HI7.out hk9 hp9)
                              clear hp9 hk9 y5 yl qn qnb qm qmb
                              go_wp2_with fail
                              go_roundw
                              case rel => exact ⟨kts ++ [k2], n + 1, m', mustS u2 [32], _, HI9.out, HL9.out, HMS.out, hc9, HMO.out.1, HMO.out.2⟩
                              case measure => rw [HCE.out, cntK_of (HI9.out.ct.cell (i := 5) rfl)]; omega
end Go.Proofs.YtpnnchpaaopdcaaGreatDoor

/-
  The law's walk of SearchReads. MADE by wip/tools/mkRl3.py.
-/
import Derived.Test.YtpnnchpaaopdcaaGreatDoorZR04
import Derived.Test.YtpnnchpaaopdcaaGreatDoorZR24
import Derived.Test.YtpnnchpaaopdcaaGreatDoorZR26
import Derived.Test.YtpnnchpaaopdcaaGreatDoorZR05
import Derived.Test.YtpnnchpaaopdcaaGreatDoorZR21
set_option linter.unusedVariables false
set_option linter.unusedSimpArgs false
namespace Go.Proofs.YtpnnchpaaopdcaaGreatDoor
open Go Go.RowKit
set_option maxRecDepth 100000 in
set_option maxHeartbeats 8000000 in
theorem reads_walk (B : ByteArray) (W : World) (hG : Gv W) (hX : MaxL W) : Calls Tryz.prog 4 #[.string B] W fun e w' => e = .returned (.bool true) ∧ Below W.heap.size W w' := by
  by_cases h2 : 2000 < B.size
  · have q2 : (2000 : Int) < B.size := by omega
    go_enter Tryz.func4, Tryz.ntmps4
    go_wp2_with fail
    go_ret
    exact ⟨rfl, Below.refl _ _⟩
  have q2 : ¬ (2000 : Int) < B.size := by omega
  obtain ⟨l, hl⟩ : ∃ l, txt l = B := ⟨B.data.toList, txt_data B⟩
  have hll : l.length ≤ 2000 := by rw [← txt_size l, hl]; omega
  have hso : (⟨l, false⟩ : RS).Ok := fun h => by cases h
  have R1 := fun w => tkRead_c l w
  have hDR : ∀ (w : World) (g : Nat), Cells w g 60 #[.string B, .int .i64 0, .bool false] → DRS w g l ⟨l, false⟩ := fun w g h => ⟨0, false, by unfold DR; rw [hl]; exact h, by omega, rfl⟩
  have CP1 := fun (w : World) (g : Nat) (hp : PR w g ⟨l, false⟩) (hg : Gl w g) => sRead0_c hp hso (by show l.length ≤ 100000; omega) hg
  have CD1 := fun (w : World) (g : Nat) (hp : DRS w g l ⟨l, false⟩) => rRead14_c hp (by omega)
  have CP2 := fun (w : World) (g : Nat) (hp : PR w g ⟨l, false⟩) (hg : Gl w g) => sReadSet_c hp hso (by show l.length ≤ 100000; omega) hg.errs hg.aw
  have CD2 := fun (w : World) (g : Nat) (hp : DRS w g l ⟨l, false⟩) => rset14_c hp (by omega)
  have hts := top_same ⟨l, false⟩ hso (by show l.length ≤ 60000; omega)
  have hsh := fun k => short_top ⟨l, false⟩ hso (by show l.length ≤ 4000; omega) (k := k)
  have hrl := rsetV_len ⟨l, false⟩
  rw [hts] at hsh
  simp only [hts] at CP1
  obtain ⟨r, hr⟩ : ∃ r, topD ⟨l, false⟩ = r := ⟨_, rfl⟩
  rw [hr] at hsh
  simp only [hr] at CP1 CD1
  obtain ⟨rv, hrv⟩ : ∃ rv, rsetV ⟨l, false⟩ = rv := ⟨_, rfl⟩
  obtain ⟨rs, hrs⟩ : ∃ rs, rsetS ⟨l, false⟩ = rs := ⟨_, rfl⟩
  rw [hrv] at hrl
  simp only [hrv, hrs] at CP2 CD2
  rw [hl] at R1
  obtain ⟨kk, s1⟩ := r
  have R1 := Lib.hid R1
  have HDR := Lib.hid hDR
  have CP1 := Lib.hid CP1
  have CP2 := Lib.hid CP2
  have CD1 := Lib.hid CD1
  have CD2 := Lib.hid CD2
  have HSH := Lib.hid hsh
  have HG := Lib.hid hG
  have HX := Lib.hid hX
  have HRL := Lib.hid hrl
  clear hl hll hso hDR hts hsh hr hrv hrs hG hX h2 hrl
  go_enter Tryz.func4, Tryz.ntmps4
  go_wp2_with fail
  refine (R1.out W).mono ?_
  rintro e w1 ⟨rfl, hp1, hb1⟩
  have hl1 : W.heap.size < w1.heap.size := Cells.lt hp1
  have HP1 := Lib.hid hp1
  have HB1 := Lib.hid hb1
  clear hp1 hb1
  go_wp2_with fail
  obtain ⟨w2, hw2⟩ : ∃ w2, w1.alloc (.cells #[.string B, .int .i64 0, .bool false] 60) = w2 := ⟨_, rfl⟩
  have hb2 : Below w1.heap.size w1 w2 := by rw [← hw2]; exact (Below.refl _ w1).alloc (Nat.le_refl _) _
  have hc2 : Cells w2 w1.heap.size 60 #[.string B, .int .i64 0, .bool false] := by rw [← hw2]; exact heap_alloc_new w1 _
  rw [hw2]
  have HB2 := Lib.hid hb2
  have HC2 := Lib.hid hc2
  have hl2 : w1.heap.size < w2.heap.size := Cells.lt hc2
  clear hw2 hb2 hc2
  refine (R1.out w2).mono ?_
  rintro e w3 ⟨rfl, hp3, hb3⟩
  have hl3 : w2.heap.size < w3.heap.size := Cells.lt hp3
  have HP3 := Lib.hid hp3
  have HB3 := Lib.hid hb3
  clear hp3 hb3 R1
  go_wp2_with fail
  obtain ⟨w4, hw4⟩ : ∃ w4, w3.alloc (.cells #[.string B, .int .i64 0, .bool false] 60) = w4 := ⟨_, rfl⟩
  have hb4 : Below w3.heap.size w3 w4 := by rw [← hw4]; exact (Below.refl _ w3).alloc (Nat.le_refl _) _
  have hc4 : Cells w4 w3.heap.size 60 #[.string B, .int .i64 0, .bool false] := by rw [← hw4]; exact heap_alloc_new w3 _
  rw [hw4]
  have hl4 : w3.heap.size < w4.heap.size := Cells.lt hc4
  have hb24 : Below w2.heap.size w2 w4 := HB3.out.trans (hb4.mono (by omega))
  have hb14 : Below w1.heap.size w1 w4 := HB2.out.trans (hb24.mono (by omega))
  have hW4 : Below W.heap.size W w4 := HB1.out.trans (hb14.mono (by omega))
  obtain ⟨gR, hgR⟩ : ∃ b, W.heap.size = b := ⟨_, rfl⟩
  obtain ⟨gP, hgP⟩ : ∃ b, w1.heap.size = b := ⟨_, rfl⟩
  obtain ⟨gQ, hgQ⟩ : ∃ b, w2.heap.size = b := ⟨_, rfl⟩
  obtain ⟨gV, hgV⟩ : ∃ b, w3.heap.size = b := ⟨_, rfl⟩
  have p4R : PR w4 gR ⟨l, false⟩ := by rw [← hgR]; exact Cells.later HP1.out (hb14.block _ hl1)
  have p4P : DRS w4 gP l ⟨l, false⟩ := HDR.out w4 gP (by rw [← hgP]; exact Cells.later HC2.out (hb24.block _ hl2))
  have p4Q : PR w4 gQ ⟨l, false⟩ := by rw [← hgQ]; exact Cells.later HP3.out (hb4.block _ hl3)
  have p4V : DRS w4 gV l ⟨l, false⟩ := HDR.out w4 gV (by rw [← hgV]; exact hc4)
  have hRP : gR < gP := by omega
  have hPQ : gP < gQ := by omega
  have hQV : gQ < gV := by omega
  have hV4 : gV < w4.heap.size := by omega
  have glR : Gl w4 gR := (HG.out.gl (g := gR) (B := 0) (by omega)).below hW4
  have hWR : W.heap.size ≤ gR := by omega
  rw [hgR, hgP, hgQ, hgV]
  have C1 := Lib.hid (CP1.out w4 gR p4R glR)
  have HW4 := Lib.hid hW4
  have P4P := Lib.hid p4P
  have P4Q := Lib.hid p4Q
  have P4V := Lib.hid p4V
  have GLQ : Hid (∀ w, Below W.heap.size W w → Gl w gQ) := fun w hw => (HG.out.gl (g := gQ) (B := 0) (by omega)).below hw
  clear hw4 hb4 hc4 hb24 hb14 hW4 p4R p4P p4Q p4V glR CP1 HDR HP1 HP3 HB1 HB2 HB3 HC2 hl1 hl2 hl3 hl4 hgP hgQ hgV hgR
  go_wp2_with fail
  refine C1.out.mono ?_
  rintro e w5 ⟨kP, rfl, hbP, hkP, hiP, hp5, ht5⟩
  obtain ⟨xk, xf, xm, xn, xl, xsp, xkp, xsc, xkc, X, hxv, hxc⟩ := kP.form
  rw [hxv]
  have hz5 := ht5.size
  have C2 := Lib.hid (CD1.out w5 gP (P4P.out.tk ht5 (by omega)))
  have P5Q := Lib.hid (P4Q.out.tk ht5 (by omega))
  have P5V := Lib.hid (P4V.out.tk ht5 (by omega))
  have HW5 := Lib.hid (HW4.out.trans (ht5.below hWR (by have := HW4.out.size; omega)))
  have T5 := Lib.hid ht5
  have HBP := Lib.hid hbP
  have HKP := Lib.hid hkP
  have HIP := Lib.hid hiP
  have P5R := Lib.hid hp5
  have HXV := Lib.hid hxv
  have HXC := Lib.hid hxc
  clear hbP hkP hiP hp5 ht5 hxv hxc C1 CD1 P4P P4Q P4V
  go_wp2_with fail
  refine C2.out.mono ?_
  rintro e w6 ⟨kD, rfl, hbD, hkD, hiD, hp6, ht6⟩
  obtain ⟨yk, yf, ym, yn, yl, ysp, ykp, ysc, ykc, Y, hyv, hyc⟩ := kD.form
  rw [hyv]
  have hz6 := ht6.size
  have hkP6 : KeyC w6 kP := KeyC.keep (KeepUp.tk ht6 (by omega : gP < w4.heap.size)) kP HKP.out HIP.out
  have P6R := Lib.hid (P5R.out.tk ht6 (by omega))
  have P6Q := Lib.hid (P5Q.out.tk ht6 (by omega))
  have P6V := Lib.hid (P5V.out.tk ht6 (by omega))
  have HW6 := Lib.hid (HW5.out.trans (ht6.below (by omega) (by have := HW5.out.size; omega)))
  have P6P := Lib.hid hp6
  have HYV := Lib.hid hyv
  have HYC := Lib.hid hyc
  have HBD := Lib.hid hbD
  have HKP6 := Lib.hid hkP6
  have HKD6 := Lib.hid hkD
  have HV6 : Hid (gV < w6.heap.size) := by show gV < w6.heap.size; omega
  have HID := Lib.hid hiD
  clear hbD hkD hiD hp6 ht6 hyv hyc hkP6 C2 HKP P5R P5Q P5V HW4 HW5
  go_wp2_with fail
  obtain ⟨w7, hw7⟩ : ∃ w7, (w6.alloc (.cells #[.int .i64 xk, .int .u8 xf, .slice xsp xm xsc, .int .u32 xn, .string X, .slice xkp xl xkc] 37)).alloc (.cells #[.int .i64 yk, .int .u8 yf, .slice ysp ym ysc, .int .u32 yn, .string Y, .slice ykp yl ykc] 26) = w7 := ⟨_, rfl⟩
  have hb7 : Below w6.heap.size w6 w7 := by rw [← hw7]; exact ((Below.refl _ w6).alloc (Nat.le_refl _) _).alloc (by simp) _
  have hz7 : w7.heap.size = w6.heap.size + 2 := by rw [← hw7]; simp
  have hc7 : Cells w7 w6.heap.size 37 #[.int .i64 xk, .int .u8 xf, .slice xsp xm xsc, .int .u32 xn, .string X, .slice xkp xl xkc] := by
    rw [← hw7]
    exact Cells.later (heap_alloc_new w6 _) (Below.heap_alloc _ _ _ (by simp))
  have hd7 : Cells w7 (w6.heap.size + 1) 26 #[.int .i64 yk, .int .u8 yf, .slice ysp ym ysc, .int .u32 yn, .string Y, .slice ykp yl ykc] := by
    rw [← hw7]
    have h := heap_alloc_new (w6.alloc (.cells #[.int .i64 xk, .int .u8 xf, .slice xsp xm xsc, .int .u32 xn, .string X, .slice xkp xl xkc] 37)) (.cells #[.int .i64 yk, .int .u8 yf, .slice ysp ym ysc, .int .u32 yn, .string Y, .slice ykp yl ykc] 26)
    rw [World.size_alloc] at h
    exact h
  rw [hw7]
  obtain ⟨A8, hA8⟩ : ∃ b, w6.heap.size = b := ⟨_, rfl⟩
  have hV6 := HV6.out
  have hW7 : Below W.heap.size W w7 := HW6.out.trans (hb7.mono HW6.out.size)
  have C3 := Lib.hid (CP2.out w7 gQ (P6Q.out.tk (Tk.of_below (g := gQ + 1) hb7) (by omega)) (GLQ.out w7 hW7))
  have P7V := Lib.hid (P6V.out.tk (Tk.of_below (g := gV + 1) hb7) (by omega))
  have P7R := Lib.hid (P6R.out.tk (Tk.of_below (g := gR + 1) hb7) (by omega))
  have P7P := Lib.hid (P6P.out.tk (Tk.of_below (g := gP + 1) hb7) (by omega))
  have HKP7 := Lib.hid (KeyC.below hb7 kP HKP6.out)
  have HKD7 := Lib.hid (KeyC.below hb7 kD HKD6.out)
  have HW7 := Lib.hid hW7
  rw [hA8] at hz7 hc7 hd7 hV6 ⊢
  have HC7 := Lib.hid hc7
  have HD7 := Lib.hid hd7
  have HIP9 : Hid (∀ b, b < w4.heap.size → ∀ x x', Tk b x x' → KeyC x kP → KeyC x' kP) := fun b hb x x' ht hk => KeyC.keep (KeepUp.tk ht hb) kP hk HIP.out
  have HID9 : Hid (∀ b, b < w4.heap.size → ∀ x x', Tk b x x' → KeyC x kD → KeyC x' kD) := fun b hb x x' ht hk => KeyC.keep (KeepUp.tk ht (by omega : b < w5.heap.size)) kD hk HID.out
  clear hw7 hb7 hc7 hd7 hA8 hW7 P6Q P6V P6R P6P HKP6 HKD6 HW6 CP2 HV6
  refine C3.out.mono ?_
  rintro e w8 ⟨⟨sp1, cap1, rfl, hps1, hup1⟩, hp8, ht8⟩
  have hz8 := ht8.size
  have C4 := Lib.hid (CD2.out w8 gV (P7V.out.tk ht8 (by omega)))
  have P8R := Lib.hid (P7R.out.tk ht8 (by omega))
  have P8P := Lib.hid (P7P.out.tk ht8 (by omega))
  have HKP8 := Lib.hid (HIP9.out gQ (by omega) _ _ ht8 HKP7.out)
  have HKD8 := Lib.hid (HID9.out gQ (by omega) _ _ ht8 HKD7.out)
  have HW8 := Lib.hid (HW7.out.trans (ht8.below (by omega) (by have := HW7.out.size; omega)))
  have HC8 := Lib.hid (Cells.later HC7.out (ht8.blk _ (Cells.lt HC7.out) (by omega)))
  have HD8 := Lib.hid (Cells.later HD7.out (ht8.blk _ (Cells.lt HD7.out) (by omega)))
  have P8Q := Lib.hid hp8
  have HPS1 := Lib.hid hps1
  have HUP1 := Lib.hid hup1
  clear hps1 hup1 hp8 ht8 C3 P7V P7R P7P HKP7 HKD7 HW7 HC7 HD7 CD2
  go_wp2_with fail
  refine C4.out.mono ?_
  rintro e w9 ⟨⟨sp2, cap2, rfl, hps2, hup2⟩, hp9, ht9⟩
  have hz9 := ht9.size
  have p9R := P8R.out.tk ht9 (by omega)
  have p9P := P8P.out.tk ht9 (by omega)
  have p9Q := P8Q.out.tk ht9 (by omega)
  have hkP9 := HIP9.out gV (by omega) _ _ ht9 HKP8.out
  have hkD9 := HID9.out gV (by omega) _ _ ht9 HKD8.out
  have hW9 := HW8.out.trans (ht9.below (by omega) (by have := HW8.out.size; omega))
  have hc9 := Cells.later HC8.out (ht9.blk _ (Cells.lt HC8.out) (by omega))
  have hd9 := Cells.later HD8.out (ht9.blk _ (Cells.lt HD8.out) (by omega))
  have hps9 : PairsAt w9 sp1 rv := HPS1.out.keep HUP1.out (KeepUp.tk ht9 (by omega))
  obtain ⟨aP, fP, hDP, haP, hdP⟩ := p9P
  obtain ⟨aV, fV, hDV, haV, hdV⟩ := hp9
  have efP := drs_f hdP
  have efV := drs_f hdV
  have hKB : bareK kP = bareK kD := HBP.out.trans HBD.out.symm
  have DB := fun w (hw : Below w9.heap.size w9 w) => back14_c kP (HSH.out kP HBP.out) w (KeyC.below hw kP hkP9)
  have DS := fun (k2 : KT) w (hw : Below w9.heap.size w9 w) (hb : bareK k2 = bareK kP) (hc : KeyC w k2) => rsame_c k2 kD w hc (KeyC.below hw kD hkD9)
  have DS : ∀ (k2 : KT) w, Below w9.heap.size w9 w → bareK k2 = bareK kP → KeyC w k2 → Calls Tryz.prog 19 #[k2.val, kD.val] w fun e w' => e = .returned (.bool true) ∧ Below w.heap.size w w' := fun k2 w hw hb hc => by
    have h9 := DS k2 w hw hb hc
    rw [same_of_bare (hb.trans hKB) rfl, sameK_refl] at h9
    exact h9
  have DO1 : ∀ w, Below w9.heap.size w9 w → Calls Tryz.prog 30 #[pt gR] w fun e w' => e = .returned (.bool (!s1.f)) ∧ Below w.heap.size w w' := fun w hw =>
    (tkOk_c (Cells.later p9R (hw.block _ (Cells.lt p9R)))).mono fun e w' h => ⟨h.1, by rw [h.2]; exact Below.refl _ _⟩
  have DL1 : ∀ w, Below w9.heap.size w9 w → Calls Tryz.prog 31 #[pt gR] w fun e w' => e = .returned (.int .i64 s1.l.length) ∧ Below w.heap.size w w' := fun w hw =>
    (tkLeft_c (Cells.later p9R (hw.block _ (Cells.lt p9R)))).mono fun e w' h => ⟨h.1, by rw [h.2]; exact Below.refl _ _⟩
  have DR1 : ∀ w, Below w9.heap.size w9 w → Calls Tryz.prog 32 #[pt gP] w fun e w' => e = .returned (.string (txt s1.l)) ∧ Below w.heap.size w w' := fun w hw =>
    (rtRest_c (s := s1) ⟨aP, fP, Cells.later hDP (hw.block _ (Cells.lt hDP)), haP, hdP⟩).mono fun e w' h => ⟨h.1, by obtain ⟨n, hn⟩ := h.2; rw [hn]; exact below_drewN (Below.refl _ _) n⟩
  have DO2 : ∀ w, Below w9.heap.size w9 w → Calls Tryz.prog 30 #[pt gQ] w fun e w' => e = .returned (.bool (!rs.f)) ∧ Below w.heap.size w w' := fun w hw =>
    (tkOk_c (Cells.later p9Q (hw.block _ (Cells.lt p9Q)))).mono fun e w' h => ⟨h.1, by rw [h.2]; exact Below.refl _ _⟩
  have DL2 : ∀ w, Below w9.heap.size w9 w → Calls Tryz.prog 31 #[pt gQ] w fun e w' => e = .returned (.int .i64 rs.l.length) ∧ Below w.heap.size w w' := fun w hw =>
    (tkLeft_c (Cells.later p9Q (hw.block _ (Cells.lt p9Q)))).mono fun e w' h => ⟨h.1, by rw [h.2]; exact Below.refl _ _⟩
  have DR2 : ∀ w, Below w9.heap.size w9 w → Calls Tryz.prog 32 #[pt gV] w fun e w' => e = .returned (.string (txt rs.l)) ∧ Below w.heap.size w w' := fun w hw =>
    (rtRest_c (s := rs) ⟨aV, fV, Cells.later hDV (hw.block _ (Cells.lt hDV)), haV, hdV⟩).mono fun e w' h => ⟨h.1, by obtain ⟨n, hn⟩ := h.2; rw [hn]; exact below_drewN (Below.refl _ _) n⟩
  have DQ : ∀ w, Below w9.heap.size w9 w → Calls Tryz.prog 33 #[.slice sp1 rv.length cap1, .slice sp2 rv.length cap2] w fun e w' => e = .returned (.bool true) ∧ Below w.heap.size w w' := fun w hw =>
    (same_pairs_c sp2 sp1 cap2 cap1 rv (by have := HRL.out; omega) w (hps9.below hw) (hps2.below hw)).mono fun e w' h => ⟨h.1, by obtain ⟨n, hn⟩ := h.2; rw [hn]; exact below_drewN (Below.refl _ _) n⟩
  have DA : ∀ w, Below w9.heap.size w9 w → Calls Tryz.prog 23 #[] w fun e w' => e = .returned (.bool true) ∧ Below w.heap.size w w' := fun w hw =>
    awake14_c w ((HG.out.below hW9).below hw) ((HX.out.below hW9).below hw)
  rw [HXV.out] at DB
  rw [HYV.out] at DS
  have FS : Hid (∀ x, Below w9.heap.size w9 x → (x.cell? ⟨A8, 0, none⟩ = some (.int .i64 xk) ∧ x.cell? ⟨A8, 1, none⟩ = some (.int .u8 xf) ∧ x.cell? ⟨A8, 2, none⟩ = some (.slice xsp xm xsc) ∧ x.cell? ⟨A8, 3, none⟩ = some (.int .u32 xn) ∧ x.cell? ⟨A8, 4, none⟩ = some (.string X) ∧ x.cell? ⟨A8, 5, none⟩ = some (.slice xkp xl xkc)) ∧ (x.cell? ⟨A8 + 1, 0, none⟩ = some (.int .i64 yk) ∧ x.cell? ⟨A8 + 1, 1, none⟩ = some (.int .u8 yf) ∧ x.cell? ⟨A8 + 1, 2, none⟩ = some (.slice ysp ym ysc) ∧ x.cell? ⟨A8 + 1, 3, none⟩ = some (.int .u32 yn) ∧ x.cell? ⟨A8 + 1, 4, none⟩ = some (.string Y) ∧ x.cell? ⟨A8 + 1, 5, none⟩ = some (.slice ykp yl ykc)) ∧ x.cell? ⟨gP, 2, none⟩ = some (.bool s1.f) ∧ x.cell? ⟨gV, 2, none⟩ = some (.bool rs.f) ∧ gP < x.heap.size ∧ gV < x.heap.size ∧ A8 + 1 < x.heap.size) := fun x hx => by
    have h1 := Cells.later hc9 (hx.block _ (Cells.lt hc9))
    have h2 := Cells.later hd9 (hx.block _ (Cells.lt hd9))
    have h3 : DR x gP l aP fP := Cells.later hDP (hx.block _ (Cells.lt hDP))
    have h4 : DR x gV l aV fV := Cells.later hDV (hx.block _ (Cells.lt hDV))
    rw [efP, efV]
    exact ⟨⟨h1.cell (i := 0) rfl, h1.cell (i := 1) rfl, h1.cell (i := 2) rfl, h1.cell (i := 3) rfl, h1.cell (i := 4) rfl, h1.cell (i := 5) rfl⟩, ⟨h2.cell (i := 0) rfl, h2.cell (i := 1) rfl, h2.cell (i := 2) rfl, h2.cell (i := 3) rfl, h2.cell (i := 4) rfl, h2.cell (i := 5) rfl⟩, h3.facts.2.2.1, h4.facts.2.2.1, Cells.lt h3, Cells.lt h4, Cells.lt h2⟩
  obtain ⟨f1, hf1⟩ : ∃ b, s1.f = b := ⟨_, rfl⟩
  obtain ⟨f2, hf2⟩ : ∃ b, rs.f = b := ⟨_, rfl⟩
  have ez1 := txt_size s1.l
  have ez2 := txt_size rs.l
  rw [← ez1] at DL1
  rw [← ez2] at DL2
  obtain ⟨X1, hX1⟩ : ∃ b, txt s1.l = b := ⟨_, rfl⟩
  obtain ⟨X2, hX2⟩ : ∃ b, txt rs.l = b := ⟨_, rfl⟩
  obtain ⟨M9, hM9⟩ : ∃ b, rv.length = b := ⟨_, rfl⟩
  rw [hf1] at DO1
  rw [hf2] at DO2
  rw [hX1] at DL1 DR1
  rw [hX2] at DL2 DR2
  rw [hf1, hf2] at FS
  rw [hM9] at DQ ⊢
  have DB := Lib.hid DB
  have DS := Lib.hid DS
  have DO1 := Lib.hid DO1
  have DL1 := Lib.hid DL1
  have DR1 := Lib.hid DR1
  have DO2 := Lib.hid DO2
  have DL2 := Lib.hid DL2
  have DR2 := Lib.hid DR2
  have DQ := Lib.hid DQ
  have DA := Lib.hid DA
  have HW9 := Lib.hid hW9
  clear hps2 hup2 ht9 p9R p9Q hkP9 hkD9 hW9 hc9 hd9 hps9 hDP haP hdP hDV haV hdV efP efV hKB hf1 hf2 ez1 ez2 hX1 hX2 hM9 C4 P8R P8P P8Q HKP8 HKD8 HW8 HC8 HD8 HPS1 HUP1 HIP9 HID9 HSH HG HX HRL HXC HYC HBD T5 HIP HID GLQ
  go_wp2_with fail
  go_cut [59] from 38 (fun t59 wc => t59 = .bool false ∧ Hid (Below w9.heap.size w9 wc))
  case first =>
    refine wp_region_slotsF [38, 39, 40, 41, 42, 43, 44, 45, 46, 47, 48, 49, 50, 51, 52, 53, 54, 55, 56, 57, 58, 59] (fun L vs w => ∃ k2 : KT, RgV 38 w9.heap.size w9 (fun k2 : KT => [(.agg #[.int .i64 xk, .int .u8 xf, .slice xsp xm xsc, .int .u32 xn, .string X, .slice xkp xl xkc]), k2.val, (.agg #[.int .i64 yk, .int .u8 yf, .slice ysp ym ysc, .int .u32 yn, .string Y, .slice ykp yl ykc]), .bool true, .bool false, .bool false, pt gR, .bool (!f1), .pointer (some ⟨gP, 0, none⟩), .pointer (some ⟨gP, 0, none⟩), .pointer (some ⟨gP, 2, none⟩), .bool f1, .bool false, .bool false, .bool false, pt gR, .int .i64 X1.size, .pointer (some ⟨gP, 0, none⟩), .string X1, .int .i64 X1.size, .bool false, .bool false]) 1 (fun k2 w => bareK k2 = bareK kP ∧ KeyC w k2) k2 L vs w) _ (fun vs => by simp only [slotsPut, Act.put, List.setIfInBounds_toArray, List.set_cons_zero, List.set_cons_succ]; rfl) (by kernel_rfl) (by kernel_rfl) ?_ ?_ ?_
    · exact fun vs => ⟨kP, RgV.start (Below.refl _ _).drew⟩
    · intro i o9 L vs w ho hL hA hJ
      obtain ⟨k2, h⟩ := hJ
      have hi7 : i < 22 := (Array.getElem?_eq_some_iff.1 ho).1
      have HH := Lib.hid h
      clear h
      obtain rfl | rfl | rfl | rfl | rfl | rfl | rfl | rfl | rfl | rfl | rfl | rfl | rfl | rfl | rfl | rfl | rfl | rfl | rfl | rfl | rfl | rfl : i = 0 ∨ i = 1 ∨ i = 2 ∨ i = 3 ∨ i = 4 ∨ i = 5 ∨ i = 6 ∨ i = 7 ∨ i = 8 ∨ i = 9 ∨ i = 10 ∨ i = 11 ∨ i = 12 ∨ i = 13 ∨ i = 14 ∨ i = 15 ∨ i = 16 ∨ i = 17 ∨ i = 18 ∨ i = 19 ∨ i = 20 ∨ i = 21 := by omega
      all_goals
        have ho' := Option.some.inj (show some _ = some o9 from ho)
        subst ho'
        clear ho
      · have hb9 := HH.out.b
        have HB9 := Lib.hid hb9
        obtain ⟨⟨x0, x1, x2, x3, x4, x5⟩, ⟨y0, y1, y2, y3, y4, y5⟩, zP, zV, lP, lV, lA⟩ := FS.out w hb9
        clear hb9
        clear hA
        refine wpOp_step rfl (fun K' hK => ?_)
        have HK := Lib.hid hK
        clear hK
        try dsimp only
        go_wp2_with fail
        exact HK.out _ _ ⟨upV vs 38 ((.agg #[.int .i64 xk, .int .u8 xf, .slice xsp xm xsc, .int .u32 xn, .string X, .slice xkp xl xkc])), (by simp [upV, pt]), k2, HH.out.same 0 _ (by decide) rfl⟩
      · have e0 : vs 38 = (.agg #[.int .i64 xk, .int .u8 xf, .slice xsp xm xsc, .int .u32 xn, .string X, .slice xkp xl xkc]) := HH.out.at 0 (hA ⟨0, .data⟩ (by simp) rfl) rfl
        have hb9 := HH.out.b
        have HB9 := Lib.hid hb9
        clear hb9
        have HE := Lib.hid (e0)
        clear e0
        clear hA
        refine wpOp_step rfl (fun K' hK => ?_)
        have HK := Lib.hid hK
        clear hK
        try dsimp only
        rw [HE.out]
        go_wp2_with (go_at_call 29; refine (DB.out w HB9.out).mono ?_; rintro e w' ⟨k3, rfl, hbo, hco, _, hb⟩)
        exact HK.out _ _ ⟨upV vs 39 k3.val, (by simp [upV, pt, HE.out]), k3, HH.out.made hL (fun j hj => getD_mid (l1 := [(.agg #[.int .i64 xk, .int .u8 xf, .slice xsp xm xsc, .int .u32 xn, .string X, .slice xkp xl xkc])]) (l2 := [(.agg #[.int .i64 yk, .int .u8 yf, .slice ysp ym ysc, .int .u32 yn, .string Y, .slice ykp yl ykc]), .bool true, .bool false, .bool false, pt gR, .bool (!f1), .pointer (some ⟨gP, 0, none⟩), .pointer (some ⟨gP, 0, none⟩), .pointer (some ⟨gP, 2, none⟩), .bool f1, .bool false, .bool false, .bool false, pt gR, .int .i64 X1.size, .pointer (some ⟨gP, 0, none⟩), .string X1, .int .i64 X1.size, .bool false, .bool false]) hj) k3.val rfl (HB9.out.trans (hb.mono HB9.out.size)) ⟨hbo, hco⟩⟩
      · have hb9 := HH.out.b
        have HB9 := Lib.hid hb9
        obtain ⟨⟨x0, x1, x2, x3, x4, x5⟩, ⟨y0, y1, y2, y3, y4, y5⟩, zP, zV, lP, lV, lA⟩ := FS.out w hb9
        clear hb9
        clear hA
        refine wpOp_step rfl (fun K' hK => ?_)
        have HK := Lib.hid hK
        clear hK
        try dsimp only
        go_wp2_with fail
        exact HK.out _ _ ⟨upV vs 40 ((.agg #[.int .i64 yk, .int .u8 yf, .slice ysp ym ysc, .int .u32 yn, .string Y, .slice ykp yl ykc])), (by simp [upV, pt]), k2, HH.out.same 2 _ (by decide) rfl⟩
      · have e1 : vs 39 = k2.val := HH.out.at 1 (hA ⟨1, .data⟩ (by simp) rfl) rfl
        have e2 : vs 40 = (.agg #[.int .i64 yk, .int .u8 yf, .slice ysp ym ysc, .int .u32 yn, .string Y, .slice ykp yl ykc]) := HH.out.at 2 (hA ⟨2, .data⟩ (by simp) rfl) rfl
        have hk13 := HH.out.k (hA ⟨1, .data⟩ (by simp) rfl)
        have HK13 := Lib.hid hk13
        clear hk13
        have hb9 := HH.out.b
        have HB9 := Lib.hid hb9
        clear hb9
        have HE := Lib.hid (And.intro e1 e2)
        clear e1 e2
        clear hA
        refine wpOp_step rfl (fun K' hK => ?_)
        have HK := Lib.hid hK
        clear hK
        try dsimp only
        rw [HE.out.1, HE.out.2]
        go_wp2_with (go_at_call 19; refine (DS.out k2 w HB9.out HK13.out.1 HK13.out.2).mono ?_; rintro e w' ⟨rfl, hb⟩)
        exact HK.out _ _ ⟨upV vs 41 (.bool true), (by simp [upV, pt, HE.out.1, HE.out.2]), k2, HH.out.step 3 _ (by decide) rfl (HB9.out.trans (hb.mono HB9.out.size)) (fun h => ⟨h.1, KeyC.below hb _ h.2⟩)⟩
      · have e3 : vs 41 = .bool true := HH.out.at 3 (hA ⟨3, .data⟩ (by simp) rfl) rfl
        have hb9 := HH.out.b
        have HB9 := Lib.hid hb9
        clear hb9
        have HE := Lib.hid (e3)
        clear e3
        clear hA
        refine wpOp_step rfl (fun K' hK => ?_)
        have HK := Lib.hid hK
        clear hK
        try dsimp only
        rw [HE.out]
        go_wp2_with fail
        exact HK.out _ _ ⟨upV vs 42 (.bool false), (by simp [upV, pt, HE.out]), k2, HH.out.same 4 _ (by decide) rfl⟩
      · have e4 : vs 42 = .bool false := HH.out.at 4 (hA ⟨4, .data⟩ (by simp) rfl) rfl
        have hb9 := HH.out.b
        have HB9 := Lib.hid hb9
        clear hb9
        have HE := Lib.hid (e4)
        clear e4
        clear hA
        refine wpOp_step rfl (fun K' hK => ?_)
        have HK := Lib.hid hK
        clear hK
        try dsimp only
        rw [HE.out]
        go_wp2_with fail
        exact HK.out _ _ ⟨upV vs 43 (.bool false), (by simp [upV, pt, HE.out]), k2, HH.out.same 5 _ (by decide) rfl⟩
      · have e5 : vs 43 = .bool false := HH.out.at 5 (hA ⟨5, .guard⟩ (by simp) rfl) rfl
        have hb9 := HH.out.b
        have HB9 := Lib.hid hb9
        clear hb9
        have HE := Lib.hid (e5)
        clear e5
        clear hA
        refine wpOp_step rfl (fun K' hK => ?_)
        have HK := Lib.hid hK
        clear hK
        try dsimp only
        rw [HE.out]
        refine of_if (by kernel_rfl) ?_
        go_wp2_with fail
        exact HK.out _ _ ⟨upV vs 44 (pt gR), (by simp [upV, pt, HE.out]), k2, HH.out.same 6 _ (by decide) rfl⟩
      · have e6 : vs 44 = pt gR := HH.out.at 6 (hA ⟨6, .data⟩ (by simp) rfl) rfl
        have e5 : vs 43 = .bool false := HH.out.at 5 (hA ⟨5, .guard⟩ (by simp) rfl) rfl
        have hb9 := HH.out.b
        have HB9 := Lib.hid hb9
        clear hb9
        have HE := Lib.hid (And.intro e6 e5)
        clear e6 e5
        clear hA
        refine wpOp_step rfl (fun K' hK => ?_)
        have HK := Lib.hid hK
        clear hK
        try dsimp only
        rw [HE.out.1, HE.out.2]
        refine of_if (by kernel_rfl) ?_
        go_wp2_with (go_at_call 30; refine (DO1.out w HB9.out).mono ?_; rintro e w' ⟨rfl, hb⟩)
        exact HK.out _ _ ⟨upV vs 45 (.bool (!f1)), (by simp [upV, pt, HE.out.1, HE.out.2]), k2, HH.out.step 7 _ (by decide) rfl (HB9.out.trans (hb.mono HB9.out.size)) (fun h => ⟨h.1, KeyC.below hb _ h.2⟩)⟩
      · have e5 : vs 43 = .bool false := HH.out.at 5 (hA ⟨5, .guard⟩ (by simp) rfl) rfl
        have hb9 := HH.out.b
        have HB9 := Lib.hid hb9
        clear hb9
        have HE := Lib.hid (e5)
        clear e5
        clear hA
        refine wpOp_step rfl (fun K' hK => ?_)
        have HK := Lib.hid hK
        clear hK
        try dsimp only
        rw [HE.out]
        refine of_if (by kernel_rfl) ?_
        go_wp2_with fail
        exact HK.out _ _ ⟨upV vs 46 (.pointer (some ⟨gP, 0, none⟩)), (by simp [upV, pt, HE.out]), k2, HH.out.same 8 _ (by decide) rfl⟩
      · have e8 : vs 46 = .pointer (some ⟨gP, 0, none⟩) := HH.out.at 8 (hA ⟨8, .data⟩ (by simp) rfl) rfl
        have e5 : vs 43 = .bool false := HH.out.at 5 (hA ⟨5, .guard⟩ (by simp) rfl) rfl
        have hb9 := HH.out.b
        have HB9 := Lib.hid hb9
        clear hb9
        have HE := Lib.hid (And.intro e8 e5)
        clear e8 e5
        clear hA
        refine wpOp_step rfl (fun K' hK => ?_)
        have HK := Lib.hid hK
        clear hK
        try dsimp only
        rw [HE.out.1, HE.out.2]
        refine of_if (by kernel_rfl) ?_
        go_wp2_with fail
        exact HK.out _ _ ⟨upV vs 47 (.pointer (some ⟨gP, 0, none⟩)), (by simp [upV, pt, HE.out.1, HE.out.2]), k2, HH.out.same 9 _ (by decide) rfl⟩
      · have e9 : vs 47 = .pointer (some ⟨gP, 0, none⟩) := HH.out.at 9 (hA ⟨9, .data⟩ (by simp) rfl) rfl
        have e5 : vs 43 = .bool false := HH.out.at 5 (hA ⟨5, .guard⟩ (by simp) rfl) rfl
        have hb9 := HH.out.b
        have HB9 := Lib.hid hb9
        clear hb9
        have HE := Lib.hid (And.intro e9 e5)
        clear e9 e5
        clear hA
        refine wpOp_step rfl (fun K' hK => ?_)
        have HK := Lib.hid hK
        clear hK
        try dsimp only
        rw [HE.out.1, HE.out.2]
        refine of_if (by kernel_rfl) ?_
        go_wp2_with fail
        exact HK.out _ _ ⟨upV vs 48 (.pointer (some ⟨gP, 2, none⟩)), (by simp [upV, pt, HE.out.1, HE.out.2]), k2, HH.out.same 10 _ (by decide) rfl⟩
      · have e10 : vs 48 = .pointer (some ⟨gP, 2, none⟩) := HH.out.at 10 (hA ⟨10, .data⟩ (by simp) rfl) rfl
        have e5 : vs 43 = .bool false := HH.out.at 5 (hA ⟨5, .guard⟩ (by simp) rfl) rfl
        have hb9 := HH.out.b
        have HB9 := Lib.hid hb9
        obtain ⟨⟨x0, x1, x2, x3, x4, x5⟩, ⟨y0, y1, y2, y3, y4, y5⟩, zP, zV, lP, lV, lA⟩ := FS.out w hb9
        clear hb9
        have HE := Lib.hid (And.intro e10 e5)
        clear e10 e5
        clear hA
        refine wpOp_step rfl (fun K' hK => ?_)
        have HK := Lib.hid hK
        clear hK
        try dsimp only
        rw [HE.out.1, HE.out.2]
        refine of_if (by kernel_rfl) ?_
        go_wp2_with fail
        exact HK.out _ _ ⟨upV vs 49 (.bool f1), (by simp [upV, pt, HE.out.1, HE.out.2]), k2, HH.out.same 11 _ (by decide) rfl⟩
      · have e7 : vs 45 = .bool (!f1) := HH.out.at 7 (hA ⟨7, .data⟩ (by simp) rfl) rfl
        have e11 : vs 49 = .bool f1 := HH.out.at 11 (hA ⟨11, .data⟩ (by simp) rfl) rfl
        have e5 : vs 43 = .bool false := HH.out.at 5 (hA ⟨5, .guard⟩ (by simp) rfl) rfl
        have hb9 := HH.out.b
        have HB9 := Lib.hid hb9
        clear hb9
        have HE := Lib.hid (And.intro e7 (And.intro e11 e5))
        clear e7 e11 e5
        clear hA
        refine wpOp_step rfl (fun K' hK => ?_)
        have HK := Lib.hid hK
        clear hK
        cases f1
        all_goals
          try dsimp only
          rw [HE.out.1, HE.out.2.1, HE.out.2.2]
          refine of_if (by kernel_rfl) ?_
          go_wp2_with fail
          exact HK.out _ _ ⟨upV vs 50 (.bool false), (by simp [upV, pt, HE.out.1, HE.out.2.1, HE.out.2.2]), k2, HH.out.same 12 _ (by decide) rfl⟩
      · have e5 : vs 43 = .bool false := HH.out.at 5 (hA ⟨5, .data⟩ (by simp) rfl) rfl
        have e12 : vs 50 = .bool false := HH.out.at 12 (hA ⟨12, .data⟩ (by simp) rfl) rfl
        have hb9 := HH.out.b
        have HB9 := Lib.hid hb9
        clear hb9
        have HE := Lib.hid (And.intro e5 e12)
        clear e5 e12
        clear hA
        refine wpOp_step rfl (fun K' hK => ?_)
        have HK := Lib.hid hK
        clear hK
        try dsimp only
        rw [HE.out.1, HE.out.2]
        go_wp2_with fail
        exact HK.out _ _ ⟨upV vs 51 (.bool false), (by simp [upV, pt, HE.out.1, HE.out.2]), k2, HH.out.same 13 _ (by decide) rfl⟩
      · have e13 : vs 51 = .bool false := HH.out.at 13 (hA ⟨13, .data⟩ (by simp) rfl) rfl
        have hb9 := HH.out.b
        have HB9 := Lib.hid hb9
        clear hb9
        have HE := Lib.hid (e13)
        clear e13
        clear hA
        refine wpOp_step rfl (fun K' hK => ?_)
        have HK := Lib.hid hK
        clear hK
        try dsimp only
        rw [HE.out]
        go_wp2_with fail
        exact HK.out _ _ ⟨upV vs 52 (.bool false), (by simp [upV, pt, HE.out]), k2, HH.out.same 14 _ (by decide) rfl⟩
      · have e14 : vs 52 = .bool false := HH.out.at 14 (hA ⟨14, .guard⟩ (by simp) rfl) rfl
        have hb9 := HH.out.b
        have HB9 := Lib.hid hb9
        clear hb9
        have HE := Lib.hid (e14)
        clear e14
        clear hA
        refine wpOp_step rfl (fun K' hK => ?_)
        have HK := Lib.hid hK
        clear hK
        try dsimp only
        rw [HE.out]
        refine of_if (by kernel_rfl) ?_
        go_wp2_with fail
        exact HK.out _ _ ⟨upV vs 53 (pt gR), (by simp [upV, pt, HE.out]), k2, HH.out.same 15 _ (by decide) rfl⟩
      · have e15 : vs 53 = pt gR := HH.out.at 15 (hA ⟨15, .data⟩ (by simp) rfl) rfl
        have e14 : vs 52 = .bool false := HH.out.at 14 (hA ⟨14, .guard⟩ (by simp) rfl) rfl
        have hb9 := HH.out.b
        have HB9 := Lib.hid hb9
        clear hb9
        have HE := Lib.hid (And.intro e15 e14)
        clear e15 e14
        clear hA
        refine wpOp_step rfl (fun K' hK => ?_)
        have HK := Lib.hid hK
        clear hK
        try dsimp only
        rw [HE.out.1, HE.out.2]
        refine of_if (by kernel_rfl) ?_
        go_wp2_with (go_at_call 31; refine (DL1.out w HB9.out).mono ?_; rintro e w' ⟨rfl, hb⟩)
        exact HK.out _ _ ⟨upV vs 54 (.int .i64 X1.size), (by simp [upV, pt, HE.out.1, HE.out.2]), k2, HH.out.step 16 _ (by decide) rfl (HB9.out.trans (hb.mono HB9.out.size)) (fun h => ⟨h.1, KeyC.below hb _ h.2⟩)⟩
      · have e14 : vs 52 = .bool false := HH.out.at 14 (hA ⟨14, .guard⟩ (by simp) rfl) rfl
        have hb9 := HH.out.b
        have HB9 := Lib.hid hb9
        clear hb9
        have HE := Lib.hid (e14)
        clear e14
        clear hA
        refine wpOp_step rfl (fun K' hK => ?_)
        have HK := Lib.hid hK
        clear hK
        try dsimp only
        rw [HE.out]
        refine of_if (by kernel_rfl) ?_
        go_wp2_with fail
        exact HK.out _ _ ⟨upV vs 55 (.pointer (some ⟨gP, 0, none⟩)), (by simp [upV, pt, HE.out]), k2, HH.out.same 17 _ (by decide) rfl⟩
      · have e17 : vs 55 = .pointer (some ⟨gP, 0, none⟩) := HH.out.at 17 (hA ⟨17, .data⟩ (by simp) rfl) rfl
        have e14 : vs 52 = .bool false := HH.out.at 14 (hA ⟨14, .guard⟩ (by simp) rfl) rfl
        have hb9 := HH.out.b
        have HB9 := Lib.hid hb9
        clear hb9
        have HE := Lib.hid (And.intro e17 e14)
        clear e17 e14
        clear hA
        refine wpOp_step rfl (fun K' hK => ?_)
        have HK := Lib.hid hK
        clear hK
        try dsimp only
        rw [HE.out.1, HE.out.2]
        refine of_if (by kernel_rfl) ?_
        go_wp2_with (go_at_call 32; refine (DR1.out w HB9.out).mono ?_; rintro e w' ⟨rfl, hb⟩)
        exact HK.out _ _ ⟨upV vs 56 (.string X1), (by simp [upV, pt, HE.out.1, HE.out.2]), k2, HH.out.step 18 _ (by decide) rfl (HB9.out.trans (hb.mono HB9.out.size)) (fun h => ⟨h.1, KeyC.below hb _ h.2⟩)⟩
      · have e18 : vs 56 = .string X1 := HH.out.at 18 (hA ⟨18, .data⟩ (by simp) rfl) rfl
        have e14 : vs 52 = .bool false := HH.out.at 14 (hA ⟨14, .guard⟩ (by simp) rfl) rfl
        have hb9 := HH.out.b
        have HB9 := Lib.hid hb9
        clear hb9
        have HE := Lib.hid (And.intro e18 e14)
        clear e18 e14
        clear hA
        refine wpOp_step rfl (fun K' hK => ?_)
        have HK := Lib.hid hK
        clear hK
        try dsimp only
        rw [HE.out.1, HE.out.2]
        refine of_if (by kernel_rfl) ?_
        go_wp2_with fail
        exact HK.out _ _ ⟨upV vs 57 (.int .i64 X1.size), (by simp [upV, pt, HE.out.1, HE.out.2]), k2, HH.out.same 19 _ (by decide) rfl⟩
      · have e16 : vs 54 = .int .i64 X1.size := HH.out.at 16 (hA ⟨16, .data⟩ (by simp) rfl) rfl
        have e19 : vs 57 = .int .i64 X1.size := HH.out.at 19 (hA ⟨19, .data⟩ (by simp) rfl) rfl
        have e14 : vs 52 = .bool false := HH.out.at 14 (hA ⟨14, .guard⟩ (by simp) rfl) rfl
        have hb9 := HH.out.b
        have HB9 := Lib.hid hb9
        clear hb9
        have HE := Lib.hid (And.intro e16 (And.intro e19 e14))
        clear e16 e19 e14
        clear hA
        refine wpOp_step rfl (fun K' hK => ?_)
        have HK := Lib.hid hK
        clear hK
        try dsimp only
        rw [HE.out.1, HE.out.2.1, HE.out.2.2]
        refine of_if (by kernel_rfl) ?_
        go_wp2_with fail
        exact HK.out _ _ ⟨upV vs 58 (.bool false), (by simp [upV, pt, HE.out.1, HE.out.2.1, HE.out.2.2]), k2, HH.out.same 20 _ (by decide) rfl⟩
      · have e14 : vs 52 = .bool false := HH.out.at 14 (hA ⟨14, .data⟩ (by simp) rfl) rfl
        have e20 : vs 58 = .bool false := HH.out.at 20 (hA ⟨20, .data⟩ (by simp) rfl) rfl
        have hb9 := HH.out.b
        have HB9 := Lib.hid hb9
        clear hb9
        have HE := Lib.hid (And.intro e14 e20)
        clear e14 e20
        clear hA
        refine wpOp_step rfl (fun K' hK => ?_)
        have HK := Lib.hid hK
        clear hK
        try dsimp only
        rw [HE.out.1, HE.out.2]
        go_wp2_with fail
        exact HK.out _ _ ⟨upV vs 59 (.bool false), (by simp [upV, pt, HE.out.1, HE.out.2]), k2, HH.out.same 21 _ (by decide) rfl⟩
    · intro L vs we2 hall hJ
      obtain ⟨k2, h⟩ := hJ
      have e86 : vs 59 = .bool false := h.at 21 (hall 21 (by decide)) rfl
      have HE := Lib.hid e86
      have HB9 := Lib.hid h.b
      clear h e86 hall
      try dsimp only
      rw [HE.out]
      generalize vs 38 = v38; generalize vs 39 = v39; generalize vs 40 = v40; generalize vs 41 = v41; generalize vs 42 = v42; generalize vs 43 = v43; generalize vs 44 = v44; generalize vs 45 = v45; generalize vs 46 = v46; generalize vs 47 = v47; generalize vs 48 = v48; generalize vs 49 = v49; generalize vs 50 = v50; generalize vs 51 = v51; generalize vs 52 = v52; generalize vs 53 = v53; generalize vs 54 = v54; generalize vs 55 = v55; generalize vs 56 = v56; generalize vs 57 = v57; generalize vs 58 = v58
      clear HE
      go_wp2_with fail
      go_meet
      case rel => exact ⟨rfl, HB9.out⟩
  case rest =>
    obtain ⟨rfl, HB9⟩ := hcut
    obtain ⟨wA, hwA⟩ : ∃ wA, wc = wA := ⟨_, rfl⟩
    rw [hwA] at HB9 ⊢
    clear hwA DB DS DO1 DL1 DR1
    go_wp2_with fail
    refine wp_region_slotsF [60, 61, 62, 63, 64, 65, 66, 67, 68, 69, 70, 71, 72, 73, 74, 75, 76, 77, 78, 79, 80, 81, 82, 2] (fun L vs w => ∃ k2 : KT, RgV 60 w9.heap.size w9 (fun k2 : KT => [.slice sp1 M9 cap1, .slice sp2 M9 cap2, .bool true, .bool true, pt gQ, .bool (!f2), .pointer (some ⟨gV, 0, none⟩), .pointer (some ⟨gV, 0, none⟩), .pointer (some ⟨gV, 2, none⟩), .bool f2, .bool true, .bool true, .bool true, pt gQ, .int .i64 X2.size, .pointer (some ⟨gV, 0, none⟩), .string X2, .int .i64 X2.size, .bool true, .bool true, .bool true, .bool true, .bool true, .bool true]) 100 (fun k2 w => bareK k2 = bareK kP ∧ KeyC w k2) k2 L vs w ∧ (L 23 = true → vs 2 = .bool true)) _ (fun vs => by simp only [slotsPut, Act.put, List.setIfInBounds_toArray, List.set_cons_zero, List.set_cons_succ]; rfl) (by kernel_rfl) (by kernel_rfl) ?_ ?_ ?_
    · exact fun vs => ⟨kP, RgV.start HB9.out.drew, fun e => no_bool e rfl⟩
    · intro i o9 L vs w ho hL hA hJ
      obtain ⟨k2, h, hx9⟩ := hJ
      have hi7 : i < 24 := (Array.getElem?_eq_some_iff.1 ho).1
      have HH := Lib.hid h
      have HX9 := Lib.hid hx9
      clear h hx9
      obtain rfl | rfl | rfl | rfl | rfl | rfl | rfl | rfl | rfl | rfl | rfl | rfl | rfl | rfl | rfl | rfl | rfl | rfl | rfl | rfl | rfl | rfl | rfl | rfl : i = 0 ∨ i = 1 ∨ i = 2 ∨ i = 3 ∨ i = 4 ∨ i = 5 ∨ i = 6 ∨ i = 7 ∨ i = 8 ∨ i = 9 ∨ i = 10 ∨ i = 11 ∨ i = 12 ∨ i = 13 ∨ i = 14 ∨ i = 15 ∨ i = 16 ∨ i = 17 ∨ i = 18 ∨ i = 19 ∨ i = 20 ∨ i = 21 ∨ i = 22 ∨ i = 23 := by omega
      all_goals
        have ho' := Option.some.inj (show some _ = some o9 from ho)
        subst ho'
        clear ho
      · have hb9 := HH.out.b
        have HB9 := Lib.hid hb9
        clear hb9
        clear hA
        refine wpOp_step rfl (fun K' hK => ?_)
        have HK := Lib.hid hK
        clear hK
        try dsimp only
        go_wp2_with fail
        exact HK.out _ _ ⟨upV vs 60 (.slice sp1 M9 cap1), (by simp [upV, pt]), k2, HH.out.same 0 _ (by decide) rfl, HX9.out⟩
      · have hb9 := HH.out.b
        have HB9 := Lib.hid hb9
        clear hb9
        clear hA
        refine wpOp_step rfl (fun K' hK => ?_)
        have HK := Lib.hid hK
        clear hK
        try dsimp only
        go_wp2_with fail
        exact HK.out _ _ ⟨upV vs 61 (.slice sp2 M9 cap2), (by simp [upV, pt]), k2, HH.out.same 1 _ (by decide) rfl, HX9.out⟩
      · have e0 : vs 60 = .slice sp1 M9 cap1 := HH.out.at 0 (hA ⟨0, .data⟩ (by simp) rfl) rfl
        have e1 : vs 61 = .slice sp2 M9 cap2 := HH.out.at 1 (hA ⟨1, .data⟩ (by simp) rfl) rfl
        have hb9 := HH.out.b
        have HB9 := Lib.hid hb9
        clear hb9
        have HE := Lib.hid (And.intro e0 e1)
        clear e0 e1
        clear hA
        refine wpOp_step rfl (fun K' hK => ?_)
        have HK := Lib.hid hK
        clear hK
        try dsimp only
        rw [HE.out.1, HE.out.2]
        go_wp2_with (go_at_call 33; refine (DQ.out w HB9.out).mono ?_; rintro e w' ⟨rfl, hb⟩)
        exact HK.out _ _ ⟨upV vs 62 (.bool true), (by simp [upV, pt, HE.out.1, HE.out.2]), k2, HH.out.step 2 _ (by decide) rfl (HB9.out.trans (hb.mono HB9.out.size)) (fun h => ⟨h.1, KeyC.below hb _ h.2⟩), HX9.out⟩
      · have e2 : vs 62 = .bool true := HH.out.at 2 (hA ⟨2, .data⟩ (by simp) rfl) rfl
        have hb9 := HH.out.b
        have HB9 := Lib.hid hb9
        clear hb9
        have HE := Lib.hid (e2)
        clear e2
        clear hA
        refine wpOp_step rfl (fun K' hK => ?_)
        have HK := Lib.hid hK
        clear hK
        try dsimp only
        rw [HE.out]
        go_wp2_with fail
        exact HK.out _ _ ⟨upV vs 63 (.bool true), (by simp [upV, pt, HE.out]), k2, HH.out.same 3 _ (by decide) rfl, HX9.out⟩
      · have e3 : vs 63 = .bool true := HH.out.at 3 (hA ⟨3, .guard⟩ (by simp) rfl) rfl
        have hb9 := HH.out.b
        have HB9 := Lib.hid hb9
        clear hb9
        have HE := Lib.hid (e3)
        clear e3
        clear hA
        refine wpOp_step rfl (fun K' hK => ?_)
        have HK := Lib.hid hK
        clear hK
        try dsimp only
        rw [HE.out]
        refine of_if (by kernel_rfl) ?_
        go_wp2_with fail
        exact HK.out _ _ ⟨upV vs 64 (pt gQ), (by simp [upV, pt, HE.out]), k2, HH.out.same 4 _ (by decide) rfl, HX9.out⟩
      · have e4 : vs 64 = pt gQ := HH.out.at 4 (hA ⟨4, .data⟩ (by simp) rfl) rfl
        have e3 : vs 63 = .bool true := HH.out.at 3 (hA ⟨3, .guard⟩ (by simp) rfl) rfl
        have hb9 := HH.out.b
        have HB9 := Lib.hid hb9
        clear hb9
        have HE := Lib.hid (And.intro e4 e3)
        clear e4 e3
        clear hA
        refine wpOp_step rfl (fun K' hK => ?_)
        have HK := Lib.hid hK
        clear hK
        try dsimp only
        rw [HE.out.1, HE.out.2]
        refine of_if (by kernel_rfl) ?_
        go_wp2_with (go_at_call 30; refine (DO2.out w HB9.out).mono ?_; rintro e w' ⟨rfl, hb⟩)
        exact HK.out _ _ ⟨upV vs 65 (.bool (!f2)), (by simp [upV, pt, HE.out.1, HE.out.2]), k2, HH.out.step 5 _ (by decide) rfl (HB9.out.trans (hb.mono HB9.out.size)) (fun h => ⟨h.1, KeyC.below hb _ h.2⟩), HX9.out⟩
      · have e3 : vs 63 = .bool true := HH.out.at 3 (hA ⟨3, .guard⟩ (by simp) rfl) rfl
        have hb9 := HH.out.b
        have HB9 := Lib.hid hb9
        clear hb9
        have HE := Lib.hid (e3)
        clear e3
        clear hA
        refine wpOp_step rfl (fun K' hK => ?_)
        have HK := Lib.hid hK
        clear hK
        try dsimp only
        rw [HE.out]
        refine of_if (by kernel_rfl) ?_
        go_wp2_with fail
        exact HK.out _ _ ⟨upV vs 66 (.pointer (some ⟨gV, 0, none⟩)), (by simp [upV, pt, HE.out]), k2, HH.out.same 6 _ (by decide) rfl, HX9.out⟩
      · have e6 : vs 66 = .pointer (some ⟨gV, 0, none⟩) := HH.out.at 6 (hA ⟨6, .data⟩ (by simp) rfl) rfl
        have e3 : vs 63 = .bool true := HH.out.at 3 (hA ⟨3, .guard⟩ (by simp) rfl) rfl
        have hb9 := HH.out.b
        have HB9 := Lib.hid hb9
        clear hb9
        have HE := Lib.hid (And.intro e6 e3)
        clear e6 e3
        clear hA
        refine wpOp_step rfl (fun K' hK => ?_)
        have HK := Lib.hid hK
        clear hK
        try dsimp only
        rw [HE.out.1, HE.out.2]
        refine of_if (by kernel_rfl) ?_
        go_wp2_with fail
        exact HK.out _ _ ⟨upV vs 67 (.pointer (some ⟨gV, 0, none⟩)), (by simp [upV, pt, HE.out.1, HE.out.2]), k2, HH.out.same 7 _ (by decide) rfl, HX9.out⟩
      · have e7 : vs 67 = .pointer (some ⟨gV, 0, none⟩) := HH.out.at 7 (hA ⟨7, .data⟩ (by simp) rfl) rfl
        have e3 : vs 63 = .bool true := HH.out.at 3 (hA ⟨3, .guard⟩ (by simp) rfl) rfl
        have hb9 := HH.out.b
        have HB9 := Lib.hid hb9
        clear hb9
        have HE := Lib.hid (And.intro e7 e3)
        clear e7 e3
        clear hA
        refine wpOp_step rfl (fun K' hK => ?_)
        have HK := Lib.hid hK
        clear hK
        try dsimp only
        rw [HE.out.1, HE.out.2]
        refine of_if (by kernel_rfl) ?_
        go_wp2_with fail
        exact HK.out _ _ ⟨upV vs 68 (.pointer (some ⟨gV, 2, none⟩)), (by simp [upV, pt, HE.out.1, HE.out.2]), k2, HH.out.same 8 _ (by decide) rfl, HX9.out⟩
      · have e8 : vs 68 = .pointer (some ⟨gV, 2, none⟩) := HH.out.at 8 (hA ⟨8, .data⟩ (by simp) rfl) rfl
        have e3 : vs 63 = .bool true := HH.out.at 3 (hA ⟨3, .guard⟩ (by simp) rfl) rfl
        have hb9 := HH.out.b
        have HB9 := Lib.hid hb9
        obtain ⟨⟨x0, x1, x2, x3, x4, x5⟩, ⟨y0, y1, y2, y3, y4, y5⟩, zP, zV, lP, lV, lA⟩ := FS.out w hb9
        clear hb9
        have HE := Lib.hid (And.intro e8 e3)
        clear e8 e3
        clear hA
        refine wpOp_step rfl (fun K' hK => ?_)
        have HK := Lib.hid hK
        clear hK
        try dsimp only
        rw [HE.out.1, HE.out.2]
        refine of_if (by kernel_rfl) ?_
        go_wp2_with fail
        exact HK.out _ _ ⟨upV vs 69 (.bool f2), (by simp [upV, pt, HE.out.1, HE.out.2]), k2, HH.out.same 9 _ (by decide) rfl, HX9.out⟩
      · have e5 : vs 65 = .bool (!f2) := HH.out.at 5 (hA ⟨5, .data⟩ (by simp) rfl) rfl
        have e9 : vs 69 = .bool f2 := HH.out.at 9 (hA ⟨9, .data⟩ (by simp) rfl) rfl
        have e3 : vs 63 = .bool true := HH.out.at 3 (hA ⟨3, .guard⟩ (by simp) rfl) rfl
        have hb9 := HH.out.b
        have HB9 := Lib.hid hb9
        clear hb9
        have HE := Lib.hid (And.intro e5 (And.intro e9 e3))
        clear e5 e9 e3
        clear hA
        refine wpOp_step rfl (fun K' hK => ?_)
        have HK := Lib.hid hK
        clear hK
        cases f2
        all_goals
          try dsimp only
          rw [HE.out.1, HE.out.2.1, HE.out.2.2]
          refine of_if (by kernel_rfl) ?_
          go_wp2_with fail
          exact HK.out _ _ ⟨upV vs 70 (.bool true), (by simp [upV, pt, HE.out.1, HE.out.2.1, HE.out.2.2]), k2, HH.out.same 10 _ (by decide) rfl, HX9.out⟩
      · have e3 : vs 63 = .bool true := HH.out.at 3 (hA ⟨3, .data⟩ (by simp) rfl) rfl
        have e10 : vs 70 = .bool true := HH.out.at 10 (hA ⟨10, .data⟩ (by simp) rfl) rfl
        have hb9 := HH.out.b
        have HB9 := Lib.hid hb9
        clear hb9
        have HE := Lib.hid (And.intro e3 e10)
        clear e3 e10
        clear hA
        refine wpOp_step rfl (fun K' hK => ?_)
        have HK := Lib.hid hK
        clear hK
        try dsimp only
        rw [HE.out.1, HE.out.2]
        go_wp2_with fail
        exact HK.out _ _ ⟨upV vs 71 (.bool true), (by simp [upV, pt, HE.out.1, HE.out.2]), k2, HH.out.same 11 _ (by decide) rfl, HX9.out⟩
      · have e11 : vs 71 = .bool true := HH.out.at 11 (hA ⟨11, .data⟩ (by simp) rfl) rfl
        have hb9 := HH.out.b
        have HB9 := Lib.hid hb9
        clear hb9
        have HE := Lib.hid (e11)
        clear e11
        clear hA
        refine wpOp_step rfl (fun K' hK => ?_)
        have HK := Lib.hid hK
        clear hK
        try dsimp only
        rw [HE.out]
        go_wp2_with fail
        exact HK.out _ _ ⟨upV vs 72 (.bool true), (by simp [upV, pt, HE.out]), k2, HH.out.same 12 _ (by decide) rfl, HX9.out⟩
      · have e12 : vs 72 = .bool true := HH.out.at 12 (hA ⟨12, .guard⟩ (by simp) rfl) rfl
        have hb9 := HH.out.b
        have HB9 := Lib.hid hb9
        clear hb9
        have HE := Lib.hid (e12)
        clear e12
        clear hA
        refine wpOp_step rfl (fun K' hK => ?_)
        have HK := Lib.hid hK
        clear hK
        try dsimp only
        rw [HE.out]
        refine of_if (by kernel_rfl) ?_
        go_wp2_with fail
        exact HK.out _ _ ⟨upV vs 73 (pt gQ), (by simp [upV, pt, HE.out]), k2, HH.out.same 13 _ (by decide) rfl, HX9.out⟩
      · have e13 : vs 73 = pt gQ := HH.out.at 13 (hA ⟨13, .data⟩ (by simp) rfl) rfl
        have e12 : vs 72 = .bool true := HH.out.at 12 (hA ⟨12, .guard⟩ (by simp) rfl) rfl
        have hb9 := HH.out.b
        have HB9 := Lib.hid hb9
        clear hb9
        have HE := Lib.hid (And.intro e13 e12)
        clear e13 e12
        clear hA
        refine wpOp_step rfl (fun K' hK => ?_)
        have HK := Lib.hid hK
        clear hK
        try dsimp only
        rw [HE.out.1, HE.out.2]
        refine of_if (by kernel_rfl) ?_
        go_wp2_with (go_at_call 31; refine (DL2.out w HB9.out).mono ?_; rintro e w' ⟨rfl, hb⟩)
        exact HK.out _ _ ⟨upV vs 74 (.int .i64 X2.size), (by simp [upV, pt, HE.out.1, HE.out.2]), k2, HH.out.step 14 _ (by decide) rfl (HB9.out.trans (hb.mono HB9.out.size)) (fun h => ⟨h.1, KeyC.below hb _ h.2⟩), HX9.out⟩
      · have e12 : vs 72 = .bool true := HH.out.at 12 (hA ⟨12, .guard⟩ (by simp) rfl) rfl
        have hb9 := HH.out.b
        have HB9 := Lib.hid hb9
        clear hb9
        have HE := Lib.hid (e12)
        clear e12
        clear hA
        refine wpOp_step rfl (fun K' hK => ?_)
        have HK := Lib.hid hK
        clear hK
        try dsimp only
        rw [HE.out]
        refine of_if (by kernel_rfl) ?_
        go_wp2_with fail
        exact HK.out _ _ ⟨upV vs 75 (.pointer (some ⟨gV, 0, none⟩)), (by simp [upV, pt, HE.out]), k2, HH.out.same 15 _ (by decide) rfl, HX9.out⟩
      · have e15 : vs 75 = .pointer (some ⟨gV, 0, none⟩) := HH.out.at 15 (hA ⟨15, .data⟩ (by simp) rfl) rfl
        have e12 : vs 72 = .bool true := HH.out.at 12 (hA ⟨12, .guard⟩ (by simp) rfl) rfl
        have hb9 := HH.out.b
        have HB9 := Lib.hid hb9
        clear hb9
        have HE := Lib.hid (And.intro e15 e12)
        clear e15 e12
        clear hA
        refine wpOp_step rfl (fun K' hK => ?_)
        have HK := Lib.hid hK
        clear hK
        try dsimp only
        rw [HE.out.1, HE.out.2]
        refine of_if (by kernel_rfl) ?_
        go_wp2_with (go_at_call 32; refine (DR2.out w HB9.out).mono ?_; rintro e w' ⟨rfl, hb⟩)
        exact HK.out _ _ ⟨upV vs 76 (.string X2), (by simp [upV, pt, HE.out.1, HE.out.2]), k2, HH.out.step 16 _ (by decide) rfl (HB9.out.trans (hb.mono HB9.out.size)) (fun h => ⟨h.1, KeyC.below hb _ h.2⟩), HX9.out⟩
      · have e16 : vs 76 = .string X2 := HH.out.at 16 (hA ⟨16, .data⟩ (by simp) rfl) rfl
        have e12 : vs 72 = .bool true := HH.out.at 12 (hA ⟨12, .guard⟩ (by simp) rfl) rfl
        have hb9 := HH.out.b
        have HB9 := Lib.hid hb9
        clear hb9
        have HE := Lib.hid (And.intro e16 e12)
        clear e16 e12
        clear hA
        refine wpOp_step rfl (fun K' hK => ?_)
        have HK := Lib.hid hK
        clear hK
        try dsimp only
        rw [HE.out.1, HE.out.2]
        refine of_if (by kernel_rfl) ?_
        go_wp2_with fail
        exact HK.out _ _ ⟨upV vs 77 (.int .i64 X2.size), (by simp [upV, pt, HE.out.1, HE.out.2]), k2, HH.out.same 17 _ (by decide) rfl, HX9.out⟩
      · have e14 : vs 74 = .int .i64 X2.size := HH.out.at 14 (hA ⟨14, .data⟩ (by simp) rfl) rfl
        have e17 : vs 77 = .int .i64 X2.size := HH.out.at 17 (hA ⟨17, .data⟩ (by simp) rfl) rfl
        have e12 : vs 72 = .bool true := HH.out.at 12 (hA ⟨12, .guard⟩ (by simp) rfl) rfl
        have hb9 := HH.out.b
        have HB9 := Lib.hid hb9
        clear hb9
        have HE := Lib.hid (And.intro e14 (And.intro e17 e12))
        clear e14 e17 e12
        clear hA
        refine wpOp_step rfl (fun K' hK => ?_)
        have HK := Lib.hid hK
        clear hK
        try dsimp only
        rw [HE.out.1, HE.out.2.1, HE.out.2.2]
        refine of_if (by kernel_rfl) ?_
        go_wp2_with fail
        exact HK.out _ _ ⟨upV vs 78 (.bool true), (by simp [upV, pt, HE.out.1, HE.out.2.1, HE.out.2.2]), k2, HH.out.same 18 _ (by decide) rfl, HX9.out⟩
      · have e12 : vs 72 = .bool true := HH.out.at 12 (hA ⟨12, .data⟩ (by simp) rfl) rfl
        have e18 : vs 78 = .bool true := HH.out.at 18 (hA ⟨18, .data⟩ (by simp) rfl) rfl
        have hb9 := HH.out.b
        have HB9 := Lib.hid hb9
        clear hb9
        have HE := Lib.hid (And.intro e12 e18)
        clear e12 e18
        clear hA
        refine wpOp_step rfl (fun K' hK => ?_)
        have HK := Lib.hid hK
        clear hK
        try dsimp only
        rw [HE.out.1, HE.out.2]
        go_wp2_with fail
        exact HK.out _ _ ⟨upV vs 79 (.bool true), (by simp [upV, pt, HE.out.1, HE.out.2]), k2, HH.out.same 19 _ (by decide) rfl, HX9.out⟩
      · have e19 : vs 79 = .bool true := HH.out.at 19 (hA ⟨19, .data⟩ (by simp) rfl) rfl
        have hb9 := HH.out.b
        have HB9 := Lib.hid hb9
        clear hb9
        have HE := Lib.hid (e19)
        clear e19
        clear hA
        refine wpOp_step rfl (fun K' hK => ?_)
        have HK := Lib.hid hK
        clear hK
        try dsimp only
        rw [HE.out]
        go_wp2_with fail
        exact HK.out _ _ ⟨upV vs 80 (.bool true), (by simp [upV, pt, HE.out]), k2, HH.out.same 20 _ (by decide) rfl, HX9.out⟩
      · have e20 : vs 80 = .bool true := HH.out.at 20 (hA ⟨20, .guard⟩ (by simp) rfl) rfl
        have hb9 := HH.out.b
        have HB9 := Lib.hid hb9
        clear hb9
        have HE := Lib.hid (e20)
        clear e20
        clear hA
        refine wpOp_step rfl (fun K' hK => ?_)
        have HK := Lib.hid hK
        clear hK
        try dsimp only
        rw [HE.out]
        refine of_if (by kernel_rfl) ?_
        go_wp2_with (go_at_call 23; refine (DA.out w HB9.out).mono ?_; rintro e w' ⟨rfl, hb⟩)
        exact HK.out _ _ ⟨upV vs 81 (.bool true), (by simp [upV, pt, HE.out]), k2, HH.out.step 21 _ (by decide) rfl (HB9.out.trans (hb.mono HB9.out.size)) (fun h => ⟨h.1, KeyC.below hb _ h.2⟩), HX9.out⟩
      · have e20 : vs 80 = .bool true := HH.out.at 20 (hA ⟨20, .data⟩ (by simp) rfl) rfl
        have e21 : vs 81 = .bool true := HH.out.at 21 (hA ⟨21, .data⟩ (by simp) rfl) rfl
        have hb9 := HH.out.b
        have HB9 := Lib.hid hb9
        clear hb9
        have HE := Lib.hid (And.intro e20 e21)
        clear e20 e21
        clear hA
        refine wpOp_step rfl (fun K' hK => ?_)
        have HK := Lib.hid hK
        clear hK
        try dsimp only
        rw [HE.out.1, HE.out.2]
        go_wp2_with fail
        exact HK.out _ _ ⟨upV vs 82 (.bool true), (by simp [upV, pt, HE.out.1, HE.out.2]), k2, HH.out.same 22 _ (by decide) rfl, HX9.out⟩
      · have e22 : vs 82 = .bool true := HH.out.at 22 (hA ⟨22, .data⟩ (by simp) rfl) rfl
        have hb9 := HH.out.b
        have HB9 := Lib.hid hb9
        clear hb9
        have HE := Lib.hid (e22)
        clear e22
        clear hA
        refine wpOp_step rfl (fun K' hK => ?_)
        have HK := Lib.hid hK
        clear hK
        try dsimp only
        rw [HE.out]
        go_wp2_with fail
        exact HK.out _ _ ⟨upV (upV vs 83 (.bool true)) 2 (.bool true), (by simp [upV, pt, HE.out]), k2, (RgV.other (HH.out.same 23 (.bool true) (by decide) (by rfl)) (by decide)), fun _ => rfl⟩
    · intro L vs we2 hall hJ
      obtain ⟨k2, h, hx⟩ := hJ
      have HE := Lib.hid (hx (hall 23 (by decide)))
      have HB9 := Lib.hid h.b
      clear h hx hall
      try dsimp only
      rw [HE.out]
      generalize vs 60 = v60; generalize vs 61 = v61; generalize vs 62 = v62; generalize vs 63 = v63; generalize vs 64 = v64; generalize vs 65 = v65; generalize vs 66 = v66; generalize vs 67 = v67; generalize vs 68 = v68; generalize vs 69 = v69; generalize vs 70 = v70; generalize vs 71 = v71; generalize vs 72 = v72; generalize vs 73 = v73; generalize vs 74 = v74; generalize vs 75 = v75; generalize vs 76 = v76; generalize vs 77 = v77; generalize vs 78 = v78; generalize vs 79 = v79; generalize vs 80 = v80; generalize vs 81 = v81; generalize vs 82 = v82
      clear HE
      go_wp2_with fail
      go_ret
      exact ⟨rfl, HW9.out.trans (HB9.out.mono HW9.out.size)⟩
end Go.Proofs.YtpnnchpaaopdcaaGreatDoor

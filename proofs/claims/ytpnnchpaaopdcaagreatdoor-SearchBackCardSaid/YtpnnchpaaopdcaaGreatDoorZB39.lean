/-
  The law's walk of SearchBack. MADE by wip/tools/mkBl3.py.
-/
import Derived.Test.YtpnnchpaaopdcaaGreatDoorZB04
import Derived.Test.YtpnnchpaaopdcaaGreatDoorZB24
import Derived.Test.YtpnnchpaaopdcaaGreatDoorZB22
import Derived.Test.YtpnnchpaaopdcaaGreatDoorZB36
import Derived.Test.YtpnnchpaaopdcaaGreatDoorZB38
import Derived.Test.YtpnnchpaaopdcaaGreatDoorZB09
import Derived.Test.YtpnnchpaaopdcaaGreatDoorZB17
import Derived.Test.YtpnnchpaaopdcaaGreatDoorZB19
set_option linter.unusedVariables false
set_option linter.unusedSimpArgs false
namespace Go.Proofs.YtpnnchpaaopdcaaGreatDoor
open Go Go.RowKit
mutual
theorem shortN_of : ∀ k : KT, ShortK k → ShortN 5000 k
  | .mk kind flag set n s kids sp scap kp kcap, h => by
    unfold ShortK at h
    unfold ShortN
    exact ⟨by omega, by omega, shortNL_of2 kids h.2.2⟩
theorem shortNL_of2 : ∀ l : List KT, ShortL l → ShortNL 5000 l
  | [], h => by unfold ShortNL; trivial
  | k :: r, h => by
    unfold ShortL at h
    unfold ShortNL
    exact ⟨shortN_of k h.1, shortNL_of2 r h.2⟩
end
set_option maxRecDepth 100000 in
set_option maxHeartbeats 8000000 in
theorem back_walk (k : KT) (W : World) (hK : KeyC W k) (hSk : smallK k) (hG : Gv W) (hX : MaxL W) (hP : PowTab W) : Calls Tryz.prog 5 #[k.val] W fun e w' => e = .returned (.bool true) ∧ Below W.heap.size W w' := by
  have hTx : Tx W := ⟨hG.names, hG.words, hP, hP⟩
  have C1 := fun w hb => size_c k w (hK.below (W' := w) hb)
  have C5 := fun w hb => rright_c k 16 w (by omega) (by omega) (hK.below (W' := w) hb)
  have C3 : sizeK k ≤ 200 → ∀ w, Below W.heap.size W w → Calls Tryz.prog 12 #[k.val] w (OwnDoes w k) := fun h w hb => own14_c k (short_of_size k h) w (hK.below hb)
  have E2 : sizeK k ≤ 200 → rightK k 16 = true → ∀ (k2 : KT) (w : World), bareK k2 = bareK k → KeyC w k2 → Below W.heap.size W w → Calls Tryz.prog 17 #[k2.val] w fun e w' => e = .returned (.string (txt (textK k))) ∧ Below w.heap.size w w' := fun hs hr k2 w h h2 hb => by
    have := sString_c k2 w h2 (ok_of_bare h (text_short k hSk hs).2) (hTx.below hb)
    have e : strK k2 = textK k := by unfold strK; rw [rightK_of_bare h, hr, text_of_bare h]; rfl
    rw [e] at this
    exact this
  have E4 : sizeK k ≤ 200 → rightK k 16 = true → ∀ (w : World) (g : Nat), PR w g ⟨textK k, false⟩ → Gl w g → Calls Tryz.prog 25 #[pt g] w (ReadDoes w g (bareK k, ⟨[], false⟩)) := fun hs hr w g hp hg => by
    have h9 := sRead0_c hp (fun h => by cases h) (by show (textK k).length ≤ 1100000; have := (text_short k hSk hs).1; omega) hg
    rw [top_back k hr hSk] at h9
    exact h9
  have R1 := fun w => tkRead_c (textK k) w
  have HSN : Hid (sizeK k ≤ 200 → ∀ k2, bareK k2 = bareK k → ShortN 5000 k2) := fun hs k2 hb => by
    rw [← shortN_bare, hb, shortN_bare]
    exact shortN_of k (short_of_size k hs)
  have DKK := fun (k2 : KT) w (hb : Below W.heap.size W w) (hc : KeyC w k2) => rsame_c k2 k w hc (hK.below hb)
  obtain ⟨uk, uf, um, un, ul, usp, ukp, usc, ukc, U, huv, huc⟩ := k.form
  obtain ⟨TK, hTK⟩ : ∃ b, txt (textK k) = b := ⟨_, rfl⟩
  rw [hTK] at E2
  simp only [hTK] at R1
  obtain ⟨sk, hsk⟩ : ∃ b, sizeK k = b := ⟨_, rfl⟩
  obtain ⟨r, hr⟩ : ∃ b, rightK k 16 = b := ⟨_, rfl⟩
  rw [hsk] at C1 C3 E2 E4 HSN
  rw [hr] at C5 E2 E4
  rw [huv] at C1 C3 C5 DKK ⊢
  obtain ⟨w0, hw0⟩ : ∃ w0, W.alloc (.cells #[.int .i64 uk, .int .u8 uf, .slice usp um usc, .int .u32 un, .string U, .slice ukp ul ukc] 26) = w0 := ⟨_, rfl⟩
  have hb0 : Below W.heap.size W w0 := by rw [← hw0]; exact (Below.refl _ W).alloc (Nat.le_refl _) _
  have hs0 : w0.heap.size = W.heap.size + 1 := by rw [← hw0]; simp
  have hc0 : Cells w0 W.heap.size 26 #[.int .i64 uk, .int .u8 uf, .slice usp um usc, .int .u32 un, .string U, .slice ukp ul ukc] := by rw [← hw0]; exact heap_alloc_new W _
  have FK : Hid (∀ x, Below w0.heap.size w0 x → (x.cell? ⟨W.heap.size, 0, none⟩ = some (.int .i64 uk) ∧ x.cell? ⟨W.heap.size, 1, none⟩ = some (.int .u8 uf) ∧ x.cell? ⟨W.heap.size, 2, none⟩ = some (.slice usp um usc) ∧ x.cell? ⟨W.heap.size, 3, none⟩ = some (.int .u32 un) ∧ x.cell? ⟨W.heap.size, 4, none⟩ = some (.string U) ∧ x.cell? ⟨W.heap.size, 5, none⟩ = some (.slice ukp ul ukc)) ∧ W.heap.size < x.heap.size) := fun x hx => by
    have h1 := Cells.later hc0 (hx.block _ (Cells.lt hc0))
    exact ⟨⟨h1.cell (i := 0) rfl, h1.cell (i := 1) rfl, h1.cell (i := 2) rfl, h1.cell (i := 3) rfl, h1.cell (i := 4) rfl, h1.cell (i := 5) rfl⟩, Cells.lt h1⟩
  have HW0 := Lib.hid hw0
  have HB0 := Lib.hid hb0
  have HS0 := Lib.hid hs0
  have HC0 := Lib.hid hc0
  have HC1 := Lib.hid C1
  have HC3 := Lib.hid C3
  have HC5 := Lib.hid C5
  have HE2 := Lib.hid E2
  have HE4 := Lib.hid E4
  have HR1 := Lib.hid R1
  have HDKK := Lib.hid DKK
  have HG := Lib.hid hG
  have HX := Lib.hid hX
  have HKW := Lib.hid hK
  clear C1 C3 C5 E2 E4 R1 DKK hw0 hb0 hs0 hc0 huv huc hTK hsk hr hK hSk hG hX hP hTx
  by_cases g1 : 200 < sk
  · have q1 : (200 : Int) < sk := by omega
    go_enter Tryz.func5, Tryz.ntmps5
    go_wp2_with fail
    rw [HW0.out]
    obtain ⟨⟨a0, a1, a2, a3, a4, a5⟩, al⟩ := FK.out w0 (Below.refl _ _)
    go_wp2_with fail
    refine (HC1.out w0 HB0.out).mono ?_
    rintro e w1 ⟨rfl, hb1⟩
    have HB1 := Lib.hid (HB0.out.trans (hb1.mono HB0.out.size))
    clear hb1
    go_wp2_with fail
    go_ret
    exact ⟨rfl, HB1.out⟩
  have q1 : ¬ (200 : Int) < sk := by omega
  have G3 := Lib.hid (HC3.out (by omega))
  have F2 := Lib.hid (HE2.out (by omega))
  have F4 := Lib.hid (HE4.out (by omega))
  have GSN := Lib.hid (HSN.out (by omega))
  clear HC3 HE2 HE4 HSN
  cases r with
  | false =>
    go_enter Tryz.func5, Tryz.ntmps5
    go_wp2_with fail
    rw [HW0.out]
    obtain ⟨⟨a0, a1, a2, a3, a4, a5⟩, al⟩ := FK.out w0 (Below.refl _ _)
    go_wp2_with fail
    refine (HC1.out w0 HB0.out).mono ?_
    rintro e w1 ⟨rfl, hb1⟩
    have HB1 := Lib.hid (HB0.out.trans (hb1.mono HB0.out.size))
    obtain ⟨⟨b0, b1, b2, b3, b4, b5⟩, bl⟩ := FK.out w1 hb1
    clear hb1 a0 a1 a2 a3 a4 a5 al
    go_wp2_with fail
    refine (HC5.out w1 HB1.out).mono ?_
    rintro e w2 ⟨rfl, hb2⟩
    have HB2 := Lib.hid (HB1.out.trans (hb2.mono HB1.out.size))
    clear hb2
    go_wp2_with fail
    go_ret
    exact ⟨rfl, HB2.out⟩
  | true =>
    have E2 := Lib.hid (F2.out rfl)
    have E4 := Lib.hid (F4.out rfl)
    clear F2 F4
    go_enter Tryz.func5, Tryz.ntmps5
    go_wp2_with fail
    rw [HW0.out]
    obtain ⟨⟨a0, a1, a2, a3, a4, a5⟩, al⟩ := FK.out w0 (Below.refl _ _)
    go_wp2_with fail
    refine (HC1.out w0 HB0.out).mono ?_
    rintro e w1 ⟨rfl, hb1⟩
    have HB1 := Lib.hid (HB0.out.trans (hb1.mono HB0.out.size))
    have HB01 := Lib.hid hb1
    obtain ⟨⟨b0, b1, b2, b3, b4, b5⟩, bl⟩ := FK.out w1 hb1
    clear hb1 a0 a1 a2 a3 a4 a5 al
    go_wp2_with fail
    refine (HC5.out w1 HB1.out).mono ?_
    rintro e w2 ⟨rfl, hb2⟩
    have HB2 := Lib.hid (HB1.out.trans (hb2.mono HB1.out.size))
    have hb02 := HB01.out.trans (hb2.mono HB01.out.size)
    have HB02 := Lib.hid hb02
    obtain ⟨⟨c0, c1, c2, c3, c4, c5⟩, cl⟩ := FK.out w2 hb02
    clear hb2 hb02 b0 b1 b2 b3 b4 b5 bl
    go_wp2_with fail
    refine (G3.out w2 HB2.out).mono ?_
    rintro e w3 ⟨kX, rfl, hbX, hkX, hiX, hb3⟩
    obtain ⟨xk, xf, xm, xn, xl, xsp, xkp, xsc, xkc, X, hxv, hxc⟩ := kX.form
    have K2 := fun w (hb : Below w3.heap.size w3 w) => E2.out kX w hbX (KeyC.below hb kX hkX)
    rw [hxv] at K2
    rw [hxv]
    have HB3 := Lib.hid (HB2.out.trans (hb3.mono HB2.out.size))
    have HB03 := Lib.hid (HB02.out.trans (hb3.mono HB02.out.size))
    have HBX := Lib.hid hbX
    have HKX := Lib.hid hkX
    have HXV := Lib.hid hxv
    have K2 := Lib.hid K2
    clear E2 hbX hkX hiX hb3 hxv hxc c0 c1 c2 c3 c4 c5 cl
    go_wp2_with fail
    obtain ⟨w4, hw4⟩ : ∃ w4, w3.alloc (.cells #[.int .i64 xk, .int .u8 xf, .slice xsp xm xsc, .int .u32 xn, .string X, .slice xkp xl xkc] 37) = w4 := ⟨_, rfl⟩
    have hb4 : Below w3.heap.size w3 w4 := by rw [← hw4]; exact (Below.refl _ w3).alloc (Nat.le_refl _) _
    have hc4 : Cells w4 w3.heap.size 37 #[.int .i64 xk, .int .u8 xf, .slice xsp xm xsc, .int .u32 xn, .string X, .slice xkp xl xkc] := by rw [← hw4]; exact heap_alloc_new w3 _
    rw [hw4]
    have hb4W := HB3.out.trans (hb4.mono HB3.out.size)
    have C2 := Lib.hid (K2.out w4 hb4 hb4W)
    have HB4 := Lib.hid hb4W
    have HB04 := Lib.hid (HB03.out.trans (hb4.mono HB03.out.size))
    have HKX4 := Lib.hid (KeyC.below hb4 kX HKX.out)
    have HC4 := Lib.hid hc4
    have hz4 : w3.heap.size < w4.heap.size := Cells.lt hc4
    have x0 := hc4.cell (i := 0) rfl
    have x1 := hc4.cell (i := 1) rfl
    have x2 := hc4.cell (i := 2) rfl
    have x3 := hc4.cell (i := 3) rfl
    have x4 := hc4.cell (i := 4) rfl
    have x5 := hc4.cell (i := 5) rfl
    clear hw4 hb4 hc4 hb4W K2 HKX
    try go_wp2_with fail
    refine C2.out.mono ?_
    rintro e w5 ⟨rfl, hb5⟩
    have HB5 := Lib.hid (HB4.out.trans (hb5.mono HB4.out.size))
    have HB05 := Lib.hid (HB04.out.trans (hb5.mono HB04.out.size))
    have HB45 := Lib.hid hb5
    clear hb5 x0 x1 x2 x3 x4 x5 C2
    go_wp2_with fail
    refine (HR1.out w5).mono ?_
    rintro e w6 ⟨rfl, hp6, hb6⟩
    have hg6 : w5.heap.size < w6.heap.size := Cells.lt hp6
    have gl6 : Gl w6 w5.heap.size := (HG.out.gl (g := w5.heap.size) (B := 0) HB5.out.size).below (HB5.out.trans (hb6.mono HB5.out.size))
    have C4 := Lib.hid (E4.out w6 _ hp6 gl6)
    have HB56 := Lib.hid hb6
    clear hp6 hb6 gl6 HR1 E4
    obtain ⟨g, hg⟩ : ∃ g, w5.heap.size = g := ⟨_, rfl⟩
    rw [hg] at C4 hg6 ⊢
    have HGG := Lib.hid hg
    clear hg
    go_wp2_with fail
    refine C4.out.mono ?_
    rintro e w7 ⟨kY, rfl, hbY, hkY, hiY, hp7, ht7⟩
    obtain ⟨yk, yf, ym, yn, yl, ysp, ykp, ysc, ykc, Y, hyv, hyc⟩ := kY.form
    rw [hyv]
    go_wp2_with fail
    obtain ⟨w8, hw8⟩ : ∃ w8, w7.alloc (.cells #[.int .i64 yk, .int .u8 yf, .slice ysp ym ysc, .int .u32 yn, .string Y, .slice ykp yl ykc] 37) = w8 := ⟨_, rfl⟩
    have hb8 : Below w7.heap.size w7 w8 := by rw [← hw8]; exact (Below.refl _ w7).alloc (Nat.le_refl _) _
    have hc8 : Cells w8 w7.heap.size 37 #[.int .i64 yk, .int .u8 yf, .slice ysp ym ysc, .int .u32 yn, .string Y, .slice ykp yl ykc] := by rw [← hw8]; exact heap_alloc_new w7 _
    rw [hw8]
    have hz7 := ht7.size
    have hgg := HGG.out
    have h57 : Below w5.heap.size w5 w7 := HB56.out.trans (ht7.below (by omega) (by omega))
    have h58 : Below w5.heap.size w5 w8 := h57.trans (hb8.mono h57.size)
    have hW8 : Below W.heap.size W w8 := HB5.out.trans (h58.mono HB5.out.size)
    have h08 : Below w0.heap.size w0 w8 := HB05.out.trans (h58.mono HB05.out.size)
    have h48 : Below w4.heap.size w4 w8 := HB45.out.trans (h58.mono HB45.out.size)
    have hkX8 := KeyC.below h48 kX HKX4.out
    have hkY8 := KeyC.below hb8 kY hkY
    have hp8 := hp7.tk (Tk.of_below (g := g + 1) hb8) (by omega)
    have hcX8 := Cells.later HC4.out (h48.block _ (Cells.lt HC4.out))
    have hKY : bareK kY = bareK k := hbY
    have hXY : sameK kY kX = true := by rw [same_of_bare (hKY.trans HBX.out.symm) rfl, sameK_refl]
    have DE : ∀ w, Below w8.heap.size w8 w → Calls Tryz.prog 34 #[pt g] w fun e w' => e = .returned (.bool true) ∧ Below w.heap.size w w' := fun w hw =>
      (tkEnd_c (Cells.later hp8 (hw.block _ (Cells.lt hp8)))).mono fun e w' h => ⟨h.1, by rw [h.2]; exact Below.refl _ _⟩
    have DM : ∀ w, Below w8.heap.size w8 w → Calls Tryz.prog 18 #[kY.val, kX.val] w fun e w' => e = .returned (.bool true) ∧ Below w.heap.size w w' := fun w hw => by
      have h9 := sSame_c kY kX w (KeyC.below hw kY hkY8) (KeyC.below hw kX hkX8)
      rw [hXY] at h9
      exact h9
    have DB := fun w (hw : Below w8.heap.size w8 w) => back14_c kY (GSN.out kY hKY) w (KeyC.below hw kY hkY8)
    have DS : ∀ (k2 : KT) w, Below w8.heap.size w8 w → bareK k2 = bareK kY → KeyC w k2 → Calls Tryz.prog 19 #[k2.val, (.agg #[.int .i64 uk, .int .u8 uf, .slice usp um usc, .int .u32 un, .string U, .slice ukp ul ukc])] w fun e w' => e = .returned (.bool true) ∧ Below w.heap.size w w' := fun k2 w hw hb hc => by
      have h9 := HDKK.out k2 w (hW8.trans (hw.mono hW8.size)) hc
      rw [same_of_bare (hb.trans hKY) rfl, sameK_refl] at h9
      exact h9
    have DA : ∀ w, Below w8.heap.size w8 w → Calls Tryz.prog 23 #[] w fun e w' => e = .returned (.bool true) ∧ Below w.heap.size w w' := fun w hw =>
      awake14_c w ((HG.out.below hW8).below hw) ((HX.out.below hW8).below hw)
    rw [hyv, HXV.out] at DM
    rw [hyv] at DB
    have FS : Hid (∀ x, Below w8.heap.size w8 x → (x.cell? ⟨W.heap.size, 0, none⟩ = some (.int .i64 uk) ∧ x.cell? ⟨W.heap.size, 1, none⟩ = some (.int .u8 uf) ∧ x.cell? ⟨W.heap.size, 2, none⟩ = some (.slice usp um usc) ∧ x.cell? ⟨W.heap.size, 3, none⟩ = some (.int .u32 un) ∧ x.cell? ⟨W.heap.size, 4, none⟩ = some (.string U) ∧ x.cell? ⟨W.heap.size, 5, none⟩ = some (.slice ukp ul ukc)) ∧ (x.cell? ⟨w3.heap.size, 0, none⟩ = some (.int .i64 xk) ∧ x.cell? ⟨w3.heap.size, 1, none⟩ = some (.int .u8 xf) ∧ x.cell? ⟨w3.heap.size, 2, none⟩ = some (.slice xsp xm xsc) ∧ x.cell? ⟨w3.heap.size, 3, none⟩ = some (.int .u32 xn) ∧ x.cell? ⟨w3.heap.size, 4, none⟩ = some (.string X) ∧ x.cell? ⟨w3.heap.size, 5, none⟩ = some (.slice xkp xl xkc)) ∧ (x.cell? ⟨w7.heap.size, 0, none⟩ = some (.int .i64 yk) ∧ x.cell? ⟨w7.heap.size, 1, none⟩ = some (.int .u8 yf) ∧ x.cell? ⟨w7.heap.size, 2, none⟩ = some (.slice ysp ym ysc) ∧ x.cell? ⟨w7.heap.size, 3, none⟩ = some (.int .u32 yn) ∧ x.cell? ⟨w7.heap.size, 4, none⟩ = some (.string Y) ∧ x.cell? ⟨w7.heap.size, 5, none⟩ = some (.slice ykp yl ykc)) ∧ W.heap.size < x.heap.size ∧ w3.heap.size < x.heap.size ∧ w7.heap.size < x.heap.size) := fun x hx => by
      obtain ⟨h0, hl0⟩ := FK.out x (h08.trans (hx.mono h08.size))
      have h1 := Cells.later hcX8 (hx.block _ (Cells.lt hcX8))
      have h2 := Cells.later hc8 (hx.block _ (Cells.lt hc8))
      exact ⟨h0, ⟨h1.cell (i := 0) rfl, h1.cell (i := 1) rfl, h1.cell (i := 2) rfl, h1.cell (i := 3) rfl, h1.cell (i := 4) rfl, h1.cell (i := 5) rfl⟩, ⟨h2.cell (i := 0) rfl, h2.cell (i := 1) rfl, h2.cell (i := 2) rfl, h2.cell (i := 3) rfl, h2.cell (i := 4) rfl, h2.cell (i := 5) rfl⟩, hl0, Cells.lt h1, Cells.lt h2⟩
    have DE := Lib.hid DE
    have DM := Lib.hid DM
    have DB := Lib.hid DB
    have DS := Lib.hid DS
    have DA := Lib.hid DA
    have HW8 := Lib.hid hW8
    clear hw8 hb8 hc8 h57 h58 hW8 h08 h48 hkX8 hkY8 hp8 hcX8 hKY hXY hbY hkY hiY hp7 ht7 hyv hyc C4 HKX4 HC4 HBX HXV HB56 HB45 HB05 HB5 HB04 HB4 HB03 HB3 HB02 HB01 HB1 HB2 HDKK HG HX HKW GSN FK HC0 HC1 G3 HC5 hgg HGG
    refine wp_region_slotsF [23, 24, 25, 26, 27, 28, 29, 30, 31, 32, 33, 34, 35, 36, 37, 38, 2] (fun L vs w => ∃ k2 : KT, RgV 23 w8.heap.size w8 (fun k2 : KT => [pt g, .bool true, .bool true, (.agg #[.int .i64 yk, .int .u8 yf, .slice ysp ym ysc, .int .u32 yn, .string Y, .slice ykp yl ykc]), (.agg #[.int .i64 xk, .int .u8 xf, .slice xsp xm xsc, .int .u32 xn, .string X, .slice xkp xl xkc]), .bool true, .bool true, .bool true, (.agg #[.int .i64 yk, .int .u8 yf, .slice ysp ym ysc, .int .u32 yn, .string Y, .slice ykp yl ykc]), k2.val, (.agg #[.int .i64 uk, .int .u8 uf, .slice usp um usc, .int .u32 un, .string U, .slice ukp ul ukc]), .bool true, .bool true, .bool true, .bool true, .bool true, .bool true]) 9 (fun k2 w => bareK k2 = bareK kY ∧ KeyC w k2) k2 L vs w ∧ (L 16 = true → vs 2 = .bool true)) _ (fun vs => by simp only [slotsPut, Act.put, List.setIfInBounds_toArray, List.set_cons_zero, List.set_cons_succ]; rfl) (by kernel_rfl) (by kernel_rfl) ?_ ?_ ?_
    · exact fun vs => ⟨kY, RgV.start (Below.refl _ _).drew, fun e => no_bool e rfl⟩
    · intro i o9 L vs w ho hL hA hJ
      obtain ⟨k2, h, hx9⟩ := hJ
      have hi7 : i < 17 := (Array.getElem?_eq_some_iff.1 ho).1
      have HH := Lib.hid h
      have HX9 := Lib.hid hx9
      clear h hx9
      obtain rfl | rfl | rfl | rfl | rfl | rfl | rfl | rfl | rfl | rfl | rfl | rfl | rfl | rfl | rfl | rfl | rfl : i = 0 ∨ i = 1 ∨ i = 2 ∨ i = 3 ∨ i = 4 ∨ i = 5 ∨ i = 6 ∨ i = 7 ∨ i = 8 ∨ i = 9 ∨ i = 10 ∨ i = 11 ∨ i = 12 ∨ i = 13 ∨ i = 14 ∨ i = 15 ∨ i = 16 := by omega
      all_goals
        have ho' := Option.some.inj (show some _ = some o9 from ho)
        subst ho'
        clear ho
      · have hb9 := HH.out.b
        have HB9 := Lib.hid hb9
        clear hb9
        clear hA
        refine wpOp_step rfl (fun K' hK => ?_)
        have HK := Lib.hid hK
        clear hK
        try dsimp only
        go_wp2_with fail
        exact HK.out _ _ ⟨upV vs 23 (pt g), (by simp [upV, pt]), k2, HH.out.same 0 _ (by decide) rfl, HX9.out⟩
      · have e0 : vs 23 = pt g := HH.out.at 0 (hA ⟨0, .data⟩ (by simp) rfl) rfl
        have hb9 := HH.out.b
        have HB9 := Lib.hid hb9
        clear hb9
        have HE := Lib.hid (e0)
        clear e0
        clear hA
        refine wpOp_step rfl (fun K' hK => ?_)
        have HK := Lib.hid hK
        clear hK
        try dsimp only
        rw [HE.out]
        go_wp2_with (go_at_call 34; refine (DE.out w HB9.out).mono ?_; rintro e w' ⟨rfl, hb⟩)
        exact HK.out _ _ ⟨upV vs 24 (.bool true), (by simp [upV, pt, HE.out]), k2, HH.out.step 1 _ (by decide) rfl (HB9.out.trans (hb.mono HB9.out.size)) (fun h => ⟨h.1, KeyC.below hb _ h.2⟩), HX9.out⟩
      · have e1 : vs 24 = .bool true := HH.out.at 1 (hA ⟨1, .data⟩ (by simp) rfl) rfl
        have hb9 := HH.out.b
        have HB9 := Lib.hid hb9
        clear hb9
        have HE := Lib.hid (e1)
        clear e1
        clear hA
        refine wpOp_step rfl (fun K' hK => ?_)
        have HK := Lib.hid hK
        clear hK
        try dsimp only
        rw [HE.out]
        go_wp2_with fail
        exact HK.out _ _ ⟨upV vs 25 (.bool true), (by simp [upV, pt, HE.out]), k2, HH.out.same 2 _ (by decide) rfl, HX9.out⟩
      · have e2 : vs 25 = .bool true := HH.out.at 2 (hA ⟨2, .guard⟩ (by simp) rfl) rfl
        have hb9 := HH.out.b
        have HB9 := Lib.hid hb9
        obtain ⟨⟨u0, u1, u2, u3, u4, u5⟩, ⟨x0, x1, x2, x3, x4, x5⟩, ⟨y0, y1, y2, y3, y4, y5⟩, lU, lX, lY⟩ := FS.out w hb9
        clear hb9
        have HE := Lib.hid (e2)
        clear e2
        clear hA
        refine wpOp_step rfl (fun K' hK => ?_)
        have HK := Lib.hid hK
        clear hK
        try dsimp only
        rw [HE.out]
        refine of_if (by kernel_rfl) ?_
        go_wp2_with fail
        exact HK.out _ _ ⟨upV vs 26 ((.agg #[.int .i64 yk, .int .u8 yf, .slice ysp ym ysc, .int .u32 yn, .string Y, .slice ykp yl ykc])), (by simp [upV, pt, HE.out]), k2, HH.out.same 3 _ (by decide) rfl, HX9.out⟩
      · have e2 : vs 25 = .bool true := HH.out.at 2 (hA ⟨2, .guard⟩ (by simp) rfl) rfl
        have hb9 := HH.out.b
        have HB9 := Lib.hid hb9
        obtain ⟨⟨u0, u1, u2, u3, u4, u5⟩, ⟨x0, x1, x2, x3, x4, x5⟩, ⟨y0, y1, y2, y3, y4, y5⟩, lU, lX, lY⟩ := FS.out w hb9
        clear hb9
        have HE := Lib.hid (e2)
        clear e2
        clear hA
        refine wpOp_step rfl (fun K' hK => ?_)
        have HK := Lib.hid hK
        clear hK
        try dsimp only
        rw [HE.out]
        refine of_if (by kernel_rfl) ?_
        go_wp2_with fail
        exact HK.out _ _ ⟨upV vs 27 ((.agg #[.int .i64 xk, .int .u8 xf, .slice xsp xm xsc, .int .u32 xn, .string X, .slice xkp xl xkc])), (by simp [upV, pt, HE.out]), k2, HH.out.same 4 _ (by decide) rfl, HX9.out⟩
      · have e3 : vs 26 = (.agg #[.int .i64 yk, .int .u8 yf, .slice ysp ym ysc, .int .u32 yn, .string Y, .slice ykp yl ykc]) := HH.out.at 3 (hA ⟨3, .data⟩ (by simp) rfl) rfl
        have e4 : vs 27 = (.agg #[.int .i64 xk, .int .u8 xf, .slice xsp xm xsc, .int .u32 xn, .string X, .slice xkp xl xkc]) := HH.out.at 4 (hA ⟨4, .data⟩ (by simp) rfl) rfl
        have e2 : vs 25 = .bool true := HH.out.at 2 (hA ⟨2, .guard⟩ (by simp) rfl) rfl
        have hb9 := HH.out.b
        have HB9 := Lib.hid hb9
        clear hb9
        have HE := Lib.hid (And.intro e3 (And.intro e4 e2))
        clear e3 e4 e2
        clear hA
        refine wpOp_step rfl (fun K' hK => ?_)
        have HK := Lib.hid hK
        clear hK
        try dsimp only
        rw [HE.out.1, HE.out.2.1, HE.out.2.2]
        refine of_if (by kernel_rfl) ?_
        go_wp2_with (go_at_call 18; refine (DM.out w HB9.out).mono ?_; rintro e w' ⟨rfl, hb⟩)
        exact HK.out _ _ ⟨upV vs 28 (.bool true), (by simp [upV, pt, HE.out.1, HE.out.2.1, HE.out.2.2]), k2, HH.out.step 5 _ (by decide) rfl (HB9.out.trans (hb.mono HB9.out.size)) (fun h => ⟨h.1, KeyC.below hb _ h.2⟩), HX9.out⟩
      · have e2 : vs 25 = .bool true := HH.out.at 2 (hA ⟨2, .data⟩ (by simp) rfl) rfl
        have e5 : vs 28 = .bool true := HH.out.at 5 (hA ⟨5, .data⟩ (by simp) rfl) rfl
        have hb9 := HH.out.b
        have HB9 := Lib.hid hb9
        clear hb9
        have HE := Lib.hid (And.intro e2 e5)
        clear e2 e5
        clear hA
        refine wpOp_step rfl (fun K' hK => ?_)
        have HK := Lib.hid hK
        clear hK
        try dsimp only
        rw [HE.out.1, HE.out.2]
        go_wp2_with fail
        exact HK.out _ _ ⟨upV vs 29 (.bool true), (by simp [upV, pt, HE.out.1, HE.out.2]), k2, HH.out.same 6 _ (by decide) rfl, HX9.out⟩
      · have e6 : vs 29 = .bool true := HH.out.at 6 (hA ⟨6, .data⟩ (by simp) rfl) rfl
        have hb9 := HH.out.b
        have HB9 := Lib.hid hb9
        clear hb9
        have HE := Lib.hid (e6)
        clear e6
        clear hA
        refine wpOp_step rfl (fun K' hK => ?_)
        have HK := Lib.hid hK
        clear hK
        try dsimp only
        rw [HE.out]
        go_wp2_with fail
        exact HK.out _ _ ⟨upV vs 30 (.bool true), (by simp [upV, pt, HE.out]), k2, HH.out.same 7 _ (by decide) rfl, HX9.out⟩
      · have e7 : vs 30 = .bool true := HH.out.at 7 (hA ⟨7, .guard⟩ (by simp) rfl) rfl
        have hb9 := HH.out.b
        have HB9 := Lib.hid hb9
        obtain ⟨⟨u0, u1, u2, u3, u4, u5⟩, ⟨x0, x1, x2, x3, x4, x5⟩, ⟨y0, y1, y2, y3, y4, y5⟩, lU, lX, lY⟩ := FS.out w hb9
        clear hb9
        have HE := Lib.hid (e7)
        clear e7
        clear hA
        refine wpOp_step rfl (fun K' hK => ?_)
        have HK := Lib.hid hK
        clear hK
        try dsimp only
        rw [HE.out]
        refine of_if (by kernel_rfl) ?_
        go_wp2_with fail
        exact HK.out _ _ ⟨upV vs 31 ((.agg #[.int .i64 yk, .int .u8 yf, .slice ysp ym ysc, .int .u32 yn, .string Y, .slice ykp yl ykc])), (by simp [upV, pt, HE.out]), k2, HH.out.same 8 _ (by decide) rfl, HX9.out⟩
      · have e8 : vs 31 = (.agg #[.int .i64 yk, .int .u8 yf, .slice ysp ym ysc, .int .u32 yn, .string Y, .slice ykp yl ykc]) := HH.out.at 8 (hA ⟨8, .data⟩ (by simp) rfl) rfl
        have e7 : vs 30 = .bool true := HH.out.at 7 (hA ⟨7, .guard⟩ (by simp) rfl) rfl
        have hb9 := HH.out.b
        have HB9 := Lib.hid hb9
        clear hb9
        have HE := Lib.hid (And.intro e8 e7)
        clear e8 e7
        clear hA
        refine wpOp_step rfl (fun K' hK => ?_)
        have HK := Lib.hid hK
        clear hK
        try dsimp only
        rw [HE.out.1, HE.out.2]
        refine of_if (by kernel_rfl) ?_
        go_wp2_with (go_at_call 29; refine (DB.out w HB9.out).mono ?_; rintro e w' ⟨k3, rfl, hbo, hco, _, hb⟩)
        exact HK.out _ _ ⟨upV vs 32 k3.val, (by simp [upV, pt, HE.out.1, HE.out.2]), k3, HH.out.made hL (fun j hj => getD_mid (l1 := [pt g, .bool true, .bool true, (.agg #[.int .i64 yk, .int .u8 yf, .slice ysp ym ysc, .int .u32 yn, .string Y, .slice ykp yl ykc]), (.agg #[.int .i64 xk, .int .u8 xf, .slice xsp xm xsc, .int .u32 xn, .string X, .slice xkp xl xkc]), .bool true, .bool true, .bool true, (.agg #[.int .i64 yk, .int .u8 yf, .slice ysp ym ysc, .int .u32 yn, .string Y, .slice ykp yl ykc])]) (l2 := [(.agg #[.int .i64 uk, .int .u8 uf, .slice usp um usc, .int .u32 un, .string U, .slice ukp ul ukc]), .bool true, .bool true, .bool true, .bool true, .bool true, .bool true]) hj) k3.val rfl (HB9.out.trans (hb.mono HB9.out.size)) ⟨hbo, hco⟩, HX9.out⟩
      · have e7 : vs 30 = .bool true := HH.out.at 7 (hA ⟨7, .guard⟩ (by simp) rfl) rfl
        have hb9 := HH.out.b
        have HB9 := Lib.hid hb9
        obtain ⟨⟨u0, u1, u2, u3, u4, u5⟩, ⟨x0, x1, x2, x3, x4, x5⟩, ⟨y0, y1, y2, y3, y4, y5⟩, lU, lX, lY⟩ := FS.out w hb9
        clear hb9
        have HE := Lib.hid (e7)
        clear e7
        clear hA
        refine wpOp_step rfl (fun K' hK => ?_)
        have HK := Lib.hid hK
        clear hK
        try dsimp only
        rw [HE.out]
        refine of_if (by kernel_rfl) ?_
        go_wp2_with fail
        exact HK.out _ _ ⟨upV vs 33 ((.agg #[.int .i64 uk, .int .u8 uf, .slice usp um usc, .int .u32 un, .string U, .slice ukp ul ukc])), (by simp [upV, pt, HE.out]), k2, HH.out.same 10 _ (by decide) rfl, HX9.out⟩
      · have e9 : vs 32 = k2.val := HH.out.at 9 (hA ⟨9, .data⟩ (by simp) rfl) rfl
        have e10 : vs 33 = (.agg #[.int .i64 uk, .int .u8 uf, .slice usp um usc, .int .u32 un, .string U, .slice ukp ul ukc]) := HH.out.at 10 (hA ⟨10, .data⟩ (by simp) rfl) rfl
        have e7 : vs 30 = .bool true := HH.out.at 7 (hA ⟨7, .guard⟩ (by simp) rfl) rfl
        have hk13 := HH.out.k (hA ⟨9, .data⟩ (by simp) rfl)
        have HK13 := Lib.hid hk13
        clear hk13
        have hb9 := HH.out.b
        have HB9 := Lib.hid hb9
        clear hb9
        have HE := Lib.hid (And.intro e9 (And.intro e10 e7))
        clear e9 e10 e7
        clear hA
        refine wpOp_step rfl (fun K' hK => ?_)
        have HK := Lib.hid hK
        clear hK
        try dsimp only
        rw [HE.out.1, HE.out.2.1, HE.out.2.2]
        refine of_if (by kernel_rfl) ?_
        go_wp2_with (go_at_call 19; refine (DS.out k2 w HB9.out HK13.out.1 HK13.out.2).mono ?_; rintro e w' ⟨rfl, hb⟩)
        exact HK.out _ _ ⟨upV vs 34 (.bool true), (by simp [upV, pt, HE.out.1, HE.out.2.1, HE.out.2.2]), k2, HH.out.step 11 _ (by decide) rfl (HB9.out.trans (hb.mono HB9.out.size)) (fun h => ⟨h.1, KeyC.below hb _ h.2⟩), HX9.out⟩
      · have e7 : vs 30 = .bool true := HH.out.at 7 (hA ⟨7, .data⟩ (by simp) rfl) rfl
        have e11 : vs 34 = .bool true := HH.out.at 11 (hA ⟨11, .data⟩ (by simp) rfl) rfl
        have hb9 := HH.out.b
        have HB9 := Lib.hid hb9
        clear hb9
        have HE := Lib.hid (And.intro e7 e11)
        clear e7 e11
        clear hA
        refine wpOp_step rfl (fun K' hK => ?_)
        have HK := Lib.hid hK
        clear hK
        try dsimp only
        rw [HE.out.1, HE.out.2]
        go_wp2_with fail
        exact HK.out _ _ ⟨upV vs 35 (.bool true), (by simp [upV, pt, HE.out.1, HE.out.2]), k2, HH.out.same 12 _ (by decide) rfl, HX9.out⟩
      · have e12 : vs 35 = .bool true := HH.out.at 12 (hA ⟨12, .data⟩ (by simp) rfl) rfl
        have hb9 := HH.out.b
        have HB9 := Lib.hid hb9
        clear hb9
        have HE := Lib.hid (e12)
        clear e12
        clear hA
        refine wpOp_step rfl (fun K' hK => ?_)
        have HK := Lib.hid hK
        clear hK
        try dsimp only
        rw [HE.out]
        go_wp2_with fail
        exact HK.out _ _ ⟨upV vs 36 (.bool true), (by simp [upV, pt, HE.out]), k2, HH.out.same 13 _ (by decide) rfl, HX9.out⟩
      · have e13 : vs 36 = .bool true := HH.out.at 13 (hA ⟨13, .guard⟩ (by simp) rfl) rfl
        have hb9 := HH.out.b
        have HB9 := Lib.hid hb9
        clear hb9
        have HE := Lib.hid (e13)
        clear e13
        clear hA
        refine wpOp_step rfl (fun K' hK => ?_)
        have HK := Lib.hid hK
        clear hK
        try dsimp only
        rw [HE.out]
        refine of_if (by kernel_rfl) ?_
        go_wp2_with (go_at_call 23; refine (DA.out w HB9.out).mono ?_; rintro e w' ⟨rfl, hb⟩)
        exact HK.out _ _ ⟨upV vs 37 (.bool true), (by simp [upV, pt, HE.out]), k2, HH.out.step 14 _ (by decide) rfl (HB9.out.trans (hb.mono HB9.out.size)) (fun h => ⟨h.1, KeyC.below hb _ h.2⟩), HX9.out⟩
      · have e13 : vs 36 = .bool true := HH.out.at 13 (hA ⟨13, .data⟩ (by simp) rfl) rfl
        have e14 : vs 37 = .bool true := HH.out.at 14 (hA ⟨14, .data⟩ (by simp) rfl) rfl
        have hb9 := HH.out.b
        have HB9 := Lib.hid hb9
        clear hb9
        have HE := Lib.hid (And.intro e13 e14)
        clear e13 e14
        clear hA
        refine wpOp_step rfl (fun K' hK => ?_)
        have HK := Lib.hid hK
        clear hK
        try dsimp only
        rw [HE.out.1, HE.out.2]
        go_wp2_with fail
        exact HK.out _ _ ⟨upV vs 38 (.bool true), (by simp [upV, pt, HE.out.1, HE.out.2]), k2, HH.out.same 15 _ (by decide) rfl, HX9.out⟩
      · have e15 : vs 38 = .bool true := HH.out.at 15 (hA ⟨15, .data⟩ (by simp) rfl) rfl
        have hb9 := HH.out.b
        have HB9 := Lib.hid hb9
        clear hb9
        have HE := Lib.hid (e15)
        clear e15
        clear hA
        refine wpOp_step rfl (fun K' hK => ?_)
        have HK := Lib.hid hK
        clear hK
        try dsimp only
        rw [HE.out]
        go_wp2_with fail
        exact HK.out _ _ ⟨upV (upV vs 39 (.bool true)) 2 (.bool true), (by simp [upV, pt, HE.out]), k2, (RgV.other (HH.out.same 16 (.bool true) (by decide) (by rfl)) (by decide)), fun _ => rfl⟩
    · intro L vs we2 hall hJ
      obtain ⟨k2, h, hx⟩ := hJ
      have HE := Lib.hid (hx (hall 16 (by decide)))
      have HB9 := Lib.hid h.b
      clear h hx hall
      try dsimp only
      rw [HE.out]
      generalize vs 23 = v23; generalize vs 24 = v24; generalize vs 25 = v25; generalize vs 26 = v26; generalize vs 27 = v27; generalize vs 28 = v28; generalize vs 29 = v29; generalize vs 30 = v30; generalize vs 31 = v31; generalize vs 32 = v32; generalize vs 33 = v33; generalize vs 34 = v34; generalize vs 35 = v35; generalize vs 36 = v36; generalize vs 37 = v37; generalize vs 38 = v38
      clear HE
      go_wp2_with fail
      go_ret
      exact ⟨rfl, HW8.out.trans (HB9.out.mono HW8.out.size)⟩
end Go.Proofs.YtpnnchpaaopdcaaGreatDoor

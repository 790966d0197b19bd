/-
  The law's walk: what not, or and brackets mean.
-/
import Derived.Test.YtdpmnmiimfhlhaaGreatDoorZL05
import Derived.Test.YtdpmnmiimfhlhaaGreatDoorZL21
import Derived.Test.YtdpmnmiimfhlhaaGreatDoorZL33
import Derived.Test.YtdpmnmiimfhlhaaGreatDoorZL06
set_option linter.unusedVariables false
set_option linter.unusedSimpArgs false
namespace Go.Proofs.YtdpmnmiimfhlhaaGreatDoor
open Go Go.RowKit

def MP.at (m : MP) : Value := .agg #[.int .u32 m.uid, .int .u8 m.fl, .string (txt m.tx), .int .u32 m.sq, .int .u32 m.lastS, .int .u32 m.lastU]
theorem three_args (W : World) (c : Array Value) (d : Array Value) (e : Array Value) : ∃ w0, ((W.alloc (.cells c 26)).alloc (.cells d 26)).alloc (.cells e 30) = w0 ∧ Below W.heap.size W w0 ∧ w0.heap.size = W.heap.size + 3 ∧
    Cells w0 W.heap.size 26 c ∧ Cells w0 (W.heap.size + 1) 26 d ∧ Cells w0 (W.heap.size + 2) 30 e := by
  refine ⟨_, rfl, ?_, by simp, ?_, ?_, ?_⟩
  · exact (((Below.refl _ W).alloc (Nat.le_refl _) _).alloc (by simp) _).alloc (by simp; omega) _
  · have h := heap_alloc_new W (.cells c 26)
    show _ = _
    rw [Below.heap_alloc _ _ _ (by simp; omega), Below.heap_alloc _ _ _ (by simp)]
    exact h
  · have h := heap_alloc_new (W.alloc (.cells c 26)) (.cells d 26)
    rw [World.size_alloc] at h
    show _ = _
    rw [Below.heap_alloc _ _ _ (by simp)]
    exact h
  · have h := heap_alloc_new ((W.alloc (.cells c 26)).alloc (.cells d 26)) (.cells e 30)
    rw [World.size_alloc, World.size_alloc] at h
    exact h
set_option maxRecDepth 100000 in
set_option maxHeartbeats 4000000 in
theorem logic_walk {m : MP} (hfl : m.fl < 256) (k o : KT) (W : World) (hK : KeyC W k) (hO : KeyC W o) (hG : Gv W) (hX : MaxL W) :
    Calls Tryz.prog 6 #[k.val, o.val, m.at] W fun e w' => e = .returned (.bool true) ∧ Below W.heap.size W w' := by
  have C1 := fun w hb => size_c k w (hK.below (W' := w) hb)
  have C2 := fun w hb => size_c o w (hO.below (W' := w) hb)
  have C3 := fun w hb => rright_c k 13 w (by omega) (by omega) (hK.below (W' := w) hb)
  have C4 := fun w hb => rright_c o 13 w (by omega) (by omega) (hO.below (W' := w) hb)
  have C5 : sizeK k ≤ 90 → ∀ w, Below W.heap.size W w → Calls Tryz.prog 12 #[k.val] w (OwnDoes w k) := fun h w hb => own14_c k (short_of_size k (by omega)) w (hK.below hb)
  have C6 : sizeK o ≤ 90 → ∀ w, Below W.heap.size W w → Calls Tryz.prog 12 #[o.val] w (OwnDoes w o) := fun h w hb => own14_c o (short_of_size o (by omega)) w (hO.below hb)
  have CX : ∀ w, Below W.heap.size W w → MaxL w ∧ Gv w := fun w hb => ⟨hX.below hb, hG.below hb⟩
  obtain ⟨xk, xf, xm, xn, xl, xsp, xkp, xsc, xkc, X, hxv, hxc⟩ := k.form
  obtain ⟨yk, yf, ym, yn, yl, ysp, ykp, ysc, ykc, Y, hyv, hyc⟩ := o.form
  rw [hxv] at C1 C3 C5 ⊢
  rw [hyv] at C2 C4 C6 ⊢
  have HXV := Lib.hid hxv
  have HYV := Lib.hid hyv
  obtain ⟨sk, hsk⟩ : ∃ b, sizeK k = b := ⟨_, rfl⟩
  obtain ⟨so, hso⟩ : ∃ b, sizeK o = b := ⟨_, rfl⟩
  obtain ⟨r1, hr1⟩ : ∃ b, rightK k 13 = b := ⟨_, rfl⟩
  obtain ⟨r2, hr2⟩ : ∃ b, rightK o 13 = b := ⟨_, rfl⟩
  rw [hsk] at C1 C5
  rw [hso] at C2 C6
  rw [hr1] at C3
  rw [hr2] at C4
  have HR1 := Lib.hid hr1
  have HR2 := Lib.hid hr2
  unfold MP.at
  have esz := txt_size m.tx
  obtain ⟨TX, hTX⟩ : ∃ TX, txt m.tx = TX := ⟨_, rfl⟩
  obtain ⟨uid, huid⟩ : ∃ b, m.uid = b := ⟨_, rfl⟩
  obtain ⟨fl, hfl'⟩ : ∃ b, m.fl = b := ⟨_, rfl⟩
  obtain ⟨sq, hsq⟩ : ∃ b, m.sq = b := ⟨_, rfl⟩
  obtain ⟨lS, hlS⟩ : ∃ b, m.lastS = b := ⟨_, rfl⟩
  obtain ⟨lU, hlU⟩ : ∃ b, m.lastU = b := ⟨_, rfl⟩
  have hrecv : m.recv = .agg #[.int .u32 uid, .int .u8 fl, .string TX] := by unfold MP.recv; rw [huid, hfl', hTX]
  have hplc : m.plc = .agg #[.int .u32 sq, .int .u32 lS, .int .u32 lU] := by unfold MP.plc; rw [hsq, hlS, hlU]
  have C7 := fun w => own7S_c m w
  rw [hrecv] at C7
  have CM : m.tx.length ≤ 70000 → ∀ (kt : KT) (w : World), KeyC w kt → MaxL w → Calls Tryz.prog 20 #[kt.val, .agg #[.int .u32 uid, .int .u8 fl, .string TX], .agg #[.int .u32 sq, .int .u32 lS, .int .u32 lU]] w fun e w' => e = .returned (.bool (matchP m kt)) ∧ Below w.heap.size w w' := fun h kt w hk hx => by
    have := sMatch_c (m := m) ⟨hfl, h⟩ kt w hk hx
    rw [hrecv, hplc] at this
    exact this
  rw [hTX, huid, hfl', hsq, hlS, hlU]
  rw [hTX] at esz
  obtain ⟨w0, hw0, hb0, hs0, hc0, hd0, he0⟩ := three_args W #[.int .i64 xk, .int .u8 xf, .slice xsp xm xsc, .int .u32 xn, .string X, .slice xkp xl xkc] #[.int .i64 yk, .int .u8 yf, .slice ysp ym ysc, .int .u32 yn, .string Y, .slice ykp yl ykc] #[.int .u32 uid, .int .u8 fl, .string TX, .int .u32 sq, .int .u32 lS, .int .u32 lU]
  have HW0 := Lib.hid hw0
  have HB0 := Lib.hid hb0
  have HS0 := Lib.hid hs0
  have HC0 := Lib.hid hc0
  have HD0 := Lib.hid hd0
  have HE0 := Lib.hid he0
  have H1 := Lib.hid C1
  have H2 := Lib.hid C2
  have H3 := Lib.hid C3
  have H4 := Lib.hid C4
  have H5 := Lib.hid C5
  have H6 := Lib.hid C6
  have H7 := Lib.hid C7
  have HM := Lib.hid CM
  have HX := Lib.hid CX
  have HES := Lib.hid esz
  have FK : Hid (∀ x, Below w0.heap.size w0 x → (x.cell? ⟨W.heap.size, 0, none⟩ = some (.int .i64 xk) ∧ x.cell? ⟨W.heap.size, 1, none⟩ = some (.int .u8 xf) ∧ x.cell? ⟨W.heap.size, 2, none⟩ = some (.slice xsp xm xsc) ∧ x.cell? ⟨W.heap.size, 3, none⟩ = some (.int .u32 xn) ∧ x.cell? ⟨W.heap.size, 4, none⟩ = some (.string X) ∧ x.cell? ⟨W.heap.size, 5, none⟩ = some (.slice xkp xl xkc)) ∧
      (x.cell? ⟨W.heap.size + 1, 0, none⟩ = some (.int .i64 yk) ∧ x.cell? ⟨W.heap.size + 1, 1, none⟩ = some (.int .u8 yf) ∧ x.cell? ⟨W.heap.size + 1, 2, none⟩ = some (.slice ysp ym ysc) ∧ x.cell? ⟨W.heap.size + 1, 3, none⟩ = some (.int .u32 yn) ∧ x.cell? ⟨W.heap.size + 1, 4, none⟩ = some (.string Y) ∧ x.cell? ⟨W.heap.size + 1, 5, none⟩ = some (.slice ykp yl ykc)) ∧
      (x.cell? ⟨W.heap.size + 2, 0, none⟩ = some (.int .u32 uid) ∧ x.cell? ⟨W.heap.size + 2, 1, none⟩ = some (.int .u8 fl) ∧ x.cell? ⟨W.heap.size + 2, 2, none⟩ = some (.string TX) ∧ x.cell? ⟨W.heap.size + 2, 3, none⟩ = some (.int .u32 sq) ∧ x.cell? ⟨W.heap.size + 2, 4, none⟩ = some (.int .u32 lS) ∧ x.cell? ⟨W.heap.size + 2, 5, none⟩ = some (.int .u32 lU))) := fun x hb => by
    have h := Cells.later hc0 (hb.block _ (Cells.lt hc0))
    have h2 := Cells.later hd0 (hb.block _ (Cells.lt hd0))
    have h3 := Cells.later he0 (hb.block _ (Cells.lt he0))
    exact ⟨⟨h.cell (i := 0) rfl, h.cell (i := 1) rfl, h.cell (i := 2) rfl, h.cell (i := 3) rfl, h.cell (i := 4) rfl, h.cell (i := 5) rfl⟩, ⟨h2.cell (i := 0) rfl, h2.cell (i := 1) rfl, h2.cell (i := 2) rfl, h2.cell (i := 3) rfl, h2.cell (i := 4) rfl, h2.cell (i := 5) rfl⟩, ⟨h3.cell (i := 0) rfl, h3.cell (i := 1) rfl, h3.cell (i := 2) rfl, h3.cell (i := 3) rfl, h3.cell (i := 4) rfl, h3.cell (i := 5) rfl⟩⟩
  clear C1 C2 C3 C4 C5 C6 C7 CM CX hw0 hb0 hs0 hc0 hd0 he0 hxv hyv hxc hyc hK hO hG hX hr1 hr2 hTX huid hfl' hsq hlS hlU hrecv hplc hfl esz
  by_cases g1 : 90 < sk
  · have q1 : (90 : Int) < sk := by omega
    go_enter Tryz.func6, Tryz.ntmps6
    go_wp2_with fail
    rw [HW0.out]
    obtain ⟨⟨a0, a1, a2, a3, a4, a5⟩, _⟩ := FK.out w0 (Below.refl _ _)
    go_wp2_with fail
    refine (H1.out w0 HB0.out).mono ?_
    rintro e w1 ⟨rfl, hb1⟩
    have HB1 := Lib.hid (HB0.out.trans (hb1.mono HB0.out.size))
    clear hb1 a0 a1 a2 a3 a4 a5
    go_wp2_with fail
    go_ret
    exact ⟨rfl, HB1.out⟩
  have q1 : ¬ (90 : Int) < sk := by omega
  have CO1 := Lib.hid (H5.out (by omega))
  by_cases g2 : 90 < so
  · have q2 : (90 : Int) < so := by omega
    go_enter Tryz.func6, Tryz.ntmps6
    go_wp2_with fail
    rw [HW0.out]
    obtain ⟨⟨a0, a1, a2, a3, a4, a5⟩, _⟩ := FK.out w0 (Below.refl _ _)
    go_wp2_with fail
    refine (H1.out w0 HB0.out).mono ?_
    rintro e w1 ⟨rfl, hb1⟩
    have HB1 := Lib.hid (HB0.out.trans (hb1.mono HB0.out.size))
    obtain ⟨_, ⟨b0, b1, b2, b3, b4, b5⟩, _⟩ := FK.out w1 hb1
    clear hb1 a0 a1 a2 a3 a4 a5
    go_wp2_with fail
    refine (H2.out w1 HB1.out).mono ?_
    rintro e w2 ⟨rfl, hb2⟩
    have HB2 := Lib.hid (HB1.out.trans (hb2.mono HB1.out.size))
    clear hb2
    go_wp2_with fail
    go_ret
    exact ⟨rfl, HB2.out⟩
  have q2 : ¬ (90 : Int) < so := by omega
  have CO2 := Lib.hid (H6.out (by omega))
  cases r1 with
  | false =>
    go_enter Tryz.func6, Tryz.ntmps6
    go_wp2_with fail
    rw [HW0.out]
    obtain ⟨⟨a0, a1, a2, a3, a4, a5⟩, _⟩ := FK.out w0 (Below.refl _ _)
    go_wp2_with fail
    refine (H1.out w0 HB0.out).mono ?_
    rintro e w1 ⟨rfl, hb1⟩
    have HB1 := Lib.hid (HB0.out.trans (hb1.mono HB0.out.size))
    have F1 : Hid (Below w0.heap.size w0 w1) := hb1
    obtain ⟨_, ⟨b0, b1, b2, b3, b4, b5⟩, _⟩ := FK.out w1 hb1
    clear hb1 a0 a1 a2 a3 a4 a5
    go_wp2_with fail
    refine (H2.out w1 HB1.out).mono ?_
    rintro e w2 ⟨rfl, hb2⟩
    have HB2 := Lib.hid (HB1.out.trans (hb2.mono HB1.out.size))
    have F2 : Hid (Below w0.heap.size w0 w2) := F1.out.trans (hb2.mono F1.out.size)
    clear hb2 b0 b1 b2 b3 b4 b5
    obtain ⟨⟨a0, a1, a2, a3, a4, a5⟩, _⟩ := FK.out w2 F2.out
    go_wp2_with fail
    refine (H3.out w2 HB2.out).mono ?_
    rintro e w3 ⟨rfl, hb3⟩
    have HB3 := Lib.hid (HB2.out.trans (hb3.mono HB2.out.size))
    clear hb3
    go_wp2_with fail
    go_ret
    exact ⟨rfl, HB3.out⟩
  | true =>
  cases r2 with
  | false =>
    go_enter Tryz.func6, Tryz.ntmps6
    go_wp2_with fail
    rw [HW0.out]
    obtain ⟨⟨a0, a1, a2, a3, a4, a5⟩, _⟩ := FK.out w0 (Below.refl _ _)
    go_wp2_with fail
    refine (H1.out w0 HB0.out).mono ?_
    rintro e w1 ⟨rfl, hb1⟩
    have HB1 := Lib.hid (HB0.out.trans (hb1.mono HB0.out.size))
    have F1 : Hid (Below w0.heap.size w0 w1) := hb1
    obtain ⟨_, ⟨b0, b1, b2, b3, b4, b5⟩, _⟩ := FK.out w1 hb1
    clear hb1 a0 a1 a2 a3 a4 a5
    go_wp2_with fail
    refine (H2.out w1 HB1.out).mono ?_
    rintro e w2 ⟨rfl, hb2⟩
    have HB2 := Lib.hid (HB1.out.trans (hb2.mono HB1.out.size))
    have F2 : Hid (Below w0.heap.size w0 w2) := F1.out.trans (hb2.mono F1.out.size)
    clear hb2 b0 b1 b2 b3 b4 b5
    obtain ⟨⟨a0, a1, a2, a3, a4, a5⟩, _⟩ := FK.out w2 F2.out
    go_wp2_with fail
    refine (H3.out w2 HB2.out).mono ?_
    rintro e w3 ⟨rfl, hb3⟩
    have HB3 := Lib.hid (HB2.out.trans (hb3.mono HB2.out.size))
    have F3 : Hid (Below w0.heap.size w0 w3) := F2.out.trans (hb3.mono F2.out.size)
    clear hb3 a0 a1 a2 a3 a4 a5
    obtain ⟨_, ⟨b0, b1, b2, b3, b4, b5⟩, _⟩ := FK.out w3 F3.out
    go_wp2_with fail
    refine (H4.out w3 HB3.out).mono ?_
    rintro e w4 ⟨rfl, hb4⟩
    have HB4 := Lib.hid (HB3.out.trans (hb4.mono HB3.out.size))
    clear hb4
    go_wp2_with fail
    go_ret
    exact ⟨rfl, HB4.out⟩
  | true =>
  by_cases g5 : 3000 < TX.size
  · have q5 : (3000 : Int) < TX.size := by omega
    go_enter Tryz.func6, Tryz.ntmps6
    go_wp2_with fail
    rw [HW0.out]
    obtain ⟨⟨a0, a1, a2, a3, a4, a5⟩, _⟩ := FK.out w0 (Below.refl _ _)
    go_wp2_with fail
    refine (H1.out w0 HB0.out).mono ?_
    rintro e w1 ⟨rfl, hb1⟩
    have HB1 := Lib.hid (HB0.out.trans (hb1.mono HB0.out.size))
    have F1 : Hid (Below w0.heap.size w0 w1) := hb1
    obtain ⟨_, ⟨b0, b1, b2, b3, b4, b5⟩, _⟩ := FK.out w1 hb1
    clear hb1 a0 a1 a2 a3 a4 a5
    go_wp2_with fail
    refine (H2.out w1 HB1.out).mono ?_
    rintro e w2 ⟨rfl, hb2⟩
    have HB2 := Lib.hid (HB1.out.trans (hb2.mono HB1.out.size))
    have F2 : Hid (Below w0.heap.size w0 w2) := F1.out.trans (hb2.mono F1.out.size)
    clear hb2 b0 b1 b2 b3 b4 b5
    obtain ⟨⟨a0, a1, a2, a3, a4, a5⟩, _⟩ := FK.out w2 F2.out
    go_wp2_with fail
    refine (H3.out w2 HB2.out).mono ?_
    rintro e w3 ⟨rfl, hb3⟩
    have HB3 := Lib.hid (HB2.out.trans (hb3.mono HB2.out.size))
    have F3 : Hid (Below w0.heap.size w0 w3) := F2.out.trans (hb3.mono F2.out.size)
    clear hb3 a0 a1 a2 a3 a4 a5
    obtain ⟨_, ⟨b0, b1, b2, b3, b4, b5⟩, _⟩ := FK.out w3 F3.out
    go_wp2_with fail
    refine (H4.out w3 HB3.out).mono ?_
    rintro e w4 ⟨rfl, hb4⟩
    have HB4 := Lib.hid (HB3.out.trans (hb4.mono HB3.out.size))
    have F4 : Hid (Below w0.heap.size w0 w4) := F3.out.trans (hb4.mono F3.out.size)
    obtain ⟨_, _, m0, m1, m2, m3, m4, m5⟩ := FK.out w4 F4.out
    clear hb4 b0 b1 b2 b3 b4 b5
    go_wp2_with fail
    go_ret
    exact ⟨rfl, HB4.out⟩
  have q5 : ¬ (3000 : Int) < TX.size := by omega
  have CM := Lib.hid (HM.out (by have := HES.out; omega))
  clear g1 g2 g5 H5 H6 HM HES
  go_enter Tryz.func6, Tryz.ntmps6
  go_wp2_with fail
  rw [HW0.out]
  obtain ⟨⟨a0, a1, a2, a3, a4, a5⟩, _⟩ := FK.out w0 (Below.refl _ _)
  go_wp2_with fail
  refine (H1.out w0 HB0.out).mono ?_
  rintro e w1 ⟨rfl, hb1⟩
  have HB1 := Lib.hid (HB0.out.trans (hb1.mono HB0.out.size))
  have F1 : Hid (Below w0.heap.size w0 w1) := hb1
  obtain ⟨_, ⟨b0, b1, b2, b3, b4, b5⟩, _⟩ := FK.out w1 hb1
  clear hb1 a0 a1 a2 a3 a4 a5
  go_wp2_with fail
  refine (H2.out w1 HB1.out).mono ?_
  rintro e w2 ⟨rfl, hb2⟩
  have HB2 := Lib.hid (HB1.out.trans (hb2.mono HB1.out.size))
  have F2 : Hid (Below w0.heap.size w0 w2) := F1.out.trans (hb2.mono F1.out.size)
  clear hb2 b0 b1 b2 b3 b4 b5
  obtain ⟨⟨a0, a1, a2, a3, a4, a5⟩, _⟩ := FK.out w2 F2.out
  go_wp2_with fail
  refine (H3.out w2 HB2.out).mono ?_
  rintro e w3 ⟨rfl, hb3⟩
  have HB3 := Lib.hid (HB2.out.trans (hb3.mono HB2.out.size))
  have F3 : Hid (Below w0.heap.size w0 w3) := F2.out.trans (hb3.mono F2.out.size)
  clear hb3 a0 a1 a2 a3 a4 a5
  obtain ⟨_, ⟨b0, b1, b2, b3, b4, b5⟩, _⟩ := FK.out w3 F3.out
  go_wp2_with fail
  refine (H4.out w3 HB3.out).mono ?_
  rintro e w4 ⟨rfl, hb4⟩
  have HB4 := Lib.hid (HB3.out.trans (hb4.mono HB3.out.size))
  have F4 : Hid (Below w0.heap.size w0 w4) := F3.out.trans (hb4.mono F3.out.size)
  obtain ⟨_, _, m0, m1, m2, m3, m4, m5⟩ := FK.out w4 F4.out
  have m9 : W.heap.size + 2 < w4.heap.size := by have := F4.out.size; have := HS0.out; omega
  clear hb4 b0 b1 b2 b3 b4 b5 H1 H2 H3 H4 HB1 HB2 HB3 F1 F2 F3
  go_upto_region 6 with (go_at_call 21; refine (H7.out _).mono ?_; rintro e w5 ⟨rfl, hb5⟩; have HB5 := Lib.hid hb5; clear hb5)
  obtain ⟨wS, hwS⟩ : ∃ wS, w5.alloc (.cells #[.int .u32 uid, .int .u8 fl, .string TX] 50) = wS := ⟨_, rfl⟩
  have z4 := HB5.out.size
  rw [World.size_alloc] at z4
  have hb5S : Below w5.heap.size w5 wS := by rw [← hwS]; exact (Below.refl _ w5).alloc (Nat.le_refl _) _
  have hmc : Cells wS w5.heap.size 50 #[.int .u32 uid, .int .u8 fl, .string TX] := by rw [← hwS]; exact heap_alloc_new w5 _
  have hpc : Cells wS w4.heap.size 43 #[.int .u32 sq, .int .u32 lS, .int .u32 lU] := by
    have h1 : Cells (w4.alloc (.cells #[.int .u32 sq, .int .u32 lS, .int .u32 lU] 43)) w4.heap.size 43 #[.int .u32 sq, .int .u32 lS, .int .u32 lU] := heap_alloc_new w4 _
    have h2 := Cells.later h1 (HB5.out.block _ (Cells.lt h1))
    exact Cells.later h2 (hb5S.block _ (Cells.lt h2))
  have hF5 : Below w0.heap.size w0 wS := by
    have h1 : Below w0.heap.size w0 (w4.alloc (.cells #[.int .u32 sq, .int .u32 lS, .int .u32 lU] 43)) := F4.out.alloc F4.out.size _
    have h2 := h1.trans (HB5.out.mono h1.size)
    exact h2.trans (hb5S.mono h2.size)
  have hWS : Below W.heap.size W wS := HB0.out.trans (hF5.mono HB0.out.size)
  have hzS : wS.heap.size = w5.heap.size + 1 := by rw [← hwS]; simp
  rw [hwS]
  have HMC := Lib.hid hmc
  have HPC := Lib.hid hpc
  have HFS := Lib.hid hF5
  have HWS := Lib.hid hWS
  have hl4 : w4.heap.size < wS.heap.size := by omega
  have hl5 : w5.heap.size < wS.heap.size := by omega
  clear hwS hmc hpc hF5 hWS hb5S hzS z4 HB4 F4 HB5 m0 m1 m2 m3 m4 m5 m9 HW0 q1 q2 q5
  refine wp_region_slots [52, 53, 54, 55, 10, 11] (fun L vs w => ∃ k2 o2 A B, LgF wS (.agg #[.int .i64 xk, .int .u8 xf, .slice xsp xm xsc, .int .u32 xn, .string X, .slice xkp xl xkc]) (.agg #[.int .i64 yk, .int .u8 yf, .slice ysp ym ysc, .int .u32 yn, .string Y, .slice ykp yl ykc]) (bareK k) (bareK o) k2 o2 A B L vs w) (by kernel_rfl) (by kernel_rfl) ?_ ?_ ?_
  · exact ⟨fun _ => undef, rfl, default, default, 0, 0, LgF.start wS wS.drew (Below.refl _ _).drew _ _ _ _ _ _ _ _ _⟩
  · intro i o9 L vs w ho hL hA hJ
    obtain ⟨k2, o2, A, B, h⟩ := hJ
    have hi8 : i < 8 := (Array.getElem?_eq_some_iff.1 ho).1
    have hFw := HFS.out.trans (h.b.mono HFS.out.size)
    have hWw := HWS.out.trans (h.b.mono HWS.out.size)
    have HH := Lib.hid h
    clear h
    obtain rfl | rfl | rfl | rfl | rfl | rfl | rfl | rfl : i = 0 ∨ i = 1 ∨ i = 2 ∨ i = 3 ∨ i = 4 ∨ i = 5 ∨ i = 6 ∨ i = 7 := by omega
    all_goals
      have ho' := Option.some.inj (show some _ = some o9 from ho)
      subst ho'
      clear ho
    · clear hA
      obtain ⟨⟨c0, c1, c2, c3, c4, c5⟩, _⟩ := FK.out w hFw
      refine wpOp_step rfl (fun K' hK => ?_)
      have HK := Lib.hid hK
      clear hK
      simp only [slotsPut, Act.put, List.setIfInBounds_toArray, List.set_cons_zero, List.set_cons_succ]
      go_simp
      exact HK.out _ _ ⟨upV vs 52 (.agg #[.int .i64 xk, .int .u8 xf, .slice xsp xm xsc, .int .u32 xn, .string X, .slice xkp xl xkc]), (by simp only [slotsPut, Act.put, List.setIfInBounds_toArray, List.set_cons_zero, List.set_cons_succ]; simp [upV]), k2, o2, A, B, HH.out.s0⟩
    · have e0 := HH.out.l0 (hA ⟨0, .data⟩ (by simp) rfl)
      have C := CO1.out w hWw
      rw [← e0] at C
      have C := Lib.hid C
      clear hA e0
      refine wpOp_step rfl (fun K' hK => ?_)
      have HK := Lib.hid hK
      clear hK
      simp only [slotsPut, Act.put, List.setIfInBounds_toArray, List.set_cons_zero, List.set_cons_succ]
      go_wp2_with (go_at_call 12; refine C.out.mono ?_; rintro e w' ⟨kn, rfl, hn, hc, hi, hb⟩)
      exact HK.out _ _ ⟨upV vs 53 kn.val, (by simp only [slotsPut, Act.put, List.setIfInBounds_toArray, List.set_cons_zero, List.set_cons_succ]; simp [upV]), kn, o2, A, B, HH.out.s1 hL hb hn hc hi⟩
    · clear hA
      obtain ⟨_, ⟨c0, c1, c2, c3, c4, c5⟩, _⟩ := FK.out w hFw
      refine wpOp_step rfl (fun K' hK => ?_)
      have HK := Lib.hid hK
      clear hK
      simp only [slotsPut, Act.put, List.setIfInBounds_toArray, List.set_cons_zero, List.set_cons_succ]
      go_simp
      exact HK.out _ _ ⟨upV vs 54 (.agg #[.int .i64 yk, .int .u8 yf, .slice ysp ym ysc, .int .u32 yn, .string Y, .slice ykp yl ykc]), (by simp only [slotsPut, Act.put, List.setIfInBounds_toArray, List.set_cons_zero, List.set_cons_succ]; simp [upV]), k2, o2, A, B, HH.out.s2⟩
    · have e0 := HH.out.l2 (hA ⟨2, .data⟩ (by simp) rfl)
      have C := CO2.out w hWw
      rw [← e0] at C
      have C := Lib.hid C
      clear hA e0
      refine wpOp_step rfl (fun K' hK => ?_)
      have HK := Lib.hid hK
      clear hK
      simp only [slotsPut, Act.put, List.setIfInBounds_toArray, List.set_cons_zero, List.set_cons_succ]
      go_wp2_with (go_at_call 12; refine C.out.mono ?_; rintro e w' ⟨kn, rfl, hn, hc, hi, hb⟩)
      exact HK.out _ _ ⟨upV vs 55 kn.val, (by simp only [slotsPut, Act.put, List.setIfInBounds_toArray, List.set_cons_zero, List.set_cons_succ]; simp [upV]), k2, kn, A, B, HH.out.s3 hL hb hn hc hi⟩
    · clear hA
      refine wpOp_step rfl (fun K' hK => ?_)
      have HK := Lib.hid hK
      clear hK
      simp only [slotsPut, Act.put, List.setIfInBounds_toArray, List.set_cons_zero, List.set_cons_succ]
      go_simp
      exact HK.out _ _ ⟨upV vs 10 (pK w.heap.size), (by simp only [slotsPut, Act.put, List.setIfInBounds_toArray, List.set_cons_zero, List.set_cons_succ]; simp [upV, pK]), k2, o2, _, B, HH.out.s4 hL⟩
    · clear hA
      refine wpOp_step rfl (fun K' hK => ?_)
      have HK := Lib.hid hK
      clear hK
      simp only [slotsPut, Act.put, List.setIfInBounds_toArray, List.set_cons_zero, List.set_cons_succ]
      go_simp
      exact HK.out _ _ ⟨upV vs 11 (pK w.heap.size), (by simp only [slotsPut, Act.put, List.setIfInBounds_toArray, List.set_cons_zero, List.set_cons_succ]; simp [upV, pK]), k2, o2, A, _, HH.out.s5 hL⟩
    · have h1 := hA ⟨1, .data⟩ (by simp) rfl
      have h4 := hA ⟨4, .data⟩ (by simp) rfl
      obtain ⟨e53, _⟩ := HH.out.l1 h1
      obtain ⟨e10, _, hcA⟩ := HH.out.l4 h4
      rw [hL] at hcA
      have hcA : Cells w A 37 zK := hcA
      unfold zK at hcA
      obtain ⟨zk, zf, zm, zn, zl, zsp, zkp, zsc, zkc, Z, hv2, hcc⟩ := k2.form
      rw [hv2] at e53
      have HS6 := Lib.hid (fun w' ht hc => HH.out.s6 (w' := w') h1 h4 ht hc)
      rw [hcc] at HS6
      have y0 := hcA.cell (i := 0) rfl
      have y1 := hcA.cell (i := 1) rfl
      have y2 := hcA.cell (i := 2) rfl
      have y3 := hcA.cell (i := 3) rfl
      have y4 := hcA.cell (i := 4) rfl
      have y5 := hcA.cell (i := 5) rfl
      have yf := fun i => hcA.frozen i
      have yl := hcA.lt
      have HCA := Lib.hid hcA
      have HE := Lib.hid (And.intro e10 e53)
      clear hA hcA e10 e53 hv2 hcc
      refine wpOp_step rfl (fun K' hK => ?_)
      have HK := Lib.hid hK
      clear hK
      simp only [slotsPut, Act.put, List.setIfInBounds_toArray, List.set_cons_zero, List.set_cons_succ]
      rw [HE.out.1, HE.out.2]
      unfold pK
      go_simp
      exact HK.out _ _ ⟨vs, by simp only [slotsPut, Act.put, List.setIfInBounds_toArray, List.set_cons_zero, List.set_cons_succ]; rw [HE.out.1, HE.out.2]; rfl, k2, o2, A, B, HS6.out _ (((((((Tk.refl A w).trans (Tk.set w 0 _)).trans (Tk.set _ 1 _)).trans (Tk.set _ 2 _)).trans (Tk.set _ 3 _)).trans (Tk.set _ 4 _)).trans (Tk.set _ 5 _)) (HCA.out.six _ _ _ _ _ _)⟩
    · have h1 := hA ⟨3, .data⟩ (by simp) rfl
      have h4 := hA ⟨5, .data⟩ (by simp) rfl
      obtain ⟨e53, _⟩ := HH.out.l3 h1
      obtain ⟨e10, _, hcA⟩ := HH.out.l5 h4
      rw [hL] at hcA
      have hcA : Cells w B 37 zK := hcA
      unfold zK at hcA
      obtain ⟨zk, zf, zm, zn, zl, zsp, zkp, zsc, zkc, Z, hv2, hcc⟩ := o2.form
      rw [hv2] at e53
      have HS6 := Lib.hid (fun w' ht hc => HH.out.s7 (w' := w') h1 h4 ht hc)
      rw [hcc] at HS6
      have y0 := hcA.cell (i := 0) rfl
      have y1 := hcA.cell (i := 1) rfl
      have y2 := hcA.cell (i := 2) rfl
      have y3 := hcA.cell (i := 3) rfl
      have y4 := hcA.cell (i := 4) rfl
      have y5 := hcA.cell (i := 5) rfl
      have yf := fun i => hcA.frozen i
      have yl := hcA.lt
      have HCA := Lib.hid hcA
      have HE := Lib.hid (And.intro e10 e53)
      clear hA hcA e10 e53 hv2 hcc
      refine wpOp_step rfl (fun K' hK => ?_)
      have HK := Lib.hid hK
      clear hK
      simp only [slotsPut, Act.put, List.setIfInBounds_toArray, List.set_cons_zero, List.set_cons_succ]
      rw [HE.out.1, HE.out.2]
      unfold pK
      go_simp
      exact HK.out _ _ ⟨vs, by simp only [slotsPut, Act.put, List.setIfInBounds_toArray, List.set_cons_zero, List.set_cons_succ]; rw [HE.out.1, HE.out.2]; rfl, k2, o2, A, B, HS6.out _ (((((((Tk.refl B w).trans (Tk.set w 0 _)).trans (Tk.set _ 1 _)).trans (Tk.set _ 2 _)).trans (Tk.set _ 3 _)).trans (Tk.set _ 4 _)).trans (Tk.set _ 5 _)) (HCA.out.six _ _ _ _ _ _)⟩
  · intro L vs wx hall hJ
    obtain ⟨k2, o2, A, B, h⟩ := hJ
    obtain ⟨_, hbk, hkc, _⟩ := h.l1 (hall 1 (by decide))
    obtain ⟨_, hbo, hko, _⟩ := h.l3 (hall 3 (by decide))
    obtain ⟨e10, hA, hcA⟩ := h.l4 (hall 4 (by decide))
    obtain ⟨e11, hB, hcB⟩ := h.l5 (hall 5 (by decide))
    rw [hall 6 (by decide)] at hcA
    rw [hall 7 (by decide)] at hcB
    have hcA : Cells wx A 37 k2.cells.toArray := hcA
    have hcB : Cells wx B 37 o2.cells.toArray := hcB
    obtain ⟨ak, af, am, an, al, asp, akp, asc, akc, AX, hav, hac⟩ := k2.form
    obtain ⟨bk, bf, bm, bn, bl, bsp, bkp, bsc, bkc, BX, hbv, hbc⟩ := o2.form
    rw [hac] at hcA
    rw [hbc] at hcB
    have hrow : rowTwo k2 o2 = #[.int .i64 ak, .int .u8 af, .slice asp am asc, .int .u32 an, .string AX, .slice akp al akc, .int .i64 bk, .int .u8 bf, .slice bsp bm bsc, .int .u32 bn, .string BX, .slice bkp bl bkc] := by
      have h1 := congrArg Array.toList hac
      have h2 := congrArg Array.toList hbc
      unfold rowTwo
      rw [show k2.cells = _ from h1, show o2.cells = _ from h2]
      rfl
    have hW : Below W.heap.size W wx := HWS.out.trans (h.b.mono HWS.out.size)
    have hM := Cells.later HMC.out (h.b.block _ (Cells.lt HMC.out))
    have hP := Cells.later HPC.out (h.b.block _ (Cells.lt HPC.out))
    have a0 := hcA.cell (i := 0) rfl
    have a1 := hcA.cell (i := 1) rfl
    have a2 := hcA.cell (i := 2) rfl
    have a3 := hcA.cell (i := 3) rfl
    have a4 := hcA.cell (i := 4) rfl
    have a5 := hcA.cell (i := 5) rfl
    have b0 := hcB.cell (i := 0) rfl
    have b1 := hcB.cell (i := 1) rfl
    have b2 := hcB.cell (i := 2) rfl
    have b3 := hcB.cell (i := 3) rfl
    have b4 := hcB.cell (i := 4) rfl
    have b5 := hcB.cell (i := 5) rfl
    have hAl := hcA.lt
    have hBl := hcB.lt
    obtain ⟨wy, hwy, hby, hsy, hy0, hy1, hy2, hy3⟩ := four_blocks wx (rowTwo k2 o2) #[.int .i64 10, .int .u8 0, .slice none 0 0, .int .u32 0, .string ⟨#[]⟩, .slice (some ⟨wx.heap.size, 0, none⟩) 2 2] (rowTwo k2 o2) #[.int .i64 9, .int .u8 0, .slice none 0 0, .int .u32 0, .string ⟨#[]⟩, .slice (some ⟨wx.heap.size + 1 + 1, 0, none⟩) 2 2] 37
    have hWy : Below W.heap.size W wy := hW.trans (hby.mono hW.size)
    have HWY2 := Lib.hid hWy
    have FS : Hid (∀ x, Below wy.heap.size wy x → Below wy.heap.size wy x ∧ x.cell? ⟨A, 0, none⟩ = some (.int .i64 ak) ∧ x.cell? ⟨A, 1, none⟩ = some (.int .u8 af) ∧ x.cell? ⟨A, 2, none⟩ = some (.slice asp am asc) ∧ x.cell? ⟨A, 3, none⟩ = some (.int .u32 an) ∧ x.cell? ⟨A, 4, none⟩ = some (.string AX) ∧ x.cell? ⟨A, 5, none⟩ = some (.slice akp al akc) ∧ x.cell? ⟨B, 0, none⟩ = some (.int .i64 bk) ∧ x.cell? ⟨B, 1, none⟩ = some (.int .u8 bf) ∧ x.cell? ⟨B, 2, none⟩ = some (.slice bsp bm bsc) ∧ x.cell? ⟨B, 3, none⟩ = some (.int .u32 bn) ∧ x.cell? ⟨B, 4, none⟩ = some (.string BX) ∧ x.cell? ⟨B, 5, none⟩ = some (.slice bkp bl bkc) ∧ x.cell? ⟨w5.heap.size, 0, none⟩ = some (.int .u32 uid) ∧ x.cell? ⟨w5.heap.size, 1, none⟩ = some (.int .u8 fl) ∧ x.cell? ⟨w5.heap.size, 2, none⟩ = some (.string TX) ∧ x.cell? ⟨w4.heap.size, 0, none⟩ = some (.int .u32 sq) ∧ x.cell? ⟨w4.heap.size, 1, none⟩ = some (.int .u32 lS) ∧ x.cell? ⟨w4.heap.size, 2, none⟩ = some (.int .u32 lU) ∧ x.cell? ⟨wx.heap.size + 1, 0, none⟩ = some (.int .i64 10) ∧ x.cell? ⟨wx.heap.size + 1, 1, none⟩ = some (.int .u8 0) ∧ x.cell? ⟨wx.heap.size + 1, 2, none⟩ = some (.slice none 0 0) ∧ x.cell? ⟨wx.heap.size + 1, 3, none⟩ = some (.int .u32 0) ∧ x.cell? ⟨wx.heap.size + 1, 4, none⟩ = some (.string ⟨#[]⟩) ∧ x.cell? ⟨wx.heap.size + 1, 5, none⟩ = some (.slice (some ⟨wx.heap.size, 0, none⟩) 2 2) ∧ x.cell? ⟨wx.heap.size + 1 + 1 + 1, 0, none⟩ = some (.int .i64 9) ∧ x.cell? ⟨wx.heap.size + 1 + 1 + 1, 1, none⟩ = some (.int .u8 0) ∧ x.cell? ⟨wx.heap.size + 1 + 1 + 1, 2, none⟩ = some (.slice none 0 0) ∧ x.cell? ⟨wx.heap.size + 1 + 1 + 1, 3, none⟩ = some (.int .u32 0) ∧ x.cell? ⟨wx.heap.size + 1 + 1 + 1, 4, none⟩ = some (.string ⟨#[]⟩) ∧ x.cell? ⟨wx.heap.size + 1 + 1 + 1, 5, none⟩ = some (.slice (some ⟨wx.heap.size + 1 + 1, 0, none⟩) 2 2)) := fun x hx => by
      have hk := hby.trans (hx.mono hby.size)
      have g0 := Cells.later hcA (hk.block _ hAl)
      have g1 := Cells.later hcB (hk.block _ hBl)
      have g2 := Cells.later hM (hk.block _ (Cells.lt hM))
      have g3 := Cells.later hP (hk.block _ (Cells.lt hP))
      have g4 := Cells.later hy1 (hx.block _ (Cells.lt hy1))
      have g5 := Cells.later hy3 (hx.block _ (Cells.lt hy3))
      exact ⟨hx, g0.cell (i := 0) rfl, g0.cell (i := 1) rfl, g0.cell (i := 2) rfl, g0.cell (i := 3) rfl, g0.cell (i := 4) rfl, g0.cell (i := 5) rfl, g1.cell (i := 0) rfl, g1.cell (i := 1) rfl, g1.cell (i := 2) rfl, g1.cell (i := 3) rfl, g1.cell (i := 4) rfl, g1.cell (i := 5) rfl, g2.cell (i := 0) rfl, g2.cell (i := 1) rfl, g2.cell (i := 2) rfl, g3.cell (i := 0) rfl, g3.cell (i := 1) rfl, g3.cell (i := 2) rfl, g4.cell (i := 0) rfl, g4.cell (i := 1) rfl, g4.cell (i := 2) rfl, g4.cell (i := 3) rfl, g4.cell (i := 4) rfl, g4.cell (i := 5) rfl, g5.cell (i := 0) rfl, g5.cell (i := 1) rfl, g5.cell (i := 2) rfl, g5.cell (i := 3) rfl, g5.cell (i := 4) rfl, g5.cell (i := 5) rfl⟩
    have r13 := right_of_bare hbk HR1.out
    have s13 := right_of_bare hbo HR2.out
    have HMT : Hid (∀ (kt : KT) (w : World), Below wy.heap.size wy w → KeyC w kt → rightK kt 16 = true → Calls Tryz.prog 20 #[kt.val, .agg #[.int .u32 uid, .int .u8 fl, .string TX], .agg #[.int .u32 sq, .int .u32 lS, .int .u32 lU]] w fun e w' => e = .returned (.bool (matchK m kt)) ∧ Below w.heap.size w w') := fun kt w hw hk hr => by
      have := CM.out kt w hk (HX.out w (hWy.trans (hw.mono hWy.size))).1
      rw [matchP_right hr] at this
      exact this
    have hkA := KeyC.below hby k2 hkc
    have hkB := KeyC.below hby o2 hko
    have c1 : Hid (∀ w, Below wy.heap.size wy w → Calls Tryz.prog 20 #[.agg #[.int .i64 ak, .int .u8 af, .slice asp am asc, .int .u32 an, .string AX, .slice akp al akc], .agg #[.int .u32 uid, .int .u8 fl, .string TX], .agg #[.int .u32 sq, .int .u32 lS, .int .u32 lU]] w fun e w' => e = .returned (.bool (matchK m k2)) ∧ Below w.heap.size w w') := fun w hw => by
      have := HMT.out k2 w hw (KeyC.below hw _ hkA) (rightK_mono k2 (by omega) r13)
      rw [hav] at this
      exact this
    have c2 : Hid (∀ w, Below wy.heap.size wy w → Calls Tryz.prog 20 #[.agg #[.int .i64 bk, .int .u8 bf, .slice bsp bm bsc, .int .u32 bn, .string BX, .slice bkp bl bkc], .agg #[.int .u32 uid, .int .u8 fl, .string TX], .agg #[.int .u32 sq, .int .u32 lS, .int .u32 lU]] w fun e w' => e = .returned (.bool (matchK m o2)) ∧ Below w.heap.size w w') := fun w hw => by
      have := HMT.out o2 w hw (KeyC.below hw _ hkB) (rightK_mono o2 (by omega) s13)
      rw [hbv] at this
      exact this
    have hkAnd := two_keyC (kind := 10) hy0 (by unfold rowTwo; rfl) hkA hkB
    have hkOr := two_keyC (kind := 9) hy2 (by unfold rowTwo; rfl) hkA hkB
    have rAnd := two_right (kind := 10) (.inr rfl) k2 o2 wx.heap.size (d := 13) (by omega) r13 s13
    have rOr := two_right (kind := 9) (.inl rfl) k2 o2 (wx.heap.size + 2) (d := 13) (by omega) r13 s13
    have c3 : Hid (∀ w, Below wy.heap.size wy w → Calls Tryz.prog 20 #[.agg #[.int .i64 10, .int .u8 0, .slice none 0 0, .int .u32 0, .string ⟨#[]⟩, .slice (some ⟨wx.heap.size, 0, none⟩) 2 2], .agg #[.int .u32 uid, .int .u8 fl, .string TX], .agg #[.int .u32 sq, .int .u32 lS, .int .u32 lU]] w fun e w' => e = .returned (.bool (matchK m k2 && matchK m o2)) ∧ Below w.heap.size w w') := fun w hw => by
      have := HMT.out _ w hw (KeyC.below hw _ hkAnd) (rightK_mono _ (by omega) rAnd)
      rw [and_match] at this
      exact this
    have c4 : Hid (∀ w, Below wy.heap.size wy w → Calls Tryz.prog 20 #[.agg #[.int .i64 9, .int .u8 0, .slice none 0 0, .int .u32 0, .string ⟨#[]⟩, .slice (some ⟨wx.heap.size + 1 + 1, 0, none⟩) 2 2], .agg #[.int .u32 uid, .int .u8 fl, .string TX], .agg #[.int .u32 sq, .int .u32 lS, .int .u32 lU]] w fun e w' => e = .returned (.bool (matchK m k2 || matchK m o2)) ∧ Below w.heap.size w w') := fun w hw => by
      have := HMT.out _ w hw (KeyC.below hw _ hkOr) (rightK_mono _ (by omega) rOr)
      rw [or_match] at this
      exact this
    have d1 : Hid (∀ w, Below wy.heap.size wy w → Calls Tryz.prog 35 #[.agg #[.int .i64 ak, .int .u8 af, .slice asp am asc, .int .u32 an, .string AX, .slice akp al akc]] w fun e w' => ∃ R, e = .returned (notT k2 R).val ∧ KeyC w' (notT k2 R) ∧ w.heap.size ≤ R ∧ Below w.heap.size w w') := fun w hw => by
      have := not_c k2 w (KeyC.below hw _ hkA)
      rw [hav] at this
      exact this
    have d2 : Hid (∀ w, Below wy.heap.size wy w → Calls Tryz.prog 35 #[.agg #[.int .i64 bk, .int .u8 bf, .slice bsp bm bsc, .int .u32 bn, .string BX, .slice bkp bl bkc]] w fun e w' => ∃ R, e = .returned (notT o2 R).val ∧ KeyC w' (notT o2 R) ∧ w.heap.size ≤ R ∧ Below w.heap.size w w') := fun w hw => by
      have := not_c o2 w (KeyC.below hw _ hkB)
      rw [hbv] at this
      exact this
    have d3 : Hid (∀ w, Below wy.heap.size wy w → Calls Tryz.prog 35 #[.agg #[.int .i64 10, .int .u8 0, .slice none 0 0, .int .u32 0, .string ⟨#[]⟩, .slice (some ⟨wx.heap.size, 0, none⟩) 2 2]] w fun e w' => ∃ R, e = .returned (notT (twoT 10 k2 o2 wx.heap.size) R).val ∧ KeyC w' (notT (twoT 10 k2 o2 wx.heap.size) R) ∧ w.heap.size ≤ R ∧ Below w.heap.size w w') := fun w hw =>
      not_c (twoT 10 k2 o2 wx.heap.size) w (KeyC.below hw _ hkAnd)
    have rn1 := fun R => not_within k2 R 13 (by omega) r13
    have rn2 := fun R => not_within o2 R 13 (by omega) s13
    have rna := fun R => not_within (twoT 10 k2 o2 wx.heap.size) R 14 (by omega) rAnd
    have CMN : Hid (∀ R w, Below wy.heap.size wy w → KeyC w (notT k2 R) → Calls Tryz.prog 20 #[.agg #[.int .i64 8, .int .u8 0, .slice none 0 0, .int .u32 0, .string ⟨#[]⟩, .slice (some ⟨R, 0, none⟩) 1 1], .agg #[.int .u32 uid, .int .u8 fl, .string TX], .agg #[.int .u32 sq, .int .u32 lS, .int .u32 lU]] w fun e w' => e = .returned (.bool (!matchK m k2)) ∧ Below w.heap.size w w') := fun R w hw hk => by
      have := HMT.out _ w hw hk (rightK_mono _ (by omega) (rn1 R))
      rw [not_match] at this
      exact this
    have CMNN : Hid (∀ R R2 w, Below wy.heap.size wy w → KeyC w (notT (notT k2 R) R2) → Calls Tryz.prog 20 #[.agg #[.int .i64 8, .int .u8 0, .slice none 0 0, .int .u32 0, .string ⟨#[]⟩, .slice (some ⟨R2, 0, none⟩) 1 1], .agg #[.int .u32 uid, .int .u8 fl, .string TX], .agg #[.int .u32 sq, .int .u32 lS, .int .u32 lU]] w fun e w' => e = .returned (.bool (matchK m k2)) ∧ Below w.heap.size w w') := fun R R2 w hw hk => by
      have := HMT.out _ w hw hk (rightK_mono _ (by omega) (not_within _ R2 14 (by omega) (rn1 R)))
      rw [not_match, not_match, Bool.not_not] at this
      exact this
    have CNN : Hid (∀ R w, KeyC w (notT k2 R) → Calls Tryz.prog 35 #[.agg #[.int .i64 8, .int .u8 0, .slice none 0 0, .int .u32 0, .string ⟨#[]⟩, .slice (some ⟨R, 0, none⟩) 1 1]] w fun e w' => ∃ R2, e = .returned (notT (notT k2 R) R2).val ∧ KeyC w' (notT (notT k2 R) R2) ∧ w.heap.size ≤ R2 ∧ Below w.heap.size w w') := fun R w hk => not_c (notT k2 R) w hk
    have CMA : Hid (∀ R w, Below wy.heap.size wy w → KeyC w (notT (twoT 10 k2 o2 wx.heap.size) R) → Calls Tryz.prog 20 #[.agg #[.int .i64 8, .int .u8 0, .slice none 0 0, .int .u32 0, .string ⟨#[]⟩, .slice (some ⟨R, 0, none⟩) 1 1], .agg #[.int .u32 uid, .int .u8 fl, .string TX], .agg #[.int .u32 sq, .int .u32 lS, .int .u32 lU]] w fun e w' => e = .returned (.bool (!(matchK m k2 && matchK m o2))) ∧ Below w.heap.size w w') := fun R w hw hk => by
      have := HMT.out _ w hw hk (rightK_mono _ (by omega) (rna R))
      rw [not_match, and_match] at this
      exact this
    have CME : Hid (∀ R1 R2 N w, Below wy.heap.size wy w → KeyC w (twoT 9 (notT k2 R1) (notT o2 R2) N) → Calls Tryz.prog 20 #[.agg #[.int .i64 9, .int .u8 0, .slice none 0 0, .int .u32 0, .string ⟨#[]⟩, .slice (some ⟨N, 0, none⟩) 2 2], .agg #[.int .u32 uid, .int .u8 fl, .string TX], .agg #[.int .u32 sq, .int .u32 lS, .int .u32 lU]] w fun e w' => e = .returned (.bool (!matchK m k2 || !matchK m o2)) ∧ Below w.heap.size w w') := fun R1 R2 N w hw hk => by
      have := HMT.out _ w hw hk (rightK_mono _ (by omega) (two_right (kind := 9) (.inl rfl) _ _ N (d := 14) (by omega) (rn1 R1) (rn2 R2)))
      rw [or_match, not_match, not_match] at this
      exact this
    have CAW : Hid (∀ w, Below wy.heap.size wy w → Calls Tryz.prog 23 #[] w fun e w' => e = .returned (.bool true) ∧ Below w.heap.size w w') := fun w hw => by
      have h1 := hWy.trans (hw.mono hWy.size)
      exact awake14_c w (HX.out w h1).2 (HX.out w h1).1
    have HKA := Lib.hid hkA
    have HKB := Lib.hid hkB
    have HWY := Lib.hid hwy
    have HROW := Lib.hid hrow
    obtain ⟨va, hva⟩ : ∃ b, matchK m k2 = b := ⟨_, rfl⟩
    obtain ⟨vb, hvb⟩ : ∃ b, matchK m o2 = b := ⟨_, rfl⟩
    rw [hva] at c1 c3 c4 CMN CMNN CMA CME
    rw [hvb] at c2 c3 c4 CMA CME
    clear hva hvb hwy hrow hkA hkB rn1 rn2 rna rAnd rOr hkAnd hkOr r13 s13 HMT hy0 hy1 hy2 hy3 hby hsy hWy hM hP hW hcA hcB hac hbc hav hbv hbk hbo hkc hko hA hB h hall CM HR1 HR2 CO1 CO2 H7 FK HMC HPC HFS HWS HC0 HD0 HE0 HS0 HB0 HXV HYV HX
    simp only [slotsPut, Act.put, List.setIfInBounds_toArray, List.set_cons_zero, List.set_cons_succ]
    rw [e10, e11]
    unfold pK
    clear e10 e11
    simp only [Exit.then]
    apply_assumption
    go_wp2_with fail
    have hwy2 := HWY.out
    rw [HROW.out] at hwy2
    rw [hwy2]
    clear hwy2 HWY HROW a0 a1 a2 a3 a4 a5 b0 b1 b2 b3 b4 b5 hAl hBl hl4 hl5
    go_cut [14, 15] from 64 (fun t14 t15 wc => t14 = .bool va ∧ t15 = .bool vb ∧ Hid (Below wy.heap.size wy wc))
    case first =>
      have s0 := FS.out wy.drew (Below.refl _ _).drew
      first
      | go_region_held3 (fun x => Below wy.heap.size wy x ∧ x.cell? ⟨A, 0, none⟩ = some (.int .i64 ak) ∧ x.cell? ⟨A, 1, none⟩ = some (.int .u8 af) ∧ x.cell? ⟨A, 2, none⟩ = some (.slice asp am asc) ∧ x.cell? ⟨A, 3, none⟩ = some (.int .u32 an) ∧ x.cell? ⟨A, 4, none⟩ = some (.string AX) ∧ x.cell? ⟨A, 5, none⟩ = some (.slice akp al akc) ∧ x.cell? ⟨B, 0, none⟩ = some (.int .i64 bk) ∧ x.cell? ⟨B, 1, none⟩ = some (.int .u8 bf) ∧ x.cell? ⟨B, 2, none⟩ = some (.slice bsp bm bsc) ∧ x.cell? ⟨B, 3, none⟩ = some (.int .u32 bn) ∧ x.cell? ⟨B, 4, none⟩ = some (.string BX) ∧ x.cell? ⟨B, 5, none⟩ = some (.slice bkp bl bkc) ∧ x.cell? ⟨w5.heap.size, 0, none⟩ = some (.int .u32 uid) ∧ x.cell? ⟨w5.heap.size, 1, none⟩ = some (.int .u8 fl) ∧ x.cell? ⟨w5.heap.size, 2, none⟩ = some (.string TX) ∧ x.cell? ⟨w4.heap.size, 0, none⟩ = some (.int .u32 sq) ∧ x.cell? ⟨w4.heap.size, 1, none⟩ = some (.int .u32 lS) ∧ x.cell? ⟨w4.heap.size, 2, none⟩ = some (.int .u32 lU) ∧ x.cell? ⟨wx.heap.size + 1, 0, none⟩ = some (.int .i64 10) ∧ x.cell? ⟨wx.heap.size + 1, 1, none⟩ = some (.int .u8 0) ∧ x.cell? ⟨wx.heap.size + 1, 2, none⟩ = some (.slice none 0 0) ∧ x.cell? ⟨wx.heap.size + 1, 3, none⟩ = some (.int .u32 0) ∧ x.cell? ⟨wx.heap.size + 1, 4, none⟩ = some (.string ⟨#[]⟩) ∧ x.cell? ⟨wx.heap.size + 1, 5, none⟩ = some (.slice (some ⟨wx.heap.size, 0, none⟩) 2 2) ∧ x.cell? ⟨wx.heap.size + 1 + 1 + 1, 0, none⟩ = some (.int .i64 9) ∧ x.cell? ⟨wx.heap.size + 1 + 1 + 1, 1, none⟩ = some (.int .u8 0) ∧ x.cell? ⟨wx.heap.size + 1 + 1 + 1, 2, none⟩ = some (.slice none 0 0) ∧ x.cell? ⟨wx.heap.size + 1 + 1 + 1, 3, none⟩ = some (.int .u32 0) ∧ x.cell? ⟨wx.heap.size + 1 + 1 + 1, 4, none⟩ = some (.string ⟨#[]⟩) ∧ x.cell? ⟨wx.heap.size + 1 + 1 + 1, 5, none⟩ = some (.slice (some ⟨wx.heap.size + 1 + 1, 0, none⟩) 2 2)) (with_reducible assumption) (first | (have _ := T1; go_at_call 20; refine (c2.out _ (And.left (by assumption))).mono ?_; rintro e w9 ⟨rfl, hb9⟩; have hs9 := FS.out w9 (below_step (by assumption) hb9); have T2 : True := trivial) | (go_at_call 20; refine (c1.out _ (And.left (by assumption))).mono ?_; rintro e w9 ⟨rfl, hb9⟩; have hs9 := FS.out w9 (below_step (by assumption) hb9); have T1 : True := trivial))
      | fail "held9"
      have HB9 := Lib.hid hs9.1
      clear s0 hs9 hb9
      go_wp2_with fail
      go_meet
      case rel => exact ⟨rfl, rfl, HB9.out⟩
    case rest =>
      obtain ⟨rfl, rfl, HB9⟩ := hcut
      obtain ⟨wz, hwz⟩ : ∃ wz, wc = wz := ⟨_, rfl⟩
      rw [hwz] at HB9 ⊢
      clear hwz
      go_wp2_with fail
      go_cut [113] from 72 (fun t113 wc => t113 = .bool false ∧ Hid (Below wy.heap.size wy wc))
      case first =>
        have s0 := FS.out wz.drew HB9.out.drew
        clear d2 d3 CMA CME CAW
        cases va <;> cases vb
        all_goals
          first
          | go_region_held (fun x => Below wy.heap.size wy x ∧ x.cell? ⟨A, 0, none⟩ = some (.int .i64 ak) ∧ x.cell? ⟨A, 1, none⟩ = some (.int .u8 af) ∧ x.cell? ⟨A, 2, none⟩ = some (.slice asp am asc) ∧ x.cell? ⟨A, 3, none⟩ = some (.int .u32 an) ∧ x.cell? ⟨A, 4, none⟩ = some (.string AX) ∧ x.cell? ⟨A, 5, none⟩ = some (.slice akp al akc) ∧ x.cell? ⟨B, 0, none⟩ = some (.int .i64 bk) ∧ x.cell? ⟨B, 1, none⟩ = some (.int .u8 bf) ∧ x.cell? ⟨B, 2, none⟩ = some (.slice bsp bm bsc) ∧ x.cell? ⟨B, 3, none⟩ = some (.int .u32 bn) ∧ x.cell? ⟨B, 4, none⟩ = some (.string BX) ∧ x.cell? ⟨B, 5, none⟩ = some (.slice bkp bl bkc) ∧ x.cell? ⟨w5.heap.size, 0, none⟩ = some (.int .u32 uid) ∧ x.cell? ⟨w5.heap.size, 1, none⟩ = some (.int .u8 fl) ∧ x.cell? ⟨w5.heap.size, 2, none⟩ = some (.string TX) ∧ x.cell? ⟨w4.heap.size, 0, none⟩ = some (.int .u32 sq) ∧ x.cell? ⟨w4.heap.size, 1, none⟩ = some (.int .u32 lS) ∧ x.cell? ⟨w4.heap.size, 2, none⟩ = some (.int .u32 lU) ∧ x.cell? ⟨wx.heap.size + 1, 0, none⟩ = some (.int .i64 10) ∧ x.cell? ⟨wx.heap.size + 1, 1, none⟩ = some (.int .u8 0) ∧ x.cell? ⟨wx.heap.size + 1, 2, none⟩ = some (.slice none 0 0) ∧ x.cell? ⟨wx.heap.size + 1, 3, none⟩ = some (.int .u32 0) ∧ x.cell? ⟨wx.heap.size + 1, 4, none⟩ = some (.string ⟨#[]⟩) ∧ x.cell? ⟨wx.heap.size + 1, 5, none⟩ = some (.slice (some ⟨wx.heap.size, 0, none⟩) 2 2) ∧ x.cell? ⟨wx.heap.size + 1 + 1 + 1, 0, none⟩ = some (.int .i64 9) ∧ x.cell? ⟨wx.heap.size + 1 + 1 + 1, 1, none⟩ = some (.int .u8 0) ∧ x.cell? ⟨wx.heap.size + 1 + 1 + 1, 2, none⟩ = some (.slice none 0 0) ∧ x.cell? ⟨wx.heap.size + 1 + 1 + 1, 3, none⟩ = some (.int .u32 0) ∧ x.cell? ⟨wx.heap.size + 1 + 1 + 1, 4, none⟩ = some (.string ⟨#[]⟩) ∧ x.cell? ⟨wx.heap.size + 1 + 1 + 1, 5, none⟩ = some (.slice (some ⟨wx.heap.size + 1 + 1, 0, none⟩) 2 2)) (with_reducible assumption) (first | (have _ := T16; go_at_call 20; refine (CMNN.out _ _ _ (And.left (by assumption)) HK8.out).mono ?_; rintro e w9 ⟨rfl, hb9⟩; have hs9 := FS.out w9 (below_step (by assumption) hb9); have T17 : True := trivial) | (have _ := T15; go_at_call 35; refine (CNN.out _ _ HK9.out).mono ?_; rintro e w9 ⟨Rm, rfl, hk8, hR9, hb9⟩; have hs9 := FS.out w9 (below_step (by assumption) hb9); have HK8 := Lib.hid hk8; clear hk8; have T16 : True := trivial) | (have _ := T14; go_at_call 35; refine (d1.out _ (And.left (by assumption))).mono ?_; rintro e w9 ⟨Rn, rfl, hk9, hR9, hb9⟩; have hs9 := FS.out w9 (below_step (by assumption) hb9); have HK9 := Lib.hid hk9; clear hk9; have T15 : True := trivial) | (have _ := T13; go_at_call 20; refine (CMN.out _ _ (And.left (by assumption)) HK9.out).mono ?_; rintro e w9 ⟨rfl, hb9⟩; have hs9 := FS.out w9 (below_step (by assumption) hb9); have T14 : True := trivial) | (have _ := T12; go_at_call 35; refine (d1.out _ (And.left (by assumption))).mono ?_; rintro e w9 ⟨Rn, rfl, hk9, hR9, hb9⟩; have hs9 := FS.out w9 (below_step (by assumption) hb9); have HK9 := Lib.hid hk9; clear hk9; have T13 : True := trivial) | (have _ := T11; go_at_call 20; refine (c4.out _ (And.left (by assumption))).mono ?_; rintro e w9 ⟨rfl, hb9⟩; have hs9 := FS.out w9 (below_step (by assumption) hb9); have T12 : True := trivial) | (go_at_call 20; refine (c3.out _ (And.left (by assumption))).mono ?_; rintro e w9 ⟨rfl, hb9⟩; have hs9 := FS.out w9 (below_step (by assumption) hb9); have T11 : True := trivial))
          | fail "held10"
          have HB10 := Lib.hid hs9.1
          clear s0 hs9 hb9
          go_wp2_with fail
          go_meet
          case rel => exact ⟨rfl, HB10.out⟩
      case rest =>
        obtain ⟨rfl, HB10⟩ := hcut
        obtain ⟨wq, hwq⟩ : ∃ wq, wc = wq := ⟨_, rfl⟩
        rw [hwq] at HB10 ⊢
        clear hwq c1 c2 c3 c4 CMN CMNN CNN HB9
        have kqA : KeyQ (fun b => b < wq.heap.size) k2 := KeyC.lt k2 (KeyC.below HB10.out k2 HKA.out)
        have kqB : KeyQ (fun b => b < wq.heap.size) o2 := KeyC.lt o2 (KeyC.below HB10.out o2 HKB.out)
        have HQA := Lib.hid kqA
        have HQB := Lib.hid kqB
        clear kqA kqB
        go_wp2_with fail
        refine wp_region_slots2 [114, 115, 116, 117, 118, 119, 120, 121, 16] (fun L vs w => ∃ R1 R2 N C, LhF wq (.func (.func 35) #[] #[]) (.agg #[.int .i64 ak, .int .u8 af, .slice asp am asc, .int .u32 an, .string AX, .slice akp al akc]) (.agg #[.int .i64 bk, .int .u8 bf, .slice bsp bm bsc, .int .u32 bn, .string BX, .slice bkp bl bkc]) k2 o2 R1 R2 N C L vs w) (by kernel_rfl) (by kernel_rfl) ?_ ?_ ?_
        · exact fun vs => ⟨0, 0, 0, 0, LhF.start wq wq.drew (Below.refl _ _).drew _ _ _ _ _ _ _ _ _ _⟩
        · intro i o9 L vs w ho hL hA hJ
          obtain ⟨R1, R2, N, C, h⟩ := hJ
          have hi8 : i < 10 := (Array.getElem?_eq_some_iff.1 ho).1
          have hyw := HB10.out.trans (h.b.mono HB10.out.size)
          have hqw := h.b.size
          have HH := Lib.hid h
          clear h
          obtain rfl | rfl | rfl | rfl | rfl | rfl | rfl | rfl | rfl | rfl : i = 0 ∨ i = 1 ∨ i = 2 ∨ i = 3 ∨ i = 4 ∨ i = 5 ∨ i = 6 ∨ i = 7 ∨ i = 8 ∨ i = 9 := by omega
          all_goals
            have ho' := Option.some.inj (show some _ = some o9 from ho)
            subst ho'
            clear ho
          · clear hA
            refine wpOp_step rfl (fun K' hK => ?_)
            have HK := Lib.hid hK
            clear hK
            simp only [slotsPut, Act.put, List.setIfInBounds_toArray, List.set_cons_zero, List.set_cons_succ]
            go_simp
            exact HK.out _ _ ⟨upV vs 114 (.func (.func 35) #[] #[]), (by simp only [slotsPut, Act.put, List.setIfInBounds_toArray, List.set_cons_zero, List.set_cons_succ]; simp [upV]), R1, R2, N, C, HH.out.s0⟩
          · clear hA
            obtain ⟨_, c0, c1, c2, c3, c4, c5, _⟩ := FS.out w hyw
            refine wpOp_step rfl (fun K' hK => ?_)
            have HK := Lib.hid hK
            clear hK
            simp only [slotsPut, Act.put, List.setIfInBounds_toArray, List.set_cons_zero, List.set_cons_succ]
            go_simp
            exact HK.out _ _ ⟨upV vs 115 (.agg #[.int .i64 ak, .int .u8 af, .slice asp am asc, .int .u32 an, .string AX, .slice akp al akc]), (by simp only [slotsPut, Act.put, List.setIfInBounds_toArray, List.set_cons_zero, List.set_cons_succ]; simp [upV]), R1, R2, N, C, HH.out.s1⟩
          · have ef := HH.out.l0 (hA ⟨0, .data⟩ (by simp) rfl)
            have ek := HH.out.l1 (hA ⟨1, .data⟩ (by simp) rfl)
            have hlt : L 8 = true → wq.heap.size ≤ C ∧ C < w.heap.size := fun e => ⟨(HH.out.l8 e).2.1, Cells.lt (HH.out.l8 e).2.2⟩
            have HLT := Lib.hid hlt
            have HE := Lib.hid (And.intro ef ek)
            clear hA ef ek hlt
            refine wpOp_step rfl (fun K' hK => ?_)
            have HK := Lib.hid hK
            clear hK
            simp only [slotsPut, Act.put, List.setIfInBounds_toArray, List.set_cons_zero, List.set_cons_succ]
            rw [HE.out.1, HE.out.2]
            go_wp2_with (go_at_call 35; refine (d1.out w hyw).mono ?_; rintro e w' ⟨R, rfl, hk, hR, hb⟩)
            refine HK.out _ _ ⟨upV vs 116 (notT k2 R).val, by simp only [slotsPut, Act.put, List.setIfInBounds_toArray, List.set_cons_zero, List.set_cons_succ]; simp [upV, HE.out.1, HE.out.2], R, R2, N, C, HH.out.s2 hL hb hk ?_⟩
            cases e8 : L 8 with
            | false => exact .inr rfl
            | true =>
              have := HLT.out e8
              exact .inl (not_kq (KeyQ.mono (fun b hb => by omega) _ HQA.out) (by omega))
          · clear hA
            refine wpOp_step rfl (fun K' hK => ?_)
            have HK := Lib.hid hK
            clear hK
            simp only [slotsPut, Act.put, List.setIfInBounds_toArray, List.set_cons_zero, List.set_cons_succ]
            go_simp
            exact HK.out _ _ ⟨upV vs 117 (.func (.func 35) #[] #[]), (by simp only [slotsPut, Act.put, List.setIfInBounds_toArray, List.set_cons_zero, List.set_cons_succ]; simp [upV]), R1, R2, N, C, HH.out.s3⟩
          · clear hA
            obtain ⟨_, _, _, _, _, _, _, c0, c1, c2, c3, c4, c5, _⟩ := FS.out w hyw
            refine wpOp_step rfl (fun K' hK => ?_)
            have HK := Lib.hid hK
            clear hK
            simp only [slotsPut, Act.put, List.setIfInBounds_toArray, List.set_cons_zero, List.set_cons_succ]
            go_simp
            exact HK.out _ _ ⟨upV vs 118 (.agg #[.int .i64 bk, .int .u8 bf, .slice bsp bm bsc, .int .u32 bn, .string BX, .slice bkp bl bkc]), (by simp only [slotsPut, Act.put, List.setIfInBounds_toArray, List.set_cons_zero, List.set_cons_succ]; simp [upV]), R1, R2, N, C, HH.out.s4⟩
          · have ef := HH.out.l3 (hA ⟨3, .data⟩ (by simp) rfl)
            have ek := HH.out.l4 (hA ⟨4, .data⟩ (by simp) rfl)
            have hlt : L 8 = true → wq.heap.size ≤ C ∧ C < w.heap.size := fun e => ⟨(HH.out.l8 e).2.1, Cells.lt (HH.out.l8 e).2.2⟩
            have HLT := Lib.hid hlt
            have HE := Lib.hid (And.intro ef ek)
            clear hA ef ek hlt
            refine wpOp_step rfl (fun K' hK => ?_)
            have HK := Lib.hid hK
            clear hK
            simp only [slotsPut, Act.put, List.setIfInBounds_toArray, List.set_cons_zero, List.set_cons_succ]
            rw [HE.out.1, HE.out.2]
            go_wp2_with (go_at_call 35; refine (d2.out w hyw).mono ?_; rintro e w' ⟨R, rfl, hk, hR, hb⟩)
            refine HK.out _ _ ⟨upV vs 119 (notT o2 R).val, by simp only [slotsPut, Act.put, List.setIfInBounds_toArray, List.set_cons_zero, List.set_cons_succ]; simp [upV, HE.out.1, HE.out.2], R1, R, N, C, HH.out.s5 hL hb hk ?_⟩
            cases e8 : L 8 with
            | false => exact .inr rfl
            | true =>
              have := HLT.out e8
              exact .inl (not_kq (KeyQ.mono (fun b hb => by omega) _ HQB.out) (by omega))
          · have h2 := hA ⟨2, .data⟩ (by simp) rfl
            have h5 := hA ⟨5, .data⟩ (by simp) rfl
            have e2 : vs 116 = .agg #[.int .i64 8, .int .u8 0, .slice none 0 0, .int .u32 0, .string ⟨#[]⟩, .slice (some ⟨R1, 0, none⟩) 1 1] := (HH.out.l2 h2).1
            have e5 : vs 119 = .agg #[.int .i64 8, .int .u8 0, .slice none 0 0, .int .u32 0, .string ⟨#[]⟩, .slice (some ⟨R2, 0, none⟩) 1 1] := (HH.out.l5 h5).1
            have HE := Lib.hid (And.intro e2 e5)
            have HS6 := Lib.hid (HH.out.s6 hL h2 h5)
            clear hA e2 e5
            refine wpOp_step rfl (fun K' hK => ?_)
            have HK := Lib.hid hK
            clear hK
            simp only [slotsPut, Act.put, List.setIfInBounds_toArray, List.set_cons_zero, List.set_cons_succ]
            rw [HE.out.1, HE.out.2]
            go_simp
            exact HK.out _ _ ⟨upV vs 120 (.slice (some ⟨w.heap.size, 0, none⟩) 2 2), by simp only [slotsPut, Act.put, List.setIfInBounds_toArray, List.set_cons_zero, List.set_cons_succ]; simp [upV, HE.out.1, HE.out.2], R1, R2, _, C, HS6.out⟩
          · have h6 := hA ⟨6, .data⟩ (by simp) rfl
            have e6 := (HH.out.l6 h6).2.2.1
            have HE := Lib.hid e6
            have HS6 := Lib.hid (HH.out.s7 h6)
            clear hA e6
            refine wpOp_step rfl (fun K' hK => ?_)
            have HK := Lib.hid hK
            clear hK
            simp only [slotsPut, Act.put, List.setIfInBounds_toArray, List.set_cons_zero, List.set_cons_succ]
            rw [HE.out]
            go_simp
            exact HK.out _ _ ⟨upV vs 121 (.agg #[.int .i64 9, .int .u8 0, .slice none 0 0, .int .u32 0, .string ⟨#[]⟩, .slice (some ⟨N, 0, none⟩) 2 2]), by simp only [slotsPut, Act.put, List.setIfInBounds_toArray, List.set_cons_zero, List.set_cons_succ]; simp [upV, HE.out], R1, R2, N, C, HS6.out⟩
          · clear hA
            refine wpOp_step rfl (fun K' hK => ?_)
            have HK := Lib.hid hK
            clear hK
            simp only [slotsPut, Act.put, List.setIfInBounds_toArray, List.set_cons_zero, List.set_cons_succ]
            go_simp
            exact HK.out _ _ ⟨upV vs 16 (pK w.heap.size), (by simp only [slotsPut, Act.put, List.setIfInBounds_toArray, List.set_cons_zero, List.set_cons_succ]; simp [upV, pK]), R1, R2, N, _, HH.out.s8 hL⟩
          · have h7 := hA ⟨7, .data⟩ (by simp) rfl
            have h8 := hA ⟨8, .data⟩ (by simp) rfl
            have e7 := (HH.out.l7 h7).2
            obtain ⟨e8, _, hcA⟩ := HH.out.l8 h8
            rw [hL] at hcA
            have hcA : Cells w C 37 zK := hcA
            unfold zK at hcA
            have HS6 := Lib.hid (fun w' ht hc => HH.out.s9 (w' := w') h7 h8 ht hc)
            have y0 := hcA.cell (i := 0) rfl
            have y1 := hcA.cell (i := 1) rfl
            have y2 := hcA.cell (i := 2) rfl
            have y3 := hcA.cell (i := 3) rfl
            have y4 := hcA.cell (i := 4) rfl
            have y5 := hcA.cell (i := 5) rfl
            have yf := fun i => hcA.frozen i
            have yl := hcA.lt
            have HCA := Lib.hid hcA
            have HE := Lib.hid (And.intro e8 e7)
            clear hA hcA e8 e7
            refine wpOp_step rfl (fun K' hK => ?_)
            have HK := Lib.hid hK
            clear hK
            simp only [slotsPut, Act.put, List.setIfInBounds_toArray, List.set_cons_zero, List.set_cons_succ]
            rw [HE.out.1, HE.out.2]
            unfold pK
            go_simp
            exact HK.out _ _ ⟨vs, by simp only [slotsPut, Act.put, List.setIfInBounds_toArray, List.set_cons_zero, List.set_cons_succ]; rw [HE.out.1, HE.out.2]; rfl, R1, R2, N, C, HS6.out _ (((((((Tk.refl C w).trans (Tk.set w 0 _)).trans (Tk.set _ 1 _)).trans (Tk.set _ 2 _)).trans (Tk.set _ 3 _)).trans (Tk.set _ 4 _)).trans (Tk.set _ 5 _)) (HCA.out.six _ _ _ _ _ _)⟩
        · intro L vs we hall hJ
          obtain ⟨R1, R2, N, C, h⟩ := hJ
          obtain ⟨_, hn1, _⟩ := h.l2 (hall 2 (by decide))
          obtain ⟨_, hn2, _⟩ := h.l5 (hall 5 (by decide))
          obtain ⟨_, _, _, hrow, _⟩ := h.l6 (hall 6 (by decide))
          obtain ⟨e16, hC, hcC⟩ := h.l8 (hall 8 (by decide))
          rw [hall 9 (by decide)] at hcC
          have hcC : Cells we C 37 #[.int .i64 9, .int .u8 0, .slice none 0 0, .int .u32 0, .string ⟨#[]⟩, .slice (some ⟨N, 0, none⟩) 2 2] := hcC
          have hkE := two_keyC (kind := 9) hrow (by unfold rowTwo; rfl) hn1 hn2
          have hyE := HB10.out.trans (h.b.mono HB10.out.size)
          obtain ⟨z, hz⟩ : ∃ z, (!(va && vb)) = z := ⟨_, rfl⟩
          have hz2 : (!va || !vb) = z := by rw [← hz]; cases va <;> cases vb <;> rfl
          rw [hz] at CMA
          rw [hz2] at CME
          have FE : Hid (∀ x, Below we.heap.size we x → Below we.heap.size we x ∧ x.cell? ⟨w5.heap.size, 0, none⟩ = some (.int .u32 uid) ∧ x.cell? ⟨w5.heap.size, 1, none⟩ = some (.int .u8 fl) ∧ x.cell? ⟨w5.heap.size, 2, none⟩ = some (.string TX) ∧ x.cell? ⟨w4.heap.size, 0, none⟩ = some (.int .u32 sq) ∧ x.cell? ⟨w4.heap.size, 1, none⟩ = some (.int .u32 lS) ∧ x.cell? ⟨w4.heap.size, 2, none⟩ = some (.int .u32 lU) ∧ x.cell? ⟨wx.heap.size + 1, 0, none⟩ = some (.int .i64 10) ∧ x.cell? ⟨wx.heap.size + 1, 1, none⟩ = some (.int .u8 0) ∧ x.cell? ⟨wx.heap.size + 1, 2, none⟩ = some (.slice none 0 0) ∧ x.cell? ⟨wx.heap.size + 1, 3, none⟩ = some (.int .u32 0) ∧ x.cell? ⟨wx.heap.size + 1, 4, none⟩ = some (.string ⟨#[]⟩) ∧ x.cell? ⟨wx.heap.size + 1, 5, none⟩ = some (.slice (some ⟨wx.heap.size, 0, none⟩) 2 2) ∧ x.cell? ⟨C, 0, none⟩ = some (.int .i64 9) ∧ x.cell? ⟨C, 1, none⟩ = some (.int .u8 0) ∧ x.cell? ⟨C, 2, none⟩ = some (.slice none 0 0) ∧ x.cell? ⟨C, 3, none⟩ = some (.int .u32 0) ∧ x.cell? ⟨C, 4, none⟩ = some (.string ⟨#[]⟩) ∧ x.cell? ⟨C, 5, none⟩ = some (.slice (some ⟨N, 0, none⟩) 2 2)) := fun x hx => by
            have hy := hyE.trans (hx.mono hyE.size)
            obtain ⟨_, _, _, _, _, _, _, _, _, _, _, _, _, t0, t1, t2, u0, u1, u2, v0, v1, v2, v3, v4, v5, _⟩ := FS.out x hy
            have g := Cells.later hcC (hx.block _ (Cells.lt hcC))
            exact ⟨hx, t0, t1, t2, u0, u1, u2, v0, v1, v2, v3, v4, v5, g.cell (i := 0) rfl, g.cell (i := 1) rfl, g.cell (i := 2) rfl, g.cell (i := 3) rfl, g.cell (i := 4) rfl, g.cell (i := 5) rfl⟩
          have e1 : Hid (∀ w, Below we.heap.size we w → Calls Tryz.prog 35 #[.agg #[.int .i64 10, .int .u8 0, .slice none 0 0, .int .u32 0, .string ⟨#[]⟩, .slice (some ⟨wx.heap.size, 0, none⟩) 2 2]] w fun e w' => ∃ R, e = .returned (notT (twoT 10 k2 o2 wx.heap.size) R).val ∧ KeyC w' (notT (twoT 10 k2 o2 wx.heap.size) R) ∧ w.heap.size ≤ R ∧ Below w.heap.size w w') := fun w hw => d3.out w (hyE.trans (hw.mono hyE.size))
          have e2 : Hid (∀ R w, Below we.heap.size we w → KeyC w (notT (twoT 10 k2 o2 wx.heap.size) R) → Calls Tryz.prog 20 #[.agg #[.int .i64 8, .int .u8 0, .slice none 0 0, .int .u32 0, .string ⟨#[]⟩, .slice (some ⟨R, 0, none⟩) 1 1], .agg #[.int .u32 uid, .int .u8 fl, .string TX], .agg #[.int .u32 sq, .int .u32 lS, .int .u32 lU]] w fun e w' => e = .returned (.bool z) ∧ Below w.heap.size w w') := fun R w hw hk => CMA.out R w (hyE.trans (hw.mono hyE.size)) hk
          have e3 : Hid (∀ w, Below we.heap.size we w → Calls Tryz.prog 20 #[.agg #[.int .i64 9, .int .u8 0, .slice none 0 0, .int .u32 0, .string ⟨#[]⟩, .slice (some ⟨N, 0, none⟩) 2 2], .agg #[.int .u32 uid, .int .u8 fl, .string TX], .agg #[.int .u32 sq, .int .u32 lS, .int .u32 lU]] w fun e w' => e = .returned (.bool z) ∧ Below w.heap.size w w') := fun w hw => CME.out R1 R2 N w (hyE.trans (hw.mono hyE.size)) (KeyC.below hw _ hkE)
          have e4 : Hid (∀ w, Below we.heap.size we w → Calls Tryz.prog 23 #[] w fun e w' => e = .returned (.bool true) ∧ Below w.heap.size w w') := fun w hw => CAW.out w (hyE.trans (hw.mono hyE.size))
          have HFin : Hid (∀ w, Below we.heap.size we w → Below W.heap.size W w) := fun w hw => by
            have h1 := hyE.trans (hw.mono hyE.size)
            exact HWY2.out.trans (h1.mono HWY2.out.size)
          have s0 := FE.out we.drew (Below.refl _ _).drew
          have hcl := hcC.lt
          clear hz hz2 CMA CME CAW d1 d2 d3 hkE hyE hn1 hn2 hrow hcC hC h hall FS HKA HKB HQA HQB HB10
          simp only [slotsPut, Act.put, List.setIfInBounds_toArray, List.set_cons_zero, List.set_cons_succ]
          rw [e16]
          unfold pK
          clear e16
          simp only [Exit.then]
          apply_assumption
          go_wp2_with fail
          first
          | go_region_held3 (fun x => Below we.heap.size we x ∧ x.cell? ⟨w5.heap.size, 0, none⟩ = some (.int .u32 uid) ∧ x.cell? ⟨w5.heap.size, 1, none⟩ = some (.int .u8 fl) ∧ x.cell? ⟨w5.heap.size, 2, none⟩ = some (.string TX) ∧ x.cell? ⟨w4.heap.size, 0, none⟩ = some (.int .u32 sq) ∧ x.cell? ⟨w4.heap.size, 1, none⟩ = some (.int .u32 lS) ∧ x.cell? ⟨w4.heap.size, 2, none⟩ = some (.int .u32 lU) ∧ x.cell? ⟨wx.heap.size + 1, 0, none⟩ = some (.int .i64 10) ∧ x.cell? ⟨wx.heap.size + 1, 1, none⟩ = some (.int .u8 0) ∧ x.cell? ⟨wx.heap.size + 1, 2, none⟩ = some (.slice none 0 0) ∧ x.cell? ⟨wx.heap.size + 1, 3, none⟩ = some (.int .u32 0) ∧ x.cell? ⟨wx.heap.size + 1, 4, none⟩ = some (.string ⟨#[]⟩) ∧ x.cell? ⟨wx.heap.size + 1, 5, none⟩ = some (.slice (some ⟨wx.heap.size, 0, none⟩) 2 2) ∧ x.cell? ⟨C, 0, none⟩ = some (.int .i64 9) ∧ x.cell? ⟨C, 1, none⟩ = some (.int .u8 0) ∧ x.cell? ⟨C, 2, none⟩ = some (.slice none 0 0) ∧ x.cell? ⟨C, 3, none⟩ = some (.int .u32 0) ∧ x.cell? ⟨C, 4, none⟩ = some (.string ⟨#[]⟩) ∧ x.cell? ⟨C, 5, none⟩ = some (.slice (some ⟨N, 0, none⟩) 2 2)) (with_reducible assumption) (first | (have _ := T23; go_at_call 23; refine (e4.out _ (And.left (by assumption))).mono ?_; rintro e w9 ⟨rfl, hb9⟩; have hs9 := FE.out w9 (below_step (by assumption) hb9); have T24 : True := trivial) | (have _ := T22; go_at_call 20; refine (e3.out _ (And.left (by assumption))).mono ?_; rintro e w9 ⟨rfl, hb9⟩; have hs9 := FE.out w9 (below_step (by assumption) hb9); have T23 : True := trivial) | (have _ := T21; go_at_call 20; refine (e2.out _ _ (And.left (by assumption)) HK9.out).mono ?_; rintro e w9 ⟨rfl, hb9⟩; have hs9 := FE.out w9 (below_step (by assumption) hb9); have T22 : True := trivial) | (go_at_call 35; refine (e1.out _ (And.left (by assumption))).mono ?_; rintro e w9 ⟨Rn, rfl, hk9, hR9, hb9⟩; have hs9 := FE.out w9 (below_step (by assumption) hb9); have HK9 := Lib.hid hk9; clear hk9; have T21 : True := trivial))
          | fail "held13"
          have HZ := Lib.hid (HFin.out _ hs9.1)
          clear s0 hs9 hb9
          go_wp2_with fail
          go_ret
          exact ⟨rfl, HZ.out⟩
end Go.Proofs.YtdpmnmiimfhlhaaGreatDoor

/-
  The law's walk of SearchTells. MADE by wip/tools/mkTl3.py.
-/
import Derived.Test.YtpnnchpaaopdcaaGreatDoorZT04
import Derived.Test.YtpnnchpaaopdcaaGreatDoorZT39
import Derived.Test.YtpnnchpaaopdcaaGreatDoorZT21
set_option linter.unusedVariables false
set_option linter.unusedSimpArgs false
namespace Go.Proofs.YtpnnchpaaopdcaaGreatDoor
open Go Go.RowKit
theorem cell_nloop {W : World} {b o l : Nat} {r : Loop} {v : Value} (h : W.cell? ⟨b, o, none⟩ = some v) (hl : W.heap[l]? = some (.loop r)) : b ≠ l := by
  rintro rfl
  simp only [World.cell?, hl] at h
  cases h
mutual
theorem KeyC.nloop {W : World} {l : Nat} {r : Loop} (hl : W.heap[l]? = some (.loop r)) : ∀ k : KT, KeyC W k → KeyQ (fun b => b ≠ l) k
  | .mk _ _ set _ _ kids sp _ kp _, h => by
    unfold KeyC at h
    unfold KeyQ
    refine ⟨fun h1 a e => ?_, fun h1 a e => ?_, KidsC.nloop hl kids kp 0 h.2.2.2.2⟩
    · cases set with
      | nil => exact absurd rfl h1
      | cons x r =>
        obtain ⟨b, off, e2, hb, k1, _⟩ := h.2.2.2.1 0 x rfl
        rw [e] at e2; cases e2; exact cell_nloop k1 hl
    · cases kids with
      | nil => exact absurd rfl h1
      | cons x r =>
        have := h.2.2.2.2
        unfold KidsC at this
        obtain ⟨⟨b, off, e2, hb, h3, _⟩, _⟩ := this
        rw [e] at e2; cases e2
        obtain ⟨a0, a1, a2, a3, a4, a5, a6, a7, a8, a9, _, hc⟩ := x.form
        exact cell_nloop (h3 0 _ (by have := congrArg (fun z => z[0]?) hc; simpa using this)) hl
theorem KidsC.nloop {W : World} {l : Nat} {r : Loop} (hl : W.heap[l]? = some (.loop r)) : ∀ (ks : List KT) (kp : Option Addr) (i : Nat), KidsC W ks kp i → KidsQ (fun b => b ≠ l) ks
  | [], kp, i, h => by unfold KidsQ; trivial
  | k :: r, kp, i, h => by
    unfold KidsC at h
    unfold KidsQ
    obtain ⟨⟨b, off, h1, h2, h3, h4⟩, h5⟩ := h
    exact ⟨KeyC.nloop hl k h4, KidsC.nloop hl r kp (i + 1) h5⟩
end
attribute [local go_sem] Oper.semAt_some wide_fnK wide_depthK
def MP.at9 (m : MP) : Value := .agg #[.int .u32 m.uid, .int .u8 m.fl, .string (txt m.tx), .int .u32 m.sq, .int .u32 m.lastS, .int .u32 m.lastU]
set_option maxRecDepth 100000 in
set_option maxHeartbeats 8000000 in
theorem tells_walk {m : MP} (hfl : m.fl < 256) (k o : KT) (W : World) (hK : KeyC W k) (hO : KeyC W o) (hSk : smallK k) (hG : Gv W) (hX : MaxL W) (hP : PowTab W) :
    Calls Tryz.prog 3 #[k.val, o.val, m.at9] W fun e w' => e = .returned (.bool true) ∧ Below W.heap.size W w' := by
  have hTx : Tx W := ⟨hG.names, hG.words, hP, hP⟩
  have C1 := fun w hb => size_c k w (hK.below (W' := w) hb)
  have C2 := fun w hb => size_c o w (hO.below (W' := w) hb)
  have C3 : sizeK k ≤ 200 → ∀ w, Below W.heap.size W w → Calls Tryz.prog 12 #[k.val] w (OwnDoes w k) := fun h w hb => own14_c k (short_of_size k h) w (hK.below hb)
  have C4 : sizeK o ≤ 200 → ∀ w, Below W.heap.size W w → Calls Tryz.prog 12 #[o.val] w (OwnDoes w o) := fun h w hb => own14_c o (short_of_size o h) w (hO.below hb)
  have C5 := fun w hb => rright_c k 16 w (by omega) (by omega) (hK.below (W' := w) hb)
  have C6 : sizeK k ≤ 200 → ∀ w, Below W.heap.size W w → Calls Tryz.prog 14 #[k.val] w fun e w' => e = .returned (.string (txt (textK k))) ∧ Below w.heap.size w w' := fun h w hb => rtext14_c k w (hK.below hb) (text_short k hSk h).2
  have C7 : rightK k 16 = true → m.tx.length ≤ 70000 → ∀ w, Below W.heap.size W w → Calls Tryz.prog 15 #[k.val, m.recv, .int .u32 m.sq, .int .u32 m.lastS, .int .u32 m.lastU] w fun e w' => e = .returned (.bool (matchK m k)) ∧ Below w.heap.size w w' := fun h1 h2 w hb => rMatch14_c ⟨hfl, h2⟩ k 16 w (hK.below hb) h1
  have C8 := fun w hb => rsame_c k o w (hK.below (W' := w) hb) (hO.below (W' := w) hb)
  have C9 := fun w => own7S_c m w
  have C10 := fun w hb => awake14_c w (hG.below (W' := w) hb) (hX.below hb)
  have E1 : ∀ (k2 : KT) (w : World), bareK k2 = bareK k → KeyC w k2 → Calls Tryz.prog 16 #[k2.val] w fun e w' => e = .returned (.bool (rightK k 16)) ∧ Below w.heap.size w w' := fun k2 w h h2 => by
    have := sRight_c k2 w h2
    rw [rightK_of_bare h] at this
    exact this
  have E2 : sizeK k ≤ 200 → ∀ (k2 : KT) (w : World), bareK k2 = bareK k → KeyC w k2 → Below W.heap.size W w → Calls Tryz.prog 17 #[k2.val] w fun e w' => e = .returned (.string (txt (strK k))) ∧ Below w.heap.size w w' := fun hs k2 w h h2 hb => by
    have := sString_c k2 w h2 (ok_of_bare h (text_short k hSk hs).2) (hTx.below hb)
    have e : strK k2 = strK k := by unfold strK; rw [rightK_of_bare h, text_of_bare h]
    rw [e] at this
    exact this
  have E3 : ∀ (k2 o2 : KT) (w : World), bareK k2 = bareK k → bareK o2 = bareK o → KeyC w k2 → KeyC w o2 → Calls Tryz.prog 18 #[k2.val, o2.val] w fun e w' => e = .returned (.bool (sameK k o)) ∧ Below w.heap.size w w' := fun k2 o2 w h h' h2 h3 => by
    have := sSame_c k2 o2 w h2 h3
    rw [same_of_bare h h'] at this
    exact this
  have E4 : m.tx.length ≤ 70000 → ∀ (k2 : KT) (w : World), bareK k2 = bareK k → KeyC w k2 → Below W.heap.size W w → Calls Tryz.prog 20 #[k2.val, m.recv, m.plc] w fun e w' => e = .returned (.bool (matchP m k)) ∧ Below w.heap.size w w' := fun ht k2 w h h2 hb => by
    have := sMatch_c (m := m) ⟨hfl, ht⟩ k2 w h2 (hX.below hb)
    unfold matchP at this ⊢
    rw [rightK_of_bare h, match_of_bare h] at this
    exact this
  obtain ⟨xk, xf, xm, xn, xl, xsp, xkp, xsc, xkc, X, hxv, hxc⟩ := k.form
  obtain ⟨yk, yf, ym, yn, yl, ysp, ykp, ysc, ykc, Y, hyv, hyc⟩ := o.form
  rw [hxv] at C1 C3 C5 C6 C7 C8 ⊢
  rw [hyv] at C2 C4 C8 ⊢
  obtain ⟨sk, hsk⟩ : ∃ b, sizeK k = b := ⟨_, rfl⟩
  obtain ⟨so, hso⟩ : ∃ b, sizeK o = b := ⟨_, rfl⟩
  obtain ⟨r, hr⟩ : ∃ b, rightK k 16 = b := ⟨_, rfl⟩
  obtain ⟨sm, hsm⟩ : ∃ b, sameK k o = b := ⟨_, rfl⟩
  obtain ⟨mt, hmt⟩ : ∃ b, matchK m k = b := ⟨_, rfl⟩
  have hPL : sizeK k ≤ 200 → (preK k).length = sizeK k := preK_len k
  have hSH : sizeK k ≤ 200 → ShortK k := short_of_size k
  have hmp : matchP m k = (r && mt) := by unfold matchP; rw [hr, hmt]
  have hst : txt (strK k) = if r = true then txt (textK k) else ⟨#[]⟩ := by unfold strK; rw [hr]; cases r <;> rfl
  obtain ⟨TK, hTK⟩ : ∃ b, txt (textK k) = b := ⟨_, rfl⟩
  rw [hTK] at C6 hst
  rw [hst] at E2
  rw [hmp] at E4
  rw [hsk] at C1 C3 C6 E2 hPL hSH
  rw [hso] at C2 C4
  rw [hr] at C5 C7 E1
  rw [hsm] at C8 E3
  rw [hmt] at C7
  unfold MP.at9
  have esz := txt_size m.tx
  obtain ⟨TX, hTX⟩ : ∃ TX, txt m.tx = TX := ⟨_, rfl⟩
  obtain ⟨uid, huid⟩ : ∃ b, m.uid = b := ⟨_, rfl⟩
  obtain ⟨fl, hfl'⟩ : ∃ b, m.fl = b := ⟨_, rfl⟩
  obtain ⟨sq, hsq⟩ : ∃ b, m.sq = b := ⟨_, rfl⟩
  obtain ⟨lS, hlS⟩ : ∃ b, m.lastS = b := ⟨_, rfl⟩
  obtain ⟨lU, hlU⟩ : ∃ b, m.lastU = b := ⟨_, rfl⟩
  obtain ⟨tl, htl⟩ : ∃ b, m.tx.length = b := ⟨_, rfl⟩
  have hrecv : m.recv = .agg #[.int .u32 uid, .int .u8 fl, .string TX] := by unfold MP.recv; rw [huid, hfl', hTX]
  have hplc : m.plc = .agg #[.int .u32 sq, .int .u32 lS, .int .u32 lU] := by unfold MP.plc; rw [hsq, hlS, hlU]
  rw [hrecv, hsq, hlS, hlU, htl] at C7
  rw [hrecv] at C9
  rw [hrecv, hplc, htl] at E4
  rw [hTX, huid, hfl', hsq, hlS, hlU]
  rw [hTX, htl] at esz
  obtain ⟨w0, hw0, hb0, hs0, hc0, hd0, he0, hz0⟩ := tell_args W #[.int .i64 xk, .int .u8 xf, .slice xsp xm xsc, .int .u32 xn, .string X, .slice xkp xl xkc] #[.int .i64 yk, .int .u8 yf, .slice ysp ym ysc, .int .u32 yn, .string Y, .slice ykp yl ykc] #[.int .u32 uid, .int .u8 fl, .string TX, .int .u32 sq, .int .u32 lS, .int .u32 lU]
  have HW0 := Lib.hid hw0
  have HB0 := Lib.hid hb0
  have HS0 := Lib.hid hs0
  have HZ0 := Lib.hid hz0
  have HX0 := Lib.hid hxv
  have HE0 := Lib.hid (And.intro hc0 (And.intro hd0 he0))
  have HC1 := Lib.hid C1
  have HC2 := Lib.hid C2
  have HC3 := Lib.hid C3
  have HC4 := Lib.hid C4
  have HC5 := Lib.hid C5
  have HC6 := Lib.hid C6
  have HC7 := Lib.hid C7
  have HC8 := Lib.hid C8
  have HC9 := Lib.hid C9
  have HC10 := Lib.hid C10
  have HE1 := Lib.hid E1
  have HE2 := Lib.hid E2
  have HE3 := Lib.hid E3
  have HE4 := Lib.hid E4
  have HESZ := Lib.hid esz
  have HSK9 := Lib.hid hsk
  have HPL := Lib.hid hPL
  have HSH := Lib.hid hSH
  have FK : Hid (∀ x, Below w0.heap.size w0 x → (x.cell? ⟨W.heap.size, 0, none⟩ = some (.int .i64 xk) ∧ x.cell? ⟨W.heap.size, 1, none⟩ = some (.int .u8 xf) ∧ x.cell? ⟨W.heap.size, 2, none⟩ = some (.slice xsp xm xsc) ∧ x.cell? ⟨W.heap.size, 3, none⟩ = some (.int .u32 xn) ∧ x.cell? ⟨W.heap.size, 4, none⟩ = some (.string X) ∧ x.cell? ⟨W.heap.size, 5, none⟩ = some (.slice xkp xl xkc)) ∧
      (x.cell? ⟨W.heap.size + 1, 0, none⟩ = some (.int .i64 yk) ∧ x.cell? ⟨W.heap.size + 1, 1, none⟩ = some (.int .u8 yf) ∧ x.cell? ⟨W.heap.size + 1, 2, none⟩ = some (.slice ysp ym ysc) ∧ x.cell? ⟨W.heap.size + 1, 3, none⟩ = some (.int .u32 yn) ∧ x.cell? ⟨W.heap.size + 1, 4, none⟩ = some (.string Y) ∧ x.cell? ⟨W.heap.size + 1, 5, none⟩ = some (.slice ykp yl ykc)) ∧
      (x.cell? ⟨W.heap.size + 2, 0, none⟩ = some (.int .u32 uid) ∧ x.cell? ⟨W.heap.size + 2, 1, none⟩ = some (.int .u8 fl) ∧ x.cell? ⟨W.heap.size + 2, 2, none⟩ = some (.string TX) ∧ x.cell? ⟨W.heap.size + 2, 3, none⟩ = some (.int .u32 sq) ∧ x.cell? ⟨W.heap.size + 2, 4, none⟩ = some (.int .u32 lS) ∧ x.cell? ⟨W.heap.size + 2, 5, none⟩ = some (.int .u32 lU)) ∧ W.heap.size + 4 ≤ x.heap.size) := fun x hb => by
    have h := Cells.later hc0 (hb.block _ (Cells.lt hc0))
    have h2 := Cells.later hd0 (hb.block _ (Cells.lt hd0))
    have h3 := Cells.later he0 (hb.block _ (Cells.lt he0))
    exact ⟨⟨h.cell (i := 0) rfl, h.cell (i := 1) rfl, h.cell (i := 2) rfl, h.cell (i := 3) rfl, h.cell (i := 4) rfl, h.cell (i := 5) rfl⟩, ⟨h2.cell (i := 0) rfl, h2.cell (i := 1) rfl, h2.cell (i := 2) rfl, h2.cell (i := 3) rfl, h2.cell (i := 4) rfl, h2.cell (i := 5) rfl⟩, ⟨h3.cell (i := 0) rfl, h3.cell (i := 1) rfl, h3.cell (i := 2) rfl, h3.cell (i := 3) rfl, h3.cell (i := 4) rfl, h3.cell (i := 5) rfl⟩, by rw [← hs0]; exact hb.size⟩
  clear C1 C2 C3 C4 C5 C6 C7 C8 C9 C10 E1 E2 E3 E4 hw0 hb0 hs0 hz0 hc0 hd0 he0 hxv hyv hxc hyc hK hO hSk hG hX hP hTx hr hsm hmt hmp hst hTK hTX huid hfl' hsq hlS hlU htl hrecv hplc hfl esz hPL hSH hsk hso
  refine (callsIn_wide (n := 3)).1 ?_
  refine callsIn_of_wp_marks Tryz.func3 rfl trivial ?_
  simp only [Tryz.ntmps3, List.size_toArray, List.length_cons, List.length_nil, Nat.reduceAdd, Nat.reduceSub, Array.replicate_succ, Array.replicate_zero, List.push_toArray, List.append_toArray, List.nil_append, List.cons_append]
  refine wpIn_wide.2 ?_
  by_cases g1 : 200 < sk
  · have q1 : (200 : Int) < sk := by omega
    go_wp2_with fail
    rw [HW0.out]
    obtain ⟨⟨a0, a1, a2, a3, a4, a5⟩, _⟩ := FK.out w0 (Below.refl _ _)
    go_wp2_with fail
    refine (HC1.out w0 HB0.out).mono ?_
    rintro e w1 ⟨rfl, hb1⟩
    have hb3 : Boxed w1 (W.heap.size + 3) 4 (.bool false) := (hb1.block _ (lt_of_block HZ0.out)).trans HZ0.out
    have HBZ := Lib.hid (HB0.out.trans (hb1.mono HB0.out.size))
    have k3 := hb3.cell
    have f3 := hb3.frozen
    have l3 := lt_of_block hb3
    have e3 := (hb3.set (.bool true)).cell
    clear hb1 hb3 a0 a1 a2 a3 a4 a5
    go_wp2_with fail
    refine ⟨.bool true, ?_, rfl, HBZ.out.setCell (p := ⟨W.heap.size + 3, 0, none⟩) (by simp) _⟩
    simp [results, Tryz.f3, go_sem, e3]
  have q1 : ¬ (200 : Int) < sk := by omega
  by_cases g2 : 200 < so
  · have q2 : (200 : Int) < so := by omega
    go_wp2_with fail
    rw [HW0.out]
    obtain ⟨⟨a0, a1, a2, a3, a4, a5⟩, _⟩ := FK.out w0 (Below.refl _ _)
    go_wp2_with fail
    refine (HC1.out w0 HB0.out).mono ?_
    rintro e w1 ⟨rfl, hb1⟩
    have HB1 := Lib.hid hb1
    obtain ⟨_, ⟨b0, b1, b2, b3, b4, b5⟩, _⟩ := FK.out w1 hb1
    clear hb1 a0 a1 a2 a3 a4 a5
    go_wp2_with fail
    refine (HC2.out w1 (HB0.out.trans (HB1.out.mono HB0.out.size))).mono ?_
    rintro e w2 ⟨rfl, hb2⟩
    have hb22 := HB1.out.trans (hb2.mono HB1.out.size)
    have hb3 : Boxed w2 (W.heap.size + 3) 4 (.bool false) := (hb22.block _ (lt_of_block HZ0.out)).trans HZ0.out
    have HBZ := Lib.hid (HB0.out.trans (hb22.mono HB0.out.size))
    have k3 := hb3.cell
    have f3 := hb3.frozen
    have l3 := lt_of_block hb3
    have e3 := (hb3.set (.bool true)).cell
    clear hb2 hb22 hb3 b0 b1 b2 b3 b4 b5
    go_wp2_with fail
    refine ⟨.bool true, ?_, rfl, HBZ.out.setCell (p := ⟨W.heap.size + 3, 0, none⟩) (by simp) _⟩
    simp [results, Tryz.f3, go_sem, e3]
  have q2 : ¬ (200 : Int) < so := by omega
  by_cases g3 : 3000 < tl
  · have q3 : (3000 : Int) < TX.size := by have := HESZ.out; omega
    go_wp2_with fail
    rw [HW0.out]
    obtain ⟨⟨a0, a1, a2, a3, a4, a5⟩, _⟩ := FK.out w0 (Below.refl _ _)
    go_wp2_with fail
    refine (HC1.out w0 HB0.out).mono ?_
    rintro e w1 ⟨rfl, hb1⟩
    have HB1 := Lib.hid hb1
    obtain ⟨_, ⟨b0, b1, b2, b3, b4, b5⟩, _⟩ := FK.out w1 hb1
    clear hb1 a0 a1 a2 a3 a4 a5
    go_wp2_with fail
    refine (HC2.out w1 (HB0.out.trans (HB1.out.mono HB0.out.size))).mono ?_
    rintro e w2 ⟨rfl, hb2⟩
    have hb22 := HB1.out.trans (hb2.mono HB1.out.size)
    obtain ⟨_, _, ⟨_, _, c2, _, _, _⟩, _⟩ := FK.out w2 hb22
    have hb3 : Boxed w2 (W.heap.size + 3) 4 (.bool false) := (hb22.block _ (lt_of_block HZ0.out)).trans HZ0.out
    have HBZ := Lib.hid (HB0.out.trans (hb22.mono HB0.out.size))
    have k3 := hb3.cell
    have f3 := hb3.frozen
    have l3 := lt_of_block hb3
    have e3 := (hb3.set (.bool true)).cell
    clear hb2 hb22 hb3 b0 b1 b2 b3 b4 b5
    go_wp2_with fail
    refine ⟨.bool true, ?_, rfl, HBZ.out.setCell (p := ⟨W.heap.size + 3, 0, none⟩) (by simp) _⟩
    simp [results, Tryz.f3, go_sem, e3]
  have q3 : ¬ (3000 : Int) < TX.size := by have := HESZ.out; omega
  have HC3 := Lib.hid (HC3.out (by omega))
  have HC4 := Lib.hid (HC4.out (by omega))
  have HC6 := Lib.hid (HC6.out (by omega))
  have HE2 := Lib.hid (HE2.out (by omega))
  have HE4 := Lib.hid (HE4.out (by omega))
  have HC7 := Lib.hid (fun h => HC7.out h (by omega))
  have HPL := Lib.hid (HPL.out (by omega))
  have HSH := Lib.hid (HSH.out (by omega))
  go_wp2_with fail
  rw [HW0.out]
  obtain ⟨⟨a0, a1, a2, a3, a4, a5⟩, _⟩ := FK.out w0 (Below.refl _ _)
  go_wp2_with fail
  refine (HC1.out w0 HB0.out).mono ?_
  rintro e w1 ⟨rfl, hb1⟩
  have HB1 := Lib.hid hb1
  obtain ⟨_, ⟨b0, b1, b2, b3, b4, b5⟩, _⟩ := FK.out w1 hb1
  clear hb1 a0 a1 a2 a3 a4 a5
  go_wp2_with fail
  refine (HC2.out w1 (HB0.out.trans (HB1.out.mono HB0.out.size))).mono ?_
  rintro e w2 ⟨rfl, hb2⟩
  have hb22 := HB1.out.trans (hb2.mono HB1.out.size)
  obtain ⟨_, _, ⟨_, _, c2, _, _, _⟩, _⟩ := FK.out w2 hb22
  have HB2 := Lib.hid hb22
  clear hb2 hb22 b0 b1 b2 b3 b4 b5
  obtain ⟨w5, hw5⟩ : ∃ w5, w2 = w5 := ⟨_, rfl⟩
  rw [hw5] at HB2 c2 ⊢
  clear hw5 HB1
  go_wp2_with fail
  clear c2 q1 q2 q3
  refine wp_region_slots2 [30, 31, 32, 33, 7, 8] (fun L vs w => ∃ k2 C, TlF w5 (.agg #[.int .i64 xk, .int .u8 xf, .slice xsp xm xsc, .int .u32 xn, .string X, .slice xkp xl xkc]) (bareK k) k2 r C L vs w) (by kernel_rfl) (by kernel_rfl) ?_ ?_ ?_
  · exact fun vs => ⟨k, 0, TlF.start w5 w5.drew (Below.refl _ _).drew _ _ _ _ _ _⟩
  · intro i o9 L vs w ho hL hA hJ
    obtain ⟨k2, C, h⟩ := hJ
    have hi7 : i < 7 := (Array.getElem?_eq_some_iff.1 ho).1
    have hyw := HB2.out.trans (h.b.mono HB2.out.size)
    have hWw := HB0.out.trans (hyw.mono HB0.out.size)
    have HH := Lib.hid h
    clear h
    obtain rfl | rfl | rfl | rfl | rfl | rfl | rfl : i = 0 ∨ i = 1 ∨ i = 2 ∨ i = 3 ∨ i = 4 ∨ i = 5 ∨ i = 6 := by omega
    all_goals
      have ho' := Option.some.inj (show some _ = some o9 from ho)
      subst ho'
      clear ho
    · clear hA
      obtain ⟨⟨a0, a1, a2, a3, a4, a5⟩, _⟩ := FK.out w hyw
      refine wpOp_step rfl (fun K' hK => ?_)
      have HK := Lib.hid hK
      clear hK
      simp only [slotsPut, Act.put, List.setIfInBounds_toArray, List.set_cons_zero, List.set_cons_succ]
      go_simp
      exact HK.out _ _ ⟨upV vs 30 (.agg #[.int .i64 xk, .int .u8 xf, .slice xsp xm xsc, .int .u32 xn, .string X, .slice xkp xl xkc]), (by simp only [slotsPut, Act.put, List.setIfInBounds_toArray, List.set_cons_zero, List.set_cons_succ]; simp [upV]), k2, C, HH.out.s0⟩
    · have ek := HH.out.l0 (hA ⟨0, .data⟩ (by simp) rfl)
      have HE := Lib.hid ek
      clear hA ek
      refine wpOp_step rfl (fun K' hK => ?_)
      have HK := Lib.hid hK
      clear hK
      simp only [slotsPut, Act.put, List.setIfInBounds_toArray, List.set_cons_zero, List.set_cons_succ]
      rw [HE.out]
      go_wp2_with (go_at_call 12; refine (HC3.out w hWw).mono ?_; rintro e w' ⟨k3, rfl, hbk, hc, hi, hb⟩)
      exact HK.out _ _ ⟨upV vs 31 k3.val, (by simp only [slotsPut, Act.put, List.setIfInBounds_toArray, List.set_cons_zero, List.set_cons_succ]; simp [upV, HE.out]), k3, C, HH.out.s1 hL hb hbk hc hi⟩
    · clear hA
      obtain ⟨⟨a0, a1, a2, a3, a4, a5⟩, _⟩ := FK.out w hyw
      refine wpOp_step rfl (fun K' hK => ?_)
      have HK := Lib.hid hK
      clear hK
      simp only [slotsPut, Act.put, List.setIfInBounds_toArray, List.set_cons_zero, List.set_cons_succ]
      go_simp
      exact HK.out _ _ ⟨upV vs 32 (.agg #[.int .i64 xk, .int .u8 xf, .slice xsp xm xsc, .int .u32 xn, .string X, .slice xkp xl xkc]), (by simp only [slotsPut, Act.put, List.setIfInBounds_toArray, List.set_cons_zero, List.set_cons_succ]; simp [upV]), k2, C, HH.out.s2⟩
    · have ek := HH.out.l2 (hA ⟨2, .data⟩ (by simp) rfl)
      have HE := Lib.hid ek
      clear hA ek
      refine wpOp_step rfl (fun K' hK => ?_)
      have HK := Lib.hid hK
      clear hK
      simp only [slotsPut, Act.put, List.setIfInBounds_toArray, List.set_cons_zero, List.set_cons_succ]
      rw [HE.out]
      go_wp2_with (go_at_call 13; refine (HC5.out w hWw).mono ?_; rintro e w' ⟨rfl, hb⟩)
      exact HK.out _ _ ⟨upV vs 33 (.bool r), (by simp only [slotsPut, Act.put, List.setIfInBounds_toArray, List.set_cons_zero, List.set_cons_succ]; simp [upV, HE.out]), k2, C, HH.out.s3 hb⟩
    · clear hA
      refine wpOp_step rfl (fun K' hK => ?_)
      have HK := Lib.hid hK
      clear hK
      simp only [slotsPut, Act.put, List.setIfInBounds_toArray, List.set_cons_zero, List.set_cons_succ]
      go_simp
      exact HK.out _ _ ⟨upV vs 7 (pK w.heap.size), (by simp only [slotsPut, Act.put, List.setIfInBounds_toArray, List.set_cons_zero, List.set_cons_succ]; simp [upV, pK]), k2, _, HH.out.s4 hL⟩
    · have h1 := hA ⟨1, .data⟩ (by simp) rfl
      have h4 := hA ⟨4, .data⟩ (by simp) rfl
      obtain ⟨e1, hbk, hkc, hkq⟩ := HH.out.l1 h1
      obtain ⟨e4, _, hcA⟩ := HH.out.l4 h4
      rw [hL] at hcA
      have hcA : Cells w C 37 zK := hcA
      unfold zK at hcA
      obtain ⟨zk, zf, zm, zn, zl, zsp, zkp, zsc, zkc, Z, hzv, hzc⟩ := k2.form
      rw [hzv] at e1
      have HS6 := Lib.hid (fun w' ht hc => HH.out.s5 (w' := w') h1 h4 ht hc)
      rw [hzc] at HS6
      have y0 := hcA.cell (i := 0) rfl
      have y1 := hcA.cell (i := 1) rfl
      have y2 := hcA.cell (i := 2) rfl
      have y3 := hcA.cell (i := 3) rfl
      have y4 := hcA.cell (i := 4) rfl
      have y5 := hcA.cell (i := 5) rfl
      have yf9 := fun i => hcA.frozen i
      have yl9 := hcA.lt
      have HCA := Lib.hid hcA
      have HE := Lib.hid (And.intro e4 e1)
      clear hA hcA e4 e1 hzv hzc hbk hkc hkq
      refine wpOp_step rfl (fun K' hK => ?_)
      have HK := Lib.hid hK
      clear hK
      simp only [slotsPut, Act.put, List.setIfInBounds_toArray, List.set_cons_zero, List.set_cons_succ]
      rw [HE.out.1, HE.out.2]
      unfold pK
      go_simp
      exact HK.out _ _ ⟨vs, (by simp only [slotsPut, Act.put, List.setIfInBounds_toArray, List.set_cons_zero, List.set_cons_succ]; rw [HE.out.1, HE.out.2]; rfl), k2, C, HS6.out _ (((((((Tk.refl C w).trans (Tk.set w 0 _)).trans (Tk.set _ 1 _)).trans (Tk.set _ 2 _)).trans (Tk.set _ 3 _)).trans (Tk.set _ 4 _)).trans (Tk.set _ 5 _)) (HCA.out.six _ _ _ _ _ _)⟩
    · have e3 := HH.out.l3 (hA ⟨3, .data⟩ (by simp) rfl)
      have HE := Lib.hid e3
      clear hA e3
      refine wpOp_step rfl (fun K' hK => ?_)
      have HK := Lib.hid hK
      clear hK
      simp only [slotsPut, Act.put, List.setIfInBounds_toArray, List.set_cons_zero, List.set_cons_succ]
      rw [HE.out]
      go_simp
      exact HK.out _ _ ⟨upV vs 8 (.bool r), (by simp only [slotsPut, Act.put, List.setIfInBounds_toArray, List.set_cons_zero, List.set_cons_succ]; simp [upV, HE.out]), k2, C, HH.out.s6⟩
  · intro L vs we hall hJ
    obtain ⟨k2, C, h⟩ := hJ
    obtain ⟨e31, hbk, hkc, _⟩ := h.l1 (hall 1 (by decide))
    obtain ⟨e7, hC5, hcC⟩ := h.l4 (hall 4 (by decide))
    have e8 := h.l6 (hall 6 (by decide))
    rw [hall 5 (by decide)] at hcC
    have hcC : Cells we C 37 k2.cells.toArray := hcC
    obtain ⟨zk, zf, zm, zn, zl, zsp, zkp, zsc, zkc, Z, hzv, hzc⟩ := k2.form
    rw [hzc] at hcC
    have hyE := HB2.out.trans (h.b.mono HB2.out.size)
    have HYE := Lib.hid hyE
    have HBK := Lib.hid hbk
    have HKC := Lib.hid hkc
    have HCC := Lib.hid hcC
    have HZV := Lib.hid hzv
    have HE := Lib.hid (And.intro e7 e8)
    have ez8 : Boxed we (W.heap.size + 3) 4 (.bool false) := (hyE.block _ (lt_of_block HZ0.out)).trans HZ0.out
    have HZE := Lib.hid ez8
    clear h hall hbk hkc e7 e8 hC5 hcC hzv hzc hyE HB2 ez8 e31
    simp only [slotsPut, Act.put, List.setIfInBounds_toArray, List.set_cons_zero, List.set_cons_succ]
    rw [HE.out.1, HE.out.2]
    clear HE
    generalize vs 30 = v30
    generalize vs 31 = v31
    generalize vs 32 = v32
    generalize vs 33 = v33
    unfold pK
    simp only [Exit.then]
    apply_assumption
    obtain ⟨SV, hSV⟩ : ∃ b, (if r = true then TK else (⟨#[]⟩ : ByteArray)) = b := ⟨_, rfl⟩
    obtain ⟨mv, hmv⟩ : ∃ b, (r && mt) = b := ⟨_, rfl⟩
    rw [hSV] at HE2
    rw [hmv] at HE4
    have HSV := Lib.hid hSV
    have HMV := Lib.hid hmv
    clear hSV hmv
    obtain ⟨⟨a0, a1, a2, a3, a4, a5⟩, _, _, _⟩ := FK.out we HYE.out
    go_upto_if 34 with fail
    go_cut [9] from 35 (fun t9 wc => t9 = .string SV ∧ Hid (Below we.heap.size we wc))
    case first =>
      have HBF : Hid (Below we.heap.size we we) := Below.refl _ _
      cases r with
      | false =>
        have e1 : Hid (SV = (⟨#[]⟩ : ByteArray)) := by show SV = _; rw [← HSV.out]; rfl
        clear HSV
        go_wp2_with fail
        go_meet
        case rel => exact ⟨by rw [e1.out], HBF.out⟩
      | true =>
        have e1 : TK = SV := by rw [← HSV.out]; rfl
        clear HSV
        rw [e1] at HC6
        clear e1
        go_wp2_with fail
        refine (HC6.out we (HB0.out.trans (HYE.out.mono HB0.out.size))).mono ?_
        rintro e wf ⟨rfl, hbf⟩
        have HBF := Lib.hid hbf
        clear hbf
        go_wp2_with fail
        go_meet
        case rel => exact ⟨rfl, HBF.out⟩
    case rest =>
    obtain ⟨rfl, HBF⟩ := hcut
    obtain ⟨wf, hwf⟩ : ∃ wf, wc = wf := ⟨_, rfl⟩
    rw [hwf] at HBF ⊢
    clear hwf a0 a1 a2 a3 a4 a5 HC6 HSV
    have HYF := Lib.hid (HYE.out.trans (HBF.out.mono HYE.out.size))
    obtain ⟨⟨a0, a1, a2, a3, a4, a5⟩, _, ⟨t0, t1, t2, t3, t4, t5⟩, _⟩ := FK.out wf HYF.out
    go_upto_region 7 with fail
    go_cut [10] from 35 (fun t10 wc => t10 = .bool mv ∧ Hid (Below we.heap.size we wc))
    case first =>
      cases r with
      | false =>
        have e2 : Hid (mv = false) := by show mv = false; rw [← HMV.out]; rfl
        clear HMV
        go_wp2_with fail
        go_meet
        case rel => exact ⟨by rw [e2.out], HBF.out⟩
      | true =>
        have e2 : mt = mv := by rw [← HMV.out]; rfl
        clear HMV
        rw [e2] at HC7
        clear e2
        go_wp2_with fail
        refine (HC7.out (by trivial) wf (HB0.out.trans (HYF.out.mono HB0.out.size))).mono ?_
        rintro e wg ⟨rfl, hbg⟩
        have HBG := Lib.hid (HBF.out.trans (hbg.mono HBF.out.size))
        clear hbg
        go_wp2_with fail
        go_meet
        case rel => exact ⟨rfl, HBG.out⟩
    case rest =>
      obtain ⟨rfl, HBG⟩ := hcut
      obtain ⟨wg, hwg⟩ : ∃ wg, wc = wg := ⟨_, rfl⟩
      rw [hwg] at HBG ⊢
      clear hwg a0 a1 a2 a3 a4 a5 t0 t1 t2 t3 t4 t5 HC7 HMV HBF HYF
      have HYG := Lib.hid (HYE.out.trans (HBG.out.mono HYE.out.size))
      obtain ⟨_, _, ⟨t0, t1, t2, t3, t4, t5⟩, _⟩ := FK.out wg HYG.out
      go_wp2_with fail
      obtain ⟨P, hPz⟩ : ∃ P, wg.heap.size = P := ⟨_, rfl⟩
      obtain ⟨wq, hwq⟩ : ∃ wq, wg.alloc (.cells #[.int .u32 sq, .int .u32 lS, .int .u32 lU] 43) = wq := ⟨_, rfl⟩
      have hbq : Below we.heap.size we wq := by rw [← hwq]; exact HBG.out.alloc HBG.out.size _
      have hcP : Cells wq P 43 #[.int .u32 sq, .int .u32 lS, .int .u32 lU] := by rw [← hwq, ← hPz]; exact heap_alloc_new wg _
      rw [hwq, hPz]
      clear hPz hwq t0 t1 t2 t3 t4 t5
      have hyq := HYE.out.trans (hbq.mono HYE.out.size)
      have hWq := HB0.out.trans (hyq.mono HB0.out.size)
      have hkq := KeyC.below hbq k2 HKC.out
      have hcq := Cells.later HCC.out (hbq.block _ (Cells.lt HCC.out))
      have HYQ := Lib.hid hyq
      have HWQ := Lib.hid hWq
      have HKQ := Lib.hid hkq
      have FS : Hid (∀ x, Below wq.heap.size wq x → Below wq.heap.size wq x ∧ x.cell? ⟨C, 0, none⟩ = some (.int .i64 zk) ∧ x.cell? ⟨C, 1, none⟩ = some (.int .u8 zf) ∧ x.cell? ⟨C, 2, none⟩ = some (.slice zsp zm zsc) ∧ x.cell? ⟨C, 3, none⟩ = some (.int .u32 zn) ∧ x.cell? ⟨C, 4, none⟩ = some (.string Z) ∧ x.cell? ⟨C, 5, none⟩ = some (.slice zkp zl zkc) ∧ x.cell? ⟨W.heap.size, 0, none⟩ = some (.int .i64 xk) ∧ x.cell? ⟨W.heap.size, 1, none⟩ = some (.int .u8 xf) ∧ x.cell? ⟨W.heap.size, 2, none⟩ = some (.slice xsp xm xsc) ∧ x.cell? ⟨W.heap.size, 3, none⟩ = some (.int .u32 xn) ∧ x.cell? ⟨W.heap.size, 4, none⟩ = some (.string X) ∧ x.cell? ⟨W.heap.size, 5, none⟩ = some (.slice xkp xl xkc) ∧ x.cell? ⟨W.heap.size + 1, 0, none⟩ = some (.int .i64 yk) ∧ x.cell? ⟨W.heap.size + 1, 1, none⟩ = some (.int .u8 yf) ∧ x.cell? ⟨W.heap.size + 1, 2, none⟩ = some (.slice ysp ym ysc) ∧ x.cell? ⟨W.heap.size + 1, 3, none⟩ = some (.int .u32 yn) ∧ x.cell? ⟨W.heap.size + 1, 4, none⟩ = some (.string Y) ∧ x.cell? ⟨W.heap.size + 1, 5, none⟩ = some (.slice ykp yl ykc) ∧ x.cell? ⟨W.heap.size + 2, 0, none⟩ = some (.int .u32 uid) ∧ x.cell? ⟨W.heap.size + 2, 1, none⟩ = some (.int .u8 fl) ∧ x.cell? ⟨W.heap.size + 2, 2, none⟩ = some (.string TX) ∧ x.cell? ⟨W.heap.size + 2, 3, none⟩ = some (.int .u32 sq) ∧ x.cell? ⟨W.heap.size + 2, 4, none⟩ = some (.int .u32 lS) ∧ x.cell? ⟨W.heap.size + 2, 5, none⟩ = some (.int .u32 lU) ∧ x.cell? ⟨P, 0, none⟩ = some (.int .u32 sq) ∧ x.cell? ⟨P, 1, none⟩ = some (.int .u32 lS) ∧ x.cell? ⟨P, 2, none⟩ = some (.int .u32 lU)) := fun x hx => by
        obtain ⟨⟨a0, a1, a2, a3, a4, a5⟩, ⟨b0, b1, b2, b3, b4, b5⟩, ⟨t0, t1, t2, t3, t4, t5⟩, _⟩ := FK.out x (hyq.trans (hx.mono hyq.size))
        have h1 := Cells.later hcq (hx.block _ (Cells.lt hcq))
        have h2 := Cells.later hcP (hx.block _ (Cells.lt hcP))
        exact ⟨hx, h1.cell (i := 0) rfl, h1.cell (i := 1) rfl, h1.cell (i := 2) rfl, h1.cell (i := 3) rfl, h1.cell (i := 4) rfl, h1.cell (i := 5) rfl, a0, a1, a2, a3, a4, a5, b0, b1, b2, b3, b4, b5, t0, t1, t2, t3, t4, t5, h2.cell (i := 0) rfl, h2.cell (i := 1) rfl, h2.cell (i := 2) rfl⟩
      have ezq : Boxed wq (W.heap.size + 3) 4 (.bool false) := (hbq.block _ (lt_of_block HZE.out)).trans HZE.out
      have HZQ := Lib.hid ezq
      have hWC : ∀ w, Below wq.heap.size wq w → Below W.heap.size W w := fun w hw => hWq.trans (hw.mono hWq.size)
      have D1 := fun w (hw : Below wq.heap.size wq w) => HE1.out k2 w HBK.out (KeyC.below hw k2 hkq)
      have D2 := fun w (hw : Below wq.heap.size wq w) => HE2.out k2 w HBK.out (KeyC.below hw k2 hkq) (hWC w hw)
      have D3 := fun (o2 : KT) w (hw : Below wq.heap.size wq w) (hbo : bareK o2 = bareK o) (hco : KeyC w o2) => HE3.out k2 o2 w HBK.out hbo (KeyC.below hw k2 hkq) hco
      have D4 := fun w (hw : Below wq.heap.size wq w) => HE4.out k2 w HBK.out (KeyC.below hw k2 hkq) (hWC w hw)
      have D5 := fun w (hw : Below wq.heap.size wq w) => HC4.out w (hWC w hw)
      have D6 := fun w (hw : Below wq.heap.size wq w) => HC8.out w (hWC w hw)
      have D7 := fun w (hw : Below wq.heap.size wq w) => HC9.out w
      have DW := fun w (hw : Below wq.heap.size wq w) => sWalk_c k2 (short_of_bare HBK.out HSH.out) w (KeyC.below hw k2 hkq)
      rw [HZV.out] at D1 D2 D4 DW
      have D3 : ∀ (o2 : KT) w, Below wq.heap.size wq w → bareK o2 = bareK o → KeyC w o2 → Calls Tryz.prog 18 #[(.agg #[.int .i64 zk, .int .u8 zf, .slice zsp zm zsc, .int .u32 zn, .string Z, .slice zkp zl zkc]), o2.val] w fun e w' => e = .returned (.bool sm) ∧ Below w.heap.size w w' := fun o2 w h1 h2 h3 => by
        have := D3 o2 w h1 h2 h3
        rw [HZV.out] at this
        exact this
      have D1 := Lib.hid D1
      have D2 := Lib.hid D2
      have D3 := Lib.hid D3
      have D4 := Lib.hid D4
      have D5 := Lib.hid D5
      have D6 := Lib.hid D6
      have D7 := Lib.hid D7
      have DW := Lib.hid DW
      have HWC := Lib.hid hWC
      clear hbq hcP hyq hWq hkq hcq ezq hWC HYG HBG
      have hqb : ∀ b w, (binOp .neq 4 (.bool b) (.bool b)).run Tryz.prog w = .ok (.bool false) w := fun b w => by cases b <;> kernel_rfl
      go_cut [86] from 57 (fun t86 wc => t86 = .bool false ∧ Hid (Below wq.heap.size wq wc))
      case first =>
        refine wp_region_slotsF [57, 58, 59, 60, 61, 62, 63, 64, 65, 66, 67, 68, 69, 70, 71, 72, 73, 74, 75, 76, 77, 78, 79, 80, 81, 82, 83, 84, 85, 86] (fun L vs w => ∃ o2 : KT, RgV 57 wq.heap.size wq (fun o2 : KT => [(.agg #[.int .i64 zk, .int .u8 zf, .slice zsp zm zsc, .int .u32 zn, .string Z, .slice zkp zl zkc]), .bool r, .bool r, .bool false, .bool false, (.agg #[.int .i64 zk, .int .u8 zf, .slice zsp zm zsc, .int .u32 zn, .string Z, .slice zkp zl zkc]), .string SV, .string SV, .bool false, .bool false, .bool false, (.agg #[.int .i64 zk, .int .u8 zf, .slice zsp zm zsc, .int .u32 zn, .string Z, .slice zkp zl zkc]), (.agg #[.int .i64 yk, .int .u8 yf, .slice ysp ym ysc, .int .u32 yn, .string Y, .slice ykp yl ykc]), o2.val, .bool sm, (.agg #[.int .i64 xk, .int .u8 xf, .slice xsp xm xsc, .int .u32 xn, .string X, .slice xkp xl xkc]), (.agg #[.int .i64 yk, .int .u8 yf, .slice ysp ym ysc, .int .u32 yn, .string Y, .slice ykp yl ykc]), .bool sm, .bool false, .bool false, .bool false, (.agg #[.int .i64 zk, .int .u8 zf, .slice zsp zm zsc, .int .u32 zn, .string Z, .slice zkp zl zkc]), .pointer (some ⟨W.heap.size + 2, 0, none⟩), (.agg #[.int .u32 uid, .int .u8 fl, .string TX]), (.agg #[.int .u32 uid, .int .u8 fl, .string TX]), (.agg #[.int .u32 sq, .int .u32 lS, .int .u32 lU]), .bool mv, .bool mv, .bool false, .bool false]) 13 (fun o2 w => bareK o2 = bareK o ∧ KeyC w o2) o2 L vs w) _ (fun vs => by simp only [slotsPut, Act.put, List.setIfInBounds_toArray, List.set_cons_zero, List.set_cons_succ]; rfl) (by kernel_rfl) (by kernel_rfl) ?_ ?_ ?_
        · exact fun vs => ⟨o, RgV.start (Below.refl _ _).drew⟩
        · intro i o9 L vs w ho hL hA hJ
          obtain ⟨o2, h⟩ := hJ
          have hi7 : i < 30 := (Array.getElem?_eq_some_iff.1 ho).1
          have HH := Lib.hid h
          clear h
          obtain rfl | rfl | rfl | rfl | rfl | rfl | rfl | rfl | rfl | rfl | rfl | rfl | rfl | rfl | rfl | rfl | rfl | rfl | rfl | rfl | rfl | rfl | rfl | rfl | rfl | rfl | rfl | rfl | rfl | rfl : i = 0 ∨ i = 1 ∨ i = 2 ∨ i = 3 ∨ i = 4 ∨ i = 5 ∨ i = 6 ∨ i = 7 ∨ i = 8 ∨ i = 9 ∨ i = 10 ∨ i = 11 ∨ i = 12 ∨ i = 13 ∨ i = 14 ∨ i = 15 ∨ i = 16 ∨ i = 17 ∨ i = 18 ∨ i = 19 ∨ i = 20 ∨ i = 21 ∨ i = 22 ∨ i = 23 ∨ i = 24 ∨ i = 25 ∨ i = 26 ∨ i = 27 ∨ i = 28 ∨ i = 29 := by omega
          all_goals
            have ho' := Option.some.inj (show some _ = some o9 from ho)
            subst ho'
            clear ho
          · have hb9 := HH.out.b
            have HB9 := Lib.hid hb9
            obtain ⟨_, z0, z1, z2, z3, z4, z5, a0, a1, a2, a3, a4, a5, b0, b1, b2, b3, b4, b5, t0, t1, t2, t3, t4, t5, p0, p1, p2⟩ := FS.out w hb9
            clear hb9
            clear hA
            refine wpOp_step rfl (fun K' hK => ?_)
            have HK := Lib.hid hK
            clear hK
            try dsimp only
            go_wp2_with fail
            exact HK.out _ _ ⟨upV vs 57 ((.agg #[.int .i64 zk, .int .u8 zf, .slice zsp zm zsc, .int .u32 zn, .string Z, .slice zkp zl zkc])), (by simp [upV]), o2, HH.out.same 0 _ (by decide) rfl⟩
          · have e0 : vs 57 = (.agg #[.int .i64 zk, .int .u8 zf, .slice zsp zm zsc, .int .u32 zn, .string Z, .slice zkp zl zkc]) := HH.out.at 0 (hA ⟨0, .data⟩ (by simp) rfl) rfl
            have hb9 := HH.out.b
            have HB9 := Lib.hid hb9
            clear hb9
            have HE := Lib.hid (e0)
            clear e0
            clear hA
            refine wpOp_step rfl (fun K' hK => ?_)
            have HK := Lib.hid hK
            clear hK
            try dsimp only
            rw [HE.out]
            go_wp2_with (go_at_call 16; refine (D1.out w HB9.out).mono ?_; rintro e w' ⟨rfl, hb⟩)
            exact HK.out _ _ ⟨upV vs 58 (.bool r), (by simp [upV, HE.out]), o2, HH.out.step 1 _ (by decide) rfl (HB9.out.trans (hb.mono HB9.out.size)) (fun h => ⟨h.1, KeyC.below hb _ h.2⟩)⟩
          · have hb9 := HH.out.b
            have HB9 := Lib.hid hb9
            clear hb9
            clear hA
            refine wpOp_step rfl (fun K' hK => ?_)
            have HK := Lib.hid hK
            clear hK
            try dsimp only
            go_wp2_with fail
            exact HK.out _ _ ⟨upV vs 59 (.bool r), (by simp [upV]), o2, HH.out.same 2 _ (by decide) rfl⟩
          · have e1 : vs 58 = .bool r := HH.out.at 1 (hA ⟨1, .data⟩ (by simp) rfl) rfl
            have e2 : vs 59 = .bool r := HH.out.at 2 (hA ⟨2, .data⟩ (by simp) rfl) rfl
            have hb9 := HH.out.b
            have HB9 := Lib.hid hb9
            clear hb9
            have HE := Lib.hid (And.intro e1 e2)
            clear e1 e2
            clear hA
            refine wpOp_step rfl (fun K' hK => ?_)
            have HK := Lib.hid hK
            clear hK
            cases r
            all_goals
              try dsimp only
              rw [HE.out.1, HE.out.2]
              go_wp2_with fail
              exact HK.out _ _ ⟨upV vs 60 (.bool false), (by simp [upV, HE.out.1, HE.out.2]), o2, HH.out.same 3 _ (by decide) rfl⟩
          · have e3 : vs 60 = .bool false := HH.out.at 3 (hA ⟨3, .data⟩ (by simp) rfl) rfl
            have hb9 := HH.out.b
            have HB9 := Lib.hid hb9
            clear hb9
            have HE := Lib.hid (e3)
            clear e3
            clear hA
            refine wpOp_step rfl (fun K' hK => ?_)
            have HK := Lib.hid hK
            clear hK
            try dsimp only
            rw [HE.out]
            go_wp2_with fail
            exact HK.out _ _ ⟨upV vs 61 (.bool false), (by simp [upV, HE.out]), o2, HH.out.same 4 _ (by decide) rfl⟩
          · have e4 : vs 61 = .bool false := HH.out.at 4 (hA ⟨4, .guard⟩ (by simp) rfl) rfl
            have hb9 := HH.out.b
            have HB9 := Lib.hid hb9
            obtain ⟨_, z0, z1, z2, z3, z4, z5, a0, a1, a2, a3, a4, a5, b0, b1, b2, b3, b4, b5, t0, t1, t2, t3, t4, t5, p0, p1, p2⟩ := FS.out w hb9
            clear hb9
            have HE := Lib.hid (e4)
            clear e4
            clear hA
            refine wpOp_step rfl (fun K' hK => ?_)
            have HK := Lib.hid hK
            clear hK
            try dsimp only
            rw [HE.out]
            refine of_if (by kernel_rfl) ?_
            go_wp2_with fail
            exact HK.out _ _ ⟨upV vs 62 ((.agg #[.int .i64 zk, .int .u8 zf, .slice zsp zm zsc, .int .u32 zn, .string Z, .slice zkp zl zkc])), (by simp [upV, HE.out]), o2, HH.out.same 5 _ (by decide) rfl⟩
          · have e5 : vs 62 = (.agg #[.int .i64 zk, .int .u8 zf, .slice zsp zm zsc, .int .u32 zn, .string Z, .slice zkp zl zkc]) := HH.out.at 5 (hA ⟨5, .data⟩ (by simp) rfl) rfl
            have e4 : vs 61 = .bool false := HH.out.at 4 (hA ⟨4, .guard⟩ (by simp) rfl) rfl
            have hb9 := HH.out.b
            have HB9 := Lib.hid hb9
            clear hb9
            have HE := Lib.hid (And.intro e5 e4)
            clear e5 e4
            clear hA
            refine wpOp_step rfl (fun K' hK => ?_)
            have HK := Lib.hid hK
            clear hK
            try dsimp only
            rw [HE.out.1, HE.out.2]
            refine of_if (by kernel_rfl) ?_
            go_wp2_with (go_at_call 17; refine (D2.out w HB9.out).mono ?_; rintro e w' ⟨rfl, hb⟩)
            exact HK.out _ _ ⟨upV vs 63 (.string SV), (by simp [upV, HE.out.1, HE.out.2]), o2, HH.out.step 6 _ (by decide) rfl (HB9.out.trans (hb.mono HB9.out.size)) (fun h => ⟨h.1, KeyC.below hb _ h.2⟩)⟩
          · have e4 : vs 61 = .bool false := HH.out.at 4 (hA ⟨4, .guard⟩ (by simp) rfl) rfl
            have hb9 := HH.out.b
            have HB9 := Lib.hid hb9
            clear hb9
            have HE := Lib.hid (e4)
            clear e4
            clear hA
            refine wpOp_step rfl (fun K' hK => ?_)
            have HK := Lib.hid hK
            clear hK
            try dsimp only
            rw [HE.out]
            refine of_if (by kernel_rfl) ?_
            go_wp2_with fail
            exact HK.out _ _ ⟨upV vs 64 (.string SV), (by simp [upV, HE.out]), o2, HH.out.same 7 _ (by decide) rfl⟩
          · have e6 : vs 63 = .string SV := HH.out.at 6 (hA ⟨6, .data⟩ (by simp) rfl) rfl
            have e7 : vs 64 = .string SV := HH.out.at 7 (hA ⟨7, .data⟩ (by simp) rfl) rfl
            have e4 : vs 61 = .bool false := HH.out.at 4 (hA ⟨4, .guard⟩ (by simp) rfl) rfl
            have hb9 := HH.out.b
            have HB9 := Lib.hid hb9
            clear hb9
            have HE := Lib.hid (And.intro e6 (And.intro e7 e4))
            clear e6 e7 e4
            clear hA
            refine wpOp_step rfl (fun K' hK => ?_)
            have HK := Lib.hid hK
            clear hK
            try dsimp only
            rw [HE.out.1, HE.out.2.1, HE.out.2.2]
            refine of_if (by kernel_rfl) ?_
            go_wp2_with fail
            exact HK.out _ _ ⟨upV vs 65 (.bool false), (by simp [upV, HE.out.1, HE.out.2.1, HE.out.2.2]), o2, HH.out.same 8 _ (by decide) rfl⟩
          · have e4 : vs 61 = .bool false := HH.out.at 4 (hA ⟨4, .data⟩ (by simp) rfl) rfl
            have e8 : vs 65 = .bool false := HH.out.at 8 (hA ⟨8, .data⟩ (by simp) rfl) rfl
            have hb9 := HH.out.b
            have HB9 := Lib.hid hb9
            clear hb9
            have HE := Lib.hid (And.intro e4 e8)
            clear e4 e8
            clear hA
            refine wpOp_step rfl (fun K' hK => ?_)
            have HK := Lib.hid hK
            clear hK
            try dsimp only
            rw [HE.out.1, HE.out.2]
            go_wp2_with fail
            exact HK.out _ _ ⟨upV vs 66 (.bool false), (by simp [upV, HE.out.1, HE.out.2]), o2, HH.out.same 9 _ (by decide) rfl⟩
          · have e9 : vs 66 = .bool false := HH.out.at 9 (hA ⟨9, .data⟩ (by simp) rfl) rfl
            have hb9 := HH.out.b
            have HB9 := Lib.hid hb9
            clear hb9
            have HE := Lib.hid (e9)
            clear e9
            clear hA
            refine wpOp_step rfl (fun K' hK => ?_)
            have HK := Lib.hid hK
            clear hK
            try dsimp only
            rw [HE.out]
            go_wp2_with fail
            exact HK.out _ _ ⟨upV vs 67 (.bool false), (by simp [upV, HE.out]), o2, HH.out.same 10 _ (by decide) rfl⟩
          · have e10 : vs 67 = .bool false := HH.out.at 10 (hA ⟨10, .guard⟩ (by simp) rfl) rfl
            have hb9 := HH.out.b
            have HB9 := Lib.hid hb9
            obtain ⟨_, z0, z1, z2, z3, z4, z5, a0, a1, a2, a3, a4, a5, b0, b1, b2, b3, b4, b5, t0, t1, t2, t3, t4, t5, p0, p1, p2⟩ := FS.out w hb9
            clear hb9
            have HE := Lib.hid (e10)
            clear e10
            clear hA
            refine wpOp_step rfl (fun K' hK => ?_)
            have HK := Lib.hid hK
            clear hK
            try dsimp only
            rw [HE.out]
            refine of_if (by kernel_rfl) ?_
            go_wp2_with fail
            exact HK.out _ _ ⟨upV vs 68 ((.agg #[.int .i64 zk, .int .u8 zf, .slice zsp zm zsc, .int .u32 zn, .string Z, .slice zkp zl zkc])), (by simp [upV, HE.out]), o2, HH.out.same 11 _ (by decide) rfl⟩
          · have e10 : vs 67 = .bool false := HH.out.at 10 (hA ⟨10, .guard⟩ (by simp) rfl) rfl
            have hb9 := HH.out.b
            have HB9 := Lib.hid hb9
            obtain ⟨_, z0, z1, z2, z3, z4, z5, a0, a1, a2, a3, a4, a5, b0, b1, b2, b3, b4, b5, t0, t1, t2, t3, t4, t5, p0, p1, p2⟩ := FS.out w hb9
            clear hb9
            have HE := Lib.hid (e10)
            clear e10
            clear hA
            refine wpOp_step rfl (fun K' hK => ?_)
            have HK := Lib.hid hK
            clear hK
            try dsimp only
            rw [HE.out]
            refine of_if (by kernel_rfl) ?_
            go_wp2_with fail
            exact HK.out _ _ ⟨upV vs 69 ((.agg #[.int .i64 yk, .int .u8 yf, .slice ysp ym ysc, .int .u32 yn, .string Y, .slice ykp yl ykc])), (by simp [upV, HE.out]), o2, HH.out.same 12 _ (by decide) rfl⟩
          · have e12 : vs 69 = (.agg #[.int .i64 yk, .int .u8 yf, .slice ysp ym ysc, .int .u32 yn, .string Y, .slice ykp yl ykc]) := HH.out.at 12 (hA ⟨12, .data⟩ (by simp) rfl) rfl
            have e10 : vs 67 = .bool false := HH.out.at 10 (hA ⟨10, .guard⟩ (by simp) rfl) rfl
            have hb9 := HH.out.b
            have HB9 := Lib.hid hb9
            clear hb9
            have HE := Lib.hid (And.intro e12 e10)
            clear e12 e10
            clear hA
            refine wpOp_step rfl (fun K' hK => ?_)
            have HK := Lib.hid hK
            clear hK
            try dsimp only
            rw [HE.out.1, HE.out.2]
            refine of_if (by kernel_rfl) ?_
            go_wp2_with (go_at_call 12; refine (D5.out w HB9.out).mono ?_; rintro e w' ⟨o3, rfl, hbo, hco, _, hb⟩)
            exact HK.out _ _ ⟨upV vs 70 o3.val, (by simp [upV, HE.out.1, HE.out.2]), o3, HH.out.made hL (fun j hj => getD_mid (l1 := [(.agg #[.int .i64 zk, .int .u8 zf, .slice zsp zm zsc, .int .u32 zn, .string Z, .slice zkp zl zkc]), .bool r, .bool r, .bool false, .bool false, (.agg #[.int .i64 zk, .int .u8 zf, .slice zsp zm zsc, .int .u32 zn, .string Z, .slice zkp zl zkc]), .string SV, .string SV, .bool false, .bool false, .bool false, (.agg #[.int .i64 zk, .int .u8 zf, .slice zsp zm zsc, .int .u32 zn, .string Z, .slice zkp zl zkc]), (.agg #[.int .i64 yk, .int .u8 yf, .slice ysp ym ysc, .int .u32 yn, .string Y, .slice ykp yl ykc])]) (l2 := [.bool sm, (.agg #[.int .i64 xk, .int .u8 xf, .slice xsp xm xsc, .int .u32 xn, .string X, .slice xkp xl xkc]), (.agg #[.int .i64 yk, .int .u8 yf, .slice ysp ym ysc, .int .u32 yn, .string Y, .slice ykp yl ykc]), .bool sm, .bool false, .bool false, .bool false, (.agg #[.int .i64 zk, .int .u8 zf, .slice zsp zm zsc, .int .u32 zn, .string Z, .slice zkp zl zkc]), .pointer (some ⟨W.heap.size + 2, 0, none⟩), (.agg #[.int .u32 uid, .int .u8 fl, .string TX]), (.agg #[.int .u32 uid, .int .u8 fl, .string TX]), (.agg #[.int .u32 sq, .int .u32 lS, .int .u32 lU]), .bool mv, .bool mv, .bool false, .bool false]) hj) o3.val rfl (HB9.out.trans (hb.mono HB9.out.size)) ⟨hbo, hco⟩⟩
          · have e11 : vs 68 = (.agg #[.int .i64 zk, .int .u8 zf, .slice zsp zm zsc, .int .u32 zn, .string Z, .slice zkp zl zkc]) := HH.out.at 11 (hA ⟨11, .data⟩ (by simp) rfl) rfl
            have e13 : vs 70 = o2.val := HH.out.at 13 (hA ⟨13, .data⟩ (by simp) rfl) rfl
            have e10 : vs 67 = .bool false := HH.out.at 10 (hA ⟨10, .guard⟩ (by simp) rfl) rfl
            have hk13 := HH.out.k (hA ⟨13, .data⟩ (by simp) rfl)
            have HK13 := Lib.hid hk13
            clear hk13
            have hb9 := HH.out.b
            have HB9 := Lib.hid hb9
            clear hb9
            have HE := Lib.hid (And.intro e11 (And.intro e13 e10))
            clear e11 e13 e10
            clear hA
            refine wpOp_step rfl (fun K' hK => ?_)
            have HK := Lib.hid hK
            clear hK
            try dsimp only
            rw [HE.out.1, HE.out.2.1, HE.out.2.2]
            refine of_if (by kernel_rfl) ?_
            go_wp2_with (go_at_call 18; refine (D3.out o2 w HB9.out HK13.out.1 HK13.out.2).mono ?_; rintro e w' ⟨rfl, hb⟩)
            exact HK.out _ _ ⟨upV vs 71 (.bool sm), (by simp [upV, HE.out.1, HE.out.2.1, HE.out.2.2]), o2, HH.out.step 14 _ (by decide) rfl (HB9.out.trans (hb.mono HB9.out.size)) (fun h => ⟨h.1, KeyC.below hb _ h.2⟩)⟩
          · have e10 : vs 67 = .bool false := HH.out.at 10 (hA ⟨10, .guard⟩ (by simp) rfl) rfl
            have hb9 := HH.out.b
            have HB9 := Lib.hid hb9
            obtain ⟨_, z0, z1, z2, z3, z4, z5, a0, a1, a2, a3, a4, a5, b0, b1, b2, b3, b4, b5, t0, t1, t2, t3, t4, t5, p0, p1, p2⟩ := FS.out w hb9
            clear hb9
            have HE := Lib.hid (e10)
            clear e10
            clear hA
            refine wpOp_step rfl (fun K' hK => ?_)
            have HK := Lib.hid hK
            clear hK
            try dsimp only
            rw [HE.out]
            refine of_if (by kernel_rfl) ?_
            go_wp2_with fail
            exact HK.out _ _ ⟨upV vs 72 ((.agg #[.int .i64 xk, .int .u8 xf, .slice xsp xm xsc, .int .u32 xn, .string X, .slice xkp xl xkc])), (by simp [upV, HE.out]), o2, HH.out.same 15 _ (by decide) rfl⟩
          · have e10 : vs 67 = .bool false := HH.out.at 10 (hA ⟨10, .guard⟩ (by simp) rfl) rfl
            have hb9 := HH.out.b
            have HB9 := Lib.hid hb9
            obtain ⟨_, z0, z1, z2, z3, z4, z5, a0, a1, a2, a3, a4, a5, b0, b1, b2, b3, b4, b5, t0, t1, t2, t3, t4, t5, p0, p1, p2⟩ := FS.out w hb9
            clear hb9
            have HE := Lib.hid (e10)
            clear e10
            clear hA
            refine wpOp_step rfl (fun K' hK => ?_)
            have HK := Lib.hid hK
            clear hK
            try dsimp only
            rw [HE.out]
            refine of_if (by kernel_rfl) ?_
            go_wp2_with fail
            exact HK.out _ _ ⟨upV vs 73 ((.agg #[.int .i64 yk, .int .u8 yf, .slice ysp ym ysc, .int .u32 yn, .string Y, .slice ykp yl ykc])), (by simp [upV, HE.out]), o2, HH.out.same 16 _ (by decide) rfl⟩
          · have e15 : vs 72 = (.agg #[.int .i64 xk, .int .u8 xf, .slice xsp xm xsc, .int .u32 xn, .string X, .slice xkp xl xkc]) := HH.out.at 15 (hA ⟨15, .data⟩ (by simp) rfl) rfl
            have e16 : vs 73 = (.agg #[.int .i64 yk, .int .u8 yf, .slice ysp ym ysc, .int .u32 yn, .string Y, .slice ykp yl ykc]) := HH.out.at 16 (hA ⟨16, .data⟩ (by simp) rfl) rfl
            have e10 : vs 67 = .bool false := HH.out.at 10 (hA ⟨10, .guard⟩ (by simp) rfl) rfl
            have hb9 := HH.out.b
            have HB9 := Lib.hid hb9
            clear hb9
            have HE := Lib.hid (And.intro e15 (And.intro e16 e10))
            clear e15 e16 e10
            clear hA
            refine wpOp_step rfl (fun K' hK => ?_)
            have HK := Lib.hid hK
            clear hK
            try dsimp only
            rw [HE.out.1, HE.out.2.1, HE.out.2.2]
            refine of_if (by kernel_rfl) ?_
            go_wp2_with (go_at_call 19; refine (D6.out w HB9.out).mono ?_; rintro e w' ⟨rfl, hb⟩)
            exact HK.out _ _ ⟨upV vs 74 (.bool sm), (by simp [upV, HE.out.1, HE.out.2.1, HE.out.2.2]), o2, HH.out.step 17 _ (by decide) rfl (HB9.out.trans (hb.mono HB9.out.size)) (fun h => ⟨h.1, KeyC.below hb _ h.2⟩)⟩
          · have e14 : vs 71 = .bool sm := HH.out.at 14 (hA ⟨14, .data⟩ (by simp) rfl) rfl
            have e17 : vs 74 = .bool sm := HH.out.at 17 (hA ⟨17, .data⟩ (by simp) rfl) rfl
            have e10 : vs 67 = .bool false := HH.out.at 10 (hA ⟨10, .guard⟩ (by simp) rfl) rfl
            have hb9 := HH.out.b
            have HB9 := Lib.hid hb9
            clear hb9
            have HE := Lib.hid (And.intro e14 (And.intro e17 e10))
            clear e14 e17 e10
            clear hA
            refine wpOp_step rfl (fun K' hK => ?_)
            have HK := Lib.hid hK
            clear hK
            cases sm
            all_goals
              try dsimp only
              rw [HE.out.1, HE.out.2.1, HE.out.2.2]
              refine of_if (by kernel_rfl) ?_
              go_wp2_with fail
              exact HK.out _ _ ⟨upV vs 75 (.bool false), (by simp [upV, HE.out.1, HE.out.2.1, HE.out.2.2]), o2, HH.out.same 18 _ (by decide) rfl⟩
          · have e10 : vs 67 = .bool false := HH.out.at 10 (hA ⟨10, .data⟩ (by simp) rfl) rfl
            have e18 : vs 75 = .bool false := HH.out.at 18 (hA ⟨18, .data⟩ (by simp) rfl) rfl
            have hb9 := HH.out.b
            have HB9 := Lib.hid hb9
            clear hb9
            have HE := Lib.hid (And.intro e10 e18)
            clear e10 e18
            clear hA
            refine wpOp_step rfl (fun K' hK => ?_)
            have HK := Lib.hid hK
            clear hK
            try dsimp only
            rw [HE.out.1, HE.out.2]
            go_wp2_with fail
            exact HK.out _ _ ⟨upV vs 76 (.bool false), (by simp [upV, HE.out.1, HE.out.2]), o2, HH.out.same 19 _ (by decide) rfl⟩
          · have e19 : vs 76 = .bool false := HH.out.at 19 (hA ⟨19, .data⟩ (by simp) rfl) rfl
            have hb9 := HH.out.b
            have HB9 := Lib.hid hb9
            clear hb9
            have HE := Lib.hid (e19)
            clear e19
            clear hA
            refine wpOp_step rfl (fun K' hK => ?_)
            have HK := Lib.hid hK
            clear hK
            try dsimp only
            rw [HE.out]
            go_wp2_with fail
            exact HK.out _ _ ⟨upV vs 77 (.bool false), (by simp [upV, HE.out]), o2, HH.out.same 20 _ (by decide) rfl⟩
          · have e20 : vs 77 = .bool false := HH.out.at 20 (hA ⟨20, .guard⟩ (by simp) rfl) rfl
            have hb9 := HH.out.b
            have HB9 := Lib.hid hb9
            obtain ⟨_, z0, z1, z2, z3, z4, z5, a0, a1, a2, a3, a4, a5, b0, b1, b2, b3, b4, b5, t0, t1, t2, t3, t4, t5, p0, p1, p2⟩ := FS.out w hb9
            clear hb9
            have HE := Lib.hid (e20)
            clear e20
            clear hA
            refine wpOp_step rfl (fun K' hK => ?_)
            have HK := Lib.hid hK
            clear hK
            try dsimp only
            rw [HE.out]
            refine of_if (by kernel_rfl) ?_
            go_wp2_with fail
            exact HK.out _ _ ⟨upV vs 78 ((.agg #[.int .i64 zk, .int .u8 zf, .slice zsp zm zsc, .int .u32 zn, .string Z, .slice zkp zl zkc])), (by simp [upV, HE.out]), o2, HH.out.same 21 _ (by decide) rfl⟩
          · have e20 : vs 77 = .bool false := HH.out.at 20 (hA ⟨20, .guard⟩ (by simp) rfl) rfl
            have hb9 := HH.out.b
            have HB9 := Lib.hid hb9
            clear hb9
            have HE := Lib.hid (e20)
            clear e20
            clear hA
            refine wpOp_step rfl (fun K' hK => ?_)
            have HK := Lib.hid hK
            clear hK
            try dsimp only
            rw [HE.out]
            refine of_if (by kernel_rfl) ?_
            go_wp2_with fail
            exact HK.out _ _ ⟨upV vs 79 (.pointer (some ⟨W.heap.size + 2, 0, none⟩)), (by simp [upV, HE.out]), o2, HH.out.same 22 _ (by decide) rfl⟩
          · have e22 : vs 79 = .pointer (some ⟨W.heap.size + 2, 0, none⟩) := HH.out.at 22 (hA ⟨22, .data⟩ (by simp) rfl) rfl
            have e20 : vs 77 = .bool false := HH.out.at 20 (hA ⟨20, .guard⟩ (by simp) rfl) rfl
            have hb9 := HH.out.b
            have HB9 := Lib.hid hb9
            obtain ⟨_, z0, z1, z2, z3, z4, z5, a0, a1, a2, a3, a4, a5, b0, b1, b2, b3, b4, b5, t0, t1, t2, t3, t4, t5, p0, p1, p2⟩ := FS.out w hb9
            clear hb9
            have HE := Lib.hid (And.intro e22 e20)
            clear e22 e20
            clear hA
            refine wpOp_step rfl (fun K' hK => ?_)
            have HK := Lib.hid hK
            clear hK
            try dsimp only
            rw [HE.out.1, HE.out.2]
            refine of_if (by kernel_rfl) ?_
            go_wp2_with fail
            exact HK.out _ _ ⟨upV vs 80 ((.agg #[.int .u32 uid, .int .u8 fl, .string TX])), (by simp [upV, HE.out.1, HE.out.2]), o2, HH.out.same 23 _ (by decide) rfl⟩
          · have e23 : vs 80 = (.agg #[.int .u32 uid, .int .u8 fl, .string TX]) := HH.out.at 23 (hA ⟨23, .data⟩ (by simp) rfl) rfl
            have e20 : vs 77 = .bool false := HH.out.at 20 (hA ⟨20, .guard⟩ (by simp) rfl) rfl
            have hb9 := HH.out.b
            have HB9 := Lib.hid hb9
            clear hb9
            have HE := Lib.hid (And.intro e23 e20)
            clear e23 e20
            clear hA
            refine wpOp_step rfl (fun K' hK => ?_)
            have HK := Lib.hid hK
            clear hK
            try dsimp only
            rw [HE.out.1, HE.out.2]
            refine of_if (by kernel_rfl) ?_
            go_wp2_with (go_at_call 21; refine (D7.out w HB9.out).mono ?_; rintro e w' ⟨rfl, hb⟩)
            exact HK.out _ _ ⟨upV vs 81 ((.agg #[.int .u32 uid, .int .u8 fl, .string TX])), (by simp [upV, HE.out.1, HE.out.2]), o2, HH.out.step 24 _ (by decide) rfl (HB9.out.trans (hb.mono HB9.out.size)) (fun h => ⟨h.1, KeyC.below hb _ h.2⟩)⟩
          · have e20 : vs 77 = .bool false := HH.out.at 20 (hA ⟨20, .guard⟩ (by simp) rfl) rfl
            have hb9 := HH.out.b
            have HB9 := Lib.hid hb9
            obtain ⟨_, z0, z1, z2, z3, z4, z5, a0, a1, a2, a3, a4, a5, b0, b1, b2, b3, b4, b5, t0, t1, t2, t3, t4, t5, p0, p1, p2⟩ := FS.out w hb9
            clear hb9
            have HE := Lib.hid (e20)
            clear e20
            clear hA
            refine wpOp_step rfl (fun K' hK => ?_)
            have HK := Lib.hid hK
            clear hK
            try dsimp only
            rw [HE.out]
            refine of_if (by kernel_rfl) ?_
            go_wp2_with fail
            exact HK.out _ _ ⟨upV vs 82 ((.agg #[.int .u32 sq, .int .u32 lS, .int .u32 lU])), (by simp [upV, HE.out]), o2, HH.out.same 25 _ (by decide) rfl⟩
          · have e21 : vs 78 = (.agg #[.int .i64 zk, .int .u8 zf, .slice zsp zm zsc, .int .u32 zn, .string Z, .slice zkp zl zkc]) := HH.out.at 21 (hA ⟨21, .data⟩ (by simp) rfl) rfl
            have e24 : vs 81 = (.agg #[.int .u32 uid, .int .u8 fl, .string TX]) := HH.out.at 24 (hA ⟨24, .data⟩ (by simp) rfl) rfl
            have e25 : vs 82 = (.agg #[.int .u32 sq, .int .u32 lS, .int .u32 lU]) := HH.out.at 25 (hA ⟨25, .data⟩ (by simp) rfl) rfl
            have e20 : vs 77 = .bool false := HH.out.at 20 (hA ⟨20, .guard⟩ (by simp) rfl) rfl
            have hb9 := HH.out.b
            have HB9 := Lib.hid hb9
            clear hb9
            have HE := Lib.hid (And.intro e21 (And.intro e24 (And.intro e25 e20)))
            clear e21 e24 e25 e20
            clear hA
            refine wpOp_step rfl (fun K' hK => ?_)
            have HK := Lib.hid hK
            clear hK
            try dsimp only
            rw [HE.out.1, HE.out.2.1, HE.out.2.2.1, HE.out.2.2.2]
            refine of_if (by kernel_rfl) ?_
            go_wp2_with (go_at_call 20; refine (D4.out w HB9.out).mono ?_; rintro e w' ⟨rfl, hb⟩)
            exact HK.out _ _ ⟨upV vs 83 (.bool mv), (by simp [upV, HE.out.1, HE.out.2.1, HE.out.2.2.1, HE.out.2.2.2]), o2, HH.out.step 26 _ (by decide) rfl (HB9.out.trans (hb.mono HB9.out.size)) (fun h => ⟨h.1, KeyC.below hb _ h.2⟩)⟩
          · have e20 : vs 77 = .bool false := HH.out.at 20 (hA ⟨20, .guard⟩ (by simp) rfl) rfl
            have hb9 := HH.out.b
            have HB9 := Lib.hid hb9
            clear hb9
            have HE := Lib.hid (e20)
            clear e20
            clear hA
            refine wpOp_step rfl (fun K' hK => ?_)
            have HK := Lib.hid hK
            clear hK
            try dsimp only
            rw [HE.out]
            refine of_if (by kernel_rfl) ?_
            go_wp2_with fail
            exact HK.out _ _ ⟨upV vs 84 (.bool mv), (by simp [upV, HE.out]), o2, HH.out.same 27 _ (by decide) rfl⟩
          · have e26 : vs 83 = .bool mv := HH.out.at 26 (hA ⟨26, .data⟩ (by simp) rfl) rfl
            have e27 : vs 84 = .bool mv := HH.out.at 27 (hA ⟨27, .data⟩ (by simp) rfl) rfl
            have e20 : vs 77 = .bool false := HH.out.at 20 (hA ⟨20, .guard⟩ (by simp) rfl) rfl
            have hb9 := HH.out.b
            have HB9 := Lib.hid hb9
            clear hb9
            have HE := Lib.hid (And.intro e26 (And.intro e27 e20))
            clear e26 e27 e20
            clear hA
            refine wpOp_step rfl (fun K' hK => ?_)
            have HK := Lib.hid hK
            clear hK
            cases mv
            all_goals
              try dsimp only
              rw [HE.out.1, HE.out.2.1, HE.out.2.2]
              refine of_if (by kernel_rfl) ?_
              go_wp2_with fail
              exact HK.out _ _ ⟨upV vs 85 (.bool false), (by simp [upV, HE.out.1, HE.out.2.1, HE.out.2.2]), o2, HH.out.same 28 _ (by decide) rfl⟩
          · have e20 : vs 77 = .bool false := HH.out.at 20 (hA ⟨20, .data⟩ (by simp) rfl) rfl
            have e28 : vs 85 = .bool false := HH.out.at 28 (hA ⟨28, .data⟩ (by simp) rfl) rfl
            have hb9 := HH.out.b
            have HB9 := Lib.hid hb9
            clear hb9
            have HE := Lib.hid (And.intro e20 e28)
            clear e20 e28
            clear hA
            refine wpOp_step rfl (fun K' hK => ?_)
            have HK := Lib.hid hK
            clear hK
            try dsimp only
            rw [HE.out.1, HE.out.2]
            go_wp2_with fail
            exact HK.out _ _ ⟨upV vs 86 (.bool false), (by simp [upV, HE.out.1, HE.out.2]), o2, HH.out.same 29 _ (by decide) rfl⟩
        · intro L vs we2 hall hJ
          obtain ⟨o2, h⟩ := hJ
          have e86 : vs 86 = .bool false := h.at 29 (hall 29 (by decide)) rfl
          have HE := Lib.hid e86
          have HB9 := Lib.hid h.b
          clear h e86 hall
          try dsimp only
          rw [HE.out]
          generalize vs 57 = v57; generalize vs 58 = v58; generalize vs 59 = v59; generalize vs 60 = v60; generalize vs 61 = v61; generalize vs 62 = v62; generalize vs 63 = v63; generalize vs 64 = v64; generalize vs 65 = v65; generalize vs 66 = v66; generalize vs 67 = v67; generalize vs 68 = v68; generalize vs 69 = v69; generalize vs 70 = v70; generalize vs 71 = v71; generalize vs 72 = v72; generalize vs 73 = v73; generalize vs 74 = v74; generalize vs 75 = v75; generalize vs 76 = v76; generalize vs 77 = v77; generalize vs 78 = v78; generalize vs 79 = v79; generalize vs 80 = v80; generalize vs 81 = v81; generalize vs 82 = v82; generalize vs 83 = v83; generalize vs 84 = v84; generalize vs 85 = v85
          clear HE
          go_wp2_with fail
          go_meet
          case rel => exact ⟨rfl, HB9.out⟩
      case rest =>
        obtain ⟨rfl, HB9⟩ := hcut
        obtain ⟨w9, hw9⟩ : ∃ w9, wc = w9 := ⟨_, rfl⟩
        rw [hw9] at HB9 ⊢
        clear hw9 D1 D2 D3 D4 D5 D6 D7 HC3 HC4 HE1 HE2 HE3 HE4 HC8 HC9 hqb
        obtain ⟨_, z0, z1, z2, z3, z4, z5, _⟩ := FS.out w9 HB9.out
        go_wp2_with fail
        refine (DW.out w9 HB9.out).mono ?_
        rintro e wA ⟨A, k3, rfl, hbx, hbk3, hk3, hsh3, hA, hbA⟩
        clear z0 z1 z2 z3 z4 z5
        have hqn : ∀ w, (binOp .eql 53 (.func (.func 72) #[] #[.pointer (some ⟨A, 0, none⟩)]) .nilFunc).run Tryz.prog w = .ok (.bool false) w := fun w => by kernel_rfl
        have hbA2 : Below wq.heap.size wq wA := HB9.out.trans (hbA.mono HB9.out.size)
        have hAl : A < wA.heap.size := Box6.lt hbx
        have hzA : wq.heap.size ≤ wA.heap.size := hbA2.size
        have hWz : W.heap.size + 4 ≤ wq.heap.size := (FK.out wq HYQ.out).2.2.2
        have hlen3 : (preK k3).length = sk := by
          have e1 : sizeK k3 = sk := (size_of_bare (hbk3.trans HBK.out)).trans HSK9.out
          rw [preK_len k3 (by omega), e1]
        have hsk3 : SKC wA A k3 wA := ⟨hbx, Nat.le_refl _, fun _ _ => rfl⟩
        have HSKC := Lib.hid hsk3
        have HK3 := Lib.hid hk3
        have HBK3 := Lib.hid hbk3
        have HSH3 := Lib.hid hsh3
        have HBA := Lib.hid hbA2
        have HLEN := Lib.hid hlen3
        clear hbx hbk3 hk3 hsh3 hA hbA hbA2 hlen3 hsk3 DW HB9
        go_wp2_with fail
        obtain ⟨wB, hwB⟩ : ∃ wB, wA.alloc (.cells #[.int .i64 0] 3) = wB := ⟨_, rfl⟩
        have hN : Boxed wB wA.heap.size 3 (.int .i64 0) := by rw [← hwB]; exact Boxed.new wA 3 (.int .i64 0)
        have hbB : Below wA.heap.size wA wB := by rw [← hwB]; exact (Below.refl _ _).alloc (Nat.le_refl _) _
        have hsB : wB.heap.size = wA.heap.size + 1 := by rw [← hwB]; simp
        rw [hwB]
        have HI0 : Hid (Below wA.heap.size wA wB ∧ Boxed wB wA.heap.size 3 (.int .i64 (([] : List KT).length : Nat)) ∧ wB.heap.size ≤ wB.heap.size) := ⟨hbB, hN, Nat.le_refl _⟩
        have HSB : Hid (∀ W', Below wB.heap.size wB W' → SKC wA A k3 W') := fun W' h => HSKC.out.below (hbB.trans (h.mono (by omega)))
        clear hwB hN hbB
        refine (wpIn_wide (n := 3)).1 ?_
        refine wpIn_rangeIterV (gf := 72) (lb := #[.pointer (some ⟨A, 0, none⟩)]) (by first | rfl | (simp [Act.eval, Operand.eval])) (enters_of Tryz.func72 (by kernel_rfl) rfl) (walk1_iter k3 HSH3.out wA A HK3.out) (fun _ h => h.elim) (fun _ _ _ _ _ _ => trivial) (fun _ => False) (fun _ h => h.elim) (fun _ => rfl)
          (fun j hj => by
            rcases hj with rfl | hj
            · omega
            · omega)
          HSB.out
          (fun pre W' => Below wA.heap.size wA W' ∧ Boxed W' wA.heap.size 3 (.int .i64 (pre.length : Nat)) ∧ wB.heap.size ≤ W'.heap.size)
          (fun c pre W' => False)
          (fun s' A' B' h hAB => by
            have h2 : Itself skT0 wB.heap.size A' B' := hAB.own (Nat.le_refl _) (fun _ h => h.elim)
            exact ⟨h.1.trans (h2.toBelow.mono (by omega)), h2.boxed h.2.1 (.inl (by omega)), Nat.le_trans h.2.2 h2.size⟩)
          (fun c s' A' B' h hAB => h.elim)
          HI0.out ?round ?done ?stop
        case round =>
          rintro l' pre x W1 hl ⟨rr, hrr⟩ ⟨hbw, hn, hs1⟩ hst
          have hl1 : l' < W1.heap.size := (Array.getElem?_eq_some_iff.1 hrr).1
          have hfirst : pre = [] → bareK x = bareK k3 := fun e => by subst e; exact stepW_first hst
          have hxq := KeyC.nloop hrr x hst.1
          have hle := stepW_len hst
          obtain ⟨m, hm⟩ : ∃ m, pre.length = m := ⟨_, rfl⟩
          rw [HLEN.out, hm] at hle
          have HM := Lib.hid hm
          obtain ⟨uk, uf, um, un, ul, usp, ukp, usc, ukc, U, hxv, hxc⟩ := x.form
          have HXV := Lib.hid hxv
          have HXC := Lib.hid hxc
          have HXK := Lib.hid hst.1
          have HXQ := Lib.hid hxq
          have HF := Lib.hid hfirst
          rw [hm] at hn
          clear hrr hst hxc hfirst hxq hm
          rw [hxv]
          clear hxv
          gi_wp2_with fail
          refine ⟨Keeps.alloc _ _ _ _ _, fun W2 hits hsz2 hrec hoth => ?_⟩
          have hit2 : Itself skT0 wB.heap.size W1 W2 := (Itself.alloc _ _ _ hs1).trans hits
          have hn2 := hit2.boxed hn (.inl (by omega))
          have hb2 : Below wA.heap.size wA W2 := hbw.trans (hit2.toBelow.mono (by omega))
          have hs2 : wB.heap.size ≤ W2.heap.size := Nat.le_trans hs1 hit2.size
          have hbn : Box6 W2 W1.heap.size x := by
            have h1 := (hoth _ (by omega)).trans (heap_alloc_new W1 (.cells #[.int .i64 uk, .int .u8 uf, .slice usp um usc, .int .u32 un, .string U, .slice ukp ul ukc] 37))
            rw [← HXC.out] at h1
            exact h1
          have hkp : KeepQ (fun b => b ≠ l') W1 W2 := ⟨hit2.size, fun b hb hlt => (hoth b hb).trans (Below.heap_alloc _ _ _ hlt)⟩
          have hx2 : KeyC W2 x := KeyC.keepQ hkp x HXK.out HXQ.out
          have hcell : ∀ (q : Nat) (u : Value), (#[.int .i64 uk, .int .u8 uf, .slice usp um usc, .int .u32 un, .string U, .slice ukp ul ukc] : Array Value)[q]? = some u → W2.cell? ⟨W1.heap.size, q, none⟩ = some u := fun q u hu => by
            rw [← HXC.out] at hu; exact hbn.cell (by simpa using hu)
          have d0 := hcell 0 _ rfl
          have d1 := hcell 1 _ rfl
          have d2 := hcell 2 _ rfl
          have d3 := hcell 3 _ rfl
          have d4 := hcell 4 _ rfl
          have d5 := hcell 5 _ rfl
          have hq2 : Below wq.heap.size wq W2 := HBA.out.trans (hb2.mono HBA.out.size)
          obtain ⟨_, z0, z1, z2, z3, z4, z5, _⟩ := FS.out W2 hq2
          have cn := hn2.cell
          have fn := hn2.frozen
          have ln := lt_of_block hn2
          have CS := sSame_c x k2 W2 hx2 (KeyC.below hq2 k2 HKQ.out)
          rw [HXV.out, HZV.out] at CS
          have HN2 := Lib.hid hn2
          have HB2 := Lib.hid hb2
          clear hits hit2 hn2 hb2 hbn hcell hoth hsz2 hrec hbw hn hkp hx2 hq2
          by_cases h0 : m = 0
          · subst h0
            have hs9 : sameK x k2 = true := by
              have e1 : pre = [] := List.length_eq_zero_iff.1 HM.out
              rw [same_of_bare ((HF.out e1).trans HBK3.out) rfl, sameK_refl]
            rw [hs9] at CS
            have CS := Lib.hid CS
            have cn : W2.cell? ⟨wA.heap.size, 0, none⟩ = some (.int .i64 0) := cn
            clear hs9
            gi_wp2_with fail
            refine CallsIn.wr CS.out ?_
            rintro e W3 ⟨rfl, hb3⟩
            have hn3 : Boxed W3 wA.heap.size 3 (.int .i64 ((0 : Nat) : Int)) := (hb3.block _ ln).trans HN2.out
            have HB3 := Lib.hid hb3
            have HN3 := Lib.hid hn3
            have c3 : W3.cell? ⟨wA.heap.size, 0, none⟩ = some (.int .i64 0) := hn3.cell
            have f3 := hn3.frozen
            have l3 := lt_of_block hn3
            clear hb3 hn3 cn fn ln d0 d1 d2 d3 d4 d5 z0 z1 z2 z3 z4 z5
            gi_wp2_with fail
            refine ⟨(Keeps.of_below HB3.out).trans (Keeps.setCell _ _ ⟨wA.heap.size, 0, none⟩ _ (by unfold capK; show ¬ (wA.heap.size = A ∨ wA.heap.size < wA.heap.size); omega) (by show wA.heap.size < wB.heap.size; omega)), ?_, ?_, ?_⟩
            · exact (HB2.out.trans (HB3.out.mono HB2.out.size)).setCell (p := ⟨wA.heap.size, 0, none⟩) (by simp) _
            · have h5 := HN3.out.set (.int .i64 1)
              rw [List.length_append, HM.out]
              exact h5
            · show wB.heap.size ≤ (W3.setCell _ _).heap.size
              rw [World.size_setCell]
              exact Nat.le_trans hs2 HB3.out.size
          · have q0 : ¬ (m : Int) = 0 := by omega
            have q9 : (m : Int) + 1 ≤ 300 := by omega
            clear CS h0
            gi_wp2_with fail
            refine ⟨Keeps.setCell _ _ ⟨wA.heap.size, 0, none⟩ _ (by unfold capK; show ¬ (wA.heap.size = A ∨ wA.heap.size < wA.heap.size); omega) (by show wA.heap.size < wB.heap.size; omega), ?_, ?_, ?_⟩
            · exact HB2.out.setCell (p := ⟨wA.heap.size, 0, none⟩) (by simp) _
            · have h5 := HN2.out.set (.int .i64 ((m : Int) + 1))
              rw [List.length_append, HM.out]
              exact h5
            · show wB.heap.size ≤ (W2.setCell _ _).heap.size
              rw [World.size_setCell]
              exact hs2
        case stop =>
          rintro D c pre W1 hD hS h hK
          exact h.elim
        case done =>
          rintro D xs W1 hD hxs ⟨hbw, hn, hs1⟩ _ hK
          have hlen : xs.length = sk := by
            have := congrArg List.length hxs
            rw [List.length_map, List.length_map, HLEN.out] at this
            exact this
          rw [hlen] at hn
          have HKD := Lib.hid hK
          have hq1 : Below wq.heap.size wq W1 := HBA.out.trans (hbw.mono HBA.out.size)
          have hD1 : D < W1.heap.size := (Array.getElem?_eq_some_iff.1 hK).1
          have HQ1 := Lib.hid hq1
          have FN : Hid (∀ w, Below W1.heap.size W1 w → Below wq.heap.size wq w ∧ w.cell? ⟨wA.heap.size, 0, none⟩ = some (.int .i64 sk) ∧ wA.heap.size < w.heap.size ∧ w.cell? ⟨W.heap.size, 0, none⟩ = some (.int .i64 xk) ∧ w.cell? ⟨W.heap.size, 1, none⟩ = some (.int .u8 xf) ∧ w.cell? ⟨W.heap.size, 2, none⟩ = some (.slice xsp xm xsc) ∧ w.cell? ⟨W.heap.size, 3, none⟩ = some (.int .u32 xn) ∧ w.cell? ⟨W.heap.size, 4, none⟩ = some (.string X) ∧ w.cell? ⟨W.heap.size, 5, none⟩ = some (.slice xkp xl xkc)) := fun w hw => by
            have hq := hq1.trans (hw.mono hq1.size)
            obtain ⟨_, z0, z1, z2, z3, z4, z5, a0, a1, a2, a3, a4, a5, _⟩ := FS.out w hq
            have hn9 : Boxed w wA.heap.size 3 (.int .i64 sk) := (hw.block _ (lt_of_block hn)).trans hn
            exact ⟨hq, hn9.cell, lt_of_block hn9, a0, a1, a2, a3, a4, a5⟩
          have FZ : Hid (∀ w, Below W1.heap.size W1 w → Boxed w (W.heap.size + 3) 4 (.bool false)) := fun w hw => by
            have hq := hq1.trans (hw.mono hq1.size)
            exact (hq.block _ (lt_of_block HZQ.out)).trans HZQ.out
          have CZ := Lib.hid (fun w (hw : Below W1.heap.size W1 w) => HC1.out w (HWC.out w (hq1.trans (hw.mono hq1.size))))
          have CA := Lib.hid (fun w (hw : Below W1.heap.size W1 w) => HC10.out w (HWC.out w (hq1.trans (hw.mono hq1.size))))
          clear hbw hn hs1 hK hq1 hxs hlen
          go_wp2_with fail
          refine wp_region_slotsF [103, 104, 105, 106, 107, 108, 109] (fun L vs w => RgP 103 W1.heap.size W1 [.int .i64 sk, (.agg #[.int .i64 xk, .int .u8 xf, .slice xsp xm xsc, .int .u32 xn, .string X, .slice xkp xl xkc]), .int .i64 sk, .bool true, .bool true, .bool true, .bool true] 7 ⟨W.heap.size + 3, 0, none⟩ (.bool true) L vs w) _ (fun vs => by simp only [slotsPut, Act.put, List.setIfInBounds_toArray, List.set_cons_zero, List.set_cons_succ]; rfl) (by kernel_rfl) (by kernel_rfl) ?_ ?_ ?_
          · exact fun vs => RgP.start (Below.refl _ _).drew
          · intro i o9 L vs w ho hL hA hJ
            have hi7 : i < 8 := (Array.getElem?_eq_some_iff.1 ho).1
            have HH := Lib.hid hJ
            clear hJ
            obtain rfl | rfl | rfl | rfl | rfl | rfl | rfl | rfl : i = 0 ∨ i = 1 ∨ i = 2 ∨ i = 3 ∨ i = 4 ∨ i = 5 ∨ i = 6 ∨ i = 7 := by omega
            all_goals
              have ho' := Option.some.inj (show some _ = some o9 from ho)
              subst ho'
              clear ho
            · have hb9 := HH.out.below (i := 0) (by decide) hL
              have HB9 := Lib.hid hb9
              obtain ⟨_, c9, l9, a0, a1, a2, a3, a4, a5⟩ := FN.out w hb9
              clear hb9 hA
              refine wpOp_step rfl (fun K' hK => ?_)
              have HKK := Lib.hid hK
              clear hK
              try dsimp only
              go_wp2_with fail
              exact HKK.out _ _ ⟨upV vs 103 (.int .i64 sk), (by simp [upV]), HH.out.step 0 _ (by decide) hL rfl HB9.out⟩
            · have hb9 := HH.out.below (i := 1) (by decide) hL
              have HB9 := Lib.hid hb9
              obtain ⟨_, c9, l9, a0, a1, a2, a3, a4, a5⟩ := FN.out w hb9
              clear hb9 hA
              refine wpOp_step rfl (fun K' hK => ?_)
              have HKK := Lib.hid hK
              clear hK
              try dsimp only
              go_wp2_with fail
              exact HKK.out _ _ ⟨upV vs 104 ((.agg #[.int .i64 xk, .int .u8 xf, .slice xsp xm xsc, .int .u32 xn, .string X, .slice xkp xl xkc])), (by simp [upV]), HH.out.step 1 _ (by decide) hL rfl HB9.out⟩
            · have hb9 := HH.out.below (i := 2) (by decide) hL
              have HB9 := Lib.hid hb9
              have e1 : vs 104 = (.agg #[.int .i64 xk, .int .u8 xf, .slice xsp xm xsc, .int .u32 xn, .string X, .slice xkp xl xkc]) := HH.out.at 1 (by decide) (hA ⟨1, .data⟩ (by simp) rfl) rfl
              clear hb9 hA
              have HE := Lib.hid (e1)
              clear e1
              refine wpOp_step rfl (fun K' hK => ?_)
              have HKK := Lib.hid hK
              clear hK
              try dsimp only
              rw [HE.out]
              go_wp2_with (go_at_call 11; refine (CZ.out w HB9.out).mono ?_; rintro e w' ⟨rfl, hb⟩)
              exact HKK.out _ _ ⟨upV vs 105 (.int .i64 sk), (by simp [upV, HE.out]), HH.out.step 2 _ (by decide) hL rfl (HB9.out.trans (hb.mono HB9.out.size))⟩
            · have hb9 := HH.out.below (i := 3) (by decide) hL
              have HB9 := Lib.hid hb9
              have e0 : vs 103 = .int .i64 sk := HH.out.at 0 (by decide) (hA ⟨0, .data⟩ (by simp) rfl) rfl
              have e2 : vs 105 = .int .i64 sk := HH.out.at 2 (by decide) (hA ⟨2, .data⟩ (by simp) rfl) rfl
              clear hb9 hA
              have HE := Lib.hid (And.intro e0 e2)
              clear e0 e2
              refine wpOp_step rfl (fun K' hK => ?_)
              have HKK := Lib.hid hK
              clear hK
              try dsimp only
              rw [HE.out.1, HE.out.2]
              go_wp2_with fail
              exact HKK.out _ _ ⟨upV vs 106 (.bool true), (by simp [upV, HE.out.1, HE.out.2]), HH.out.step 3 _ (by decide) hL rfl HB9.out⟩
            · have hb9 := HH.out.below (i := 4) (by decide) hL
              have HB9 := Lib.hid hb9
              have e3 : vs 106 = .bool true := HH.out.at 3 (by decide) (hA ⟨3, .data⟩ (by simp) rfl) rfl
              clear hb9 hA
              have HE := Lib.hid (e3)
              clear e3
              refine wpOp_step rfl (fun K' hK => ?_)
              have HKK := Lib.hid hK
              clear hK
              try dsimp only
              rw [HE.out]
              go_wp2_with fail
              exact HKK.out _ _ ⟨upV vs 107 (.bool true), (by simp [upV, HE.out]), HH.out.step 4 _ (by decide) hL rfl HB9.out⟩
            · have hb9 := HH.out.below (i := 5) (by decide) hL
              have HB9 := Lib.hid hb9
              have e4 : vs 107 = .bool true := HH.out.at 4 (by decide) (hA ⟨4, .guard⟩ (by simp) rfl) rfl
              clear hb9 hA
              have HE := Lib.hid (e4)
              clear e4
              refine wpOp_step rfl (fun K' hK => ?_)
              have HKK := Lib.hid hK
              clear hK
              try dsimp only
              rw [HE.out]
              refine of_if (by kernel_rfl) ?_
              go_wp2_with (go_at_call 23; refine (CA.out w HB9.out).mono ?_; rintro e w' ⟨rfl, hb⟩)
              exact HKK.out _ _ ⟨upV vs 108 (.bool true), (by simp [upV, HE.out]), HH.out.step 5 _ (by decide) hL rfl (HB9.out.trans (hb.mono HB9.out.size))⟩
            · have hb9 := HH.out.below (i := 6) (by decide) hL
              have HB9 := Lib.hid hb9
              have e4 : vs 107 = .bool true := HH.out.at 4 (by decide) (hA ⟨4, .data⟩ (by simp) rfl) rfl
              have e5 : vs 108 = .bool true := HH.out.at 5 (by decide) (hA ⟨5, .data⟩ (by simp) rfl) rfl
              clear hb9 hA
              have HE := Lib.hid (And.intro e4 e5)
              clear e4 e5
              refine wpOp_step rfl (fun K' hK => ?_)
              have HKK := Lib.hid hK
              clear hK
              try dsimp only
              rw [HE.out.1, HE.out.2]
              go_wp2_with fail
              exact HKK.out _ _ ⟨upV vs 109 (.bool true), (by simp [upV, HE.out.1, HE.out.2]), HH.out.step 6 _ (by decide) hL rfl HB9.out⟩
            · have hb9 := HH.out.b hL
              have HB9 := Lib.hid hb9
              have e6 : vs 109 = .bool true := HH.out.at 6 (by decide) (hA ⟨6, .data⟩ (by simp) rfl) rfl
              have hall : ∀ j, j < 7 → L j = true := fun j hj => by
                obtain rfl | rfl | rfl | rfl | rfl | rfl | rfl : j = 0 ∨ j = 1 ∨ j = 2 ∨ j = 3 ∨ j = 4 ∨ j = 5 ∨ j = 6 := by omega
                all_goals first | exact hA ⟨_, .phase⟩ (by simp) rfl | exact hA ⟨_, .data⟩ (by simp) rfl
              have HALL := Lib.hid hall
              clear hall
              have hzz := (FZ.out w hb9)
              have cz := hzz.cell
              have fz := hzz.frozen
              have lz := lt_of_block hzz
              clear hzz
              clear hb9 hA
              have HE := Lib.hid (e6)
              clear e6
              refine wpOp_step rfl (fun K' hK => ?_)
              have HKK := Lib.hid hK
              clear hK
              try dsimp only
              rw [HE.out]
              go_wp2_with fail
              exact HKK.out _ _ ⟨vs, (by simp [upV, HE.out]), HH.out.last hL HALL.out⟩
          · intro L vs we2 hall hJ
            obtain ⟨_, w6, hb6, rfl⟩ := hJ.e (hall 7 (by decide))
            have HB6 := Lib.hid hb6
            clear hJ hall hb6
            try dsimp only
            generalize vs 103 = v103; generalize vs 104 = v104; generalize vs 105 = v105; generalize vs 106 = v106; generalize vs 107 = v107; generalize vs 108 = v108; generalize vs 109 = v109
            go_wp2_with fail
            have hK6 : (w6.setCell ⟨W.heap.size + 3, 0, none⟩ (.bool true)).heap[D]? = some (.deferred (some [])) := (Below.heap_setCell w6 ⟨W.heap.size + 3, 0, none⟩ _ D (by show D ≠ W.heap.size + 3; omega)).trans ((HB6.out.block _ hD1).trans HKD.out)
            refine ⟨by simp, .inl ⟨_, _, rfl, run_takeDeferred hK6, ?_⟩⟩
            have hc5 := cell_kept ((FZ.out w6 HB6.out).set (.bool true)).cell (grownBy_putObj' _ D (.deferred none)) (fun r e => by cases e; exact ⟨_, hK6, rfl⟩)
            refine ⟨.bool true, ?_, rfl, ((HWC.out w6 (HQ1.out.trans (HB6.out.mono HQ1.out.size))).setCell (p := ⟨W.heap.size + 3, 0, none⟩) (by simp) _).trans (belowK_b (w := W) (Nat.le_refl _) _ D _ _ (by omega) hK6 rfl rfl)⟩
            simp [results, Tryz.f3, go_sem, hc5]
end Go.Proofs.YtpnnchpaaopdcaaGreatDoor

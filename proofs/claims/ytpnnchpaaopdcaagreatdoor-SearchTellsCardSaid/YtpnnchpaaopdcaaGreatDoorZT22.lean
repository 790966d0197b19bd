/-
  search.Walk's iterator.
-/
import Derived.Test.YtpnnchpaaopdcaaGreatDoorZT04
import Derived.Test.YtpnnchpaaopdcaaGreatDoorZT21
set_option linter.unusedVariables false
set_option linter.unusedSimpArgs false
namespace Go.Proofs.YtpnnchpaaopdcaaGreatDoor
open Go Go.RowKit
attribute [local go_sem] Oper.semAt_some wide_fnK wide_depthK
set_option maxRecDepth 100000 in
set_option maxHeartbeats 4000000 in
theorem walk1_iter (k : KT) (hsh : ShortK k) (W0 : World) (b1 : Nat) (hkey : KeyC W0 k) : IterV Tryz.prog 72 #[.pointer (some ⟨b1, 0, none⟩)] (fun x : KT => #[x.val]) skT0 (capK b1 W0.heap.size) (fun _ => False) (SKC W0 b1 k)
    (stepW k) (fun xs => xs.map bareK = (preK k).map bareK) (fun pre => pre.map bareK <+: (preK k).map bareK) (fun _ => True) := by
  rintro l T J Jx W hcap hT hJ hJx hY h0
  have hJ1 : ∀ s A B, J s A → Itself skT0 W.heap.size A B → J s B := fun s A B h q => hJ s A B h (ItselfM.of q)
  have hJx1 : ∀ s A B, Jx s A → Itself skT0 W.heap.size A B → Jx s B := fun s A B h q => hJx s A B h (ItselfM.of q)
  obtain ⟨yk, yf, ym, yn, yl, ysp, ykp, ysc, ykc, Y, hyv, hyc⟩ := k.form
  have h6 := hcap.bx
  have hlb := h6.lt
  have hH0 : W0.heap.size ≤ W.heap.size := hcap.sz
  obtain ⟨w0, hw0⟩ : ∃ w0, W.alloc (.cells #[.func (.yield l) #[] #[]] 46) = w0 := ⟨_, rfl⟩
  have hb0 : Below W.heap.size W w0 := by rw [← hw0]; exact (Below.refl _ W).alloc (Nat.le_refl _) _
  have hs0 : w0.heap.size = W.heap.size + 1 := by rw [← hw0]; simp
  have hY0 : Boxed w0 W.heap.size 46 (.func (.yield l) #[] #[]) := by rw [← hw0]; exact Boxed.new W 46 (.func (.yield l) #[] #[])
  have hit0 : Itself skT0 W.heap.size W w0 := by rw [← hw0]; exact Itself.alloc _ _ _ (Nat.le_refl _)
  have hcell : ∀ (q : Nat) (u : Value), (#[.int .i64 yk, .int .u8 yf, .slice ysp ym ysc, .int .u32 yn, .string Y, .slice ykp yl ykc] : Array Value)[q]? = some u → w0.cell? ⟨b1, q, none⟩ = some u := fun q u hu => by
    rw [← hyc] at hu
    exact (hcap.below hb0).bx.cell (by simpa using hu)
  have c0 := hcell 0 _ rfl
  have c1 := hcell 1 _ rfl
  have c2 := hcell 2 _ rfl
  have c3 := hcell 3 _ rfl
  have c4 := hcell 4 _ rfl
  have c5 := hcell 5 _ rfl
  have CK := fun w => keys_c k w
  rw [hyv] at CK
  have CK := Lib.hid CK
  have HC0 := Lib.hid (hcap.below hb0)
  have HJ := Lib.hid hJ1
  have HX := Lib.hid hJx1
  have HY := Lib.hid hY
  have HT := Lib.hid hT
  have HB0 := Lib.hid hb0
  have HY0 := Lib.hid hY0
  have HIT0 := Lib.hid hit0
  have H0 := Lib.hid h0
  have HKEY := Lib.hid hkey
  have CP := Lib.hid (fun x (hx : x ∈ preK k) => copied_c x (pre_short k hsh x hx))
  clear hcap hJ hJx hJ1 hJx1 hY hT h6 hb0 hY0 hit0 hcell h0 hkey hyv hyc hsh
  refine (callsIn_wide (n := 3)).1 ?_
  refine callsIn_of_wp_marks Tryz.func72 rfl trivial ?_
  simp only [Tryz.ntmps72, List.size_toArray, List.length_cons, List.length_nil, Nat.reduceAdd, Nat.reduceSub, Array.replicate_succ, Array.replicate_zero, List.push_toArray, List.append_toArray, List.nil_append, List.cons_append]
  refine wpIn_wide.2 ?_
  go_wp2_with (go_at_call 73; refine (CK.out _).mono ?_; rintro e w7 ⟨rfl, hbx7, hb7, hsz7⟩)
  rw [hs0] at hbx7 hsz7
  have HB7 : Hid (Below W.heap.size W w7) := HB0.out.trans (hb7.mono HB0.out.size)
  have hit7 : Itself skT0 W.heap.size W w7 := ⟨HB7.out.os, HB7.out.tape, HB7.out.output, HB7.out.size, HB7.out.block, fun j c e fz _ hj => (HB7.out.block j (Array.getElem?_eq_some_iff.1 hj).1).trans hj⟩
  have hkc7 : SKC W0 b1 k w7 := HC0.out.below hb7
  have hy7 : Boxed w7 W.heap.size 46 (.func (.yield l) #[] #[]) := (hb7.block _ (by omega)).trans HY0.out
  have HKD : Hid (SKC W0 (W.heap.size + 1) k w7) := ⟨hbx7, hkc7.sz, hkc7.sm⟩
  have HRI : Hid (RK W0 b1 W.heap.size (W.heap.size + 1) k k l [] w7.heap.size w7) := ⟨hkc7, hy7, Marks.nil _ _, Nat.le_refl _, HKD.out⟩
  have HRS : Hid (RKS W0 b1 W.heap.size (W.heap.size + 1) [] w7.heap.size) := ⟨hlb, hH0, by omega, by omega, fun j hj => by simp at hj⟩
  have hlo7 : W.heap.size ≤ w7.heap.size := by omega
  have HJ7 : Hid (∃ cs : List KT, cs.map bareK = ([] : List KT).map bareK ∧ J cs w7) := ⟨[], rfl, HJ.out _ _ _ H0.out hit7⟩
  have hup : ∀ {A B : World}, Itself skT0 w7.heap.size A B → Itself skT0 W.heap.size A B := fun h => h.mono (fun _ h => h) hlo7
  clear hkc7 hit7 hy7 hbx7 hb7 c0 c1 c2 c3 c4 c5
  refine (wpIn_wide (n := 3)).1 ?_
  refine wpIn_rangeIterL (gf := 132) (lb := #[.pointer (some ⟨W.heap.size + 1, 0, none⟩)]) (by first | rfl | (simp [Act.eval, Operand.eval, hs0])) (enters_of Tryz.func132 (by kernel_rfl) rfl) (keys1_iter k W0 (W.heap.size + 1) HKEY.out) T (fun e h => HT.out e h) (fun _ => rfl)
    (fun j hj => by
      rcases hj with rfl | hj
      · omega
      · omega)
    (fun W' hW' => HKD.out.below hW')
    (fun pre W' => (∃ cs : List KT, cs.map bareK = pre.map bareK ∧ J cs W') ∧ RK W0 b1 W.heap.size (W.heap.size + 1) k k l [] w7.heap.size W')
    (fun c pre W' => c = .ret ∧ (∃ cs : List KT, cs.map bareK = pre.map bareK ∧ Jx cs W') ∧ RK W0 b1 W.heap.size (W.heap.size + 1) k k l [] w7.heap.size W')
    (fun s' A B h hAB => ⟨(by obtain ⟨cs, h1, h2⟩ := h.1; exact ⟨cs, h1, HJ.out _ _ _ h2 (hup hAB)⟩), h.2.itself HRS.out hAB⟩)
    (fun c s' A B h hAB => ⟨h.1, (by obtain ⟨cs, h1, h2⟩ := h.2.1; exact ⟨cs, h1, HX.out _ _ _ h2 (hup hAB)⟩), h.2.2.itself HRS.out hAB⟩)
    ⟨HJ7.out, HRI.out⟩ ?round ?done ?stop
  case round =>
    rintro l' pre x W1 hl ⟨rr, hrr⟩ ⟨⟨cs, hcs, hj⟩, hri⟩ hst
    have hl1 : l' < W1.heap.size := (Array.getElem?_eq_some_iff.1 hrr).1
    have hlw : w7.heap.size ≤ W1.heap.size := hri.siz
    have HRI1 := Lib.hid hri
    have HJ1 := Lib.hid hj
    have HST := Lib.hid hst
    have HCS := Lib.hid hcs
    obtain ⟨xk, xf, xm, xn, xl, xsp, xkp, xsc, xkc, Z, hxv, hxc⟩ := x.form
    have HXV := Lib.hid hxv
    have HXC := Lib.hid hxc
    clear hri hj hst hxc hcs
    rw [hxv]
    clear hxv
    gi_wp2_with fail
    refine ⟨Keeps.alloc _ _ _ _ _, fun W2 hits hsz2 hrec hoth => ?_⟩
    have hit1 : Itself skT0 w7.heap.size W1 (W1.alloc (.cells #[.int .i64 xk, .int .u8 xf, .slice xsp xm xsc, .int .u32 xn, .string Z, .slice xkp xl xkc] 37)) := Itself.alloc _ _ _ hlw
    have hit2 := hit1.trans hits
    have HRI2 := Lib.hid (HRI1.out.itself HRS.out hit2)
    have HJ2 := Lib.hid (HJ.out _ _ _ HJ1.out (hup hit2))
    have hbn : Box6 W2 W1.heap.size x := by
      have h1 := (hoth _ (by omega)).trans (heap_alloc_new W1 (.cells #[.int .i64 xk, .int .u8 xf, .slice xsp xm xsc, .int .u32 xn, .string Z, .slice xkp xl xkc] 37))
      rw [← HXC.out] at h1
      exact h1
    have l2 : W1.heap.size < W2.heap.size := hbn.lt
    have hxm : x ∈ preK k := (List.IsPrefix.subset HST.out) (show x ∈ pre ++ [x] by simp)
    have hxK : KeyC W2 x := HRI2.out.kc.key (pre_key k HKEY.out x hxm)
    have FS : Hid (∀ w, Below W2.heap.size W2 w → W.heap.size < w.heap.size ∧ W1.heap.size < w.heap.size ∧ w.cell? ⟨W.heap.size, 0, none⟩ = some (.func (.yield l) #[] #[]) ∧ w.cell? ⟨W1.heap.size, 0, none⟩ = some (.int .i64 xk) ∧ w.cell? ⟨W1.heap.size, 1, none⟩ = some (.int .u8 xf) ∧ w.cell? ⟨W1.heap.size, 2, none⟩ = some (.slice xsp xm xsc) ∧ w.cell? ⟨W1.heap.size, 3, none⟩ = some (.int .u32 xn) ∧ w.cell? ⟨W1.heap.size, 4, none⟩ = some (.string Z) ∧ w.cell? ⟨W1.heap.size, 5, none⟩ = some (.slice xkp xl xkc)) := fun w hw => by
      have hbw : Box6 w W1.heap.size x := (hw.block _ l2).trans hbn
      have hcell : ∀ (q : Nat) (u : Value), (#[.int .i64 xk, .int .u8 xf, .slice xsp xm xsc, .int .u32 xn, .string Z, .slice xkp xl xkc] : Array Value)[q]? = some u → w.cell? ⟨W1.heap.size, q, none⟩ = some u := fun q u hu => by
        rw [← HXC.out] at hu; exact hbw.cell (by simpa using hu)
      have hyw : Boxed w W.heap.size 46 (.func (.yield l) #[] #[]) := (hw.block _ (lt_of_block HRI2.out.yb)).trans HRI2.out.yb
      exact ⟨lt_of_block hyw, hbw.lt, hyw.cell, hcell 0 _ rfl, hcell 1 _ rfl, hcell 2 _ rfl, hcell 3 _ rfl, hcell 4 _ rfl, hcell 5 _ rfl⟩
    have CX : Hid (∀ w, Below W2.heap.size W2 w → Calls Tryz.prog 71 #[.agg #[.int .i64 xk, .int .u8 xf, .slice xsp xm xsc, .int .u32 xn, .string Z, .slice xkp xl xkc]] w (OwnDoes w x)) := fun w hw => by
      rw [← HXV.out]; exact CP.out x hxm w (KeyC.below hw x hxK)
    clear hits hit1 hit2 hsz2 hrec hoth hbn hrr hxK
    gi_wp2_with fail
    refine wpIn_region_slots2 [7, 8, 9, 10, 11] (fun L vs w => WkF W2 (.func (.yield l) #[] #[]) (.agg #[.int .i64 xk, .int .u8 xf, .slice xsp xm xsc, .int .u32 xn, .string Z, .slice xkp xl xkc]) (bareK x)
      (fun b w => Keeps T (capK (W.heap.size + 1) W0.heap.size) w7.heap.size W2 w ∧ RK W0 b1 W.heap.size (W.heap.size + 1) k k l [] w7.heap.size w ∧ ∃ cs : List KT, cs.map bareK = (pre ++ [x]).map bareK ∧ if b = true then J cs w else Jx cs w) L vs w) (by kernel_rfl) (by kernel_rfl) ?_ ?_ ?_
    · exact fun vs => WkF.start W2.drew (Below.refl _ _).drew vs
    · intro i o9 L vs w ho hL hA hJ
      have hi5 : i < 5 := (Array.getElem?_eq_some_iff.1 ho).1
      have HH := Lib.hid hJ
      clear hJ
      obtain rfl | rfl | rfl | rfl | rfl : i = 0 ∨ i = 1 ∨ i = 2 ∨ i = 3 ∨ i = 4 := by omega
      all_goals
        have ho' := Option.some.inj (show some _ = some o9 from ho)
        subst ho'
        clear ho
      · clear hA
        have hb := HH.out.b (HH.out.no3 (.inl hL))
        obtain ⟨cl, _, c0, _⟩ := FS.out w hb
        clear hb
        refine wpOpIn_step rfl (fun K' hK => ?_)
        have HK := Lib.hid hK
        clear hK
        simp only [slotsPut, Act.put, List.setIfInBounds_toArray, List.set_cons_zero, List.set_cons_succ]
        gi_wp2_with fail
        exact HK.out _ _ ⟨upV vs 7 (.func (.yield l) #[] #[]), (by simp only [slotsPut, Act.put, List.setIfInBounds_toArray, List.set_cons_zero, List.set_cons_succ]; simp [upV]), HH.out.s0⟩
      · clear hA
        have hb := HH.out.b (HH.out.no3 (.inr (.inl hL)))
        obtain ⟨_, cl, _, c0, c1, c2, c3, c4, c5⟩ := FS.out w hb
        clear hb
        refine wpOpIn_step rfl (fun K' hK => ?_)
        have HK := Lib.hid hK
        clear hK
        simp only [slotsPut, Act.put, List.setIfInBounds_toArray, List.set_cons_zero, List.set_cons_succ]
        gi_wp2_with fail
        exact HK.out _ _ ⟨upV vs 8 (.agg #[.int .i64 xk, .int .u8 xf, .slice xsp xm xsc, .int .u32 xn, .string Z, .slice xkp xl xkc]), (by simp only [slotsPut, Act.put, List.setIfInBounds_toArray, List.set_cons_zero, List.set_cons_succ]; simp [upV]), HH.out.s1⟩
      · have h1 := hA ⟨1, .data⟩ (by simp) rfl
        have e1 := HH.out.l1 h1
        have hb := HH.out.b (HH.out.no3 (.inr (.inr (.inl hL))))
        have HE := Lib.hid e1
        have HB := Lib.hid hb
        clear hA e1 hb
        refine wpOpIn_step rfl (fun K' hK => ?_)
        have HK := Lib.hid hK
        clear hK
        simp only [slotsPut, Act.put, List.setIfInBounds_toArray, List.set_cons_zero, List.set_cons_succ]
        rw [HE.out]
        gi_wp2_with (gi_at_call 71; refine CallsIn.wr (CX.out w HB.out) ?_; rintro e w' ⟨k3, rfl, hbk, hc, hi, hb⟩)
        exact HK.out _ _ ⟨upV vs 9 k3.val, (by simp only [slotsPut, Act.put, List.setIfInBounds_toArray, List.set_cons_zero, List.set_cons_succ]; simp [upV, HE.out]), HH.out.s2 hL h1 hb hbk hc⟩
      · have h0 := hA ⟨0, .data⟩ (by simp) rfl
        have h2 := hA ⟨2, .data⟩ (by simp) rfl
        have e0 := HH.out.l0 h0
        obtain ⟨k3, e2, hbk, hc3⟩ := HH.out.l2 h2
        have hb := HH.out.b hL
        have hitw : Itself skT0 w7.heap.size W2 w := ⟨hb.os, hb.tape, hb.output, hb.size, fun j hj => hb.block j (by omega), fun j c e fz _ hj => (hb.block j (Array.getElem?_eq_some_iff.1 hj).1).trans hj⟩
        have hriw := HRI2.out.itself HRS.out hitw
        have hjw := HJ.out _ _ _ HJ2.out (hup hitw)
        have hpre : stepW k cs k3 w := by
          refine ⟨hc3 hL, ?_⟩
          rw [List.map_append, HCS.out]
          have := List.IsPrefix.map bareK HST.out
          rw [List.map_append] at this
          simpa [hbk] using this
        obtain ⟨fn, tmps, assign, body, hy, hR⟩ := HY.out cs k3 w hjw hpre
        have hkw : Keeps T (capK (W.heap.size + 1) W0.heap.size) w7.heap.size W2 w := Keeps.of_below hb
        have HR := Lib.hid (RoundIn.inL (m := 0) l' hR)
        have HE := Lib.hid (And.intro e0 e2)
        have HRW := Lib.hid hriw
        have HKW := Lib.hid hkw
        have HBK := Lib.hid hbk
        clear hA e0 e2 hb hitw hriw hjw hpre hR hkw hc3 hbk
        try dsimp only at hy
        refine wpOpIn_step rfl (fun K' hK => ?_)
        have HK := Lib.hid hK
        clear hK
        simp only [slotsPut, Act.put, List.setIfInBounds_toArray, List.set_cons_zero, List.set_cons_succ]
        rw [HE.out.1, HE.out.2]
        gi_wp2_with fail
        refine HR.out.mono ?_
        rintro e W3 ⟨hk3, (⟨rfl, hj3⟩ | ⟨rfl, hx3⟩)⟩
        · have hF : Keeps T (capK (W.heap.size + 1) W0.heap.size) w7.heap.size W2 W3 ∧ RK W0 b1 W.heap.size (W.heap.size + 1) k k l [] w7.heap.size W3 ∧ ∃ cs : List KT, cs.map bareK = (pre ++ [x]).map bareK ∧ if true = true then J cs W3 else Jx cs W3 :=
            ⟨HKW.out.trans (HRW.out.inner HRS.out HT.out hk3), HRW.out.keeps HRS.out HT.out hk3, cs ++ [k3], by rw [List.map_append, List.map_append, HCS.out]; simp [HBK.out], hj3⟩
          exact HK.out _ _ ⟨upV vs 10 (.bool true), (by simp only [slotsPut, Act.put, List.setIfInBounds_toArray, List.set_cons_zero, List.set_cons_succ]; simp [upV, HE.out.1, HE.out.2]), HH.out.s3 hL h0 h2 hF⟩
        · have hF : Keeps T (capK (W.heap.size + 1) W0.heap.size) w7.heap.size W2 W3 ∧ RK W0 b1 W.heap.size (W.heap.size + 1) k k l [] w7.heap.size W3 ∧ ∃ cs : List KT, cs.map bareK = (pre ++ [x]).map bareK ∧ if false = true then J cs W3 else Jx cs W3 :=
            ⟨HKW.out.trans (HRW.out.inner HRS.out HT.out hk3), HRW.out.keeps HRS.out HT.out hk3, cs ++ [k3], by rw [List.map_append, List.map_append, HCS.out]; simp [HBK.out], hx3⟩
          exact HK.out _ _ ⟨upV vs 10 (.bool false), (by simp only [slotsPut, Act.put, List.setIfInBounds_toArray, List.set_cons_zero, List.set_cons_succ]; simp [upV, HE.out.1, HE.out.2]), HH.out.s3 hL h0 h2 hF⟩
      · have h3 := hA ⟨3, .data⟩ (by simp) rfl
        obtain ⟨b, e3, _⟩ := HH.out.l3 h3
        have HS := Lib.hid (HH.out.s4 h3 e3)
        have HE := Lib.hid e3
        clear hA e3
        refine wpOpIn_step rfl (fun K' hK => ?_)
        have HK := Lib.hid hK
        clear hK
        simp only [slotsPut, Act.put, List.setIfInBounds_toArray, List.set_cons_zero, List.set_cons_succ]
        rw [HE.out]
        gi_wp2_with fail
        exact HK.out _ _ ⟨upV vs 11 (.bool (!b)), (by simp only [slotsPut, Act.put, List.setIfInBounds_toArray, List.set_cons_zero, List.set_cons_succ]; simp [upV, HE.out]), HS.out⟩
    · intro L vs we hall hJ
      obtain ⟨b, e10, hkp, hre, cs2, hcs2, hjj⟩ := hJ.l3 (hall 3 (by decide))
      have e11 := hJ.l4 (hall 4 (by decide)) b e10
      have HE := Lib.hid (And.intro e10 e11)
      have HKP := Lib.hid hkp
      have HRE := Lib.hid hre
      have HC2 := Lib.hid hcs2
      have HJJ := Lib.hid hjj
      have HSZ := Lib.hid hsz7
      clear hJ hall e10 e11 hkp hre hcs2 hjj hsz7
      simp only [slotsPut, Act.put, List.setIfInBounds_toArray, List.set_cons_zero, List.set_cons_succ]
      rw [HE.out.1, HE.out.2]
      cases b with
      | true =>
        simp only [Bool.not_true]
        gi_wp2_with fail
        exact ⟨HKP.out, ⟨cs2, HC2.out, HJJ.out⟩, HRE.out⟩
      | false =>
        simp only [Bool.not_false]
        gi_wp2_with fail
        exact ⟨HKP.out, rfl, ⟨cs2, HC2.out, HJJ.out⟩, HRE.out⟩
  case done =>
    rintro D' xs W1 hD hxs ⟨⟨cs, hcs, hj⟩, hri⟩ hK
    have HMK := Lib.hid (hri.mks.cons (D := D') (by omega) hK (fun d hd he => by rw [he] at hd; simp at hd))
    have HJ1 := Lib.hid hj
    have HCS := Lib.hid hcs
    clear hj hri hK hcs
    gi_wp2_with fail
    refine HMK.out.leaves (fun W' hW' => ?_)
    exact ⟨_, results_none rfl _ _ _, ⟨_, rfl⟩, .inl ⟨cs, by rw [HCS.out, hxs], HJ.out _ _ _ HJ1.out (hW'.mono (fun _ h => h.elim) (Nat.le_refl _)), trivial⟩⟩
  case stop =>
    rintro D' c pre W1 hD hpre ⟨rfl, ⟨cs, hcs, hx⟩, hri⟩ hK
    have HMK := Lib.hid (hri.mks.cons (D := D') (by omega) hK (fun d hd he => by rw [he] at hd; simp at hd))
    have HX1 := Lib.hid hx
    have hpre2 : cs.map bareK <+: (preK k).map bareK := by rw [hcs]; exact List.IsPrefix.map bareK hpre
    have HPR := Lib.hid hpre2
    clear hx hri hK hpre hpre2 hcs
    gi_wp2_with fail
    refine HMK.out.leaves (fun W' hW' => ?_)
    exact ⟨_, results_none rfl _ _ _, ⟨_, rfl⟩, .inr ⟨_, HPR.out, HX.out _ _ _ HX1.out (hW'.mono (fun _ h => h.elim) (Nat.le_refl _))⟩⟩
end Go.Proofs.YtpnnchpaaopdcaaGreatDoor

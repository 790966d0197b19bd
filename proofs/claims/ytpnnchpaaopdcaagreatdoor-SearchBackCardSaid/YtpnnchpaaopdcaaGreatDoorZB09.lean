/-
  Whether two keys are the same, by the program: contract.
  Whether two keys are the same, by the program: contract. MADE by wip/tools/mkSs2.py.
-/
import Derived.Test.YtpnnchpaaopdcaaGreatDoorZB04
import Derived.Test.YtpnnchpaaopdcaaGreatDoorZB05
import Derived.Test.YtpnnchpaaopdcaaGreatDoorZB08
set_option linter.unusedVariables false
set_option linter.unusedSimpArgs false
namespace Go.Proofs.YtpnnchpaaopdcaaGreatDoor
open Go Go.RowKit
theorem neq_rangeS (a b c d : Nat) (w : World) : (binOp .neq 112 (.agg #[.int .u32 a, .int .u32 b]) (.agg #[.int .u32 c, .int .u32 d])).run Tryz.prog w = .ok (.bool (!(((a, b) : Nat × Nat) == (c, d)))) w := by
  go_simp
  by_cases h1 : a = c
  · subst h1
    by_cases h2 : b = d
    · subst h2; simp
    · have : ¬ ((b : Int) = d) := by omega
      simp [this, h2]
  · have : ¬ ((a : Int) = c) := by omega
    simp [this, h1]
theorem neq_guardS (x y : Operand) (xs ys : Array Value) (w : World) : (eqGuard .neq 112 x y (.agg xs) (.agg ys)).run Tryz.prog w = .ok () w := run_eqGuard_agg w _ _ _ _ _ _ (by kernel_rfl)
set_option maxRecDepth 100000 in
set_option maxHeartbeats 2000000 in
theorem sEqualR_c (sp sp' : Option Addr) (set set' : List (Nat × Nat)) (scap scap' : Nat) (W : World) (h : PairsAt W sp set) (h' : PairsAt W sp' set') (hm : set.length ≤ maxLen) :
    Calls Tryz.prog 67 #[.slice sp set.length scap, .slice sp' set'.length scap'] W fun e w' => e = .returned (.bool (set == set')) ∧ Below W.heap.size W w' := by
  have HA := Lib.hid h
  have HA' := Lib.hid h'
  have hN9 : (set.length : Int) ≤ 9223372036854775807 := by unfold maxLen at hm; omega
  obtain ⟨M, hM⟩ : ∃ M, set.length = M := ⟨_, rfl⟩
  obtain ⟨M', hM'⟩ : ∃ M, set'.length = M := ⟨_, rfl⟩
  rw [hM] at hN9 ⊢
  rw [hM']
  have HM := Lib.hid hM
  have HM' := Lib.hid hM'
  obtain ⟨Z, hZ⟩ : ∃ Z, (set == set') = Z := ⟨_, rfl⟩
  rw [hZ]
  have HZ := Lib.hid hZ
  clear h h' hm hM hM' hZ
  by_cases hMM : M ≠ M'
  · have f5 : ((M : Int) != (M' : Int)) = true := qN (by omega)
    have hse : Hid (Z = false) := by
      show _ = _
      rw [← HZ.out, beq_eq_false_iff_ne]
      intro e
      rw [e] at HM
      exact hMM (HM.out.symm.trans HM'.out)
    go_enter Tryz.func67, Tryz.ntmps67
    go_wp2_with fail
    go_ret
    exact ⟨by rw [hse.out]; try rfl, Below.refl _ _⟩
  obtain rfl : M = M' := Decidable.not_not.1 hMM
  go_enter Tryz.func67, Tryz.ntmps67
  go_wp2_with fail
  go_loopw [13] (fun t5 wr => ∃ j : Nat, j ≤ M ∧ t5 = .int .i64 j ∧ Hid (∀ i, i < j → set[i]? = set'[i]?) ∧ Hid (Below W.heap.size W wr)) (fun t5 _ => M - (intOf t5).toNat)
  case atStart => exact ⟨0, Nat.zero_le _, rfl, fun i hi => absurd hi (Nat.not_lt_zero _), Below.refl _ _⟩
  case round =>
    obtain ⟨j, hj, rfl, HE, HB⟩ := hrel
    by_cases hlt : j < M
    · have hq : (j : Int) < M := by omega
      have hq0 : (0 : Int) ≤ j := by omega
      obtain ⟨r, hr⟩ : ∃ r, set[j]? = some r := ⟨_, List.getElem?_eq_getElem (by rw [HM.out]; exact hlt)⟩
      obtain ⟨r', hr'⟩ : ∃ r, set'[j]? = some r := ⟨_, List.getElem?_eq_getElem (by rw [HM'.out]; exact hlt)⟩
      obtain ⟨b1, o1, rfl, _, k1, k2⟩ := (HA.out.below HB.out) j r hr
      obtain ⟨b2, o2, rfl, _, k3, k4⟩ := (HA'.out.below HB.out) j r' hr'
      obtain ⟨r1, r2⟩ := r
      obtain ⟨r3, r4⟩ := r'
      dsimp only at k1 k2 k3 k4
      have hnq := neq_rangeS r1 r2 r3 r4
      have hng := neq_guardS
      obtain ⟨v, hv⟩ : ∃ v, (((r1, r2) : Nat × Nat) == (r3, r4)) = v := ⟨_, rfl⟩
      rw [hv] at hnq
      cases v
      · have hne : Hid (Z = false) := by
          show _ = _
          rw [← HZ.out, beq_eq_false_iff_ne]
          intro e
          rw [e, hr'] at hr
          have := Option.some.inj hr
          rw [this] at hv
          simp at hv
        clear hv hr hr'
        go_wp2_with fail
        go_quiet (fail)
        go_wp2_with fail
        go_ret
        exact ⟨by rw [hne.out]; try rfl, below_drewN HB.out nq⟩
      · have hre : (r1, r2) = (r3, r4) := by simpa using hv
        have HE2 : Hid (∀ i, i < j + 1 → set[i]? = set'[i]?) := fun i hi => by
          by_cases h : i < j
          · exact HE.out i h
          · obtain rfl : i = j := by omega
            rw [hr, hr', hre]
        clear hv hr hr' hre
        go_wp2_with fail
        go_quiet (fail)
        go_wp2_with fail
        go_roundw
        case rel => exact ⟨j + 1, by omega, by go_num, HE2.out, below_drewN HB.out nq⟩
        case measure => simp [intOf]; omega
    · obtain rfl : j = M := by omega
      have hset : Hid (Z = true) := by
        show _ = _
        rw [← HZ.out, beq_iff_eq]
        apply List.ext_getElem?
        intro i
        by_cases h : i < j
        · exact HE.out i h
        · rw [List.getElem?_eq_none (by rw [HM.out]; omega), List.getElem?_eq_none (by rw [HM'.out]; omega)]
      have hq : ¬ ((j : Int) < j) := by omega
      clear HE
      go_wp2_with fail
      go_ret
      exact ⟨by rw [hset.out]; try rfl, HB.out⟩
def SameIH (a : KT) : Prop := ∀ (b : KT) (W : World), KeyC W a → KeyC W b → Calls Tryz.prog 18 #[a.val, b.val] W fun e w' => e = .returned (.bool (sameK a b)) ∧ Below W.heap.size W w'
set_option maxRecDepth 100000 in
set_option maxHeartbeats 1000000 in
theorem sSame1_c (a : KT) (ih : SameIH a) (b : KT) (W : World) (hA : KeyC W a) (hB : KeyC W b) : Calls Tryz.prog 69 #[a.val, b.val] W fun e w' => e = .returned (.bool (sameK a b)) ∧ Below W.heap.size W w' := by
  have C := fun w hb => ih b w (hA.below (W' := w) hb) (hB.below (W' := w) hb)
  obtain ⟨xk, xf, xm, xn, xl, xsp, xkp, xsc, xkc, X, hxv, hxc⟩ := a.form
  obtain ⟨yk, yf, ym, yn, yl, ysp, ykp, ysc, ykc, Y, hyv, hyc⟩ := b.form
  rw [hxv, hyv] at C ⊢
  obtain ⟨z, hz⟩ : ∃ z, sameK a b = z := ⟨_, rfl⟩
  rw [hz] at C ⊢
  have hb : Below W.heap.size W ((W.alloc (.cells #[.int .i64 xk, .int .u8 xf, .slice xsp xm xsc, .int .u32 xn, .string X, .slice xkp xl xkc] 37)).alloc (.cells #[.int .i64 yk, .int .u8 yf, .slice ysp ym ysc, .int .u32 yn, .string Y, .slice ykp yl ykc] 37)) := ((Below.refl _ _).alloc (Nat.le_refl _) _).alloc (by simp) _
  have C := Lib.hid (C _ hb)
  have HB := Lib.hid hb
  clear hxv hyv hxc hyc hz hb hA hB ih
  go_enter Tryz.func69, Tryz.ntmps69
  go_wp2_with fail
  refine C.out.mono ?_
  rintro e w2 ⟨rfl, hb2⟩
  have HB2 := Lib.hid (HB.out.trans (hb2.mono HB.out.size))
  clear hb2
  cases z <;>
  · go_wp2_with fail
    go_ret
    exact ⟨rfl, HB2.out⟩
set_option maxRecDepth 100000 in
set_option maxHeartbeats 4000000 in
theorem sEqualFn_c {W : World} {kids kids' : List KT} {kp kp' : Option Addr} {kcap kcap' : Nat} (hk : KidsC W kids kp 0) (hk' : KidsC W kids' kp' 0) (hm : kids.length ≤ maxLen) (ih : ∀ a ∈ kids, SameIH a) :
    Calls Tryz.prog 68 #[.slice kp kids.length kcap, .slice kp' kids'.length kcap', .func (.func 69) #[] #[]] W fun e w' => e = .returned (.bool (sameL kids kids')) ∧ Below W.heap.size W w' := by
  have HA := Lib.hid hk
  have HA' := Lib.hid hk'
  have IH := Lib.hid ih
  have hN9 : (kids.length : Int) ≤ 9223372036854775807 := by unfold maxLen at hm; omega
  obtain ⟨N, hN⟩ : ∃ M, kids.length = M := ⟨_, rfl⟩
  obtain ⟨N', hN'⟩ : ∃ M, kids'.length = M := ⟨_, rfl⟩
  rw [hN] at hN9 ⊢
  rw [hN']
  have HN := Lib.hid hN
  have HN' := Lib.hid hN'
  obtain ⟨Z, hZ⟩ : ∃ Z, sameL kids kids' = Z := ⟨_, rfl⟩
  rw [hZ]
  have HZ := Lib.hid hZ
  clear hk hk' hm hN hN' hZ ih
  by_cases hMM : N ≠ N'
  · have f5 : ((N : Int) != (N' : Int)) = true := qN (by omega)
    have hse : Hid (Z = false) := by
      show _ = _
      rw [← HZ.out]
      cases hv : sameL kids kids' with
      | false => rfl
      | true => exact absurd (HN.out.symm.trans ((sameL_len hv).trans HN'.out)) hMM
    go_enter Tryz.func68, Tryz.ntmps68
    go_wp2_with fail
    go_ret
    exact ⟨by rw [hse.out]; try rfl, Below.refl _ _⟩
  obtain rfl : N = N' := Decidable.not_not.1 hMM
  go_enter Tryz.func68, Tryz.ntmps68
  go_wp2_with fail
  go_loopw [17] (fun t5 wr => ∃ j : Nat, j ≤ N ∧ t5 = .int .i64 j ∧ Hid (∀ (q : Nat) (a b : KT), q < j → kids[q]? = some a → kids'[q]? = some b → sameK a b = true) ∧ Hid (Below W.heap.size W wr)) (fun t5 _ => N - (intOf t5).toNat)
  case atStart => exact ⟨0, Nat.zero_le _, rfl, fun q a b hq => absurd hq (Nat.not_lt_zero _), Below.refl _ _⟩
  case round =>
    obtain ⟨i, hi, rfl, HE, HB⟩ := hrel
    by_cases hlt : i < N
    · have hq : (i : Int) < N := by omega
      have hq0 : (0 : Int) ≤ i := by omega
      obtain ⟨a, ha⟩ : ∃ a, kids[i]? = some a := ⟨_, List.getElem?_eq_getElem (by rw [HN.out]; exact hlt)⟩
      obtain ⟨b, hb⟩ : ∃ b, kids'[i]? = some b := ⟨_, List.getElem?_eq_getElem (by rw [HN'.out]; exact hlt)⟩
      obtain ⟨b1, o1, rfl, hl1, k1, K1⟩ := KidsC.at kids kp 0 i a HA.out ha
      obtain ⟨b2, o2, rfl, hl2, k2, K2⟩ := KidsC.at kids' kp' 0 i b HA'.out hb
      have C := fun w (hw : Below W.heap.size W w) => sSame1_c a (IH.out a (List.mem_of_getElem? ha)) b w (KeyC.below hw _ K1) (KeyC.below hw _ K2)
      obtain ⟨xk, xf, xm, xn, xl, xsp, xkp, xsc, xkc, X, hxv, hxc⟩ := a.form
      obtain ⟨yk, yf, ym, yn, yl, ysp, ykp, ysc, ykc, Y, hyv, hyc⟩ := b.form
      rw [Nat.zero_add] at k1 k2
      have hcx : ∀ (q : Nat) (u : Value), (#[.int .i64 xk, .int .u8 xf, .slice xsp xm xsc, .int .u32 xn, .string X, .slice xkp xl xkc] : Array Value)[q]? = some u → wr.cell? ⟨b1, o1 + i * 6 + q, none⟩ = some u := fun q u hu => by
        have h1 := k1 q u (by rw [← hxc] at hu; simpa using hu)
        exact (HB.out.cell (p := ⟨b1, _, none⟩) hl1).trans h1
      have hcy : ∀ (q : Nat) (u : Value), (#[.int .i64 yk, .int .u8 yf, .slice ysp ym ysc, .int .u32 yn, .string Y, .slice ykp yl ykc] : Array Value)[q]? = some u → wr.cell? ⟨b2, o2 + i * 6 + q, none⟩ = some u := fun q u hu => by
        have h1 := k2 q u (by rw [← hyc] at hu; simpa using hu)
        exact (HB.out.cell (p := ⟨b2, _, none⟩) hl2).trans h1
      have d0 : wr.cell? ⟨b1, o1 + i * 6, none⟩ = some (.int .i64 xk) := by have := hcx 0 _ rfl; simpa using this
      have d1 := hcx 1 _ rfl
      have d2 := hcx 2 _ rfl
      have d3 := hcx 3 _ rfl
      have d4 := hcx 4 _ rfl
      have d5 := hcx 5 _ rfl
      have c0 : wr.cell? ⟨b2, o2 + i * 6, none⟩ = some (.int .i64 yk) := by have := hcy 0 _ rfl; simpa using this
      have c1 := hcy 1 _ rfl
      have c2 := hcy 2 _ rfl
      have c3 := hcy 3 _ rfl
      have c4 := hcy 4 _ rfl
      have c5 := hcy 5 _ rfl
      have hbw1 : b1 < wr.heap.size := Nat.lt_of_lt_of_le hl1 HB.out.size
      have hbw2 : b2 < wr.heap.size := Nat.lt_of_lt_of_le hl2 HB.out.size
      rw [hxv, hyv] at C
      obtain ⟨z, hz⟩ : ∃ z, sameK a b = z := ⟨_, rfl⟩
      simp only [hz] at C
      have hb3 : Below W.heap.size W ((wr.alloc (.cells #[.int .i64 xk, .int .u8 xf, .slice xsp xm xsc, .int .u32 xn, .string X, .slice xkp xl xkc] 37)).alloc (.cells #[.int .i64 yk, .int .u8 yf, .slice ysp ym ysc, .int .u32 yn, .string Y, .slice ykp yl ykc] 37)) := (HB.out.alloc HB.out.size _).alloc (by have := HB.out.size; simp; omega) _
      have C := Lib.hid (C _ hb3)
      have HB3 := Lib.hid hb3
      have hlow : Hid (z = false → Z = false) := fun h => by
        rw [← HZ.out]
        cases hv : sameL kids kids' with
        | false => rfl
        | true => rw [← hz, sameL_at hv ha hb] at h; cases h
      have hnext : Hid (z = true → ∀ (q : Nat) (a b : KT), q < i + 1 → kids[q]? = some a → kids'[q]? = some b → sameK a b = true) := fun h q a' b' hq ha' hb' => by
        by_cases hqi : q < i
        · exact HE.out q a' b' hqi ha' hb'
        · obtain rfl : q = i := by omega
          rw [ha] at ha'; rw [hb] at hb'
          cases ha'; cases hb'
          rw [hz]; exact h
      clear ha hb k1 k2 K1 K2 hxv hyv hxc hyc hcx hcy hz hb3
      cases z with
      | false =>
        have HZF := Lib.hid (hlow.out rfl)
        go_wp2_with fail
        refine C.out.mono ?_
        rintro e w5 ⟨rfl, hb5⟩
        have HB5 := Lib.hid (HB3.out.trans (hb5.mono HB3.out.size))
        clear hb5
        go_wp2_with fail
        go_ret
        exact ⟨by rw [HZF.out]; try rfl, HB5.out⟩
      | true =>
        have HNX := Lib.hid (hnext.out rfl)
        go_wp2_with fail
        refine C.out.mono ?_
        rintro e w5 ⟨rfl, hb5⟩
        have HB5 := Lib.hid (HB3.out.trans (hb5.mono HB3.out.size))
        clear hb5
        go_wp2_with fail
        go_roundw
        case rel => exact ⟨i + 1, by omega, by go_num, HNX.out, HB5.out⟩
        case measure => simp [intOf]; omega
    · obtain rfl : i = N := by omega
      have hset : Hid (Z = true) := by
        show _ = _
        rw [← HZ.out]
        refine sameL_all (HN.out.trans HN'.out.symm) fun j a b ha hb => HE.out j a b ?_ ha hb
        have := (List.getElem?_eq_some_iff.1 ha).1
        have := HN.out
        omega
      have hq : ¬ ((i : Int) < i) := by omega
      clear HE
      go_wp2_with fail
      go_ret
      exact ⟨by rw [hset.out]; try rfl, HB.out⟩
theorem two_boxes (W : World) (c d : Array Value) : ∃ w0, (W.alloc (.cells c 37)).alloc (.cells d 37) = w0 ∧ Below W.heap.size W w0 ∧ w0.heap.size = W.heap.size + 2 ∧ Cells w0 W.heap.size 37 c ∧ Cells w0 (W.heap.size + 1) 37 d := by
  refine ⟨_, rfl, ?_, by simp, ?_, ?_⟩
  · exact ((Below.refl _ W).alloc (Nat.le_refl _) _).alloc (by simp) _
  · have h := heap_alloc_new W (.cells c 37)
    show _ = _
    rw [Below.heap_alloc _ _ _ (by simp)]
    exact h
  · have h := heap_alloc_new (W.alloc (.cells c 37)) (.cells d 37)
    rw [World.size_alloc] at h
    exact h
set_option maxRecDepth 100000 in
set_option maxHeartbeats 4000000 in
theorem sSame_c (a : KT) : SameIH a := by
  induction a using KT.ind with
  | h kd fl set n s kids sp scap kp kcap ih =>
    intro b W hA hB
    obtain ⟨kd', fl', set', n', s', kids', sp', scap', kp', kcap'⟩ := b
    unfold KeyC at hA hB
    obtain ⟨_, _, ⟨hs1, hk1, _⟩, hset, hkids⟩ := hA
    obtain ⟨_, _, ⟨hs2, hk2, _⟩, hset', hkids'⟩ := hB
    have CE := fun w (hb : Below W.heap.size W w) => sEqualR_c sp sp' set set' scap scap' w (hset.below hb) (hset'.below hb) hs1
    have CF := fun w (hb : Below W.heap.size W w) => sEqualFn_c (W := w) (kcap := kcap) (kcap' := kcap') (KidsC.below hb kids kp 0 hkids) (KidsC.below hb kids' kp' 0 hkids') hk1 ih
    show Calls Tryz.prog 18 #[.agg #[.int .i64 kd, .int .u8 fl, .slice sp set.length scap, .int .u32 n, .string (txt s), .slice kp kids.length kcap], .agg #[.int .i64 kd', .int .u8 fl', .slice sp' set'.length scap', .int .u32 n', .string (txt s'), .slice kp' kids'.length kcap']] W _
    have hS : sameK (.mk kd fl set n s kids sp scap kp kcap) (.mk kd' fl' set' n' s' kids' sp' scap' kp' kcap') = ((kd == kd') && ((fl == fl') && ((set == set') && ((n == n') && ((s == s') && sameL kids kids'))))) := by
      rw [sameK]
      cases (kd == kd') <;> cases (fl == fl') <;> cases (n == n') <;> cases (s == s') <;> cases (set == set') <;> cases (sameL kids kids') <;> rfl
    obtain ⟨Z, hZ⟩ : ∃ Z, sameK (.mk kd fl set n s kids sp scap kp kcap) (.mk kd' fl' set' n' s' kids' sp' scap' kp' kcap') = Z := ⟨_, rfl⟩
    rw [hZ] at hS ⊢
    have eX : ((txt s).toList == (txt s').toList) = (s == s') := by rw [Lib.toList_data, Lib.toList_data]; simp [txt]
    obtain ⟨X, hX⟩ : ∃ X, txt s = X := ⟨_, rfl⟩
    obtain ⟨X', hX'⟩ : ∃ X, txt s' = X := ⟨_, rfl⟩
    obtain ⟨M, hM⟩ : ∃ M, set.length = M := ⟨_, rfl⟩
    obtain ⟨M', hM'⟩ : ∃ M, set'.length = M := ⟨_, rfl⟩
    obtain ⟨N, hN⟩ : ∃ N, kids.length = N := ⟨_, rfl⟩
    obtain ⟨N', hN'⟩ : ∃ N, kids'.length = N := ⟨_, rfl⟩
    rw [hX, hX'] at eX ⊢
    rw [hM, hM'] at CE
    rw [hN, hN'] at CF
    rw [hM, hM', hN, hN']
    obtain ⟨v3, e3⟩ : ∃ v, (set == set') = v := ⟨_, rfl⟩
    obtain ⟨v6, e6⟩ : ∃ v, sameL kids kids' = v := ⟨_, rfl⟩
    simp only [e3] at CE hS
    simp only [e6] at CF hS
    obtain ⟨w0, hw0, hb0, hs0, hc0, hd0⟩ := two_boxes W #[.int .i64 kd, .int .u8 fl, .slice sp M scap, .int .u32 n, .string X, .slice kp N kcap] #[.int .i64 kd', .int .u8 fl', .slice sp' M' scap', .int .u32 n', .string X', .slice kp' N' kcap']
    have H12 : Hid (∀ x, Below w0.heap.size w0 x → (x.cell? ⟨W.heap.size, 0, none⟩ = some (.int .i64 kd) ∧ x.cell? ⟨W.heap.size, 1, none⟩ = some (.int .u8 fl) ∧ x.cell? ⟨W.heap.size, 2, none⟩ = some (.slice sp M scap) ∧ x.cell? ⟨W.heap.size, 3, none⟩ = some (.int .u32 n) ∧ x.cell? ⟨W.heap.size, 4, none⟩ = some (.string X) ∧ x.cell? ⟨W.heap.size, 5, none⟩ = some (.slice kp N kcap)) ∧
        (x.cell? ⟨W.heap.size + 1, 0, none⟩ = some (.int .i64 kd') ∧ x.cell? ⟨W.heap.size + 1, 1, none⟩ = some (.int .u8 fl') ∧ x.cell? ⟨W.heap.size + 1, 2, none⟩ = some (.slice sp' M' scap') ∧ x.cell? ⟨W.heap.size + 1, 3, none⟩ = some (.int .u32 n') ∧ x.cell? ⟨W.heap.size + 1, 4, none⟩ = some (.string X') ∧ x.cell? ⟨W.heap.size + 1, 5, none⟩ = some (.slice kp' N' kcap'))) := fun x hb => by
      have h := Cells.later hc0 (hb.block _ (Cells.lt hc0))
      have h2 := Cells.later hd0 (hb.block _ (Cells.lt hd0))
      exact ⟨⟨h.cell (i := 0) rfl, h.cell (i := 1) rfl, h.cell (i := 2) rfl, h.cell (i := 3) rfl, h.cell (i := 4) rfl, h.cell (i := 5) rfl⟩, ⟨h2.cell (i := 0) rfl, h2.cell (i := 1) rfl, h2.cell (i := 2) rfl, h2.cell (i := 3) rfl, h2.cell (i := 4) rfl, h2.cell (i := 5) rfl⟩⟩
    have HB0 := Lib.hid hb0
    have HW0 := Lib.hid hw0
    have CE := Lib.hid CE
    have CF := Lib.hid CF
    have nb : ∀ a b : Nat, ((a : Int) == (b : Int)) = (a == b) := fun a b => by
      by_cases h : a = b
      · subst h; simp
      · have h2 : ((a : Int) == (b : Int)) = false := qF (by omega)
        have h3 : (a == b) = false := by rw [beq_eq_false_iff_ne]; exact h
        rw [h2, h3]
    clear ih hset hset' hkids hkids' hZ hX hX' hM hM' hN hN' hw0 hs2 hk2 hs1 hk1 hb0 hs0 hc0 hd0 e3 e6
    obtain ⟨v1, e1⟩ : ∃ v, (kd == kd') = v := ⟨_, rfl⟩
    have f1 : (kd == kd') = v1 := e1
    rw [e1] at hS
    cases v1
    · have HS := Lib.hid hS
      clear hS
      go_enter Tryz.func18, Tryz.ntmps18
      go_wp2_with fail
      rw [HW0.out]
      obtain ⟨⟨c0, c1, c2, c3, c4, c5⟩, d0, d1, d2, d3, d4, d5⟩ := H12.out w0 (Below.refl _ _)
      go_wp2_with fail
      go_ret
      exact ⟨by rw [HS.out]; try rfl, HB0.out⟩
    rw [Bool.true_and] at hS
    obtain ⟨v2, e2⟩ : ∃ v, (fl == fl') = v := ⟨_, rfl⟩
    have f2 : ((fl : Int) == (fl' : Int)) = v2 := by rw [nb, e2]
    rw [e2] at hS
    cases v2
    · have HS := Lib.hid hS
      clear hS
      go_enter Tryz.func18, Tryz.ntmps18
      go_wp2_with fail
      rw [HW0.out]
      obtain ⟨⟨c0, c1, c2, c3, c4, c5⟩, d0, d1, d2, d3, d4, d5⟩ := H12.out w0 (Below.refl _ _)
      go_wp2_with fail
      go_ret
      exact ⟨by rw [HS.out]; try rfl, HB0.out⟩
    rw [Bool.true_and] at hS
    cases v3
    · have HS := Lib.hid hS
      clear hS
      go_enter Tryz.func18, Tryz.ntmps18
      go_wp2_with fail
      rw [HW0.out]
      obtain ⟨⟨c0, c1, c2, c3, c4, c5⟩, d0, d1, d2, d3, d4, d5⟩ := H12.out w0 (Below.refl _ _)
      go_wp2_with fail
      refine (CE.out w0 HB0.out).mono ?_
      rintro e w2 ⟨rfl, hb2⟩
      have hw2 : Below w0.heap.size w0 w2 := hb2
      have HB2 := Lib.hid (HB0.out.trans (hb2.mono HB0.out.size))
      clear c0 c1 c2 c3 c4 c5 d0 d1 d2 d3 d4 d5
      obtain ⟨⟨c0, c1, c2, c3, c4, c5⟩, d0, d1, d2, d3, d4, d5⟩ := H12.out w2 hw2
      clear hb2 hw2
      go_wp2_with fail
      go_ret
      exact ⟨by rw [HS.out]; try rfl, HB2.out⟩
    rw [Bool.true_and] at hS
    obtain ⟨v4, e4⟩ : ∃ v, (n == n') = v := ⟨_, rfl⟩
    have f4 : ((n : Int) == (n' : Int)) = v4 := by rw [nb, e4]
    rw [e4] at hS
    cases v4
    · have HS := Lib.hid hS
      clear hS
      go_enter Tryz.func18, Tryz.ntmps18
      go_wp2_with fail
      rw [HW0.out]
      obtain ⟨⟨c0, c1, c2, c3, c4, c5⟩, d0, d1, d2, d3, d4, d5⟩ := H12.out w0 (Below.refl _ _)
      go_wp2_with fail
      refine (CE.out w0 HB0.out).mono ?_
      rintro e w2 ⟨rfl, hb2⟩
      have hw2 : Below w0.heap.size w0 w2 := hb2
      have HB2 := Lib.hid (HB0.out.trans (hb2.mono HB0.out.size))
      clear c0 c1 c2 c3 c4 c5 d0 d1 d2 d3 d4 d5
      obtain ⟨⟨c0, c1, c2, c3, c4, c5⟩, d0, d1, d2, d3, d4, d5⟩ := H12.out w2 hw2
      clear hb2 hw2
      go_wp2_with fail
      go_ret
      exact ⟨by rw [HS.out]; try rfl, HB2.out⟩
    rw [Bool.true_and] at hS
    obtain ⟨v5, e5⟩ : ∃ v, (s == s') = v := ⟨_, rfl⟩
    rw [e5] at eX
    rw [e5] at hS
    cases v5
    · have HS := Lib.hid hS
      clear hS
      go_enter Tryz.func18, Tryz.ntmps18
      go_wp2_with fail
      rw [HW0.out]
      obtain ⟨⟨c0, c1, c2, c3, c4, c5⟩, d0, d1, d2, d3, d4, d5⟩ := H12.out w0 (Below.refl _ _)
      go_wp2_with fail
      refine (CE.out w0 HB0.out).mono ?_
      rintro e w2 ⟨rfl, hb2⟩
      have hw2 : Below w0.heap.size w0 w2 := hb2
      have HB2 := Lib.hid (HB0.out.trans (hb2.mono HB0.out.size))
      clear c0 c1 c2 c3 c4 c5 d0 d1 d2 d3 d4 d5
      obtain ⟨⟨c0, c1, c2, c3, c4, c5⟩, d0, d1, d2, d3, d4, d5⟩ := H12.out w2 hw2
      clear hb2 hw2
      go_wp2_with fail
      go_ret
      exact ⟨by rw [HS.out]; try rfl, HB2.out⟩
    rw [Bool.true_and] at hS
    cases v6
    · have HS := Lib.hid hS
      clear hS
      go_enter Tryz.func18, Tryz.ntmps18
      go_wp2_with fail
      rw [HW0.out]
      obtain ⟨⟨c0, c1, c2, c3, c4, c5⟩, d0, d1, d2, d3, d4, d5⟩ := H12.out w0 (Below.refl _ _)
      go_wp2_with fail
      refine (CE.out w0 HB0.out).mono ?_
      rintro e w2 ⟨rfl, hb2⟩
      have hw2 : Below w0.heap.size w0 w2 := hb2
      have HB2 := Lib.hid (HB0.out.trans (hb2.mono HB0.out.size))
      clear c0 c1 c2 c3 c4 c5 d0 d1 d2 d3 d4 d5
      obtain ⟨⟨c0, c1, c2, c3, c4, c5⟩, d0, d1, d2, d3, d4, d5⟩ := H12.out w2 hw2
      clear hb2 hw2
      go_wp2_with fail
      refine (CF.out w2 HB2.out).mono ?_
      rintro e w3 ⟨rfl, hb3⟩
      have HB3 := Lib.hid (HB2.out.trans (hb3.mono HB2.out.size))
      clear hb3
      go_wp2_with fail
      go_ret
      exact ⟨by rw [HS.out]; try rfl, HB3.out⟩
    · have HS := Lib.hid hS
      clear hS
      go_enter Tryz.func18, Tryz.ntmps18
      go_wp2_with fail
      rw [HW0.out]
      obtain ⟨⟨c0, c1, c2, c3, c4, c5⟩, d0, d1, d2, d3, d4, d5⟩ := H12.out w0 (Below.refl _ _)
      go_wp2_with fail
      refine (CE.out w0 HB0.out).mono ?_
      rintro e w2 ⟨rfl, hb2⟩
      have hw2 : Below w0.heap.size w0 w2 := hb2
      have HB2 := Lib.hid (HB0.out.trans (hb2.mono HB0.out.size))
      clear c0 c1 c2 c3 c4 c5 d0 d1 d2 d3 d4 d5
      obtain ⟨⟨c0, c1, c2, c3, c4, c5⟩, d0, d1, d2, d3, d4, d5⟩ := H12.out w2 hw2
      clear hb2 hw2
      go_wp2_with fail
      refine (CF.out w2 HB2.out).mono ?_
      rintro e w3 ⟨rfl, hb3⟩
      have HB3 := Lib.hid (HB2.out.trans (hb3.mono HB2.out.size))
      clear hb3
      go_wp2_with fail
      go_ret
      exact ⟨by rw [HS.out]; try rfl, HB3.out⟩
end Go.Proofs.YtpnnchpaaopdcaaGreatDoor

/-
  The law EpochRuns, walked.
-/
import Derived.Test.YtefmojohabdjcaaRnI
import Derived.Deep.CutRange
set_option linter.unusedVariables false
set_option linter.unusedSimpArgs false
namespace Go.Proofs.Ytefmojohabdjcaa
open Go Go.RowKit
attribute [local go_sem ↓] Go.wp_at_zero Go.wp_at_succ

def StepC : Prop := ∀ (W0 : World) (B : RB) (C : RC) (s : RS) (w : World) (n : Nat), RInv W0 B C s w → LInv B n s → n ≤ 1000 → ∀ (who : Nat), who < B.p.R → ∀ (la : Option Addr) (lc : Nat) (l : List Nat), l.length ≤ 40 → (∀ x, x ∈ l → x < 256) →
  (∀ w', Below W0.heap.size W0 w' → RowAt w' (.slice la l.length lc) (l.map fun n : Nat => Value.int .u8 n)) →
  Calls Try.prog 8 #[pW B, .int .i64 who, .slice la l.length lc] w fun e w' => e = .returned (.bool true) ∧ ∃ C' s', RInv W0 B C' s' w' ∧ LInv B (n + 1) s'
variable {W : World}
theorem ActsAt.below {v : Value} {ls : List (List Nat)} {W' : World} (h : ActsAt W v ls) (hb : Below W.heap.size W W') : ActsAt W' v ls := by
  obtain ⟨vs, h1, h2, h3⟩ := h
  exact ⟨vs, h1, h2.below hb, fun i x l hx hl => ⟨(h3 i x l hx hl).1.below hb, (h3 i x l hx hl).2⟩⟩

set_option maxRecDepth 20000 in
set_option maxHeartbeats 4000000 in
theorem runs_easy (r : Int) (ap : Option Addr) (an ac : Nat) (pp : Option Addr) (pn pc : Nat) (h : r < 1 ∨ 8 < r ∨ 8 < an ∨ 800 < pn) : Calls Try.prog 3 #[.agg #[.int .i64 r, .slice ap an ac, .slice pp pn pc]] W fun e w' => e = .returned (.bool true) ∧ Below W.heap.size W w' := by
  have hT := Tri.new W 25 (.int .i64 r) (.slice ap an ac) (.slice pp pn pc)
  have HB : Hid (Below W.heap.size W (W.alloc (.cells #[.int .i64 r, .slice ap an ac, .slice pp pn pc] 25))) := (Below.refl _ _).alloc (Nat.le_refl _) _
  go_enter Try.func3, Try.ntmps3
  go_upto_region 1 with (fail)
  obtain ⟨W1, hW1⟩ : ∃ W1, W.alloc (.cells #[.int .i64 r, .slice ap an ac, .slice pp pn pc] 25) = W1 := ⟨_, rfl⟩
  rw [hW1] at hT HB ⊢
  obtain ⟨c0, c1, c2, _⟩ := hT.cell
  have c4 := hT.lt
  clear hT hW1
  by_cases h1 : r < 1
  · go_wp2_with fail
    go_ret
    exact ⟨rfl, HB.out⟩
  by_cases h2 : 8 < r
  · go_wp2_with fail
    go_ret
    exact ⟨rfl, HB.out⟩
  by_cases h3 : 8 < an
  · have q3 : (8 : Int) < an := by omega
    go_wp2_with fail
    go_ret
    exact ⟨rfl, HB.out⟩
  have q3 : ¬ (8 : Int) < an := by omega
  have q4 : (800 : Int) < pn := by omega
  go_wp2_with fail
  go_ret
  exact ⟨rfl, HB.out⟩

set_option maxRecDepth 20000 in
set_option maxHeartbeats 4000000 in
theorem runs_walk (HSTEP : Hid StepC) (R : Nat) (h1 : 1 ≤ R) (h8 : R ≤ 8) (av : Value) (ls : List (List Nat)) (hls : ls.length ≤ 8) (pv : Value) (picks : List Int) (hpl : picks.length ≤ 800) (hpb : ∀ x, x ∈ picks → -9223372036854775808 ≤ x ∧ x ≤ 9223372036854775807) (ha : ActsAt W av ls) (hp : RowAt W pv (intsV picks)) :
    Calls Try.prog 3 #[.agg #[.int .i64 R, av, pv]] W fun e w' => e = .returned (.bool true) ∧ Below W.heap.size W w' := by
  obtain ⟨vs, hvl, hrow, hin⟩ := ha
  obtain ⟨ap, ac, rfl⟩ := hrow.form
  obtain ⟨pp, pc, rfl⟩ := hp.form
  obtain ⟨an, han⟩ : ∃ an, vs.length = an := ⟨_, rfl⟩
  obtain ⟨pn, hpn⟩ : ∃ pn, picks.length = pn := ⟨_, rfl⟩
  rw [intsV_len, hpn] at hp ⊢
  rw [han] at hrow ⊢
  have hT := Tri.new W 25 (.int .i64 R) (.slice ap an ac) (.slice pp pn pc)
  have hB := (Below.refl W.heap.size W).alloc (Nat.le_refl _) (.cells #[.int .i64 R, .slice ap an ac, .slice pp pn pc] 25)
  have q1 : ¬ (R : Int) < 1 := by omega
  have q2 : ¬ (8 : Int) < R := by omega
  have q3 : ¬ (8 : Int) < an := by omega
  have q4 : ¬ (800 : Int) < pn := by omega
  have hpn8 : pn ≤ 800 := by omega
  have HROW := Lib.hid hrow
  have HIN := Lib.hid hin
  have HVL := Lib.hid hvl
  have HAN := Lib.hid han
  have HPN := Lib.hid hpn
  have HP := Lib.hid hp
  have HPB := Lib.hid hpb
  have CM := Lib.hid (fun w => made_c R h1 h8 w)
  unfold MadeE pE at CM
  have hmk := run_doings R h8
  clear hrow hin hvl han hpn hp hpb hls hpl
  go_enter Try.func3, Try.ntmps3
  go_upto_region 1 with (fail)
  obtain ⟨D, hD⟩ : ∃ D, W.heap.size = D := ⟨_, rfl⟩
  obtain ⟨W1, hW1⟩ : ∃ W1, W.alloc (.cells #[.int .i64 R, .slice ap an ac, .slice pp pn pc] 25) = W1 := ⟨_, rfl⟩
  have hsz : W1.heap.size = D + 1 := by rw [← hW1, World.size_alloc, hD]
  rw [hW1] at hT hB ⊢
  rw [hD] at hT ⊢
  have HT := Lib.hid hT
  have HB := Lib.hid hB
  have HSZ := Lib.hid hsz
  obtain ⟨c0, c1, c2, _⟩ := hT.cell
  have c4 := hT.lt
  clear hT hB hW1 hD hsz
  go_wp2_with fail
  go_loopw [3] (fun i wr => ∃ (k : Nat), k ≤ an ∧ i = .int .i64 k ∧ Hid (∀ (i : Nat) (l : List Nat), i < k → ls[i]? = some l → l.length ≤ 40) ∧ wr = W1) (fun i _ => an - (intOf i).toNat)
  case atStart => exact ⟨0, Nat.zero_le _, rfl, fun i l hi => absurd hi (Nat.not_lt_zero _), rfl⟩
  case round =>
    obtain ⟨k, hk, rfl, HLE, hwr⟩ := hrel
    rw [hwr]
    clear hwr wr
    by_cases hlt : k < an
    · have hq : (k : Int) < an := by omega
      have hq0 : (0 : Int) ≤ k := by omega
      have hkv : k < vs.length := by rw [HAN.out]; exact hlt
      have hkl : k < ls.length := by rw [← HVL.out]; exact hkv
      obtain ⟨x, hx⟩ : ∃ x, vs[k]? = some x := ⟨_, List.getElem?_eq_getElem hkv⟩
      obtain ⟨l, hl⟩ : ∃ l, ls[k]? = some l := ⟨_, List.getElem?_eq_getElem hkl⟩
      obtain ⟨b, off, hap, hb, d0⟩ := (HROW.out.below HB.out).at hx
      cases hap
      obtain ⟨xa, xc, hxf⟩ := ((HIN.out k x l hx hl).1).form
      rw [hxf] at d0
      rw [List.length_map] at d0
      obtain ⟨m, hm⟩ : ∃ m, l.length = m := ⟨_, rfl⟩
      rw [hm] at d0
      have HM := Lib.hid hm
      have HLk := Lib.hid hl
      clear hx hl hkv hkl hxf hm
      by_cases h40 : 40 < m
      · have g40 : (40 : Int) < m := by omega
        go_wp2_with fail
        go_ret
        exact ⟨rfl, HB.out⟩
      · have g40 : ¬ (40 : Int) < m := by omega
        have HLE2 : Hid (∀ (i : Nat) (l : List Nat), i < k + 1 → ls[i]? = some l → l.length ≤ 40) := fun i l' hi hl' => by
          by_cases hik : i = k
          · subst hik
            rw [HLk.out] at hl'
            cases hl'
            rw [HM.out]; omega
          · exact HLE.out i l' (by omega) hl'
        go_wp2_with fail
        go_roundw
        case rel => exact ⟨k + 1, by omega, by go_num, HLE2, (by first | rfl | trivial)⟩
        case measure => simp [intOf]; omega
    · obtain rfl : k = an := by omega
      have hq : ¬ (k : Int) < k := by omega
      go_wp2_with fail
      have HX : Hid (∀ w', Below W1.heap.size W1 w' → Tri w' D 25 (.int .i64 R) (.slice ap k ac) (.slice pp pn pc)) := fun w' hb => HT.out.below hb (by rw [HSZ.out]; omega)
      have e0 : ∀ w', Below W1.heap.size W1 w' → w'.cell? ⟨D, 0, none⟩ = some (.int .i64 R) := fun w' hb => (HX.out w' hb).cell.1
      have E0 := Lib.hid e0
      have hd0 := c0
      clear e0 c1 c2
      go_cut [4] from 8 (fun t4 wx => ∃ (B : RB) (s : ES), t4 = pW B ∧ Hid (RInv W1 B RC0 (RS0 s) wx) ∧ Hid (LInv B 0 (RS0 s)) ∧ Hid (B.p.R = R))
      case first =>
        go_region_held3 (fun w' => w'.cell? ⟨D, 0, none⟩ = some (.int .i64 R))
          (first | exact hd0 | exact E0.out _ hb2 | exact E0.out _ ((Below.refl _ _).alloc (Nat.le_refl _) _) | exact E0.out _ (hb2.alloc hb2.size _) | exact E0.out _ ((hb2.alloc hb2.size _).alloc (by have := hb2.size; simp; omega) _) | exact E0.out _ ((Below.refl _ _).alloc (Nat.le_refl _) _).drew | exact E0.out _ (Below.refl _ _).drew)
          ((go_at_call 7; refine (CM.out _).mono ?_; rintro e w2 ⟨p, s, rfl, hpR, hE, hF, hb2', hge⟩; have hb2 : Below W1.heap.size W1 w2 := (by first | exact hb2' | exact ((Below.refl W1.heap.size W1).alloc (Nat.le_refl _) (.cells (dgCells R) 75)).trans (hb2'.mono (by simp)) | exact ((Below.refl W1.heap.size W1).drew).trans hb2' | exact (((Below.refl W1.heap.size W1).alloc (Nat.le_refl _) (.cells (dgCells R) 75)).drew).trans (hb2'.mono (by simp)))))
        · have hn := heap_alloc_new w2 (.cells (dgCells R) 75)
          obtain ⟨i1, i2⟩ := rinit (W0 := W1) (Ab := w2.heap.size) (hE.alloc (.cells (dgCells R) 75)) hF hpR h8 hn (hb2.alloc hb2.size _) hb2.size (fun k hk => by have := hge k hk; simpa using this)
          rw [World.size_alloc] at i1 i2
          have HI1 := Lib.hid i1
          have HI2 := Lib.hid i2
          have HPR := Lib.hid hpR
          clear hn i1 i2 hE hF hpR hb2 hb2' hge
          go_wp2_with fail
          go_meet
          case rel => exact ⟨_, _, rfl, HI1, HI2, HPR⟩
        · have hn : Cells w2 W1.heap.size 75 (dgCells R) := by
            have h1 := heap_alloc_new W1 (.cells (dgCells R) 75)
            exact (hb2'.block _ (by show W1.heap.size < (W1.alloc _).heap.size; rw [World.size_alloc]; omega)).trans h1
          obtain ⟨i1, i2⟩ := rinit (W0 := W1) (Ab := W1.heap.size) hE hF hpR h8 hn hb2 (Nat.le_refl _) (fun k hk => by
            have := hge k hk
            have h2 : (W1.alloc (.cells (dgCells R) 75)).heap.size ≤ k := this
            rw [World.size_alloc] at h2; omega)
          have HI1 := Lib.hid i1
          have HI2 := Lib.hid i2
          have HPR := Lib.hid hpR
          clear hn i1 i2 hE hF hpR hb2 hb2' hge
          go_wp2_with fail
          go_meet
          case rel => exact ⟨_, _, rfl, HI1, HI2, HPR⟩
      case rest =>
        obtain ⟨B, s0, rfl, HI0, HL0, HBR⟩ := hcut
        clear hd0 c0 c4 hmk CM
        obtain ⟨b0, b1, b2, b3⟩ := HI0.out.wq.cell
        have b4 := HI0.out.wq.lt
        obtain ⟨c0, c1, c2, _⟩ := (HX.out _ HI0.out.bel).cell
        have c4 := (HX.out _ HI0.out.bel).lt
        unfold pE at b0
        unfold pW
        go_wp2_with fail
        clear b0 b1 b2 b3 b4 c0 c1 c2 c4
        go_loopw [5] (fun i wr => ∃ (j : Nat) (C : RC) (s : RS), j ≤ pn ∧ i = .int .i64 j ∧ Hid (RInv W1 B C s wr) ∧ Hid (LInv B j s)) (fun i _ => pn - (intOf i).toNat)
        case atStart => exact ⟨0, _, _, Nat.zero_le _, rfl, HI0, HL0⟩
        case round =>
          obtain ⟨j, C, s, hj, rfl, HI, HL⟩ := hrel
          clear HI0 HL0
          obtain ⟨c0, c1, c2, _⟩ := (HX.out _ HI.out.bel).cell
          have c4 := (HX.out _ HI.out.bel).lt
          by_cases hlt2 : j < pn
          · have hq2 : (j : Int) < pn := by omega
            have hq3 : (0 : Int) ≤ j := by omega
            have hjp : j < picks.length := by rw [HPN.out]; exact hlt2
            obtain ⟨x, hx⟩ : ∃ x, picks[j]? = some x := ⟨_, List.getElem?_eq_getElem hjp⟩
            obtain ⟨x1, x2⟩ := HPB.out x (List.mem_of_getElem? hx)
            obtain ⟨b, off, hpp, hb, d0⟩ := (HP.out.below (HB.out.trans (HI.out.bel.mono HB.out.size))).at (j := j) (u := .int .i64 x) (by unfold intsV; rw [List.getElem?_map, hx]; rfl)
            cases hpp
            obtain ⟨who, hwho, hcase⟩ := who_lt (R := R) (by omega) x
            have hRz : ¬ ((R : Int) = 0) := by omega
            have hRz2 : ((R : Int) == 0) = false := by rw [beq_eq_false_iff_ne]; omega
            have HWH := Lib.hid hwho
            clear hx hjp
            go_wp2_with fail
            go_quiet (fail)
            have HI2 := Lib.hid (HI.out.drew nq)
            obtain ⟨w4, hw4⟩ : ∃ w4, wr.drewN nq = w4 := ⟨_, rfl⟩
            rw [hw4] at HI2 ⊢
            clear hw4 c0 c1 c2 c4 d0 hb HI
            obtain ⟨c0, c1, c2, _⟩ := (HX.out _ HI2.out.bel).cell
            have c4 := (HX.out _ HI2.out.bel).lt
            clear c1 c2
            go_upto_if 71 with (fail)
            go_cut [6] from 60 to 95 (fun t6 wx => t6 = .int .i64 who ∧ wx = w4)
            case first =>
              rcases hcase with ⟨h5, h6⟩ | ⟨h5, h6⟩
              · have hb6 : -9223372036854775808 ≤ x.tmod R + R ∧ x.tmod R + R ≤ 9223372036854775807 := by omega
                have H6 := Lib.hid h6
                clear h6
                go_wp2_with fail
                rw [H6.out]
                go_meet
                case rel => exact ⟨rfl, rfl⟩
              · rw [h6] at h5 ⊢
                have H6 := Lib.hid h6
                clear h6
                go_wp2_with fail
                go_meet
                case rel => exact ⟨rfl, rfl⟩
            case rest =>
              obtain ⟨rfl, hwc⟩ := hcut
              rw [hwc]
              clear hwc wc hcase hRz hRz2 c0 c4
              obtain ⟨c0, c1, c2, _⟩ := (HX.out _ HI2.out.bel).cell
              have c4 := (HX.out _ HI2.out.bel).lt
              have hw0 : (0 : Int) ≤ who := by omega
              by_cases hwk : who < k
              · have q9 : (who : Int) < k := by omega
                have hkv : who < vs.length := by rw [HAN.out]; exact hwk
                have hkl : who < ls.length := by rw [← HVL.out]; exact hkv
                obtain ⟨y, hy⟩ : ∃ y, vs[who]? = some y := ⟨_, List.getElem?_eq_getElem hkv⟩
                obtain ⟨l, hl⟩ : ∃ l, ls[who]? = some l := ⟨_, List.getElem?_eq_getElem hkl⟩
                obtain ⟨b2, off2, hap, hb2, d0⟩ := (HROW.out.below (HB.out.trans (HI2.out.bel.mono HB.out.size))).at hy
                cases hap
                obtain ⟨xa, xc, hxf⟩ := ((HIN.out who y l hy hl).1).form
                have hin := HIN.out who y l hy hl
                rw [hxf] at d0 hin
                rw [List.length_map] at d0 hin
                have CS := Lib.hid (HSTEP.out W1 B C s w4 j HI2.out HL.out (by omega) who (by rw [HBR.out]; exact HWH.out) xa xc l (HLE.out who l hwk hl) hin.2 (fun w' hb => hin.1.below (HB.out.trans (hb.mono HB.out.size))))
                unfold pW at CS
                clear hy hl hkv hkl hxf hin c0 c2
                go_wp2_with fail
                refine CS.out.mono ?_
                rintro e w5 ⟨rfl, C5, s5, hI5, hL5⟩
                have CR := Lib.hid (right_c hI5 hL5 (by omega))
                have HL5 := Lib.hid hL5
                unfold pW at CR
                clear hI5 hL5 CS d0 c1 c4 hb2
                go_wp2_with fail
                refine CR.out.mono ?_
                rintro e w6 ⟨rfl, hI6⟩
                have HI6 := Lib.hid hI6
                clear hI6 CR
                go_wp2_with fail
                go_roundw
                case rel => exact ⟨j + 1, _, _, by omega, by go_num, HI6.out, HL5.out⟩
                case measure => simp [intOf]; omega
              · have q9 : ¬ (who : Int) < k := by omega
                have CS := Lib.hid (HSTEP.out W1 B C s w4 j HI2.out HL.out (by omega) who (by rw [HBR.out]; exact HWH.out) none 0 [] (by simp) (fun y hy => by simp at hy) (fun w' hb => .inl ⟨rfl, rfl⟩))
                unfold pW at CS
                clear c0 c2
                go_wp2_with fail
                refine CS.out.mono ?_
                rintro e w5 ⟨rfl, C5, s5, hI5, hL5⟩
                have CR := Lib.hid (right_c hI5 hL5 (by omega))
                have HL5 := Lib.hid hL5
                unfold pW at CR
                clear hI5 hL5 CS c1 c4
                go_wp2_with fail
                refine CR.out.mono ?_
                rintro e w6 ⟨rfl, hI6⟩
                have HI6 := Lib.hid hI6
                clear hI6 CR
                go_wp2_with fail
                go_roundw
                case rel => exact ⟨j + 1, _, _, by omega, by go_num, HI6.out, HL5.out⟩
                case measure => simp [intOf]; omega
          · obtain rfl : j = pn := by omega
            have hq2 : ¬ (j : Int) < j := by omega
            go_wp2_with fail
            refine (awake6_c _).mono ?_
            rintro e w3 ⟨rfl, hb3⟩
            have HB3 : Hid (Below W.heap.size W w3) := (HB.out.trans (HI.out.bel.mono HB.out.size)).trans (hb3.mono (HB.out.trans (HI.out.bel.mono HB.out.size)).size)
            clear hb3
            go_wp2_with fail
            go_ret
            exact ⟨rfl, HB3.out⟩
end Go.Proofs.Ytefmojohabdjcaa

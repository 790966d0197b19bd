/-
  The law EpochAlone, walked.
-/
import Derived.Test.YtefmojohabdjcaaAlnP
set_option linter.unusedVariables false
set_option linter.unusedSimpArgs false
namespace Go.Proofs.Ytefmojohabdjcaa
open Go Go.RowKit
attribute [local go_sem ↓] Go.wp_at_zero Go.wp_at_succ

set_option maxRecDepth 20000 in
set_option maxHeartbeats 4000000 in
theorem alone_walk (r : Nat) (hr : r < 256) (lv : Value) (ls : List Nat) (hls : ls.length ≤ 60) (hl8 : ∀ x ∈ ls, x < 256) (W : World) (hlv : RowAt W lv (ls.map fun n : Nat => Value.int .u8 n)) :
    Calls Try.prog 5 #[.int .u8 r, lv] W fun e w' => e = .returned (.bool true) ∧ Below W.heap.size W w' := by
  obtain ⟨N, hN⟩ : ∃ N, ls.length = N := ⟨_, rfl⟩
  obtain ⟨la, lc, rfl⟩ := hlv.form
  rw [List.length_map, hN] at hlv ⊢
  have q60 : ¬ (60 : Int) < N := by omega
  obtain ⟨R, hR⟩ : ∃ R, R = 1 + r % 8 := ⟨_, rfl⟩
  have eR : (1 : Int) + (r : Int) % 8 = (R : Int) := by omega
  have hR1 : 1 ≤ R := by omega
  have hR8 : R ≤ 8 := by omega
  have CM := Lib.hid (fun w => made_c R hR1 hR8 w)
  have HLV := Lib.hid hlv
  have HN := Lib.hid hN
  have HL8 := Lib.hid hl8
  have hNN : N ≤ 60 := by omega
  have ER := Lib.hid eR
  clear hlv hN hl8 hR hls eR
  go_enter Try.func5, Try.ntmps5
  go_wp2_with fail
  rw [ER.out]
  refine (CM.out _).mono ?_
  rintro e w1 ⟨p, s, rfl, hpR, hE, hF, hB, hge⟩
  have hmk := run_ints R (by omega)
  have HF := Lib.hid hF
  have HPR := Lib.hid hpR
  have HGE := Lib.hid hge
  have hA0 := AtRow.new w1 R
  have hE0 := hE.alloc (.cells (zeroCells R) 3)
  have HI0 : Hid (EpAt p s (w1.alloc (.cells (zeroCells R) 3)) ∧ AtRow (w1.alloc (.cells (zeroCells R) 3)) w1.heap.size R (fun i => if i < 0 then none else some 0) ∧ Below W.heap.size W (w1.alloc (.cells (zeroCells R) 3))) :=
    ⟨hE0, by simpa using hA0, hB.alloc hB.size _⟩
  have HGA : Hid (W.heap.size ≤ w1.heap.size) := hB.size
  clear CM hpR hE hF hB hge hA0 hE0
  unfold pE
  go_wp2_with fail
  clear hmk
  obtain ⟨A, hA⟩ : ∃ A, w1.heap.size = A := ⟨_, rfl⟩
  rw [hA] at HI0 HGA ⊢
  clear hA
  go_loopw [9] (fun i wr => ∃ (k : Nat), k ≤ R ∧ i = .int .i64 k ∧ Hid (EpAt p s wr ∧ AtRow wr A R (fun i => if i < k then none else some 0) ∧ Below W.heap.size W wr)) (fun i _ => R - (intOf i).toNat)
  case atStart => exact ⟨0, Nat.zero_le _, rfl, HI0⟩
  case round =>
    obtain ⟨k, hk, rfl, HI⟩ := hrel
    clear HI0
    by_cases hlt : k < R
    · have hq : (k : Int) < R := by omega
      have hq0 : (0 : Int) ≤ k := by omega
      obtain ⟨hE, hA, hB⟩ := HI.out
      obtain ⟨d0, d1⟩ := hA.cell hlt
      have d2 := hA.lt
      have HI2 : Hid (EpAt p s (wr.setCell ⟨A, k, none⟩ (.int .i64 (-1))) ∧ AtRow (wr.setCell ⟨A, k, none⟩ (.int .i64 (-1))) A R (fun i => if i < k + 1 then none else some 0) ∧ Below W.heap.size W (wr.setCell ⟨A, k, none⟩ (.int .i64 (-1)))) := by
        refine ⟨hE.setAt hA k _, ?_, hB.setCell (p := ⟨A, k, none⟩) HGA.out _⟩
        have h := hA.set hlt none
        have e : put1 (fun i => if i < k then none else some 0) k none = (fun i => if i < k + 1 then none else some 0) := by
          funext i
          by_cases hi : i = k
          · subst hi; rw [put1_same, if_pos (by omega)]
          · rw [put1_other _ _ hi]
            by_cases h2 : i < k
            · rw [if_pos h2, if_pos (by omega)]
            · rw [if_neg h2, if_neg (by omega)]
        rw [← e]; exact h
      clear hE hA hB HI
      go_wp2_with fail
      go_roundw
      case rel => exact ⟨k + 1, by omega, by go_num, HI2⟩
      case measure => simp [intOf]; omega
    · obtain rfl : k = R := by omega
      have hq : ¬ (k : Int) < k := by omega
      have HJ0 : Hid (AlnInv W p A k 0 10 s (fun _ => none) wr) := by
        obtain ⟨hE, hA, hB⟩ := HI.out
        refine ⟨hE, Stil.new HF.out, by rw [HF.out.t]; omega, ?_, hB, HPR.out, HGE.out, HGA.out⟩
        obtain ⟨cur, h1, h2⟩ := hA
        exact ⟨cur, h1, fun i hi => by have := h2 i hi; simpa [hi] using this⟩
      clear HI HF
      go_wp2_with fail
      go_loopw [8, 10] (fun nv i wr => ∃ (j now : Nat) (s : ES) (at' : Nat → Option Nat), j ≤ N ∧ i = .int .i64 j ∧ nv = .int .i64 now ∧ Hid (AlnInv W p A k now (10 + 12 * j) s at' wr)) (fun _ i _ => N - (intOf i).toNat)
      case atStart => exact ⟨0, 0, s, _, Nat.zero_le _, rfl, rfl, HJ0⟩
      case round =>
        obtain ⟨j, now, s, at', hj, rfl, rfl, HJ⟩ := hrel
        clear HJ0
        by_cases hlt2 : j < N
        · have hq2 : (j : Int) < N := by omega
          have hq3 : (0 : Int) ≤ j := by omega
          have hjl : j < ls.length := by rw [HN.out]; exact hlt2
          obtain ⟨x, hx⟩ : ∃ x, ls[j]? = some x := ⟨_, List.getElem?_eq_getElem hjl⟩
          have hx8 : x < 256 := HL8.out x (List.mem_of_getElem? hx)
          obtain ⟨b, off, hla, hb, c0⟩ := (HLV.out.below (HJ.out.bel)).at (j := j) (u := .int .u8 x) (by rw [List.getElem?_map, hx]; rfl)
          cases hla
          obtain ⟨who, hwho⟩ : ∃ who, who = x / 4 % k := ⟨_, rfl⟩
          have hwk : who < k := by rw [hwho]; exact Nat.mod_lt _ (by omega)
          have eW : ((x : Int) / 4) % (k : Int) = (who : Int) := by rw [hwho]; simp
          have EW := Lib.hid eW
          have hkz : ¬ ((k : Int) = 0) := by omega
          have hkz2 : ((k : Int) == 0) = false := by rw [beq_eq_false_iff_ne]; omega
          have hbr : b < wr.heap.size := hb
          clear hx hjl eW hwho
          have h4 : x % 4 = 0 ∨ x % 4 = 1 ∨ x % 4 = 2 ∨ x % 4 = 3 := by omega
          rcases h4 with h4 | h4 | h4 | h4
          · have z0 : ((x : Int) % 4 == 0) = true := by rw [beq_iff_eq]; omega
            clear h4
            go_wp2_with fail
            rw [EW.out]
            refine (pin_c HJ.out.ep who (by rw [HJ.out.R]; exact hwk)).mono ?_
            rintro e w2 ⟨A2, b2, rfl, hA0, hb0, hA, hpb, hb2⟩
            have CA := Lib.hid (alonePin_c HJ.out.ep HJ.out.st (by have := HJ.out.t; omega) who (by rw [HJ.out.R]; exact hwk) A2 b2 hA0 hb0 hA hpb hb2)
            clear hA0 hb0 hA hpb hb2
            unfold pa at CA ⊢
            go_wp2_with fail
            refine CA.out.mono ?_
            rintro e w3 ⟨rfl, s9, hE3, hS3, ht3, hm3⟩
            have hr3 := HJ.out.row.keepE HJ.out.ep hm3
            obtain ⟨d0, d1⟩ := hr3.cell hwk
            have d2 := hr3.lt
            obtain ⟨w4, hw4⟩ : ∃ w4, w3.setCell ⟨A, who, none⟩ (.int .i64 now) = w4 := ⟨_, rfl⟩
            have HJ9 : Hid (AlnInv W p A k now (10 + 12 * (j + 1)) s9 (put1 at' who (some now)) w4) := by
              rw [← hw4]
              exact ⟨hE3.setAt hr3 who _, hS3, by have := HJ.out.t; omega, hr3.set hwk (some now), (HJ.out.bel.trans (hm3.toBelow HJ.out.bel.size HJ.out.ge)).setCell (p := ⟨A, who, none⟩) HJ.out.geA _, HJ.out.R, HJ.out.ge, HJ.out.geA⟩
            have HW4 := Lib.hid hw4
            clear hE3 hS3 ht3 hm3 hr3 hw4 CA HJ c0 hb
            go_wp2_with fail
            rw [HW4.out]
            clear d0 d1 d2
            have hat : put1 at' who (some now) who = some now := put1_same _ _ _
            obtain ⟨at9, hat9⟩ : ∃ at9, put1 at' who (some now) = at9 := ⟨_, rfl⟩
            rw [hat9] at hat HJ9
            clear hat9
            obtain ⟨hsn, hse⟩ := HJ9.out.small (by omega)
            have C7 := aln_pinned HJ9.out who hwk
            rw [hat] at C7
            have HC7 := Lib.hid C7
            clear C7
            unfold pE at HC7
            dsimp only [Option.getD, Option.isSome] at HC7
            have he9 := hse who now hwk hat
            have n9 : ((now : Int) != (now : Int)) = false := by simp
            have g9 : (0 : Int) ≤ now := by omega
            have nN : ((now : Int) != (now : Int)) = false := by simp
            clear hse
            go_wp2_with fail
            refine HC7.out.mono ?_
            rintro e w7 ⟨rfl, q7, hw7⟩
            have HJ8 := Lib.hid (HJ9.out.drewN q7)
            rw [← hw7] at HJ8
            clear hw7 HC7 HJ9
            obtain ⟨d0, d1⟩ := HJ8.out.row.cell hwk
            rw [hat] at d0
            unfold atN at d0
            have HC8 := Lib.hid (aln_now HJ8.out)
            unfold pE at HC8
            have HAT := Lib.hid hat
            clear hat
            go_wp2_with (go_at_call 21; refine HC8.out.mono ?_; rintro e w' ⟨rfl, hw⟩; rw [hw]; clear hw w')
            go_roundw
            case rel => exact ⟨j + 1, _, _, _, by omega, by go_num, by go_num, HJ8.out⟩
            case measure => simp [intOf]; omega
          · have z0 : ((x : Int) % 4 == 0) = false := by rw [beq_eq_false_iff_ne]; omega
            have z1 : ((x : Int) % 4 == 1) = true := by rw [beq_iff_eq]; omega
            clear h4
            go_wp2_with fail
            rw [EW.out]
            refine (pin_c HJ.out.ep who (by rw [HJ.out.R]; exact hwk)).mono ?_
            rintro e w2 ⟨A2, b2, rfl, hA0, hb0, hA, hpb, hb2⟩
            have CA := Lib.hid (alonePin_c HJ.out.ep HJ.out.st (by have := HJ.out.t; omega) who (by rw [HJ.out.R]; exact hwk) A2 b2 hA0 hb0 hA hpb hb2)
            clear hA0 hb0 hA hpb hb2
            unfold pa at CA ⊢
            go_wp2_with fail
            refine CA.out.mono ?_
            rintro e w3 ⟨rfl, s9, hE3, hS3, ht3, hm3⟩
            have hr3 := HJ.out.row.keepE HJ.out.ep hm3
            obtain ⟨d0, d1⟩ := hr3.cell hwk
            have d2 := hr3.lt
            obtain ⟨w4, hw4⟩ : ∃ w4, w3.setCell ⟨A, who, none⟩ (.int .i64 now) = w4 := ⟨_, rfl⟩
            have HJ9 : Hid (AlnInv W p A k now (10 + 12 * (j + 1)) s9 (put1 at' who (some now)) w4) := by
              rw [← hw4]
              exact ⟨hE3.setAt hr3 who _, hS3, by have := HJ.out.t; omega, hr3.set hwk (some now), (HJ.out.bel.trans (hm3.toBelow HJ.out.bel.size HJ.out.ge)).setCell (p := ⟨A, who, none⟩) HJ.out.geA _, HJ.out.R, HJ.out.ge, HJ.out.geA⟩
            have HW4 := Lib.hid hw4
            clear hE3 hS3 ht3 hm3 hr3 hw4 CA HJ c0 hb
            go_wp2_with fail
            rw [HW4.out]
            clear d0 d1 d2
            have hat : put1 at' who (some now) who = some now := put1_same _ _ _
            obtain ⟨at9, hat9⟩ : ∃ at9, put1 at' who (some now) = at9 := ⟨_, rfl⟩
            rw [hat9] at hat HJ9
            clear hat9
            obtain ⟨hsn, hse⟩ := HJ9.out.small (by omega)
            have C7 := aln_pinned HJ9.out who hwk
            rw [hat] at C7
            have HC7 := Lib.hid C7
            clear C7
            unfold pE at HC7
            dsimp only [Option.getD, Option.isSome] at HC7
            have he9 := hse who now hwk hat
            have n9 : ((now : Int) != (now : Int)) = false := by simp
            have g9 : (0 : Int) ≤ now := by omega
            have nN : ((now : Int) != (now : Int)) = false := by simp
            clear hse
            go_wp2_with fail
            refine HC7.out.mono ?_
            rintro e w7 ⟨rfl, q7, hw7⟩
            have HJ8 := Lib.hid (HJ9.out.drewN q7)
            rw [← hw7] at HJ8
            clear hw7 HC7 HJ9
            obtain ⟨d0, d1⟩ := HJ8.out.row.cell hwk
            rw [hat] at d0
            unfold atN at d0
            have HC8 := Lib.hid (aln_now HJ8.out)
            unfold pE at HC8
            have HAT := Lib.hid hat
            clear hat
            go_wp2_with (go_at_call 21; refine HC8.out.mono ?_; rintro e w' ⟨rfl, hw⟩; rw [hw]; clear hw w')
            go_roundw
            case rel => exact ⟨j + 1, _, _, _, by omega, by go_num, by go_num, HJ8.out⟩
            case measure => simp [intOf]; omega
          · have z0 : ((x : Int) % 4 == 0) = false := by rw [beq_eq_false_iff_ne]; omega
            have z1 : ((x : Int) % 4 == 1) = false := by rw [beq_eq_false_iff_ne]; omega
            have z2 : ((x : Int) % 4 == 2) = true := by rw [beq_iff_eq]; omega
            clear h4
            go_wp2_with fail
            rw [EW.out]
            refine (unpin_c HJ.out.ep who (by rw [HJ.out.R]; exact hwk)).mono ?_
            rintro e w2 ⟨A2, b2, rfl, hA0, hb0, hA, hpb, hb2⟩
            have CA := Lib.hid (aloneUnpin_c HJ.out.ep HJ.out.st (by have := HJ.out.t; omega) who (by rw [HJ.out.R]; exact hwk) A2 b2 hA0 hb0 hA hpb hb2)
            clear hA0 hb0 hA hpb hb2
            unfold pa at CA ⊢
            go_wp2_with fail
            refine CA.out.mono ?_
            rintro e w3 ⟨rfl, s9, hE3, hS3, ht3, hm3⟩
            have hr3 := HJ.out.row.keepE HJ.out.ep hm3
            obtain ⟨d0, d1⟩ := hr3.cell hwk
            have d2 := hr3.lt
            obtain ⟨w4, hw4⟩ : ∃ w4, w3.setCell ⟨A, who, none⟩ (.int .i64 (-1)) = w4 := ⟨_, rfl⟩
            have HJ9 : Hid (AlnInv W p A k now (10 + 12 * (j + 1)) s9 (put1 at' who none) w4) := by
              rw [← hw4]
              exact ⟨hE3.setAt hr3 who _, hS3, by have := HJ.out.t; omega, hr3.set hwk none, (HJ.out.bel.trans (hm3.toBelow HJ.out.bel.size HJ.out.ge)).setCell (p := ⟨A, who, none⟩) HJ.out.geA _, HJ.out.R, HJ.out.ge, HJ.out.geA⟩
            have HW4 := Lib.hid hw4
            clear hE3 hS3 ht3 hm3 hr3 hw4 CA HJ c0 hb
            go_wp2_with fail
            rw [HW4.out]
            clear d0 d1 d2
            have hat : put1 at' who none who = none := put1_same _ _ _
            obtain ⟨at9, hat9⟩ : ∃ at9, put1 at' who none = at9 := ⟨_, rfl⟩
            rw [hat9] at hat HJ9
            clear hat9
            obtain ⟨hsn, hse⟩ := HJ9.out.small (by omega)
            have C7 := aln_pinned HJ9.out who hwk
            rw [hat] at C7
            have HC7 := Lib.hid C7
            clear C7
            unfold pE at HC7
            dsimp only [Option.getD, Option.isSome] at HC7
            have nN : ((now : Int) != (now : Int)) = false := by simp
            clear hse
            go_wp2_with fail
            refine HC7.out.mono ?_
            rintro e w7 ⟨rfl, q7, hw7⟩
            have HJ8 := Lib.hid (HJ9.out.drewN q7)
            rw [← hw7] at HJ8
            clear hw7 HC7 HJ9
            obtain ⟨d0, d1⟩ := HJ8.out.row.cell hwk
            rw [hat] at d0
            unfold atN at d0
            have HC8 := Lib.hid (aln_now HJ8.out)
            unfold pE at HC8
            have HAT := Lib.hid hat
            clear hat
            go_wp2_with (go_at_call 21; refine HC8.out.mono ?_; rintro e w' ⟨rfl, hw⟩; rw [hw]; clear hw w')
            go_roundw
            case rel => exact ⟨j + 1, _, _, _, by omega, by go_num, by go_num, HJ8.out⟩
            case measure => simp [intOf]; omega
          · have z0 : ((x : Int) % 4 == 0) = false := by rw [beq_eq_false_iff_ne]; omega
            have z1 : ((x : Int) % 4 == 1) = false := by rw [beq_eq_false_iff_ne]; omega
            have z2 : ((x : Int) % 4 == 2) = false := by rw [beq_eq_false_iff_ne]; omega
            have z3 : ((x : Int) % 4 == 3) = true := by rw [beq_iff_eq]; omega
            clear h4
            go_wp2_with fail
            rw [EW.out]
            go_loopw [12, 13] (fun mv i wr => ∃ (q : Nat), q ≤ k ∧ i = .int .i64 q ∧ mv = .bool (mayB at' now q) ∧ Hid (AlnInv W p A k now (10 + 12 * j) s at' wr)) (fun _ i _ => k - (intOf i).toNat)
            case atStart => exact ⟨0, Nat.zero_le _, rfl, rfl, HJ⟩
            case round =>
              obtain ⟨q, hq9, rfl, rfl, HQ⟩ := hrel
              clear HJ c0 hb hbr z0 z1 z2 z3
              by_cases hlt3 : q < k
              · have hq4 : (q : Int) < k := by omega
                have hq5 : (0 : Int) ≤ q := by omega
                obtain ⟨d0, d1⟩ := HQ.out.row.cell hlt3
                have d2 := HQ.out.row.lt
                have hS := mayB_succ at' now q
                obtain ⟨bq, hbq⟩ : ∃ bq, mayB at' now q = bq := ⟨_, rfl⟩
                rw [hbq] at hS ⊢
                have HS := Lib.hid hS
                clear hS hbq
                cases bq with
                | false =>
                  go_wp2_with fail
                  go_roundw
                  case rel => exact ⟨q + 1, by omega, by go_num, by rw [HS.out]; rfl, HQ.out⟩
                  case measure => simp [intOf]; omega
                | true =>
                  obtain ⟨hsn, hse⟩ := HQ.out.small (by omega)
                  cases hat : at' q with
                  | none =>
                    rw [hat] at d0
                    unfold atN at d0
                    have HAT := Lib.hid hat
                    clear hat hse
                    go_wp2_with fail
                    go_roundw
                    case rel => exact ⟨q + 1, by omega, by go_num, by rw [HS.out, HAT.out]; rfl, HQ.out⟩
                    case measure => simp [intOf]; omega
                  | some e =>
                    rw [hat] at d0
                    unfold atN at d0
                    have he := hse q e hlt3 hat
                    have HAT := Lib.hid hat
                    have g0 : ¬ (e : Int) < 0 := by omega
                    clear hat hse
                    by_cases hen : e = now
                    · have g1 : ((e : Int) == (now : Int)) = true := by rw [beq_iff_eq]; omega
                      have HEN := Lib.hid hen
                      clear hen
                      go_wp2_with fail
                      go_roundw
                      case rel => exact ⟨q + 1, by omega, by go_num, by rw [HS.out, HAT.out, HEN.out]; simp, HQ.out⟩
                      case measure => simp [intOf]; omega
                    · have g1 : ((e : Int) == (now : Int)) = false := by rw [beq_eq_false_iff_ne]; omega
                      have HEN := Lib.hid hen
                      clear hen
                      go_wp2_with fail
                      go_roundw
                      case rel => exact ⟨q + 1, by omega, by go_num, by rw [HS.out, HAT.out]; simp [HEN.out], HQ.out⟩
                      case measure => simp [intOf]; omega
              · obtain rfl : q = k := by omega
                have hq4 : ¬ (q : Int) < q := by omega
                cases hmay : mayB at' now q with
                | true =>
                  have CV := Lib.hid (moved_yes HQ.out.ep HQ.out.st (by have := HQ.out.t; omega) (mayB_yes (by rw [HQ.out.R]; exact hmay)))
                  have HMY := Lib.hid hmay
                  clear hmay
                  unfold pE at CV
                  go_wp2_with fail
                  refine CV.out.mono ?_
                  rintro e w3 ⟨rfl, s9, hE3, hS3, ht3, hm3⟩
                  obtain ⟨n1, hn1⟩ : ∃ n1, n1 = now + 1 := ⟨_, rfl⟩
                  rw [← hn1] at hS3
                  have e1 : (now : Int) + 1 = (n1 : Int) := by omega
                  have E1 := Lib.hid e1
                  have HJ9 : Hid (AlnInv W p A q n1 (10 + 12 * (j + 1)) s9 at' w3) :=
                    ⟨hE3, hS3, by have := HQ.out.t; omega, HQ.out.row.keepE HQ.out.ep hm3, HQ.out.bel.trans (hm3.toBelow HQ.out.bel.size HQ.out.ge), HQ.out.R, HQ.out.ge, HQ.out.geA⟩
                  have hnow := (HQ.out.small (by omega)).1
                  clear hE3 hS3 ht3 hm3 CV HQ hn1 e1
                  cases hat : at' who with
                  | none =>
                    obtain ⟨hsn, hse⟩ := HJ9.out.small (by omega)
                    have C7 := aln_pinned HJ9.out who hwk
                    rw [hat] at C7
                    have HC7 := Lib.hid C7
                    clear C7
                    unfold pE at HC7
                    dsimp only [Option.getD, Option.isSome] at HC7
                    have nN : ((n1 : Int) != (n1 : Int)) = false := by simp
                    clear hse
                    go_wp2_with fail
                    rw [E1.out]
                    refine HC7.out.mono ?_
                    rintro e w7 ⟨rfl, q7, hw7⟩
                    have HJ8 := Lib.hid (HJ9.out.drewN q7)
                    rw [← hw7] at HJ8
                    clear hw7 HC7 HJ9
                    obtain ⟨d0, d1⟩ := HJ8.out.row.cell hwk
                    rw [hat] at d0
                    unfold atN at d0
                    have HC8 := Lib.hid (aln_now HJ8.out)
                    unfold pE at HC8
                    have HAT := Lib.hid hat
                    clear hat
                    go_wp2_with (go_at_call 21; refine HC8.out.mono ?_; rintro e w' ⟨rfl, hw⟩; rw [hw]; clear hw w')
                    go_roundw
                    case rel => exact ⟨j + 1, _, _, _, by omega, by go_num, by go_num, HJ8.out⟩
                    case measure => simp [intOf]; omega
                  | some e9 =>
                    obtain ⟨hsn, hse⟩ := HJ9.out.small (by omega)
                    have C7 := aln_pinned HJ9.out who hwk
                    rw [hat] at C7
                    have HC7 := Lib.hid C7
                    clear C7
                    unfold pE at HC7
                    dsimp only [Option.getD, Option.isSome] at HC7
                    have he9 := hse who e9 hwk hat
                    have n9 : ((e9 : Int) != (e9 : Int)) = false := by simp
                    have g9 : (0 : Int) ≤ e9 := by omega
                    have nN : ((n1 : Int) != (n1 : Int)) = false := by simp
                    clear hse
                    go_wp2_with fail
                    rw [E1.out]
                    refine HC7.out.mono ?_
                    rintro e w7 ⟨rfl, q7, hw7⟩
                    have HJ8 := Lib.hid (HJ9.out.drewN q7)
                    rw [← hw7] at HJ8
                    clear hw7 HC7 HJ9
                    obtain ⟨d0, d1⟩ := HJ8.out.row.cell hwk
                    rw [hat] at d0
                    unfold atN at d0
                    have HC8 := Lib.hid (aln_now HJ8.out)
                    unfold pE at HC8
                    have HAT := Lib.hid hat
                    clear hat
                    go_wp2_with (go_at_call 21; refine HC8.out.mono ?_; rintro e w' ⟨rfl, hw⟩; rw [hw]; clear hw w')
                    go_roundw
                    case rel => exact ⟨j + 1, _, _, _, by omega, by go_num, by go_num, HJ8.out⟩
                    case measure => simp [intOf]; omega
                | false =>
                  obtain ⟨i9, hi9, hne9⟩ := mayB_no (p := p) (by rw [HQ.out.R]; exact hmay)
                  have CV := Lib.hid (moved_no HQ.out.ep HQ.out.st (by have := HQ.out.t; omega) i9 hi9 hne9)
                  have HMY := Lib.hid hmay
                  clear hmay hi9 hne9
                  unfold pE at CV
                  go_wp2_with fail
                  refine CV.out.mono ?_
                  rintro e w3 ⟨rfl, s9, hE3, hS3, ht3, hm3⟩
                  have HJ9 : Hid (AlnInv W p A q now (10 + 12 * (j + 1)) s9 at' w3) :=
                    ⟨hE3, hS3, by have := HQ.out.t; omega, HQ.out.row.keepE HQ.out.ep hm3, HQ.out.bel.trans (hm3.toBelow HQ.out.bel.size HQ.out.ge), HQ.out.R, HQ.out.ge, HQ.out.geA⟩
                  clear hE3 hS3 ht3 hm3 CV HQ
                  cases hat : at' who with
                  | none =>
                    obtain ⟨hsn, hse⟩ := HJ9.out.small (by omega)
                    have C7 := aln_pinned HJ9.out who hwk
                    rw [hat] at C7
                    have HC7 := Lib.hid C7
                    clear C7
                    unfold pE at HC7
                    dsimp only [Option.getD, Option.isSome] at HC7
                    have nN : ((now : Int) != (now : Int)) = false := by simp
                    clear hse
                    go_wp2_with fail
                    refine HC7.out.mono ?_
                    rintro e w7 ⟨rfl, q7, hw7⟩
                    have HJ8 := Lib.hid (HJ9.out.drewN q7)
                    rw [← hw7] at HJ8
                    clear hw7 HC7 HJ9
                    obtain ⟨d0, d1⟩ := HJ8.out.row.cell hwk
                    rw [hat] at d0
                    unfold atN at d0
                    have HC8 := Lib.hid (aln_now HJ8.out)
                    unfold pE at HC8
                    have HAT := Lib.hid hat
                    clear hat
                    go_wp2_with (go_at_call 21; refine HC8.out.mono ?_; rintro e w' ⟨rfl, hw⟩; rw [hw]; clear hw w')
                    go_roundw
                    case rel => exact ⟨j + 1, _, _, _, by omega, by go_num, by go_num, HJ8.out⟩
                    case measure => simp [intOf]; omega
                  | some e9 =>
                    obtain ⟨hsn, hse⟩ := HJ9.out.small (by omega)
                    have C7 := aln_pinned HJ9.out who hwk
                    rw [hat] at C7
                    have HC7 := Lib.hid C7
                    clear C7
                    unfold pE at HC7
                    dsimp only [Option.getD, Option.isSome] at HC7
                    have he9 := hse who e9 hwk hat
                    have n9 : ((e9 : Int) != (e9 : Int)) = false := by simp
                    have g9 : (0 : Int) ≤ e9 := by omega
                    have nN : ((now : Int) != (now : Int)) = false := by simp
                    clear hse
                    go_wp2_with fail
                    refine HC7.out.mono ?_
                    rintro e w7 ⟨rfl, q7, hw7⟩
                    have HJ8 := Lib.hid (HJ9.out.drewN q7)
                    rw [← hw7] at HJ8
                    clear hw7 HC7 HJ9
                    obtain ⟨d0, d1⟩ := HJ8.out.row.cell hwk
                    rw [hat] at d0
                    unfold atN at d0
                    have HC8 := Lib.hid (aln_now HJ8.out)
                    unfold pE at HC8
                    have HAT := Lib.hid hat
                    clear hat
                    go_wp2_with (go_at_call 21; refine HC8.out.mono ?_; rintro e w' ⟨rfl, hw⟩; rw [hw]; clear hw w')
                    go_roundw
                    case rel => exact ⟨j + 1, _, _, _, by omega, by go_num, by go_num, HJ8.out⟩
                    case measure => simp [intOf]; omega
        · obtain rfl : j = N := by omega
          have hq2 : ¬ (j : Int) < j := by omega
          go_wp2_with fail
          refine (awake6_c _).mono ?_
          rintro e w3 ⟨rfl, hb3⟩
          have HB3 : Hid (Below W.heap.size W w3) := HJ.out.bel.trans (hb3.mono HJ.out.bel.size)
          clear hb3
          go_wp2_with fail
          go_ret
          exact ⟨rfl, HB3.out⟩
theorem alone_great (r : Nat) (hr : r < 256) (p : Option Addr) (N cap : Nat) (hN : 60 < N) (W : World) :
    Calls Try.prog 5 #[.int .u8 r, .slice p N cap] W fun e w' => e = .returned (.bool true) ∧ Below W.heap.size W w' := by
  have q60 : (60 : Int) < N := by omega
  go_enter Try.func5, Try.ntmps5
  go_wp2_with fail
  go_ret
  exact ⟨rfl, Below.refl _ _⟩
end Go.Proofs.Ytefmojohabdjcaa

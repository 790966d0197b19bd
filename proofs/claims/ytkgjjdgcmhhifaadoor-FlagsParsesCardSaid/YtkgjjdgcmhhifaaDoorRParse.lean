/-
  The document's layer 1: the parse of a set's text.
-/
import Derived.Test.YtkgjjdgcmhhifaaDoorLower
import Derived.Test.YtkgjjdgcmhhifaaDoorNamed
import Derived.Test.YtkgjjdgcmhhifaaDoorParse
import Derived.Deep.RegionWith
import Derived.Deep.LoopGhost
set_option linter.unusedVariables false
set_option linter.unusedSimpArgs false
namespace Go.Proofs.YtkgjjdgcmhhifaaDoor
open Go Go.RowKit

theorem cmp_txt (a b : List UInt8) : ((txt a).toList == (txt b).toList) = (a == b) := by
  have h : ∀ l, (txt l).toList = l := fun l => by rw [ByteArray.toList_eq]; simp [txt]
  rw [h, h]
theorem or_bit : ∀ acc < 32, ∀ j < 5, (bit acc j = true → acc ||| 2 ^ j = acc) ∧ (bit acc j = false → acc ||| 2 ^ j = acc + 2 ^ j) := by decide +kernel

set_option maxRecDepth 100000 in
set_option maxHeartbeats 4000000 in
theorem rparse_c (A : ByteArray) (hA : A.size ≤ 300) (w : World) :
    Calls Tryd.prog 19 #[.string A] w fun e w' => e = .returned (.tuple #[.int .u8 (pV (parseOf A.data.toList)), .int .i64 (pE (parseOf A.data.toList))]) ∧ Below w.heap.size w w' := by
  have hlen := Lib.hid (ba_len A)
  by_cases h2 : A.size < 2
  · have hp : parseOf A.data.toList = none := by unfold parseOf framed; rw [hlen.out]; simp [show ¬ 2 ≤ A.size by omega]
    rw [hp]
    clear hp
    go_enter Tryd.func19, Tryd.ntmps19
    go_wp2_with fail
    go_ret2
    exact ⟨rfl, Below.refl _ _⟩
  · have hq0 : (0 : Int) < A.size := by omega
    have hq1 : (A.size : Int) - 1 < A.size := by omega
    have h2' : 2 ≤ A.size := by omega
    by_cases h40 : A[0] = 40
    · by_cases h41 : A[A.size - 1] = 41
      · have e1 : ((A[0].toNat : Int) != 40) = false := by rw [h40]; rfl
        have e2 : ((A[A.size - 1].toNat : Int) != 41) = false := by rw [h41]; rfl
        have hfr : framed A.data.toList = true := by
          unfold framed; rw [hlen.out]
          have t0 : A.data.toList[0]? = some A[0] := by
            rw [List.getElem?_eq_getElem (by rw [hlen.out]; omega)]; simp; rfl
          have t1 : A.data.toList[A.size - 1]? = some A[A.size - 1] := by
            rw [List.getElem?_eq_getElem (by rw [hlen.out]; omega)]; simp; rfl
          rw [t0, t1, h40, h41]; simp [h2']
        have hin : A.extract 1 (A.size - 1) = txt (inner A.data.toList) := extract_txt (by
          unfold inner; rw [hlen.out, List.drop_take]; congr 1)
        have hres : ∃ R, R = parseOf A.data.toList ∧ (inner A.data.toList = [] → R = some 0) ∧ (inner A.data.toList ≠ [] → R = ps (splitB 32 (inner A.data.toList)) 0) := by
          refine ⟨_, rfl, fun h => ?_, fun h => ?_⟩
          · unfold parseOf; rw [if_pos hfr, if_pos h]
          · unfold parseOf; rw [if_pos hfr, if_neg h]
        obtain ⟨R, hR, hR0, hR1⟩ := hres
        rw [← hR]
        have hIl : (inner A.data.toList).length ≤ 300 := by unfold inner; rw [List.length_take, hlen.out]; omega
        obtain ⟨L, hL⟩ : ∃ L, L = inner A.data.toList := ⟨_, rfl⟩
        rw [← hL] at hin hR0 hR1 hIl
        have HR0 := Lib.hid hR0
        have HR1 := Lib.hid hR1
        obtain ⟨I, hI⟩ : ∃ I, I = A.extract 1 (A.size - 1) := ⟨_, rfl⟩
        have HI := Lib.hid (hI.trans hin)
        have hsI : I.size ≤ 300 := by rw [HI.out, txt_size]; exact hIl
        have hIs : I.size = L.length := by rw [HI.out, txt_size]
        have HIS := Lib.hid hIs
        have hIe := isEmpty_txt HI.out
        have HI2 := Lib.hid hI.symm
        have HE := Lib.hid hIe
        clear hR hR0 hR1 hfr hin h40 h41 hL hI hIs hIl hIe
        have hE2 : (A.extract 1 (A.size - 1)).toList.isEmpty = L.isEmpty := by rw [HI2.out]; exact HE.out
        cases hb : L.isEmpty with
        | true =>
          rw [hb] at hE2
          have hRR : R = some 0 := HR0.out (List.isEmpty_iff.1 hb)
          have HRR := Lib.hid hRR
          clear hb hRR
          go_enter Tryd.func19, Tryd.ntmps19
          go_wp2_with fail
          go_ret2
          exact ⟨by rw [HRR.out]; rfl, Below.refl _ _⟩
        | false =>
          rw [hb] at hE2
          have hRR : R = ps (splitB 32 L) 0 := HR1.out (by intro h; rw [h] at hb; cases hb)
          have HRR := Lib.hid hRR
          clear hb hRR
          go_enter Tryd.func19, Tryd.ntmps19
          go_wp2_with fail
          rw [HI2.out]
          have HLI : Hid (I.data.toList = L) := by show I.data.toList = L; rw [HI.out]; simp [txt]
          have HWE : Hid (I.data.toList.length = I.size) := ba_len I
          go_loopg [4, 5, 6, 7, 8] (I.size + 1) (fun g t4 t5 t6 _ _ wr => ∃ (i f acc : Nat), i + g = I.size + 1 ∧ t4 = .int .u8 acc ∧ t5 = .int .i64 f ∧ t6 = .int .i64 i ∧ acc < 32 ∧ f ≤ i ∧
            Hid ((i ≤ I.size ∧ (∀ j, f ≤ j → j < i → L[j]? ≠ some 32) ∧ R = ps (splitB 32 (L.drop f)) acc) ∨ (i = I.size + 1 ∧ R = some acc)) ∧ Below w.heap.size w wr)
          case atStart => exact ⟨0, 0, 0, by omega, rfl, rfl, rfl, by omega, by omega, .inl ⟨by omega, fun j h1 h2 => by omega, HRR.out⟩, Below.refl _ _⟩
          case round =>
            obtain ⟨i, f, acc, hig, rfl, rfl, rfl, hacc, hfi, HH, hB⟩ := hrel
            obtain ⟨wo, rfl⟩ : ∃ wo : World, wo = wr := ⟨_, rfl⟩
            have HB := Lib.hid hB
            have hle : w.heap.size ≤ wo.heap.size := hB.size
            clear hB
            by_cases hin : i ≤ I.size
            · obtain ⟨hA1, hA2⟩ : (∀ j, f ≤ j → j < i → L[j]? ≠ some 32) ∧ R = ps (splitB 32 (L.drop f)) acc := by
                rcases HH.out with h | h
                · exact h.2
                · omega
              have H1 := Lib.hid hA1
              have H2 := Lib.hid hA2
              clear hA1 hA2 HH
              by_cases hcont : ∃ h : i < I.size, I[i] ≠ 32
              · obtain ⟨hlt, h32⟩ := hcont
                have hiI : (i : Int) < I.size := by omega
                have hb32 : ((I[i].toNat : Int) != 32) = true := by
                  rw [bne_iff_ne]; intro e; exact h32 (UInt8.toNat_inj.1 (by show _ = 32; omega))
                have H32 := Lib.hid h32
                clear h32
                go_wp2_with fail
                go_roundg (I.size - i)
                case measure => omega
                case rel =>
                  refine ⟨i + 1, f, acc, by omega, rfl, rfl, by go_num, hacc, by omega, .inl ⟨by omega, fun j h1 h2 => ?_, H2.out⟩, HB.out⟩
                  by_cases hj : j = i
                  · subst hj
                    have hk : j < I.data.toList.length := by rw [HWE.out]; exact hlt
                    rw [← HLI.out, List.getElem?_eq_getElem hk]
                    intro e
                    exact H32.out (Option.some.inj e)
                  · exact H1.out j h1 (by omega)
              · obtain ⟨WL, hWL⟩ : ∃ WL, WL = (L.take i).drop f := ⟨_, rfl⟩
                have hwe : I.extract f i = txt WL := extract_txt (by rw [HLI.out, hWL])
                have hsz : (I.extract f i).size ≤ 1000 := by rw [hwe, txt_size, hWL, List.length_drop, List.length_take, ← HIS.out]; omega
                have hrest : ∃ rest, splitB 32 (L.drop f) = WL :: rest ∧ ∀ acc', R = ps rest acc' → ((i + 1 ≤ I.size ∧ (∀ j, i + 1 ≤ j → j < i + 1 → L[j]? ≠ some 32) ∧ R = ps (splitB 32 (L.drop (i + 1))) acc') ∨ (i + 1 = I.size + 1 ∧ R = some acc')) := by
                  have hno : ∀ x ∈ WL, x ≠ 32 := by
                    intro x hx e
                    rw [hWL] at hx
                    obtain ⟨n, hn⟩ := List.getElem?_of_mem hx
                    rw [List.getElem?_drop, List.getElem?_take] at hn
                    split at hn
                    · exact H1.out (f + n) (by omega) (by assumption) (by rw [hn, e])
                    · cases hn
                  by_cases hlt : i < I.size
                  · have h32 : I[i] = 32 := Decidable.byContradiction fun h => hcont ⟨hlt, h⟩
                    have hk : i < L.length := by rw [← HIS.out]; exact hlt
                    have hLi : L[i] = 32 := by
                      have hk2 : i < I.data.toList.length := by rw [HWE.out]; exact hlt
                      have h3 : I.data.toList[i]? = some 32 := by rw [List.getElem?_eq_getElem hk2]; exact congrArg some h32
                      rw [HLI.out, List.getElem?_eq_getElem hk] at h3
                      exact Option.some.inj h3
                    have hsplit : L.drop f = WL ++ 32 :: L.drop (i + 1) := by
                      have e1 : L.drop f = (L.take i).drop f ++ (L.drop i) := by
                        conv => lhs; rw [← List.take_append_drop i L]
                        rw [List.drop_append]
                        congr 1
                        rw [List.length_take, show f - min i L.length = 0 by omega]; rfl
                      rw [e1, hWL, List.drop_eq_getElem_cons hk, hLi]
                    exact ⟨_, by rw [hsplit, splitB_some hno], fun acc' h => .inl ⟨by omega, fun j h1 h2 => by omega, h⟩⟩
                  · have hi : i = I.size := by omega
                    have e1 : L.drop f = WL := by rw [hWL, hi, HIS.out, List.take_of_length_le (Nat.le_refl _)]
                    exact ⟨[], by rw [e1, splitB_none hno], fun acc' h => .inr ⟨by omega, h⟩⟩
                obtain ⟨rest, hr1, hr2⟩ := hrest
                rw [hr1] at H2
                have HR2 := Lib.hid hr2
                have HWX := Lib.hid hwe
                have hguard : (I.size ≤ i) ∨ ∃ h : i < I.size, ((I[i].toNat : Int) != 32) = false := by
                  by_cases hlt : i < I.size
                  · exact .inr ⟨hlt, by rw [Decidable.byContradiction fun h => hcont ⟨hlt, h⟩]; rfl⟩
                  · exact .inl (by omega)
                have HWM : Hid (List.take (i - f) (List.drop f (List.map lowerB I.data.toList)) = List.map lowerB WL) := by
                  show _ = _
                  rw [HLI.out, hWL, List.drop_take, List.map_take, List.map_drop]
                clear hr1 hr2 hwe hcont hWL
                rcases hguard with hg | ⟨hlt, hg⟩
                all_goals
                  first | (have hiI : (i : Int) < I.size := by omega) | (have hiI : (I.size : Int) ≤ i := by omega)
                  go_wp2_with fail
                  go_loopg [7, 8] 5 (fun g2 t7 t8 wy => ∃ (k : Nat) (v : Int), k + g2 = 5 ∧ t7 = .int .i64 v ∧ t8 = .int .i64 k ∧ -1 ≤ v ∧ v ≤ 4 ∧
                    Hid ((v = -1 ∧ ∀ j, j < k → alikeB WL (nm j) = false) ∨ (∃ j : Nat, j < k ∧ v = j ∧ alikeB WL (nm j) = true)) ∧ Below w.heap.size w wy)
                  case atStart => exact ⟨0, -1, by omega, rfl, rfl, by omega, by omega, .inl ⟨rfl, fun j hj => by omega⟩, HB.out⟩
                  case round =>
                    obtain ⟨k, v, hkg, rfl, rfl, hv1, hv2, HF, hB2⟩ := hrel
                    have HB2 := Lib.hid hB2
                    have hle2 : w.heap.size ≤ wr.heap.size := hB2.size
                    clear hB2
                    by_cases hk5 : k < 5
                    · have hk5i : (k : Int) < 5 := by omega
                      have hnk : (nmB k).size ≤ 1000 := Nat.le_trans (nmB_size' k) (by omega)
                      have hcell := namesRow_cell wr hk5
                      go_wp2_with fail
                      go_region_with (first | (go_at_call 11; refine (rnames_c _).mono ?_; rintro e w' ⟨rfl, rfl⟩) | (go_at_call 40; refine (rlower_c _ (by assumption) _).mono ?_; rintro e w' ⟨rfl, hbq⟩))
                      go_wp2_with fail
                      · have ht : ((txt (List.map lowerB (nmB k).data.toList)).toList == (txt (List.take (i - f) (List.drop f (List.map lowerB I.data.toList)))).toList) = true := by assumption
                        rw [cmp_txt, HWM.out, beq_iff_eq] at ht
                        have hal : alikeB WL (nm k) = true := by unfold alikeB; rw [beq_iff_eq, ← ht]; simp [nmB]
                        obtain ⟨wm, q1, q2⟩ : ∃ wm, Below (wr.alloc namesRow).heap.size (wr.alloc namesRow).drew wm ∧ Below wm.heap.size wm w' := ⟨_, by assumption, hbq⟩
                        have hq : w.heap.size ≤ (wr.alloc namesRow).heap.size := by rw [World.size_alloc]; omega
                        have HB3 : Below w.heap.size w wm := (HB2.out.alloc hle2 namesRow).drew.trans (Below.mono q1 hq)
                        have HB4 : Below w.heap.size w w' := HB3.trans (q2.mono HB3.size)
                        go_roundg (4 - k)
                        case measure => omega
                        case rel => exact ⟨k + 1, k, by omega, rfl, by go_num, by omega, by omega, .inr ⟨k, by omega, rfl, hal⟩, HB4⟩
                      · have ht : ((txt (List.map lowerB (nmB k).data.toList)).toList == (txt (List.take (i - f) (List.drop f (List.map lowerB I.data.toList)))).toList) = false := by assumption
                        rw [cmp_txt, HWM.out, beq_eq_false_iff_ne] at ht
                        have hal : alikeB WL (nm k) = false := by unfold alikeB; rw [beq_eq_false_iff_ne]; intro h; exact ht (by rw [h]; simp [nmB])
                        obtain ⟨wm, q1, q2⟩ : ∃ wm, Below (wr.alloc namesRow).heap.size (wr.alloc namesRow).drew wm ∧ Below wm.heap.size wm w' := ⟨_, by assumption, hbq⟩
                        have hq : w.heap.size ≤ (wr.alloc namesRow).heap.size := by rw [World.size_alloc]; omega
                        have HB3 : Below w.heap.size w wm := (HB2.out.alloc hle2 namesRow).drew.trans (Below.mono q1 hq)
                        have HB4 : Below w.heap.size w w' := HB3.trans (q2.mono HB3.size)
                        go_roundg (4 - k)
                        case measure => omega
                        case rel =>
                          refine ⟨k + 1, v, by omega, rfl, by go_num, by omega, by omega, ?_, HB4⟩
                          rcases HF.out with ⟨h1, h2⟩ | ⟨j, h1, h2, h3⟩
                          · refine .inl ⟨h1, fun j hj => ?_⟩
                            by_cases hjk : j = k
                            · rw [hjk]; exact hal
                            · exact h2 j (by omega)
                          · exact .inr ⟨j, by omega, h2, h3⟩
                    · obtain rfl : k = 5 := by omega
                      rcases HF.out with ⟨rfl, hnone⟩ | ⟨j, hj5, rfl, hal⟩
                      · have hRn : R = none := by rw [H2.out]; unfold ps; rw [if_pos (flagOf_none hnone)]
                        have HRN := Lib.hid hRn
                        clear hRn hnone HF
                        go_wp2_with fail
                        go_ret2
                        exact ⟨by rw [HRN.out]; rfl, HB2.out⟩
                      · have hRs : R = ps rest (acc ||| 2 ^ j) := by
                          rw [H2.out]; conv => lhs; unfold ps
                          rw [flagOf_at hj5 hal, if_neg (by have := Nat.two_pow_pos j; omega)]
                        have HNX := Lib.hid (HR2.out _ hRs)
                        have hnb : acc ||| 2 ^ j < 32 := Nat.or_lt_two_pow (n := 5) hacc (by have := (pow_mod5 hj5).2; omega)
                        have HC := Lib.hid (rbit_c acc j (by omega) hj5)
                        have hob := or_bit acc hacc j hj5
                        have hp2 : (2 : Int) ^ j % 256 ≤ 16 := by rw [(pow_mod5 hj5).1]; have := (pow_mod5 hj5).2; omega
                        have hp3 : 0 ≤ (2 : Int) ^ j % 256 := by rw [(pow_mod5 hj5).1]; exact Int.natCast_nonneg _
                        have HP := Lib.hid (pow_mod5 hj5).1
                        have HOB := Lib.hid hob
                        clear hRs hal hob HF
                        cases hbt : bit acc j with
                        | true =>
                          rw [hbt] at HC
                          have HO := Lib.hid (HOB.out.1 hbt)
                          clear hbt
                          go_wp2_with (go_at_call 10; refine (HC.out _).mono ?_; rintro e w' ⟨rfl, rfl⟩)
                          go_roundg (I.size - i)
                          case measure => omega
                          case rel => exact ⟨i + 1, i + 1, acc, by omega, rfl, by go_num, by go_num, hacc, by omega, by have := HNX.out; rw [HO.out] at this; exact this, HB2.out⟩
                        | false =>
                          rw [hbt] at HC
                          have HO := Lib.hid (HOB.out.2 hbt)
                          clear hbt
                          go_wp2_with (go_at_call 10; refine (HC.out _).mono ?_; rintro e w' ⟨rfl, rfl⟩)
                          go_roundg (I.size - i)
                          case measure => omega
                          case rel => exact ⟨i + 1, i + 1, acc ||| 2 ^ j, by omega, by rw [HO.out, HP.out]; simp, by go_num, by go_num, hnb, by omega, HNX.out, HB2.out⟩
            · obtain ⟨hA1, hA2⟩ : i = I.size + 1 ∧ R = some acc := by
                rcases HH.out with h | h
                · omega
                · exact h
              subst hA1
              have H2 := Lib.hid hA2
              clear hA2 HH
              go_wp2_with fail
              go_ret2
              exact ⟨by rw [H2.out]; rfl, HB.out⟩
      · have e1 : ((A[0].toNat : Int) != 40) = false := by rw [h40]; rfl
        have e2 : ((A[A.size - 1].toNat : Int) != 41) = true := by
          rw [bne_iff_ne]; intro e; exact h41 (UInt8.toNat_inj.1 (by show _ = 41; omega))
        have hp : parseOf A.data.toList = none := by
          unfold parseOf framed; rw [hlen.out]
          have : A.data.toList[A.size - 1]? = some A[A.size - 1] := by
            rw [List.getElem?_eq_getElem (by rw [hlen.out]; omega)]; simp; rfl
          rw [this]; simp [h41]
        rw [hp]
        clear hp h40 h41
        go_enter Tryd.func19, Tryd.ntmps19
        go_wp2_with fail
        go_ret2
        exact ⟨rfl, Below.refl _ _⟩
    · have e1 : ((A[0].toNat : Int) != 40) = true := by
        rw [bne_iff_ne]; intro e; exact h40 (UInt8.toNat_inj.1 (by show _ = 40; omega))
      have hp : parseOf A.data.toList = none := by
        unfold parseOf framed; rw [hlen.out]
        have : A.data.toList[0]? = some A[0] := by
          rw [List.getElem?_eq_getElem (by rw [hlen.out]; omega)]; simp; rfl
        rw [this]; simp [h40]
      rw [hp]
      clear hp h40
      go_enter Tryd.func19, Tryd.ntmps19
      go_wp2_with fail
      go_ret2
      exact ⟨rfl, Below.refl _ _⟩
end Go.Proofs.YtkgjjdgcmhhifaaDoor

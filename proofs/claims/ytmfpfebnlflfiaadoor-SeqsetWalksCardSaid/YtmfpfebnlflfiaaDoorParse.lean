/-
  The parse of a set's text.
-/
import Derived.Test.YtmfpfebnlflfiaaDoorNamed
set_option linter.unusedVariables false
set_option linter.unusedSimpArgs false
namespace Go.Proofs.YtmfpfebnlflfiaaDoor
open Go Go.RowKit

def strLenV : Value → Nat
  | .string s => s.size
  | _ => 0
def boolV : Value → Nat
  | .bool true => 1
  | _ => 0
def pV (o : Option Nat) : Nat := o.getD 0
def pE (o : Option Nat) : Int := match o with
  | some _ => 0
  | none => 2

set_option maxRecDepth 100000 in
set_option maxHeartbeats 4000000 in
theorem parse_c (A : ByteArray) (hA : A.size ≤ 9223372036854775806) (w : World) (hN : Names w) :
    Calls Tryd.prog 18 #[.string A] w fun e w' => e = .returned (.tuple #[.int .u8 (pV (parseOf A.data.toList)), .int .i64 (pE (parseOf A.data.toList))]) ∧ Below w.heap.size w w' := by
  have HN := Lib.hid hN
  clear hN
  have hlen := Lib.hid (ba_len A)
  by_cases h2 : A.size < 2
  · have hp : parseOf A.data.toList = none := by unfold parseOf framed; rw [hlen.out]; simp [show ¬ 2 ≤ A.size by omega]
    rw [hp]
    clear hp
    go_enter Tryd.func18, Tryd.ntmps18
    go_wp2_with fail
    go_ret2
    exact ⟨rfl, Below.refl _ _⟩
  · have hq0 : (0 : Int) < A.size := by omega
    have hq1 : (A.size : Int) - 1 < A.size := by omega
    have h2' : 2 ≤ A.size := by omega
    by_cases h40 : A[0] = 40
    · by_cases h41 : A[A.size - 1] = 41
      · have e1 : ((A[0].toNat : Int) != 40) = false := by rw [h40]; rfl
        have e2 : ((A[A.size - 1].toNat : Int) != 41) = false := by rw [h41]; rfl
        have hfr : framed A.data.toList = true := by
          unfold framed; rw [hlen.out]
          have t0 : A.data.toList[0]? = some A[0] := by
            rw [List.getElem?_eq_getElem (by rw [hlen.out]; omega)]; simp; rfl
          have t1 : A.data.toList[A.size - 1]? = some A[A.size - 1] := by
            rw [List.getElem?_eq_getElem (by rw [hlen.out]; omega)]; simp; rfl
          rw [t0, t1, h40, h41]; simp [h2']
        have hin : A.extract 1 (A.size - 1) = txt (inner A.data.toList) := extract_txt (by
          unfold inner; rw [hlen.out, List.drop_take]; congr 1)
        have hres : ∃ R, R = parseOf A.data.toList ∧ (inner A.data.toList = [] → R = some 0) ∧ (inner A.data.toList ≠ [] → R = ps (splitB 32 (inner A.data.toList)) 0) := by
          refine ⟨_, rfl, fun h => ?_, fun h => ?_⟩
          · unfold parseOf; rw [if_pos hfr, if_pos h]
          · unfold parseOf; rw [if_pos hfr, if_neg h]
        obtain ⟨R, hR, hR0, hR1⟩ := hres
        rw [← hR]
        have hIl : (inner A.data.toList).length ≤ 9223372036854775804 := by unfold inner; rw [List.length_take, hlen.out]; omega
        have HIN := Lib.hid hin
        have HR0 := Lib.hid hR0
        have HR1 := Lib.hid hR1
        clear hR hR0 hR1 hfr hin h40 h41
        obtain ⟨I, hI⟩ : ∃ I, I = A.extract 1 (A.size - 1) := ⟨_, rfl⟩
        have HI := Lib.hid (hI.trans HIN.out)
        have hsI : I.size ≤ 9223372036854775804 := by rw [HI.out, txt_size]; exact hIl
        have hIe := isEmpty_txt HI.out
        have HI2 := Lib.hid hI.symm
        clear hI
        have HE := Lib.hid hIe
        clear hIe hIl
        go_enter Tryd.func18, Tryd.ntmps18
        go_wp2_with fail
        rw [HI2.out]
        go_loopw [4, 5, 6, 7, 8] (fun t4 t5 t6 _ _ wr => ∃ (B : ByteArray) (acc : Nat) (m : Bool), t4 = .string B ∧ t5 = .int .u8 acc ∧ t6 = .bool m ∧ acc < 32 ∧ B.size ≤ 9223372036854775804 ∧
            Hid (if m then R = ps (splitB 32 B.data.toList) acc else R = some acc) ∧ Below w.heap.size w wr) (fun t4 _ t6 _ _ _ => strLenV t4 + boolV t6)
        case atStart =>
          refine ⟨I, 0, !I.toList.isEmpty, rfl, rfl, rfl, by omega, hsI, ?_, Below.refl _ _⟩
          show if (!I.toList.isEmpty) = true then _ else _
          rw [HE.out]
          have hIL : I.data.toList = inner A.data.toList := by rw [HI.out]; simp [txt]
          cases hb : (inner A.data.toList).isEmpty with
          | true => exact HR0.out (List.isEmpty_iff.1 hb)
          | false => rw [hIL]; exact HR1.out (by intro h; rw [h] at hb; cases hb)
        case round =>
          obtain ⟨B, acc, m, rfl, rfl, rfl, hacc, hsB, HM, hB⟩ := hrel
          have HB := Lib.hid hB
          clear hB
          cases m with
          | false =>
            have hRR : R = some acc := HM.out
            have HRR := Lib.hid hRR
            clear hRR
            go_wp2_with fail
            go_ret2
            exact ⟨by rw [HRR.out]; rfl, HB.out⟩
          | true =>
            have hRR : R = ps (splitB 32 B.data.toList) acc := HM.out
            have HRR := Lib.hid hRR
            clear hRR
            rcases at_byte 32 B.data.toList with hno | ⟨p, r, hpr, hp⟩
            · have HC := Lib.hid (cut_none B 32 hno)
              have HRS := Lib.hid (HRR.out.trans (by rw [splitB_none hno]))
              clear hno
              go_wp2_with fail
              refine (HC.out _).mono ?_
              rintro e w2 ⟨rfl, n, hw⟩
              have hB2 : Below w.heap.size w w2 := by rw [hw]; exact below_drewN HB.out n
              have HN2 := Lib.hid (HN.out.later (hB2.mono HN.out.lt))
              have HB2 := Lib.hid hB2
              clear hw hB2
              by_cases hf : flagOf B.data.toList = 0
              · have hRn : R = none := by rw [HRS.out]; unfold ps; rw [if_pos hf]
                have HCN := Lib.hid (named_c B (by omega) w2 HN2.out)
                rw [hf] at HCN
                have HRN := Lib.hid hRn
                clear hf hRn
                go_wp2_with fail
                refine HCN.out.mono ?_
                rintro e w3 ⟨rfl, hb3⟩
                have HB3 := Lib.hid (HB2.out.trans (hb3.mono HB2.out.size))
                clear hb3
                go_wp2_with fail
                go_ret2
                exact ⟨by rw [HRN.out]; rfl, HB3.out⟩
              · have hRs : R = some (acc ||| flagOf B.data.toList) := by rw [HRS.out]; unfold ps; rw [if_neg hf]; rfl
                have hflt := flagOf_lt B.data.toList
                have HCN := Lib.hid (named_c B (by omega) w2 HN2.out)
                obtain ⟨g, hg⟩ : ∃ g, g = flagOf B.data.toList := ⟨_, rfl⟩
                rw [← hg] at hf hRs hflt HCN
                have hf1 : ((g : Int) == 0) = false := by rw [beq_eq_false_iff_ne]; omega
                have HRN := Lib.hid hRs
                clear hf hRs hg
                go_wp2_with fail
                refine HCN.out.mono ?_
                rintro e w3 ⟨rfl, hb3⟩
                have HB3 := Lib.hid (HB2.out.trans (hb3.mono HB2.out.size))
                clear hb3
                go_wp2_with fail
                go_roundw
                case rel => exact ⟨_, acc ||| g, false, rfl, by rw [u8_or_nat acc g (by omega) (by omega)], rfl, Nat.or_lt_two_pow (n := 5) hacc hflt, by show (0 : Nat) ≤ _; omega, HRN.out, HB3.out⟩
                case measure => show 0 + 0 < B.size + 1; omega
            · have HC := Lib.hid (cut_some B 32 p r (by omega) hpr hp)
              have HRS := Lib.hid (HRR.out.trans (by rw [hpr, splitB_some hp]))
              have hlp : p.length + 1 + r.length = B.size := by rw [← ba_len, hpr]; simp; omega
              have hszp : (txt p).size ≤ 9223372036854775806 := by rw [txt_size]; omega
              have HLP := Lib.hid hlp
              have hpd : (txt p).data.toList = p := by simp [txt]
              clear hpr hp hlp
              go_wp2_with fail
              refine (HC.out _).mono ?_
              rintro e w2 ⟨rfl, n, hw⟩
              have hB2 : Below w.heap.size w w2 := by rw [hw]; exact below_drewN HB.out n
              have HN2 := Lib.hid (HN.out.later (hB2.mono HN.out.lt))
              have HB2 := Lib.hid hB2
              have HCN0 := named_c (txt p) hszp w2 HN2.out
              rw [hpd] at HCN0
              clear hw hB2 hpd
              by_cases hf : flagOf p = 0
              · have hRn : R = none := by rw [HRS.out]; unfold ps; rw [if_pos hf]
                rw [hf] at HCN0
                have HCN := Lib.hid HCN0
                have HRN := Lib.hid hRn
                clear hf hRn HCN0
                go_wp2_with fail
                refine HCN.out.mono ?_
                rintro e w3 ⟨rfl, hb3⟩
                have HB3 := Lib.hid (HB2.out.trans (hb3.mono HB2.out.size))
                clear hb3
                go_wp2_with fail
                go_ret2
                exact ⟨by rw [HRN.out]; rfl, HB3.out⟩
              · have hRs : R = ps (splitB 32 r) (acc ||| flagOf p) := by rw [HRS.out]; conv => lhs; unfold ps
                                                                         rw [if_neg hf]
                have hflt := flagOf_lt p
                obtain ⟨g, hg⟩ : ∃ g, g = flagOf p := ⟨_, rfl⟩
                rw [← hg] at hf hRs hflt HCN0
                have hf1 : ((g : Int) == 0) = false := by rw [beq_eq_false_iff_ne]; omega
                have HRN := Lib.hid hRs
                have HCN := Lib.hid HCN0
                clear hf hRs hg HCN0
                go_wp2_with fail
                refine HCN.out.mono ?_
                rintro e w3 ⟨rfl, hb3⟩
                have HB3 := Lib.hid (HB2.out.trans (hb3.mono HB2.out.size))
                clear hb3
                go_wp2_with fail
                go_roundw
                case rel => exact ⟨txt r, acc ||| g, true, rfl, by rw [u8_or_nat acc g (by omega) (by omega)], rfl, Nat.or_lt_two_pow (n := 5) hacc hflt, by rw [txt_size]; have := HLP.out; omega, by show R = _; rw [HRN.out]; simp [txt], HB3.out⟩
                case measure => show (txt r).size + 1 < B.size + 1; rw [txt_size]; have := HLP.out; omega
      · have e1 : ((A[0].toNat : Int) != 40) = false := by rw [h40]; rfl
        have e2 : ((A[A.size - 1].toNat : Int) != 41) = true := by
          rw [bne_iff_ne]; intro e; exact h41 (UInt8.toNat_inj.1 (by show _ = 41; omega))
        have hp : parseOf A.data.toList = none := by
          unfold parseOf framed; rw [hlen.out]
          have : A.data.toList[A.size - 1]? = some A[A.size - 1] := by
            rw [List.getElem?_eq_getElem (by rw [hlen.out]; omega)]; simp; rfl
          rw [this]; simp [h41]
        rw [hp]
        clear hp h40 h41
        go_enter Tryd.func18, Tryd.ntmps18
        go_wp2_with fail
        go_ret2
        exact ⟨rfl, Below.refl _ _⟩
    · have e1 : ((A[0].toNat : Int) != 40) = true := by
        rw [bne_iff_ne]; intro e; exact h40 (UInt8.toNat_inj.1 (by show _ = 40; omega))
      have hp : parseOf A.data.toList = none := by
        unfold parseOf framed; rw [hlen.out]
        have : A.data.toList[0]? = some A[0] := by
          rw [List.getElem?_eq_getElem (by rw [hlen.out]; omega)]; simp; rfl
        rw [this]; simp [h40]
      rw [hp]
      clear hp h40
      go_enter Tryd.func18, Tryd.ntmps18
      go_wp2_with fail
      go_ret2
      exact ⟨rfl, Below.refl _ _⟩
end Go.Proofs.YtmfpfebnlflfiaaDoor

/-
  Two texts alike; a text cut at a blank: contracts.
-/
import Derived.Test.YtmfpfebnlflfiaaDoorPure2
import Derived.Test.YtmfpfebnlflfiaaDoorRef1
import Derived.Test.YtmfpfebnlflfiaaDoorShelfF
import Derived.Lib.IndexBytes
import Derived.Lib.IndexLaws
set_option linter.unusedVariables false
set_option linter.unusedSimpArgs false
namespace Go.Proofs.YtmfpfebnlflfiaaDoor
open Go Go.RowKit

theorem ba_len (s : ByteArray) : s.data.toList.length = s.size := by rw [Array.length_toList]; rfl
theorem small_q (c : Nat) (hc : c < 256) (w : World) : Calls Tryd.prog 62 #[.int .u8 c] w fun e w' => e = .returned (.int .u8 (sSmall c)) ∧ w' = w :=
  (small_c c hc w).mono fun _ _ ⟨h1, h2⟩ => ⟨h1, h2.symm⟩

theorem small_eq (x y : UInt8) : ((sSmall x.toNat : Int) = (sSmall y.toNat : Int)) ↔ lowerB x = lowerB y := by
  have h : ∀ z : UInt8, sSmall z.toNat = (lowerB z).toNat := fun z => (toNat_lowerB z).symm
  rw [h, h]
  constructor
  · intro e; exact UInt8.toNat_inj.1 (by omega)
  · intro e; rw [e]
theorem take_map_succ {a b : List UInt8} {k : Nat} (h1 : k < a.length) (h2 : k < b.length) (h : (a.take k).map lowerB = (b.take k).map lowerB) (hk : lowerB a[k] = lowerB b[k]) :
    (a.take (k + 1)).map lowerB = (b.take (k + 1)).map lowerB := by
  rw [List.take_succ_eq_append_getElem h1, List.take_succ_eq_append_getElem h2, List.map_append, List.map_append, h]
  simp [hk]

set_option maxRecDepth 100000 in
set_option maxHeartbeats 1000000 in
theorem alike_c (a b : ByteArray) (ha : a.size ≤ 9223372036854775806) (hb : b.size ≤ 9223372036854775806) (w : World) : Calls Tryd.prog 52 #[.string a, .string b] w fun e w' => e = .returned (.bool (alikeB a.data.toList b.data.toList)) ∧ ∃ n, w' = w.drewN n := by
  by_cases hl : a.size = b.size
  · have e1 : ((a.size : Int) != (b.size : Int)) = false := by simp [hl]
    have HL := Lib.hid hl
    clear hl
    go_enter Tryd.func52, Tryd.ntmps52
    go_wp2_with fail
    go_loopw [13] (fun i wr => ∃ k : Nat, k ≤ a.size ∧ i = .int .i64 k ∧ Hid ((a.data.toList.take k).map lowerB = (b.data.toList.take k).map lowerB) ∧ Hid (∃ n, wr = w.drewN n)) (fun i _ => a.size - (intOf i).toNat)
    case atStart => exact ⟨0, by omega, rfl, rfl, 0, rfl⟩
    case round =>
      obtain ⟨k, hk, rfl, HE, HW⟩ := hrel
      have hla := ba_len a
      have hlb := ba_len b
      have HLA := Lib.hid hla
      have HLB := Lib.hid hlb
      clear hla hlb
      by_cases hlt : k < a.size
      · have hltb : k < b.size := HL.out ▸ hlt
        have hq1 : ((k : Int)) < a.size := by omega
        have hq2 : ((k : Int)) < b.size := by omega
        have hc1 : (a[k].toNat) < 256 := a[k].toNat_lt
        have hc2 : (b[k].toNat) < 256 := b[k].toNat_lt
        go_wp2_with fail
        go_quiet ((go_at_call 62; exact Calls.quiet_of_same (small_q _ (by assumption) _)))
        have HW2 : Hid (∃ n, wr.drewN nq = w.drewN n) := by
          obtain ⟨n, hn⟩ := HW.out
          exact ⟨n + nq, by rw [hn, World.drewN_drewN]⟩
        by_cases hs : lowerB a[k] = lowerB b[k]
        · have e2 : ((sSmall a[k].toNat : Int) != (sSmall b[k].toNat : Int)) = false := by simpa using (small_eq _ _).2 hs
          have HS := Lib.hid hs
          clear hs
          go_wp2_with fail
          go_roundw
          case rel => exact ⟨k + 1, by omega, by go_num, take_map_succ (by rw [HLA.out]; exact hlt) (by rw [HLB.out]; exact hltb) HE.out HS.out, HW2⟩
          case measure => simp [intOf]; omega
        · have e2 : ((sSmall a[k].toNat : Int) != (sSmall b[k].toNat : Int)) = true := by simpa using fun h => hs ((small_eq _ _).1 h)
          have HS := Lib.hid hs
          clear hs
          go_wp2_with fail
          go_ret
          refine ⟨ret_b ?_, HW2.out⟩
          unfold alikeB
          symm
          rw [beq_eq_false_iff_ne]
          intro h
          have h1 : k < a.data.toList.length := by rw [HLA.out]; exact hlt
          have h2 : k < b.data.toList.length := by rw [HLB.out]; exact hltb
          have := congrArg (fun l => l[k]?) h
          simp only [List.getElem?_map, List.getElem?_eq_getElem h1, List.getElem?_eq_getElem h2, Option.map_some, Option.some.injEq] at this
          exact HS.out this
      · obtain rfl : k = a.size := by omega
        go_wp2_with fail
        go_ret
        refine ⟨ret_b ?_, HW.out⟩
        unfold alikeB
        symm
        rw [beq_iff_eq]
        have h1 := HE.out
        rw [List.take_of_length_le (by rw [HLA.out]; exact Nat.le_refl _), List.take_of_length_le (by rw [HLB.out, HL.out]; exact Nat.le_refl _)] at h1
        exact h1
  · have e1 : ((a.size : Int) != (b.size : Int)) = true := by rw [bne_iff_ne]; omega
    have HL := Lib.hid hl
    clear hl
    go_enter Tryd.func52, Tryd.ntmps52
    go_wp2_with fail
    go_ret
    refine ⟨ret_b ?_, 0, rfl⟩
    unfold alikeB
    symm
    rw [beq_eq_false_iff_ne]
    intro h
    have := congrArg List.length h
    simp only [List.length_map] at this
    exact HL.out (by rw [← ba_len a, ← ba_len b]; exact this)
end Go.Proofs.YtmfpfebnlflfiaaDoor

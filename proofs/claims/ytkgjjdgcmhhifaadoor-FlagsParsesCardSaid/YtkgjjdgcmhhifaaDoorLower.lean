/-
  The document's layer 1: a text with small letters.
-/
import Derived.Test.YtkgjjdgcmhhifaaDoorParse1
import Derived.Laws.IdiomStrings
set_option linter.unusedVariables false
set_option linter.unusedSimpArgs false
namespace Go.Proofs.YtkgjjdgcmhhifaaDoor
open Go Go.RowKit

theorem conv1 (w : World) (x : Int) (c : UInt8) (hx : x = c.toNat) :
    (convert 69 9 (.slice (some ⟨w.heap.size, 0, none⟩) 1 1)).run Tryd.prog (w.alloc (.cells #[.int .u8 x] 5)) = .ok (.string ⟨#[c]⟩) (w.alloc (.cells #[.int .u8 x] 5)) := by
  have := run_convert_bytes_back (P := Tryd.prog) (w.alloc (.cells #[.int .u8 x] 5)) 69 9 5 ⟨w.heap.size, 0, none⟩ 1 [c] Tryd.underlying69 Tryd.underlying5 Tryd.underlying9 (by
    intro j hj
    obtain rfl : j = 0 := by simpa using hj
    subst hx
    show World.cell? _ ⟨w.heap.size, 0, none⟩ = _
    unfold World.cell?; rw [World.alloc_heap_new]; rfl)
  exact this
theorem lower_take {A : ByteArray} {B : ByteArray} {k : Nat} (hk : k < A.size) (hB : B = txt ((A.data.toList.take k).map lowerB)) : B ++ ⟨#[lowerB A[k]]⟩ = txt ((A.data.toList.take (k + 1)).map lowerB) := by
  have hk' : k < A.data.toList.length := by rw [ba_len]; exact hk
  rw [byte_append _ _ hB, List.take_succ_eq_append_getElem hk', List.map_append]
  rfl

set_option maxRecDepth 100000 in
set_option maxHeartbeats 1000000 in
theorem rlower_c (A : ByteArray) (hA : A.size ≤ 1000) (w : World) : Calls Tryd.prog 40 #[.string A] w fun e w' => e = .returned (.string (txt (A.data.toList.map lowerB))) ∧ Below w.heap.size w w' := by
  go_enter Tryd.func40, Tryd.ntmps40
  go_wp2_with fail
  go_loopw [3, 4, 5] (fun o i _ wr => ∃ (k : Nat) (B : ByteArray), k ≤ A.size ∧ i = .int .i64 k ∧ o = .string B ∧ B.size ≤ 1000 ∧ Hid (B = txt ((A.data.toList.take k).map lowerB)) ∧ Below w.heap.size w wr) (fun _ i _ _ => A.size - (intOf i).toNat)
  case atStart => exact ⟨0, _, by omega, rfl, rfl, by show (0 : Nat) ≤ _; omega, rfl, Below.refl _ _⟩
  case round =>
    obtain ⟨k, B, hk, rfl, rfl, hsB, HB, hB⟩ := hrel
    have hle : w.heap.size ≤ wr.heap.size := hB.size
    have HW := Lib.hid hB
    clear hB
    by_cases hlt : k < A.size
    · have hq1 : ((k : Int)) < A.size := by omega
      have hc1 : (A[k].toNat) < 256 := A[k].toNat_lt
      have hbs : B.size ≤ k := by rw [HB.out, txt_size, List.length_map, List.length_take]; omega
      by_cases hup : 65 ≤ A[k].toNat ∧ A[k].toNat ≤ 90
      · have hlo : ((lowerB A[k]).toNat : Int) = (A[k].toNat : Int) + 32 := by rw [toNat_lowerB, if_pos hup]; rfl
        have u1 : 65 ≤ (A[k].toNat : Int) := by omega
        have u2 : (A[k].toNat : Int) ≤ 90 := by omega
        have kc := conv1 wr ((A[k].toNat : Int) + 32) (lowerB A[k]) hlo.symm
        clear hlo hup
        go_wp2_with fail
        go_roundw
        case rel => exact ⟨k + 1, _, by omega, by go_num, rfl, by rw [ByteArray.size_append]; show B.size + 1 ≤ 1000; omega, lower_take hlt HB.out, HW.out.alloc hle _⟩
        case measure => simp [intOf]; omega
      · have hlo : ((lowerB A[k]).toNat : Int) = (A[k].toNat : Int) := by rw [toNat_lowerB, if_neg hup]
        have kc := conv1 wr (A[k].toNat : Int) (lowerB A[k]) hlo.symm
        clear hlo
        by_cases hup1 : 65 ≤ A[k].toNat
        · have u1 : 65 ≤ (A[k].toNat : Int) := by omega
          have u2 : 90 < (A[k].toNat : Int) := by omega
          clear hup hup1
          go_wp2_with fail
          go_roundw
          case rel => exact ⟨k + 1, _, by omega, by go_num, rfl, by rw [ByteArray.size_append]; show B.size + 1 ≤ 1000; omega, lower_take hlt HB.out, HW.out.alloc hle _⟩
          case measure => simp [intOf]; omega
        · have u1 : (A[k].toNat : Int) < 65 := by omega
          clear hup hup1
          go_wp2_with fail
          go_roundw
          case rel => exact ⟨k + 1, _, by omega, by go_num, rfl, by rw [ByteArray.size_append]; show B.size + 1 ≤ 1000; omega, lower_take hlt HB.out, HW.out.alloc hle _⟩
          case measure => simp [intOf]; omega
    · obtain rfl : k = A.size := by omega
      go_wp2_with fail
      go_ret
      refine ⟨?_, HW.out⟩
      have h1 := HB.out
      rw [List.take_of_length_le (by rw [ba_len]; exact Nat.le_refl _)] at h1
      rw [← h1]; rfl
end Go.Proofs.YtkgjjdgcmhhifaaDoor

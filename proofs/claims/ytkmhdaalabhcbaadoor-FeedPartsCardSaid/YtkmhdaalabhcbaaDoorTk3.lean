/-
  A text with great letters, by the program and by the document: contracts.
-/
import Derived.Test.YtkmhdaalabhcbaaDoorTk2
import Derived.Test.YtkmhdaalabhcbaaDoorBy
import Derived.Lib.ConvBytes
import Derived.Lib.SmallJoins
import Derived.Laws.IdiomStrings
import Derived.MapKept
set_option linter.unusedVariables false
set_option linter.unusedSimpArgs false
namespace Go.Proofs.YtkmhdaalabhcbaaDoor
open Go Go.RowKit

theorem up_take {l : List UInt8} {k : Nat} (hk : k < l.length) (c : UInt8) (hc : c = upB l[k]) : ((l.take k).map upB ++ l.drop k).set k c = (l.take (k + 1)).map upB ++ l.drop (k + 1) := by
  subst hc
  rw [List.set_append_right _ _ (by simp; omega), List.take_succ_eq_append_getElem hk, List.map_append, List.append_assoc]
  congr 1
  have : k - ((l.take k).map upB).length = 0 := by simp; omega
  rw [this, List.drop_eq_getElem_cons hk]; rfl
theorem up_at {l : List UInt8} {k : Nat} (hk : k < l.length) : ((l.take k).map upB ++ l.drop k)[k]? = some l[k] := by
  have : ((l.take k).map upB).length = k := by simp; omega
  rw [List.getElem?_append_right (by omega), this, Nat.sub_self, List.drop_eq_getElem_cons hk]; rfl
theorem up_same {l : List UInt8} {k : Nat} (hk : k < l.length) (h : upB l[k] = l[k]) : (l.take k).map upB ++ l.drop k = (l.take (k + 1)).map upB ++ l.drop (k + 1) := by
  rw [List.take_succ_eq_append_getElem hk, List.map_append, List.append_assoc, List.drop_eq_getElem_cons hk]
  simp [h]

set_option maxRecDepth 100000 in
set_option maxHeartbeats 1000000 in
theorem tkUpper_c (l : List UInt8) (hl : l.length ≤ 100000) (w : World) : Calls Tryd.prog 31 #[.string (txt l)] w fun e w' => e = .returned (.string (txt (l.map upB))) ∧ Below w.heap.size w w' := by
  have hcv := Lib.run_convert_string_bytes (P := Tryd.prog) w 9 22 5 (txt l) Tryd.underlying9 Tryd.underlying22 Tryd.underlying5
  have hnew := BytesAt.new w l
  have hbel := Joins.below_bytesWorld w.heap.size w 5 (txt l) (Nat.le_refl _)
  have hsz := txt_size l
  obtain ⟨N, hN⟩ : ∃ N, l.length = N := ⟨_, rfl⟩
  obtain ⟨B, hB⟩ : ∃ B, txt l = B := ⟨_, rfl⟩
  obtain ⟨w1, hw1⟩ : ∃ w1, Lib.bytesWorld w 5 B = w1 := ⟨_, rfl⟩
  rw [hB] at hcv hnew hbel hsz ⊢
  rw [hw1] at hcv hnew hbel
  rw [hN] at hsz
  rw [hsz] at hcv
  obtain ⟨cp, hcp⟩ : ∃ cp, grownCap w N 0 5 = cp := ⟨_, rfl⟩
  rw [hcp] at hcv
  have HN := Lib.hid hN
  have H1 := Lib.hid hnew
  have HB := Lib.hid hbel
  clear hnew hbel hw1 hN hB hcp
  go_enter Tryd.func31, Tryd.ntmps31
  go_wp2_with fail
  go_loopw [4, 5, 10] (fun x y i wr => ∃ k : Nat, k ≤ N ∧ i = .int .i64 k ∧ Hid (BytesAt wr w.heap.size ((l.take k).map upB ++ l.drop k)) ∧ Hid (Below w.heap.size w wr)) (fun _ _ i _ => N - (intOf i).toNat)
  case atStart => exact ⟨0, Nat.zero_le _, rfl, H1.out, HB.out⟩
  case round =>
    obtain ⟨k, hk, rfl, HA, HW⟩ := hrel
    by_cases hlt : k < N
    · have hq : (k : Int) < N := by omega
      have hq0 : (0 : Int) ≤ k := by omega
      have hkl : k < l.length := by rw [HN.out]; exact hlt
      obtain ⟨c, hc⟩ : ∃ c, l[k] = c := ⟨_, rfl⟩
      obtain ⟨c0, f0⟩ := HA.out.cell (up_at hkl)
      have hbl := HA.out.lt
      have hle := HW.out.size
      rw [hc] at c0
      have hc1 : c.toNat < 256 := c.toNat_lt
      have HKL := Lib.hid hkl
      have HC := Lib.hid hc
      clear hc
      by_cases h1 : 97 ≤ c.toNat
      · by_cases h2 : c.toNat ≤ 122
        · have q1 : (97 : Int) ≤ c.toNat := by omega
          have q2 : (c.toNat : Int) ≤ 122 := by omega
          have hup : ((upB c).toNat : Int) = (c.toNat : Int) - 97 + 65 := by rw [upB_toNat, if_pos ⟨h1, h2⟩]; omega
          have HS : Hid (BytesAt (wr.setCell ⟨w.heap.size, k, none⟩ (.int .u8 ((c.toNat : Int) - 97 + 65))) w.heap.size ((l.take (k + 1)).map upB ++ l.drop (k + 1))) := by
            have := HA.out.set (j := k) (by simp; have := HKL.out; omega) (upB c)
            rw [hup, up_take HKL.out (upB c) (by rw [HC.out])] at this
            exact this
          have HS2 : Hid (Below w.heap.size w (wr.setCell ⟨w.heap.size, k, none⟩ (.int .u8 ((c.toNat : Int) - 97 + 65)))) := ⟨HW.out.os, HW.out.tape, HW.out.output, by rw [size_setCell]; exact HW.out.size, fun i hi => (Below.heap_setCell wr ⟨w.heap.size, k, none⟩ _ i (by show i ≠ w.heap.size; omega)).trans (HW.out.block i hi)⟩
          clear hup
          go_wp2_with fail
          go_roundw
          case rel => exact ⟨k + 1, by omega, by go_num, HS.out, HS2.out⟩
          case measure => simp [intOf]; omega
        · have q1 : (97 : Int) ≤ c.toNat := by omega
          have q2 : ¬ (c.toNat : Int) ≤ 122 := by omega
          have HS : Hid (BytesAt wr w.heap.size ((l.take (k + 1)).map upB ++ l.drop (k + 1))) := by
            have := HA.out
            rw [up_same HKL.out (by rw [HC.out]; unfold upB; rw [if_neg (by omega)])] at this
            exact this
          go_wp2_with fail
          go_roundw
          case rel => exact ⟨k + 1, by omega, by go_num, HS.out, HW.out⟩
          case measure => simp [intOf]; omega
      · have q1 : ¬ (97 : Int) ≤ c.toNat := by omega
        have HS : Hid (BytesAt wr w.heap.size ((l.take (k + 1)).map upB ++ l.drop (k + 1))) := by
          have := HA.out
          rw [up_same HKL.out (by rw [HC.out]; unfold upB; rw [if_neg (by omega)])] at this
          exact this
        go_wp2_with fail
        go_roundw
        case rel => exact ⟨k + 1, by omega, by go_num, HS.out, HW.out⟩
        case measure => simp [intOf]; omega
    · obtain rfl : k = N := by omega
      have hq : ¬ (k : Int) < k := by omega
      have ha := HA.out
      rw [List.take_of_length_le (by rw [HN.out]; exact Nat.le_refl _), List.drop_of_length_le (by rw [HN.out]; exact Nat.le_refl _), List.append_nil] at ha
      have kc := ha.back cp k (by rw [List.length_map]; exact HN.out)
      clear ha
      go_wp2_with fail
      go_ret
      exact ⟨rfl, HW.out⟩

theorem upper_take {A : ByteArray} {B : ByteArray} {k : Nat} (hk : k < A.size) (hB : B = txt ((A.data.toList.take k).map upB)) : B ++ ⟨#[upB A[k]]⟩ = txt ((A.data.toList.take (k + 1)).map upB) := by
  have hk' : k < A.data.toList.length := by rw [ba_len]; exact hk
  rw [byte_append _ _ hB, List.take_succ_eq_append_getElem hk', List.map_append]
  rfl

end Go.Proofs.YtkmhdaalabhcbaaDoor

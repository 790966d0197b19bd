/-
  Numbers, written: the document's, and strconv.FormatUint: contracts.
-/
import Derived.Test.YtaomekmfgjgpmaaDoorRef1
import Derived.Test.YtaomekmfgjgpmaaDoorShelfI
import Derived.Lib.ItoaNum
import Derived.Lib.ItoaMem
import Derived.Lib.AppendIntMem
import Derived.Lib.UnsafeStr
import Derived.BigQuiet
import Derived.Deep.QuietTactic
set_option linter.unusedVariables false
set_option linter.unusedSimpArgs false
namespace Go.Proofs.YtaomekmfgjgpmaaDoor
open Go Go.RowKit
theorem ba_lenI (s : ByteArray) : s.data.toList.length = s.size := by rw [Array.length_toList]; rfl
theorem ret_sI {a b : ByteArray} (h : a = b) : Ending.returned (.string a) = .returned (.string b) := by rw [h]
theorem dec_small9 {u : Nat} (h : u < 10) : Lib.decDigits u = [UInt8.ofNat (48 + u)] := by rw [Lib.decDigits, dif_pos h]
theorem dec_big9 {u : Nat} (h : ¬ u < 10) : Lib.decDigits u = Lib.decDigits (u / 10) ++ [UInt8.ofNat (48 + u % 10)] := by rw [Lib.decDigits, dif_neg h]
theorem dec_len9 : ∀ (k u : Nat), u < 10 ^ (k + 1) → (Lib.decDigits u).length ≤ k + 1
  | 0, u, h => by rw [dec_small9 (by simpa using h)]; simp
  | k + 1, u, h => by
    by_cases hu : u < 10
    · rw [dec_small9 hu]; simp
    · rw [dec_big9 hu, List.length_append]
      have := dec_len9 k (u / 10) (by rw [Nat.pow_succ] at h; omega)
      simp; omega
def u64V9 : Value → Nat
  | .int _ n => n.toNat
  | _ => 0
theorem digit_slice {d : Nat} (h : d < 10) : (⟨#[48, 49, 50, 51, 52, 53, 54, 55, 56, 57]⟩ : ByteArray).extract d (d + 1) = txt [UInt8.ofNat (48 + d)] := by
  have : ∀ d < 10, ((⟨#[48, 49, 50, 51, 52, 53, 54, 55, 56, 57]⟩ : ByteArray).extract d (d + 1)).data.toList = [UInt8.ofNat (48 + d)] := by decide +kernel
  have h2 := this d h
  rw [← txt_data (ByteArray.extract _ _ _), h2]

set_option maxRecDepth 100000 in
set_option maxHeartbeats 1000000 in
theorem rnum_c (n : Nat) (hn : n ≤ 4294967295) (w : World) : Calls Tryd.prog 24 #[.int .u64 n] w fun e w' => e = .returned (.string (txt (Lib.decDigits n))) ∧ Below w.heap.size w w' := by
  go_enter Tryd.func24, Tryd.ntmps24
  go_wp2_with fail
  go_loopw [0, 3] (fun t0 t3 wr => ∃ (m : Nat) (S : ByteArray), t0 = .int .u64 m ∧ t3 = .string S ∧ m ≤ 4294967295 ∧ Hid (Lib.decDigits n = Lib.decDigits m ++ S.data.toList) ∧ S.size ≤ 1000 ∧ Hid (Below w.heap.size w wr)) (fun t0 _ _ => u64V9 t0)
  case atStart => exact ⟨n, _, rfl, rfl, hn, (List.append_nil _).symm, by show (0 : Nat) ≤ _; omega, Below.refl _ _⟩
  case round =>
    obtain ⟨m, S, rfl, rfl, hm, HD, hS, HB⟩ := hrel
    by_cases h9 : m < 10
    · have q9 : ¬ (9 : Int) < m := by omega
      go_wp2_with fail
      go_ret
      refine ⟨ret_sI ?_, HB.out⟩
      have h1 := HD.out
      rw [dec_small9 h9] at h1
      rw [digit_slice h9, h1]
      conv => lhs; rw [← txt_data S]
      exact txt_append _ _
    · have q9 : (9 : Int) < m := by omega
      go_wp2_with fail
      go_roundw
      case rel =>
        have hd : m % 10 < 10 := Nat.mod_lt _ (by omega)
        have hS' : ((⟨#[48, 49, 50, 51, 52, 53, 54, 55, 56, 57]⟩ : ByteArray).extract (m % 10) (m % 10 + 1) ++ S).data.toList = UInt8.ofNat (48 + m % 10) :: S.data.toList := by rw [digit_slice hd]; simp [txt]
        have h1 := HD.out
        rw [dec_big9 h9, List.append_assoc] at h1
        have h2 : Lib.decDigits n = Lib.decDigits (m / 10) ++ ((⟨#[48, 49, 50, 51, 52, 53, 54, 55, 56, 57]⟩ : ByteArray).extract (m % 10) (m % 10 + 1) ++ S).data.toList := by rw [hS', h1]; rfl
        have h3 : (Lib.decDigits n).length ≤ 10 := dec_len9 9 n (by omega)
        refine ⟨m / 10, _, by go_num, rfl, by omega, h2, ?_, HB.out⟩
        have h4 := congrArg List.length h2
        rw [List.length_append, ba_lenI] at h4
        omega
      case measure => show ((m : Int) / 10).toNat < ((m : Int)).toNat; omega
abbrev PowTab (W : World) : Prop := Lib.TabIs Tryd.prog W "internal/strconv.uint64pow10" .u64 Lib.pow10Tab
theorem PowTab.below {W w : World} (h : PowTab W) (hb : Below W.heap.size W w) : PowTab w := Lib.tabBelow_of_tabIs h w hb
theorem itoa_c {w : World} (hT : PowTab w) (n : Nat) (hn : n ≤ 4294967295) : Calls Tryd.prog 20 #[.int .i64 n] w fun e w' => e = .returned (.string (txt (Lib.decDigits n))) ∧ Below w.heap.size w w' := by
  refine (Tryd.strconv_Itoa (n : Int) (by omega) (by omega) w hT).mono fun e w' ⟨h1, k, os, h2⟩ => ⟨?_, ?_⟩
  · rw [h1]
    rfl
  · rw [h2]; exact Lib.below_grow _ w (Nat.le_refl _) k os
set_option maxHeartbeats 6400000 in
set_option maxRecDepth 100000 in
theorem ifu_c {w : World} (hT : PowTab w) (u : Nat) (hu : u ≤ 4294967295) : Calls Tryd.prog 28 #[.int .u64 u, .int .i64 10] w fun e w' => e = .returned (.string (txt (Lib.decDigits u))) ∧ Below w.heap.size w w' := by
  by_cases hs : u < 100
  · have C := Lib.hid (Tryd.internal_strconv_small u hs w)
    have q : (u : Int) < 100 := by omega
    go_enter Tryd.func28, Tryd.ntmps28
    go_wp2_with (first | (go_at_call 38; refine C.out.mono ?_; rintro e w' ⟨rfl, rfl⟩) | fail)
    go_ret
    exact ⟨rfl, Below.refl _ _⟩
  · have q : ¬ (u : Int) < 100 := by omega
    have hu1 : 1 ≤ u := by omega
    have hu64 : u < 18446744073709551616 := by omega
    have hnd20 : Lib.nDigits u ≤ 20 := by have := Lib.numDigits_eq u hu1 hu64; split at this <;> omega
    have hal : Tryd.prog.arrayLen 67 = 24 := by kernel_rfl
    have hsl1 : ∀ W, (Instr.sliceAt 67 (.pointer (some ⟨w.heap.size, 0, none⟩)) none (some (.int .i64 (Lib.nDigits u : Int))) none).run Tryd.prog W = .ok (.slice (some ⟨w.heap.size, 0, none⟩) (Lib.nDigits u) 24) W := fun W => by
      rw [run_sliceAt_array_h W 67 ⟨w.heap.size, 0, none⟩ (by simp [Program.arrayLen, Program.elem, Tryd.underlying67]) .i64 (Lib.nDigits u : Int) (by omega) (by rw [hal]; omega)]
      go_simp
      try omega
    have hH0 := Lib.holds_zero0 w 67 (Lib.nDigits u) (by omega)
    have hfmt := Tryd.internal_strconv_formatBase10 w.heap.size 0 24 u (Array.replicate (Lib.nDigits u) 0) (w.alloc (.cells Lib.zeros24 67)) hH0 (by rw [Array.size_replicate]; exact Lib.lt_pow_nDigits u) hu64 (by rw [Array.size_replicate]; omega)
    rw [Array.size_replicate] at hfmt
    have HH0 := Lib.hid hH0
    have HF := Lib.hid hfmt
    have HND := Lib.hid (fun W (h : PowTab W) => Tryd.internal_strconv_numDigits u hu1 hu64 W h)
    have HT := Lib.hid hT
    clear hH0 hal hfmt hT
    go_enter Tryd.func28, Tryd.ntmps28
    go_wp2_with (first | (go_at_call 39; refine (HND.out _ (Lib.tabIs_alloc HT.out _)).mono ?_; rintro e w' ⟨rfl, rfl⟩))
    go_at_call 40
    refine HF.out.mono ?_
    rintro e w' ⟨rfl, k, v', dk, rfl, hF⟩
    have hcv : (convert 53 9 (.slice (some ⟨w.heap.size, 0, none⟩) (Lib.nDigits u) 24)).run Tryd.prog ((Go.Sort.putRow (fun (b : UInt8) => Value.int .u8 (b.toNat : Int)) (w.alloc (.cells Lib.zeros24 67)) w.heap.size 0 dk).drewN k) = .ok (.string ⟨(Lib.decDigits u).toArray⟩) ((Go.Sort.putRow (fun (b : UInt8) => Value.int .u8 (b.toNat : Int)) (w.alloc (.cells Lib.zeros24 67)) w.heap.size 0 dk).drewN k) := by
      have h := run_convert_bytes_back (P := Tryd.prog) ((Go.Sort.putRow (fun (b : UInt8) => Value.int .u8 (b.toNat : Int)) (w.alloc (.cells Lib.zeros24 67)) w.heap.size 0 dk).drewN k) 53 9 5 ⟨w.heap.size, 0, none⟩ 24 (Lib.decDigits u) Tryd.underlying53 Tryd.underlying5 Tryd.underlying9 (fun j hj => by
        rw [Lib.row_is_numeral hF j hj, Lib.add_plain, World.cell?_drewN]
        exact Go.Sort.cell?_putRow (fun (b : UInt8) => Value.int .u8 (b.toNat : Int)) _ w.heap.size 0 _ dk HH0.out (by rw [hF.size, Array.size_replicate]) j (by rw [hF.size]; rw [Lib.decDigits_length] at hj; exact hj))
      rw [Lib.decDigits_length] at h
      exact h
    go_wp2
    go_ret
    obtain ⟨os, eo⟩ := Lib.fin_at w (.cells Lib.zeros24 67) dk k 0
    refine ⟨rfl, ?_⟩
    rw [eo]
    exact Lib.below_grow _ w (Nat.le_refl _) k os
set_option maxRecDepth 100000 in
theorem fu_c {w : World} (hT : PowTab w) (u : Nat) (hu : u ≤ 4294967295) : Calls Tryd.prog 16 #[.int .u64 u, .int .i64 10] w fun e w' => e = .returned (.string (txt (Lib.decDigits u))) ∧ Below w.heap.size w w' := by
  have C := Lib.hid (ifu_c hT u hu)
  clear hT
  go_enter Tryd.func16, Tryd.ntmps16
  go_wp2_with (first | (go_at_call 28; refine C.out.mono ?_; rintro e w' ⟨rfl, hb⟩; have H := Lib.hid hb; clear hb) | fail)
  go_ret
  exact ⟨rfl, H.out⟩
end Go.Proofs.YtaomekmfgjgpmaaDoor

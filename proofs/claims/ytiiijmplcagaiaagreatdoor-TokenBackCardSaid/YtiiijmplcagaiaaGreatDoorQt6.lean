/-
  The document's row of an atom; its numbers, written: contracts (out of XTkB and XQNum, for a seat without the document's reader).
-/
import Derived.Test.YtiiijmplcagaiaaGreatDoorQt5
import Derived.Deep.QuietTactic
import Derived.BigQuiet
set_option linter.unusedVariables false
set_option linter.unusedSimpArgs false
namespace Go.Proofs.YtiiijmplcagaiaaGreatDoor
open Go Go.RowKit

theorem atomic_eq : ∀ n < 256, (decide (32 < n) && (decide (n ≤ 126) && !offL.contains (UInt8.ofNat n))) = decide (33 ≤ n ∧ n ≤ 126 ∧ n ≠ 40 ∧ n ≠ 41 ∧ n ≠ 123 ∧ n ≠ 37 ∧ n ≠ 42 ∧ n ≠ 34 ∧ n ≠ 92 ∧ n ≠ 93) := by decide +kernel
set_option maxRecDepth 20000 in
set_option maxHeartbeats 1000000 in
theorem rtAtomic_c (n : Nat) (x : UInt8) (hx : x.toNat = n) (w : World) : Calls Tryz.prog 32 #[.int .u8 n] w fun e w' => e = .returned (.bool (atomB x)) ∧ w' = w := by
  have hn : n < 256 := by rw [← hx]; exact x.toNat_lt
  have hxn : x = UInt8.ofNat n := by rw [← hx]; exact UInt8.toNat_inj.1 (by rw [UInt8.toNat_ofNat']; have := x.toNat_lt; omega)
  have hA : atomB x = (decide (32 < n) && (decide (n ≤ 126) && !offL.contains (UInt8.ofNat n))) := by
    unfold atomB; rw [hx, hxn]; rfl
  rw [hA, atomic_eq n hn]
  clear hA hxn hx
  obtain ⟨v, hv⟩ : ∃ v, decide (33 ≤ n ∧ n ≤ 126 ∧ n ≠ 40 ∧ n ≠ 41 ∧ n ≠ 123 ∧ n ≠ 37 ∧ n ≠ 42 ∧ n ≠ 34 ∧ n ≠ 92 ∧ n ≠ 93) = v := ⟨_, rfl⟩
  rw [hv]
  by_cases h1 : n < 33
  · have q : (n : Int) < 33 := by omega
    obtain rfl : v = false := by rw [← hv, decide_eq_false_iff_not]; omega
    clear hv
    go_enter Tryz.func32, Tryz.ntmps32
    go_wp2_with fail
    go_ret
    exact ⟨rfl, rfl⟩
  have q : ¬ (n : Int) < 33 := by omega
  by_cases h2 : 126 < n
  · have q2 : (126 : Int) < n := by omega
    obtain rfl : v = false := by rw [← hv, decide_eq_false_iff_not]; omega
    clear hv
    go_enter Tryz.func32, Tryz.ntmps32
    go_wp2_with fail
    go_ret
    exact ⟨rfl, rfl⟩
  have q2 : ¬ (126 : Int) < n := by omega
  by_cases k40 : n = 40
  · subst k40
    obtain rfl : v = false := by rw [← hv]; rfl
    clear hv q q2
    go_enter Tryz.func32, Tryz.ntmps32
    go_wp2_with fail
    go_ret
    exact ⟨rfl, rfl⟩
  have b40 : ((n : Int) == 40) = false := by rw [beq_eq_false_iff_ne]; omega
  have d40 : ((n : Int) != 40) = true := by rw [bne_iff_ne]; omega
  by_cases k41 : n = 41
  · subst k41
    obtain rfl : v = false := by rw [← hv]; rfl
    clear hv q q2
    go_enter Tryz.func32, Tryz.ntmps32
    go_wp2_with fail
    go_ret
    exact ⟨rfl, rfl⟩
  have b41 : ((n : Int) == 41) = false := by rw [beq_eq_false_iff_ne]; omega
  have d41 : ((n : Int) != 41) = true := by rw [bne_iff_ne]; omega
  by_cases k123 : n = 123
  · subst k123
    obtain rfl : v = false := by rw [← hv]; rfl
    clear hv q q2
    go_enter Tryz.func32, Tryz.ntmps32
    go_wp2_with fail
    go_ret
    exact ⟨rfl, rfl⟩
  have b123 : ((n : Int) == 123) = false := by rw [beq_eq_false_iff_ne]; omega
  have d123 : ((n : Int) != 123) = true := by rw [bne_iff_ne]; omega
  by_cases k37 : n = 37
  · subst k37
    obtain rfl : v = false := by rw [← hv]; rfl
    clear hv q q2
    go_enter Tryz.func32, Tryz.ntmps32
    go_wp2_with fail
    go_ret
    exact ⟨rfl, rfl⟩
  have b37 : ((n : Int) == 37) = false := by rw [beq_eq_false_iff_ne]; omega
  have d37 : ((n : Int) != 37) = true := by rw [bne_iff_ne]; omega
  by_cases k42 : n = 42
  · subst k42
    obtain rfl : v = false := by rw [← hv]; rfl
    clear hv q q2
    go_enter Tryz.func32, Tryz.ntmps32
    go_wp2_with fail
    go_ret
    exact ⟨rfl, rfl⟩
  have b42 : ((n : Int) == 42) = false := by rw [beq_eq_false_iff_ne]; omega
  have d42 : ((n : Int) != 42) = true := by rw [bne_iff_ne]; omega
  by_cases k34 : n = 34
  · subst k34
    obtain rfl : v = false := by rw [← hv]; rfl
    clear hv q q2
    go_enter Tryz.func32, Tryz.ntmps32
    go_wp2_with fail
    go_ret
    exact ⟨rfl, rfl⟩
  have b34 : ((n : Int) == 34) = false := by rw [beq_eq_false_iff_ne]; omega
  have d34 : ((n : Int) != 34) = true := by rw [bne_iff_ne]; omega
  by_cases k92 : n = 92
  · subst k92
    obtain rfl : v = false := by rw [← hv]; rfl
    clear hv q q2
    go_enter Tryz.func32, Tryz.ntmps32
    go_wp2_with fail
    go_ret
    exact ⟨rfl, rfl⟩
  have b92 : ((n : Int) == 92) = false := by rw [beq_eq_false_iff_ne]; omega
  have d92 : ((n : Int) != 92) = true := by rw [bne_iff_ne]; omega
  by_cases k93 : n = 93
  · subst k93
    obtain rfl : v = false := by rw [← hv]; rfl
    clear hv q q2
    go_enter Tryz.func32, Tryz.ntmps32
    go_wp2_with fail
    go_ret
    exact ⟨rfl, rfl⟩
  have b93 : ((n : Int) == 93) = false := by rw [beq_eq_false_iff_ne]; omega
  have d93 : ((n : Int) != 93) = true := by rw [bne_iff_ne]; omega
  obtain rfl : v = true := by rw [← hv, decide_eq_true_iff]; omega
  clear hv
  go_enter Tryz.func32, Tryz.ntmps32
  go_wp2_with fail
  go_ret
  exact ⟨by simp [b93, d93], rfl⟩

set_option maxRecDepth 100000 in
set_option maxHeartbeats 1000000 in
theorem rtrow0_c (l : List UInt8) (hl : l.length ≤ 100000) (W : World) : Calls Tryz.prog 19 #[.string (txt l), .int .i64 0] W fun e w' => e = .returned (.int .i64 (l.takeWhile atomB).length) ∧ w' = W := by
  have e1 := txt_size l
  obtain ⟨N, hN⟩ : ∃ N, l.length = N := ⟨_, rfl⟩
  obtain ⟨B, hB⟩ : ∃ B, txt l = B := ⟨_, rfl⟩
  have hat : ∀ k (hk : k < B.size), l[k]? = some B[k] := fun k hk => by
    subst hB
    rw [at_txt (by rw [txt_size] at hk; exact hk)]; exact List.getElem?_eq_getElem _
  rw [hB] at e1 ⊢
  rw [hN] at e1 hl
  have HAT := Lib.hid hat
  have HN := Lib.hid hN
  clear hB hN hat
  go_enter Tryz.func19, Tryz.ntmps19
  go_wp2_with fail
  go_loop [5] (fun i => ∃ k : Nat, k ≤ N ∧ i = .int .i64 k ∧ Hid (k ≤ (l.takeWhile atomB).length)) (fun i => N - (intOf i).toNat)
  case atStart => exact ⟨0, Nat.zero_le _, rfl, Nat.zero_le _⟩
  case round =>
    obtain ⟨k, hk, rfl, HK⟩ := hrel
    by_cases hlt : k < N
    · have hq : (k : Int) < N := by omega
      have hq0 : (0 : Int) ≤ k := by omega
      have hkB : k < B.size := by omega
      have hc1 : B[k].toNat < 256 := B[k].toNat_lt
      have hstep := tw_step HK.out (by rw [HN.out]; exact hlt)
      obtain ⟨_, hbk⟩ := List.getElem?_eq_some_iff.1 (HAT.out k hkB)
      rw [hbk] at hstep
      have C := rtAtomic_c (B[k].toNat) B[k] rfl W
      obtain ⟨b, hbb⟩ : ∃ b, atomB B[k] = b := ⟨_, rfl⟩
      rw [hbb] at C hstep
      have C := Lib.hid C
      have HS := Lib.hid hstep
      clear hstep hbb hbk
      cases b with
      | true =>
        have HK2 : Hid (k + 1 ≤ (l.takeWhile atomB).length) := HS.out.1 rfl
        go_wp2_with fail
        refine C.out.mono ?_
        rintro e w' ⟨rfl, rfl⟩
        go_wp2_with fail
        go_round
        case rel => exact ⟨k + 1, by omega, by go_num, HK2.out⟩
        case measure => simp [intOf]; omega
      | false =>
        have HZ : Hid (k = (l.takeWhile atomB).length) := HS.out.2 rfl
        go_wp2_with fail
        refine C.out.mono ?_
        rintro e w' ⟨rfl, rfl⟩
        go_wp2_with fail
        go_ret
        exact ⟨by rw [← HZ.out]; rfl, rfl⟩
    · obtain rfl : k = N := by omega
      have hq : ¬ (k : Int) < k := by omega
      have HZ : Hid (k = (l.takeWhile atomB).length) := tw_end HK.out (by rw [HN.out]; omega)
      go_wp2_with fail
      go_ret
      exact ⟨by rw [← HZ.out]; rfl, rfl⟩
def u64V9 : Value → Nat
  | .int _ n => n.toNat
  | _ => 0
theorem digit_slice {d : Nat} (h : d < 10) : (⟨#[48, 49, 50, 51, 52, 53, 54, 55, 56, 57]⟩ : ByteArray).extract d (d + 1) = txt [UInt8.ofNat (48 + d)] := by
  have : ∀ d < 10, ((⟨#[48, 49, 50, 51, 52, 53, 54, 55, 56, 57]⟩ : ByteArray).extract d (d + 1)).data.toList = [UInt8.ofNat (48 + d)] := by decide +kernel
  have h2 := this d h
  rw [← txt_data (ByteArray.extract _ _ _), h2]

set_option maxRecDepth 100000 in
set_option maxHeartbeats 1000000 in
theorem rnum_c (n : Nat) (hn : n ≤ 4294967295) (w : World) : Calls Tryz.prog 20 #[.int .u64 n] w fun e w' => e = .returned (.string (txt (Lib.decDigits n))) ∧ Below w.heap.size w w' := by
  go_enter Tryz.func20, Tryz.ntmps20
  go_wp2_with fail
  go_loopw [0, 3] (fun t0 t3 wr => ∃ (m : Nat) (S : ByteArray), t0 = .int .u64 m ∧ t3 = .string S ∧ m ≤ 4294967295 ∧ Hid (Lib.decDigits n = Lib.decDigits m ++ S.data.toList) ∧ S.size ≤ 1000 ∧ Hid (Below w.heap.size w wr)) (fun t0 _ _ => u64V9 t0)
  case atStart => exact ⟨n, _, rfl, rfl, hn, (List.append_nil _).symm, by show (0 : Nat) ≤ _; omega, Below.refl _ _⟩
  case round =>
    obtain ⟨m, S, rfl, rfl, hm, HD, hS, HB⟩ := hrel
    by_cases h9 : m < 10
    · have q9 : ¬ (9 : Int) < m := by omega
      go_wp2_with fail
      go_ret
      refine ⟨ret_s ?_, HB.out⟩
      have h1 := HD.out
      rw [dec_small9 h9] at h1
      rw [digit_slice h9, h1]
      conv => lhs; rw [← txt_data S]
      exact txt_append _ _
    · have q9 : (9 : Int) < m := by omega
      go_wp2_with fail
      go_roundw
      case rel =>
        have hd : m % 10 < 10 := Nat.mod_lt _ (by omega)
        have hS' : ((⟨#[48, 49, 50, 51, 52, 53, 54, 55, 56, 57]⟩ : ByteArray).extract (m % 10) (m % 10 + 1) ++ S).data.toList = UInt8.ofNat (48 + m % 10) :: S.data.toList := by rw [digit_slice hd]; simp [txt]
        have h1 := HD.out
        rw [dec_big9 h9, List.append_assoc] at h1
        have h2 : Lib.decDigits n = Lib.decDigits (m / 10) ++ ((⟨#[48, 49, 50, 51, 52, 53, 54, 55, 56, 57]⟩ : ByteArray).extract (m % 10) (m % 10 + 1) ++ S).data.toList := by rw [hS', h1]; rfl
        have h3 : (Lib.decDigits n).length ≤ 10 := dec_len9 9 n (by omega)
        refine ⟨m / 10, _, by go_num, rfl, by omega, h2, ?_, HB.out⟩
        have h4 := congrArg List.length h2
        rw [List.length_append, ba_len] at h4
        omega
      case measure => show ((m : Int) / 10).toNat < ((m : Int)).toNat; omega
end Go.Proofs.YtiiijmplcagaiaaGreatDoor

/-
  The program's reader: all bytes that are so; atoms, numbers: contracts.
-/
import Derived.Test.YtkmhdaalabhcbaaDoorTk4
set_option linter.unusedVariables false
set_option linter.unusedSimpArgs false
namespace Go.Proofs.YtkmhdaalabhcbaaDoor
open Go Go.RowKit
variable {W : World} {g : Nat} {s : RS}

theorem isdig (x : UInt8) (n : Nat) (hx : x.toNat = n) : digB x = (decide (48 ≤ n) && decide (n ≤ 57)) := by subst hx; rfl
set_option maxRecDepth 20000 in
theorem num1_c (n : Nat) (x : UInt8) (hx : x.toNat = n) (w : World) : Calls Tryd.prog 33 #[.int .u8 n] w fun e w' => e = .returned (.bool (digB x)) ∧ w' = w := by
  rw [isdig x n hx]
  have hn : n < 256 := by rw [← hx]; exact x.toNat_lt
  clear hx
  by_cases h1 : 48 ≤ n
  · have q1 : (48 : Int) ≤ n := by omega
    by_cases h2 : n ≤ 57
    · have q2 : (n : Int) ≤ 57 := by omega
      have e : (decide (48 ≤ n) && decide (n ≤ 57)) = true := by simp [h1, h2]
      rw [e]; clear e h1 h2
      go_enter Tryd.func33, Tryd.ntmps33
      go_wp2_with fail
      go_ret
      exact ⟨rfl, rfl⟩
    · have q2 : ¬ (n : Int) ≤ 57 := by omega
      have e : (decide (48 ≤ n) && decide (n ≤ 57)) = false := by simp [h1, h2]
      rw [e]; clear e h1 h2
      go_enter Tryd.func33, Tryd.ntmps33
      go_wp2_with fail
      go_ret
      exact ⟨rfl, rfl⟩
  · have q1 : ¬ (48 : Int) ≤ n := by omega
    have e : (decide (48 ≤ n) && decide (n ≤ 57)) = false := by simp [h1]
    rw [e]; clear e h1
    go_enter Tryd.func33, Tryd.ntmps33
    go_wp2_with fail
    go_ret
    exact ⟨rfl, rfl⟩

def offL : List UInt8 := [40, 41, 123, 37, 42, 34, 92, 93]
theorem off_idx : ∀ n < 256, decide (Lib.indexByte offL (UInt8.ofNat n) < 0) = !offL.contains (UInt8.ofNat n) := by decide +kernel
theorem off_bd : ∀ n < 256, -1 ≤ Lib.indexByte offL (UInt8.ofNat n) ∧ Lib.indexByte offL (UInt8.ofNat n) ≤ 8 := by decide +kernel
set_option maxRecDepth 100000 in
set_option maxHeartbeats 1000000 in
theorem tkWhileN_c  (p : UInt8 → Bool) (hF : ∀ (n : Nat) (x : UInt8), x.toNat = n → Calls Tryd.prog 33 #[.int .u8 n] W fun e w' => e = .returned (.bool (p x)) ∧ w' = W) (h : PR W g s) (hok : s.Ok) (hl : s.l.length ≤ 100000) :
    Calls Tryd.prog 32 #[pt g, .func (.func 33) #[] #[]] W (Does W g (.string (txt (s.l.takeWhile p))) (skipS p s)) := by
  obtain ⟨c0, c1, hb, f0, f1⟩ := h.facts
  have H := Lib.hid h
  have HF := Lib.hid hF
  have HOK := Lib.hid hok
  obtain ⟨l, f⟩ := s
  dsimp only at c0 c1 hl
  have e1 := txt_size l
  obtain ⟨N, hN⟩ : ∃ N, l.length = N := ⟨_, rfl⟩
  have hex : ∀ k, (txt l).extract 0 k = txt (l.take k) := fun k => ext_take l
  have hed : ∀ k, (txt l).extract k N = txt (l.drop k) := fun k => ext_drop l hN.symm
  obtain ⟨B, hB⟩ : ∃ B, txt l = B := ⟨_, rfl⟩
  rw [hB] at c0 e1
  simp only [hB] at hex hed
  have hat : ∀ k (hk : k < B.size), l[k]? = some B[k] := fun k hk => by
    subst hB
    rw [at_txt (by rw [txt_size] at hk; exact hk)]; exact List.getElem?_eq_getElem _
  rw [hN] at e1
  have HAT := Lib.hid hat
  have HEX := Lib.hid hex
  have HED := Lib.hid hed
  have HN := Lib.hid hN
  have hN9 : N ≤ 100000 := by omega
  clear h hF hok hB hN hat hex hed hl
  go_enter Tryd.func32, Tryd.ntmps32
  go_wp2_with fail
  go_loop [6] (fun i => ∃ k : Nat, k ≤ N ∧ i = .int .i64 k ∧ Hid (k ≤ (l.takeWhile p).length)) (fun i => N - (intOf i).toNat)
  case atStart => exact ⟨0, Nat.zero_le _, rfl, Nat.zero_le _⟩
  case round =>
    obtain ⟨k, hk, rfl, HK⟩ := hrel
    have fin : k = (l.takeWhile p).length → Hid (B.extract 0 k = txt (l.takeWhile p) ∧ B.extract k N = txt (l.dropWhile p)) := fun hkk => by
      obtain ⟨t1, t2⟩ := tw_take (p := p) l
      rw [← hkk] at t1 t2
      exact ⟨by rw [HEX.out, t1], by rw [HED.out, t2]⟩
    have FIN := Lib.hid fin
    clear fin
    by_cases hlt : k < N
    · have hq : (k : Int) < N := by omega
      have hq0 : (0 : Int) ≤ k := by omega
      have hkB : k < B.size := by omega
      have hc1 : B[k].toNat < 256 := B[k].toNat_lt
      have hstep := tw_step HK.out (by rw [HN.out]; exact hlt)
      have C := HF.out (B[k].toNat) B[k] rfl
      obtain ⟨_, hbk⟩ := List.getElem?_eq_some_iff.1 (HAT.out k hkB)
      rw [hbk] at hstep
      obtain ⟨b, hbb⟩ : ∃ b, p B[k] = b := ⟨_, rfl⟩
      rw [hbb] at C hstep
      have C := Lib.hid C
      have HS := Lib.hid hstep
      clear hstep hbb hbk
      cases b with
      | true =>
        have HK2 : Hid (k + 1 ≤ (l.takeWhile p).length) := HS.out.1 rfl
        go_wp2_with fail
        refine C.out.mono ?_
        rintro e w' ⟨rfl, rfl⟩
        go_wp2_with fail
        go_round
        case rel => exact ⟨k + 1, by omega, by go_num, HK2.out⟩
        case measure => simp [intOf]; omega
      | false =>
        have HZ := FIN.out (HS.out.2 rfl)
        cases f with
        | true => 
          have hl0 : l = [] := HOK.out rfl
          exfalso
          have := HN.out
          rw [hl0] at this
          simp at this; omega
        | false =>
          go_wp2_with fail
          refine C.out.mono ?_
          rintro e w' ⟨rfl, rfl⟩
          go_wp2_with fail
          go_ret
          refine ⟨ret_s HZ.out.1, ?_, Tk.set _ _ _⟩
          rw [HZ.out.2]
          exact H.out.set0 _
    · obtain rfl : k = N := by omega
      have hq : ¬ (k : Int) < k := by omega
      have HZ := FIN.out (tw_end HK.out (by rw [HN.out]; omega))
      cases f with
      | true =>
        have HL0 : Hid (l = []) := HOK.out rfl
        go_wp2_with fail
        go_ret
        refine ⟨ret_s (by rw [HL0.out]; rfl), ?_, Tk.refl _ _⟩
        unfold skipS
        have h9 := H.out
        rw [HL0.out] at h9 ⊢
        exact h9
      | false =>
        go_wp2_with fail
        go_ret
        refine ⟨ret_s HZ.out.1, ?_, Tk.set _ _ _⟩
        have h3 := H.out.set0 (l.dropWhile p)
        rw [← HZ.out.2] at h3
        unfold skipS; simpa using h3

end Go.Proofs.YtkmhdaalabhcbaaDoor

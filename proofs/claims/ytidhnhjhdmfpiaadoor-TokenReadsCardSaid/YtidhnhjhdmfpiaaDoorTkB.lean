/-
  The document's reader: what is left, to give up, rows of bytes, numbers: contracts.
-/
import Derived.Test.YtidhnhjhdmfpiaaDoorTkA
import Derived.Deep.QuietTactic
import Derived.BigQuiet
set_option linter.unusedVariables false
set_option linter.unusedSimpArgs false
namespace Go.Proofs.YtidhnhjhdmfpiaaDoor
open Go Go.RowKit
variable {W : World} {g : Nat} {s : RS} {S : List UInt8}

def DR (W : World) (g : Nat) (S : List UInt8) (a : Nat) (f : Bool) : Prop := Cells W g 27 #[.string (txt S), .int .i64 a, .bool f]
def dS (S : List UInt8) (a : Nat) (f : Bool) : RS := if f then .gone else ⟨S.drop a, false⟩
/-- A reader of the document. -/
def DRS (W : World) (g : Nat) (S : List UInt8) (s : RS) : Prop := ∃ a f, DR W g S a f ∧ a ≤ S.length ∧ dS S a f = s
theorem DR.facts {a : Nat} {f : Bool} (h : DR W g S a f) : W.cell? ⟨g, 0, none⟩ = some (.string (txt S)) ∧ W.cell? ⟨g, 1, none⟩ = some (.int .i64 a) ∧ W.cell? ⟨g, 2, none⟩ = some (.bool f) ∧ g < W.heap.size ∧ W.frozen? ⟨g, 1, none⟩ = false ∧ W.frozen? ⟨g, 2, none⟩ = false :=
  ⟨Cells.cell h rfl, Cells.cell h rfl, Cells.cell h rfl, Cells.lt h, Cells.frozen h 1, Cells.frozen h 2⟩
theorem DR.set1 {a : Nat} {f : Bool} (h : DR W g S a f) (b : Int) (c : Nat) (hb : b = c) : DR (W.setCell ⟨g, 1, none⟩ (.int .i64 b)) g S c f := by subst hb; exact Cells.set h 1 _
theorem DR.set2 {a : Nat} {f : Bool} (h : DR W g S a f) (b : Bool) : DR (W.setCell ⟨g, 2, none⟩ (.bool b)) g S a b := Cells.set h 2 _
theorem DRS.tk {W' : World} {k : Nat} (h : DRS W g S s) (ht : Tk k W W') (hne : g ≠ k) : DRS W' g S s := by
  obtain ⟨a, f, h1, h2⟩ := h
  exact ⟨a, f, Cells.later h1 (ht.blk g (Cells.lt h1) hne), h2⟩
theorem DRS.lt (h : DRS W g S s) : g < W.heap.size := by obtain ⟨a, f, h1, _⟩ := h; exact Cells.lt h1
theorem DRS.ok (h : DRS W g S s) : s.Ok := by
  obtain ⟨a, f, _, _, rfl⟩ := h
  unfold dS
  split
  · exact gone_ok
  · intro hf; cases hf
theorem DRS.le (h : DRS W g S s) : s.l.length ≤ S.length := by
  obtain ⟨a, f, _, _, rfl⟩ := h
  unfold dS
  split
  · exact Nat.zero_le _
  · simp
def DoesD (W : World) (g : Nat) (S : List UInt8) (v : Value) (s' : RS) (e : Ending) (w' : World) : Prop := e = .returned v ∧ DRS w' g S s' ∧ Tk g W w'

set_option maxRecDepth 20000 in
theorem rtRest_c (h : DRS W g S s) : Calls Tryd.prog 8 #[pt g] W fun e w' => e = .returned (.string (txt s.l)) ∧ ∃ n, w' = W.drewN n := by
  obtain ⟨a, f, h1, h2, rfl⟩ := h
  obtain ⟨c0, c1, c2, hb, f1, f2⟩ := h1.facts
  clear h1
  cases f with
  | true =>
    obtain ⟨B, hB⟩ : ∃ B, txt S = B := ⟨_, rfl⟩
    rw [hB] at c0
    clear hB
    go_enter Tryd.func8, Tryd.ntmps8
    go_wp2_with fail
    go_ret
    exact ⟨rfl, 0, rfl⟩
  | false =>
    have e1 := txt_size S
    have hed : (txt S).extract a S.length = txt (S.drop a) := ext_drop S rfl
    obtain ⟨N, hN⟩ : ∃ N, S.length = N := ⟨_, rfl⟩
    rw [hN] at e1 hed h2
    have hq : (a : Int) ≤ N := by omega
    unfold dS
    rw [if_neg (by decide)]
    dsimp only
    rw [← hed]
    obtain ⟨B, hB⟩ : ∃ B, txt S = B := ⟨_, rfl⟩
    rw [hB] at c0 e1 ⊢
    clear hB hN hed
    go_enter Tryd.func8, Tryd.ntmps8
    go_wp2_with fail
    go_quiet (fail)
    go_wp2_with fail
    go_ret
    exact ⟨rfl, nq, rfl⟩
theorem rtFail_c (h : DRS W g S s) : Calls Tryd.prog 29 #[pt g] W (DoesD W g S (.tuple #[]) .gone) := by
  obtain ⟨a, f, h1, h2, rfl⟩ := h
  obtain ⟨c0, c1, c2, hb, f1, f2⟩ := h1.facts
  have H := Lib.hid h1
  clear h1
  go_enter Tryd.func29, Tryd.ntmps29
  go_wp2_with fail
  go_end0
  exact ⟨rfl, ⟨a, true, H.out.set2 true, h2, rfl⟩, Tk.set _ _ _⟩

theorem atomic_eq : ∀ n < 256, (decide (32 < n) && (decide (n ≤ 126) && !offL.contains (UInt8.ofNat n))) = decide (33 ≤ n ∧ n ≤ 126 ∧ n ≠ 40 ∧ n ≠ 41 ∧ n ≠ 123 ∧ n ≠ 37 ∧ n ≠ 42 ∧ n ≠ 34 ∧ n ≠ 92 ∧ n ≠ 93) := by decide +kernel
set_option maxRecDepth 20000 in
set_option maxHeartbeats 1000000 in
theorem rtAtomic_c (n : Nat) (x : UInt8) (hx : x.toNat = n) (w : World) : Calls Tryd.prog 43 #[.int .u8 n] w fun e w' => e = .returned (.bool (atomB x)) ∧ w' = w := by
  have hn : n < 256 := by rw [← hx]; exact x.toNat_lt
  have hxn : x = UInt8.ofNat n := by rw [← hx]; exact UInt8.toNat_inj.1 (by rw [UInt8.toNat_ofNat']; have := x.toNat_lt; omega)
  have hA : atomB x = (decide (32 < n) && (decide (n ≤ 126) && !offL.contains (UInt8.ofNat n))) := by
    unfold atomB; rw [hx, hxn]; rfl
  rw [hA, atomic_eq n hn]
  clear hA hxn hx
  obtain ⟨v, hv⟩ : ∃ v, decide (33 ≤ n ∧ n ≤ 126 ∧ n ≠ 40 ∧ n ≠ 41 ∧ n ≠ 123 ∧ n ≠ 37 ∧ n ≠ 42 ∧ n ≠ 34 ∧ n ≠ 92 ∧ n ≠ 93) = v := ⟨_, rfl⟩
  rw [hv]
  by_cases h1 : n < 33
  · have q : (n : Int) < 33 := by omega
    obtain rfl : v = false := by rw [← hv, decide_eq_false_iff_not]; omega
    clear hv
    go_enter Tryd.func43, Tryd.ntmps43
    go_wp2_with fail
    go_ret
    exact ⟨rfl, rfl⟩
  have q : ¬ (n : Int) < 33 := by omega
  by_cases h2 : 126 < n
  · have q2 : (126 : Int) < n := by omega
    obtain rfl : v = false := by rw [← hv, decide_eq_false_iff_not]; omega
    clear hv
    go_enter Tryd.func43, Tryd.ntmps43
    go_wp2_with fail
    go_ret
    exact ⟨rfl, rfl⟩
  have q2 : ¬ (126 : Int) < n := by omega
  by_cases k40 : n = 40
  · subst k40
    obtain rfl : v = false := by rw [← hv]; rfl
    clear hv q q2
    go_enter Tryd.func43, Tryd.ntmps43
    go_wp2_with fail
    go_ret
    exact ⟨rfl, rfl⟩
  have b40 : ((n : Int) == 40) = false := by rw [beq_eq_false_iff_ne]; omega
  have d40 : ((n : Int) != 40) = true := by rw [bne_iff_ne]; omega
  by_cases k41 : n = 41
  · subst k41
    obtain rfl : v = false := by rw [← hv]; rfl
    clear hv q q2
    go_enter Tryd.func43, Tryd.ntmps43
    go_wp2_with fail
    go_ret
    exact ⟨rfl, rfl⟩
  have b41 : ((n : Int) == 41) = false := by rw [beq_eq_false_iff_ne]; omega
  have d41 : ((n : Int) != 41) = true := by rw [bne_iff_ne]; omega
  by_cases k123 : n = 123
  · subst k123
    obtain rfl : v = false := by rw [← hv]; rfl
    clear hv q q2
    go_enter Tryd.func43, Tryd.ntmps43
    go_wp2_with fail
    go_ret
    exact ⟨rfl, rfl⟩
  have b123 : ((n : Int) == 123) = false := by rw [beq_eq_false_iff_ne]; omega
  have d123 : ((n : Int) != 123) = true := by rw [bne_iff_ne]; omega
  by_cases k37 : n = 37
  · subst k37
    obtain rfl : v = false := by rw [← hv]; rfl
    clear hv q q2
    go_enter Tryd.func43, Tryd.ntmps43
    go_wp2_with fail
    go_ret
    exact ⟨rfl, rfl⟩
  have b37 : ((n : Int) == 37) = false := by rw [beq_eq_false_iff_ne]; omega
  have d37 : ((n : Int) != 37) = true := by rw [bne_iff_ne]; omega
  by_cases k42 : n = 42
  · subst k42
    obtain rfl : v = false := by rw [← hv]; rfl
    clear hv q q2
    go_enter Tryd.func43, Tryd.ntmps43
    go_wp2_with fail
    go_ret
    exact ⟨rfl, rfl⟩
  have b42 : ((n : Int) == 42) = false := by rw [beq_eq_false_iff_ne]; omega
  have d42 : ((n : Int) != 42) = true := by rw [bne_iff_ne]; omega
  by_cases k34 : n = 34
  · subst k34
    obtain rfl : v = false := by rw [← hv]; rfl
    clear hv q q2
    go_enter Tryd.func43, Tryd.ntmps43
    go_wp2_with fail
    go_ret
    exact ⟨rfl, rfl⟩
  have b34 : ((n : Int) == 34) = false := by rw [beq_eq_false_iff_ne]; omega
  have d34 : ((n : Int) != 34) = true := by rw [bne_iff_ne]; omega
  by_cases k92 : n = 92
  · subst k92
    obtain rfl : v = false := by rw [← hv]; rfl
    clear hv q q2
    go_enter Tryd.func43, Tryd.ntmps43
    go_wp2_with fail
    go_ret
    exact ⟨rfl, rfl⟩
  have b92 : ((n : Int) == 92) = false := by rw [beq_eq_false_iff_ne]; omega
  have d92 : ((n : Int) != 92) = true := by rw [bne_iff_ne]; omega
  by_cases k93 : n = 93
  · subst k93
    obtain rfl : v = false := by rw [← hv]; rfl
    clear hv q q2
    go_enter Tryd.func43, Tryd.ntmps43
    go_wp2_with fail
    go_ret
    exact ⟨rfl, rfl⟩
  have b93 : ((n : Int) == 93) = false := by rw [beq_eq_false_iff_ne]; omega
  have d93 : ((n : Int) != 93) = true := by rw [bne_iff_ne]; omega
  obtain rfl : v = true := by rw [← hv, decide_eq_true_iff]; omega
  clear hv
  go_enter Tryd.func43, Tryd.ntmps43
  go_wp2_with fail
  go_ret
  exact ⟨by simp [b93, d93], rfl⟩

set_option maxRecDepth 100000 in
set_option maxHeartbeats 1000000 in
theorem rtrow0_c (l : List UInt8) (hl : l.length ≤ 100000) (W : World) : Calls Tryd.prog 37 #[.string (txt l), .int .i64 0] W fun e w' => e = .returned (.int .i64 (l.takeWhile atomB).length) ∧ w' = W := by
  have e1 := txt_size l
  obtain ⟨N, hN⟩ : ∃ N, l.length = N := ⟨_, rfl⟩
  obtain ⟨B, hB⟩ : ∃ B, txt l = B := ⟨_, rfl⟩
  have hat : ∀ k (hk : k < B.size), l[k]? = some B[k] := fun k hk => by
    subst hB
    rw [at_txt (by rw [txt_size] at hk; exact hk)]; exact List.getElem?_eq_getElem _
  rw [hB] at e1 ⊢
  rw [hN] at e1 hl
  have HAT := Lib.hid hat
  have HN := Lib.hid hN
  clear hB hN hat
  go_enter Tryd.func37, Tryd.ntmps37
  go_wp2_with fail
  go_loop [5] (fun i => ∃ k : Nat, k ≤ N ∧ i = .int .i64 k ∧ Hid (k ≤ (l.takeWhile atomB).length)) (fun i => N - (intOf i).toNat)
  case atStart => exact ⟨0, Nat.zero_le _, rfl, Nat.zero_le _⟩
  case round =>
    obtain ⟨k, hk, rfl, HK⟩ := hrel
    by_cases hlt : k < N
    · have hq : (k : Int) < N := by omega
      have hq0 : (0 : Int) ≤ k := by omega
      have hkB : k < B.size := by omega
      have hc1 : B[k].toNat < 256 := B[k].toNat_lt
      have hstep := tw_step HK.out (by rw [HN.out]; exact hlt)
      obtain ⟨_, hbk⟩ := List.getElem?_eq_some_iff.1 (HAT.out k hkB)
      rw [hbk] at hstep
      have C := rtAtomic_c (B[k].toNat) B[k] rfl W
      obtain ⟨b, hbb⟩ : ∃ b, atomB B[k] = b := ⟨_, rfl⟩
      rw [hbb] at C hstep
      have C := Lib.hid C
      have HS := Lib.hid hstep
      clear hstep hbb hbk
      cases b with
      | true =>
        have HK2 : Hid (k + 1 ≤ (l.takeWhile atomB).length) := HS.out.1 rfl
        go_wp2_with fail
        refine C.out.mono ?_
        rintro e w' ⟨rfl, rfl⟩
        go_wp2_with fail
        go_round
        case rel => exact ⟨k + 1, by omega, by go_num, HK2.out⟩
        case measure => simp [intOf]; omega
      | false =>
        have HZ : Hid (k = (l.takeWhile atomB).length) := HS.out.2 rfl
        go_wp2_with fail
        refine C.out.mono ?_
        rintro e w' ⟨rfl, rfl⟩
        go_wp2_with fail
        go_ret
        exact ⟨by rw [← HZ.out]; rfl, rfl⟩
    · obtain rfl : k = N := by omega
      have hq : ¬ (k : Int) < k := by omega
      have HZ : Hid (k = (l.takeWhile atomB).length) := tw_end HK.out (by rw [HN.out]; omega)
      go_wp2_with fail
      go_ret
      exact ⟨by rw [← HZ.out]; rfl, rfl⟩

set_option maxRecDepth 100000 in
set_option maxHeartbeats 1000000 in
theorem rtrow1_c (l : List UInt8) (hl : l.length ≤ 100000) (W : World) : Calls Tryd.prog 37 #[.string (txt l), .int .i64 1] W fun e w' => e = .returned (.int .i64 (l.takeWhile digB).length) ∧ w' = W := by
  have e1 := txt_size l
  obtain ⟨N, hN⟩ : ∃ N, l.length = N := ⟨_, rfl⟩
  obtain ⟨B, hB⟩ : ∃ B, txt l = B := ⟨_, rfl⟩
  have hat : ∀ k (hk : k < B.size), l[k]? = some B[k] := fun k hk => by
    subst hB
    rw [at_txt (by rw [txt_size] at hk; exact hk)]; exact List.getElem?_eq_getElem _
  rw [hB] at e1 ⊢
  rw [hN] at e1 hl
  have HAT := Lib.hid hat
  have HN := Lib.hid hN
  clear hB hN hat
  go_enter Tryd.func37, Tryd.ntmps37
  go_wp2_with fail
  go_loop [5] (fun i => ∃ k : Nat, k ≤ N ∧ i = .int .i64 k ∧ Hid (k ≤ (l.takeWhile digB).length)) (fun i => N - (intOf i).toNat)
  case atStart => exact ⟨0, Nat.zero_le _, rfl, Nat.zero_le _⟩
  case round =>
    obtain ⟨k, hk, rfl, HK⟩ := hrel
    by_cases hlt : k < N
    · have hq : (k : Int) < N := by omega
      have hq0 : (0 : Int) ≤ k := by omega
      have hkB : k < B.size := by omega
      have hc1 : B[k].toNat < 256 := B[k].toNat_lt
      have hstep := tw_step HK.out (by rw [HN.out]; exact hlt)
      obtain ⟨_, hbk⟩ := List.getElem?_eq_some_iff.1 (HAT.out k hkB)
      rw [hbk] at hstep
      by_cases h1 : 48 ≤ B[k].toNat
      · have q1 : (48 : Int) ≤ B[k].toNat := by omega
        by_cases h2 : B[k].toNat ≤ 57
        · have q2 : (B[k].toNat : Int) ≤ 57 := by omega
          have HK2 : Hid (k + 1 ≤ (l.takeWhile digB).length) := hstep.1 (by unfold digB; simp [h1, h2])
          clear hstep hbk h1 h2
          go_wp2_with fail
          go_round
          case rel => exact ⟨k + 1, by omega, by go_num, HK2.out⟩
          case measure => simp [intOf]; omega
        · have q2 : ¬ (B[k].toNat : Int) ≤ 57 := by omega
          have HZ : Hid (k = (l.takeWhile digB).length) := hstep.2 (by unfold digB; simp [h2])
          clear hstep hbk h1 h2
          go_wp2_with fail
          go_ret
          exact ⟨by rw [← HZ.out]; rfl, rfl⟩
      · have q1 : ¬ (48 : Int) ≤ B[k].toNat := by omega
        have HZ : Hid (k = (l.takeWhile digB).length) := hstep.2 (by unfold digB; simp [h1])
        clear hstep hbk h1
        go_wp2_with fail
        go_ret
        exact ⟨by rw [← HZ.out]; rfl, rfl⟩
    · obtain rfl : k = N := by omega
      have hq : ¬ (k : Int) < k := by omega
      have HZ : Hid (k = (l.takeWhile digB).length) := tw_end HK.out (by rw [HN.out]; omega)
      go_wp2_with fail
      go_ret
      exact ⟨by rw [← HZ.out]; rfl, rfl⟩
end Go.Proofs.YtidhnhjhdmfpiaaDoor

/-
  strings.IndexRune of a row's two signs at a rune that is no sign; strings.IndexAny and ContainsAny of a text of at most 100 bytes and the two: contracts.
-/
import Derived.Test.YtiiijmplcagaiaaGreatDoorCa1
import Derived.Test.YtiiijmplcagaiaaGreatDoorShelfA
import Derived.BigQuiet
import Derived.Deep.QuietTactic
set_option linter.unusedVariables false
set_option linter.unusedSimpArgs false
namespace Go.Proofs.YtiiijmplcagaiaaGreatDoor
open Go Go.RowKit
def crlf : ByteArray := ⟨#[13, 10]⟩
theorem indexByte_nil {X : ByteArray} (h : X.size = 0) (x : UInt8) : Lib.indexByte X.data.toList x = -1 := by
  cases hl : X.data.toList with
  | nil => rfl
  | cons a t => have := Lib.size_eq X; rw [hl, List.length_cons] at this; omega
set_option maxRecDepth 20000 in
set_option maxHeartbeats 4000000 in
theorem irune_err (W : World) : Calls Tryz.prog 38 #[.string crlf, .int .i32 65533] W fun e w' => e = .returned (.int .i64 (-1)) ∧ Below W.heap.size W w' := by
  have hsz : crlf.size = 2 := rfl
  have n0 := fun ty => run_next_ascii (P := Tryz.prog) W crlf 0 ty (by decide) (by decide)
  have n1 := fun ty => run_next_ascii (P := Tryz.prog) W crlf 1 ty (by decide) (by decide)
  have n2 := fun ty => run_next_end (P := Tryz.prog) W crlf 2 ty (by decide)
  have b0 : (crlf[0]'(by decide)).toNat = 13 := rfl
  have b1 : (crlf[1]'(by decide)).toNat = 10 := rfl
  rw [b0] at n0
  rw [b1] at n1
  obtain ⟨S, hS⟩ : ∃ S, crlf = S := ⟨_, rfl⟩
  simp only [hS] at n0 n1 n2 hsz ⊢
  clear b0 b1 hS
  go_enter Tryz.func38, Tryz.ntmps38
  go_wp2_with fail
  go_loopg [5, 6] 2 (fun g _ _ wx => ∃ i : Nat, i + g = 2 ∧ wx = W.iter S i)
  case atStart => exact ⟨0, rfl, rfl⟩
  case round =>
    obtain ⟨i, hig, rfl⟩ := hrel
    cases gk with
    | zero =>
      obtain rfl : i = 2 := by omega
      go_wp2_with fail
      go_ret
      exact ⟨rfl, (Below.refl _ _).alloc (Nat.le_refl _) _⟩
    | succ g =>
      by_cases h : i = 0
      · subst h
        go_wp2_with fail
        go_roundg g
        case measure => omega
        case rel => exact ⟨1, by omega, rfl⟩
      · obtain rfl : i = 1 := by omega
        go_wp2_with fail
        go_roundg g
        case measure => omega
        case rel => exact ⟨2, by omega, rfl⟩
set_option maxRecDepth 20000 in
set_option maxHeartbeats 4000000 in
theorem irune_far {c : Nat} (h1 : 128 ≤ c) (h2 : c ≤ 1114111) (h3 : c < 55296 ∨ 57344 ≤ c) (h4 : c ≠ 65533) (W : World) : Calls Tryz.prog 38 #[.string crlf, .int .i32 c] W fun e w' => e = .returned (.int .i64 (-1)) ∧ Below W.heap.size W w' := by
  obtain ⟨n, hn, hn2, hn4, hlast⟩ := encode_great c h1 h2 h3
  have hv : Lib.validRune (c : Int) = true := by
    simp only [Lib.validRune, decide_eq_true_eq]; omega
  have CV := Tryz.utf8_ValidRune (c : Int) W
  rw [hv] at CV
  have CV := Lib.hid CV
  have CI : Hid (∀ (X : ByteArray) (x : Int) (w : World), X.size = 0 → Calls Tryz.prog 37 #[.string X, .int .u8 x] w fun e w' => e = .returned (.int .i64 (-1)) ∧ w' = w) := fun X x w hX => by
    have := Tryz.strings_IndexByte X x w
    rw [indexByte_nil hX] at this
    exact this
  have q1 : (0 : Int) ≤ c := by omega
  have q2 : ¬ (c : Int) < 128 := by omega
  have q3 : ((c : Int) == 65533) = false := by rw [beq_eq_false_iff_ne]; omega
  obtain ⟨E, hE⟩ : ∃ E, Utf8.encode (c : Int) = E := ⟨_, rfl⟩
  rw [hE] at hn
  simp only [hE] at hlast
  clear hv h3
  by_cases h2' : n = 2
  · subst h2'
    have hk : 1 < E.size := by omega
    have hz := hlast hk
    obtain ⟨z, hz0⟩ : ∃ z, E[1]'hk = z := ⟨_, rfl⟩
    have hz1 : (E[2 - 1]'hk) = z := hz0
    rw [hz1] at hz
    have hne : ((10 : Int) != (z.toNat : Int)) = true := by rw [bne_iff_ne]; omega
    have hne2 : ((10 : Int) == (z.toNat : Int)) = false := by rw [beq_eq_false_iff_ne]; omega
    clear hlast hz1
    suffices key : ∀ (S : ByteArray) (hcs : S.size = 2) (h1s : 1 < S.size) (hc1 : (S[1]'h1s).toNat = 10), Calls Tryz.prog 38 #[.string S, .int .i32 c] W fun e w' => e = .returned (.int .i64 (-1)) ∧ Below W.heap.size W w' from key crlf rfl (by decide) rfl
    intro S hcs h1s hc1
    have hw2 : IntKind.i64.wrap 2 = 2 := IntWalk.i64_in _ (by omega)
    go_enter Tryz.func38, Tryz.ntmps38
    go_wp2_with (first | (refine CV.out.mono ?_; rintro e w1 ⟨rfl, hww⟩; have hww := hww.symm; subst hww) | fail)
    go_step3
    go_wp2_with fail
    go_loopw [9, 10, 11] (fun s9 _ _ wr => s9 = .int .i64 1 ∧ wr = W) (fun _ _ _ _ => 0)
    case atStart => exact ⟨by simp, rfl⟩
    case round =>
      obtain ⟨rfl, hw⟩ := hrel
      have hw := hw.symm
      subst hw
      go_wp2_with fail
      go_step3
      go_wp2_with fail
      go_region
      go_wp2_with fail
      go_region_with (go_at_call 37; refine (CI.out _ _ _ (by simp [hw2, hcs])).mono ?_; rintro e w1 ⟨rfl, rfl⟩)
      all_goals
        simp only [Act.put, List.getElem_toArray, List.getElem_cons_succ, List.getElem_cons_zero, List.setIfInBounds_toArray, List.set_cons_zero, List.set_cons_succ]
        go_wp2_with fail
        rename_i Q1 K1 a1 Q2 K2 a2 K3 a3
        simp only [Exit.noGoto, Exit.inBlock, Q2, Exit.then]
        go_ret
        exact ⟨rfl, (Below.refl _ _).drew.drew⟩
  · have hz : ¬ ((n : Int) - 1 < 2) := by omega
    have hcs : crlf.size = 2 := rfl
    clear hlast CI
    go_enter Tryz.func38, Tryz.ntmps38
    go_wp2_with (first | (refine CV.out.mono ?_; rintro e w1 ⟨rfl, hww⟩; have hww := hww.symm; subst hww) | fail)
    go_step3
    go_wp2_with fail
    go_loopw [9, 10, 11] (fun s9 _ _ wr => s9 = .int .i64 ((n : Int) - 1) ∧ wr = W) (fun _ _ _ _ => 0)
    case atStart => exact ⟨by simp, rfl⟩
    case round =>
      obtain ⟨rfl, hw⟩ := hrel
      have hw := hw.symm
      subst hw
      iterate 19 (first | go_guarded | go_step | go_upon | go_back | go_values | go_skip | skip)
      refine wp_cond_split rfl (fun h => ?_) (fun h => ?_)
      · simp only [decide_eq_true_eq] at h
        go_big_false
      · simp only [decide_eq_false_iff_not] at h
        go_wp2_with fail
        go_ret
        exact ⟨rfl, Below.refl _ _⟩
end Go.Proofs.YtiiijmplcagaiaaGreatDoor

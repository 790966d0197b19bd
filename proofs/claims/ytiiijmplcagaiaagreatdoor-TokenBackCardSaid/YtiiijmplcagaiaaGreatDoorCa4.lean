/-
  strings.ContainsAny of a text of at most 100 bytes and a row's two signs; strconv.Itoa at a text's length: contracts.
-/
import Derived.Test.YtiiijmplcagaiaaGreatDoorCa3
import Derived.Lib.AppendIntMem
set_option linter.unusedVariables false
set_option linter.unusedSimpArgs false
namespace Go.Proofs.YtiiijmplcagaiaaGreatDoor
open Go Go.RowKit
theorem index_any_clean (l : List UInt8) : decide (0 ≤ Lib.indexAny l [13, 10]) = !cleanB l := by
  unfold cleanB
  rw [Bool.not_not]
  induction l with
  | nil => rfl
  | cons a t ih =>
    rw [List.any_cons, ← cr_contains, ← ih, Lib.indexAny]
    have hge := Lib.indexAny_ge [13, 10] t
    cases h : [13, 10].contains a with
    | true => simp
    | false =>
      rw [if_neg (by decide), Bool.false_or]
      by_cases h1 : Lib.indexAny t [13, 10] = -1
      · rw [h1]; rfl
      · have h2 : (Lib.indexAny t [13, 10] == -1) = false := by rw [beq_eq_false_iff_ne]; exact h1
        rw [h2, if_neg (by decide)]
        rw [decide_eq_true (by omega), decide_eq_true (by omega)]
theorem iany_c (l : List UInt8) (hl : l.length ≤ 100000) (W : World) :
    Calls Tryz.prog 28 #[.string (txt l), .string crlf] W fun e w' => e = .returned (.int .i64 (Lib.indexAny l [13, 10])) ∧ Below W.heap.size W w' := by
  by_cases h8 : l.length ≤ 8
  · exact iany_short l h8 W
  · have h := Tryz.strings_IndexAny_long (zero_of_info (n := 256) (by kernel_rfl)).1 (txt l) crlf W (by decide) (by rw [txt_size]; omega) (by rw [txt_size]; omega) (by decide) (fun j b hb => by
      have : crlf.data.toList = [13, 10] := rfl
      rw [this] at hb
      have hm := List.mem_of_getElem? hb
      simp at hm
      rcases hm with rfl | rfl <;> decide)
    rw [show (txt l).data.toList = l from by simp [txt], show crlf.data.toList = [13, 10] from rfl] at h
    refine h.mono fun e w' ⟨h1, h2⟩ => ⟨h1, ?_⟩
    rw [h2]
    exact ((Below.refl _ _).alloc (Nat.le_refl _) _).alloc (by simp) _
set_option maxRecDepth 100000 in
theorem cany_c (l : List UInt8) (hl : l.length ≤ 100000) : CAny l := fun w => by
  have C := Lib.hid (iany_c l hl w)
  have hcl := Lib.hid (index_any_clean l)
  show Calls Tryz.prog 15 #[.string (txt l), .string crlf] w _
  obtain ⟨v, hv⟩ : ∃ v, Lib.indexAny l [13, 10] = v := ⟨_, rfl⟩
  rw [hv] at C hcl
  clear hv
  go_enter Tryz.func15, Tryz.ntmps15
  go_wp2_with (first | (refine C.out.mono ?_; rintro e w1 ⟨rfl, hb⟩; have H1 := Lib.hid hb; clear hb) | fail)
  go_ret
  exact ⟨by rw [← hcl.out]; rfl, H1.out⟩
abbrev PowTab (W : World) : Prop := Lib.TabIs Tryz.prog W "internal/strconv.uint64pow10" .u64 Lib.pow10Tab
theorem itoa_at {W : World} (hT : PowTab W) {n : Nat} (hn : n ≤ 4294967295) : ItoaAt n W := fun w hb => by
  refine (Tryz.strconv_Itoa (n : Int) (by omega) (by omega) w (Lib.tabBelow_of_tabIs hT w hb)).mono fun e w' ⟨h1, k, os, h2⟩ => ⟨?_, ?_⟩
  · rw [h1]
    rfl
  · rw [h2]; exact Lib.below_grow _ w (Nat.le_refl _) k os
end Go.Proofs.YtiiijmplcagaiaaGreatDoor

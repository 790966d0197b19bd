/-
  strings.Cut at a blank, and at any one byte: contracts.
-/
import Derived.Test.YtmfpfebnlflfiaaDoorParse1
set_option linter.unusedVariables false
set_option linter.unusedSimpArgs false
namespace Go.Proofs.YtmfpfebnlflfiaaDoor
open Go Go.RowKit

theorem indexByte_off {l : List UInt8} {c : UInt8} (h : ∀ x ∈ l, x ≠ c) : Lib.indexByte l c = -1 := by
  induction l with
  | nil => rfl
  | cons x r ih =>
    have h1 := ih (fun y hy => h y (by simp [hy]))
    have h2 : (x == c) = false := by simpa using h x (by simp)
    unfold Lib.indexByte
    rw [h2, h1]; rfl
theorem indexByte_on {p r : List UInt8} {c : UInt8} (h : ∀ x ∈ p, x ≠ c) : Lib.indexByte (p ++ c :: r) c = p.length := by
  induction p with
  | nil => unfold Lib.indexByte; simp
  | cons x p ih =>
    have h1 := ih (fun y hy => h y (by simp [hy]))
    have h2 : (x == c) = false := by simpa using h x (by simp)
    show Lib.indexByte (x :: (p ++ c :: r)) c = _
    unfold Lib.indexByte
    rw [h2, h1]
    have : ((p.length : Int) == -1) = false := by rw [beq_eq_false_iff_ne]; omega
    rw [this]; simp
theorem at_byte (c : UInt8) (l : List UInt8) : (∀ x ∈ l, x ≠ c) ∨ ∃ p r, l = p ++ c :: r ∧ ∀ x ∈ p, x ≠ c := by
  induction l with
  | nil => exact .inl (by simp)
  | cons x l ih =>
    by_cases e : x = c
    · subst e; exact .inr ⟨[], l, rfl, by simp⟩
    · rcases ih with h | ⟨p, r, h1, h2⟩
      · exact .inl (by intro y hy; rcases List.mem_cons.1 hy with h3 | h3
                       · rw [h3]; exact e
                       · exact h y h3)
      · exact .inr ⟨x :: p, r, by rw [h1]; rfl, by intro y hy; rcases List.mem_cons.1 hy with h3 | h3
                                                   · rw [h3]; exact e
                                                   · exact h2 y h3⟩

theorem index_c (s : ByteArray) (c : UInt8) (n : Int) (hn : Lib.indexByte s.data.toList c = n) (w : World) : Calls Tryd.prog 61 #[.string s, .string ⟨#[c]⟩] w fun e w' => e = .returned (.int .i64 n) ∧ w = w' :=
  (Tryd.stringslite_Index_one s c w).mono fun _ _ ⟨h1, h2⟩ => ⟨by rw [← hn]; exact h1, h2.symm⟩

theorem extract_txt {s : ByteArray} {a b : Nat} {l : List UInt8} (h : (s.data.toList.take b).drop a = l) : s.extract a b = txt l := by
  apply ByteArray.ext
  apply Array.ext'
  subst h
  rw [Lib.extract_data]
  simp [txt, List.drop_take]

set_option maxRecDepth 100000 in
theorem cut0_none (s : ByteArray) (c : UInt8) (h : ∀ x ∈ s.data.toList, x ≠ c) (w : World) :
    Calls Tryd.prog 51 #[.string s, .string ⟨#[c]⟩] w fun e w' => e = .returned (.tuple #[.string s, .string ⟨#[]⟩, .bool false]) ∧ w = w' := by
  have HI := Lib.hid (index_c s c _ (indexByte_off h) w)
  clear h
  go_enter Tryd.func51, Tryd.ntmps51
  go_wp2_with fail
  refine HI.out.mono ?_
  rintro e w' ⟨rfl, rfl⟩
  go_wp2_with fail
  go_ret3
  exact ⟨rfl, rfl⟩

set_option maxRecDepth 100000 in
theorem cut0_some (s : ByteArray) (c : UInt8) (p r : List UInt8) (hs : s.size ≤ 9223372036854775806) (h : s.data.toList = p ++ c :: r) (hp : ∀ x ∈ p, x ≠ c) (w : World) :
    Calls Tryd.prog 51 #[.string s, .string ⟨#[c]⟩] w fun e w' => e = .returned (.tuple #[.string (txt p), .string (txt r), .bool true]) ∧ ∃ n, w' = w.drewN n := by
  have HI := Lib.hid (index_c s c (p.length : Int) (by rw [h]; exact indexByte_on hp) w)
  have hl : p.length < s.size := by rw [← ba_len, h]; simp
  have e1 : s.extract 0 p.length = txt p := extract_txt (by rw [h, List.take_left']; rfl; rfl)
  have e2 : s.extract (p.length + 1) s.size = txt r := extract_txt (by rw [← ba_len, h, List.take_of_length_le (Nat.le_refl _), List.drop_append]; simp)
  have E1 := Lib.hid e1
  have E2 := Lib.hid e2
  have hl1 : (p.length : Int) + 1 ≤ s.size := by omega
  clear h hp e1 e2
  go_enter Tryd.func51, Tryd.ntmps51
  go_wp2_with fail
  refine HI.out.mono ?_
  rintro e w' ⟨rfl, rfl⟩
  go_wp2_with fail
  go_quiet (fail)
  go_wp2_with fail
  go_ret3
  refine ⟨?_, nq, rfl⟩
  rw [← E1.out, ← E2.out]; rfl
theorem cut_none (s : ByteArray) (c : UInt8) (h : ∀ x ∈ s.data.toList, x ≠ c) (w : World) :
    Calls Tryd.prog 38 #[.string s, .string ⟨#[c]⟩] w fun e w' => e = .returned (.tuple #[.string s, .string ⟨#[]⟩, .bool false]) ∧ ∃ n, w' = w.drewN n := by
  have HI := Lib.hid (cut0_none s c h w)
  clear h
  go_enter Tryd.func38, Tryd.ntmps38
  go_wp2_with fail
  refine HI.out.mono ?_
  rintro e w' ⟨rfl, rfl⟩
  go_wp2_with fail
  go_ret3
  exact ⟨rfl, 0, rfl⟩
theorem cut_some (s : ByteArray) (c : UInt8) (p r : List UInt8) (hs : s.size ≤ 9223372036854775806) (h : s.data.toList = p ++ c :: r) (hp : ∀ x ∈ p, x ≠ c) (w : World) :
    Calls Tryd.prog 38 #[.string s, .string ⟨#[c]⟩] w fun e w' => e = .returned (.tuple #[.string (txt p), .string (txt r), .bool true]) ∧ ∃ n, w' = w.drewN n := by
  have HI := Lib.hid (cut0_some s c p r hs h hp w)
  clear h hp hs
  go_enter Tryd.func38, Tryd.ntmps38
  go_wp2_with fail
  refine HI.out.mono ?_
  rintro e w' ⟨rfl, hw⟩
  have HW := Lib.hid hw
  clear hw
  go_wp2_with fail
  go_ret3
  exact ⟨rfl, HW.out⟩
end Go.Proofs.YtmfpfebnlflfiaaDoor

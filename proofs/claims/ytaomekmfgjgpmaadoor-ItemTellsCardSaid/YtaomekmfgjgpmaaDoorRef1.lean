/-
  The document's answers of layer 1: a set's text, a set changed: contracts.
-/
import Derived.Test.YtaomekmfgjgpmaaDoorIter
import Derived.Test.YtaomekmfgjgpmaaDoorLeaf1
import Derived.LoopTactic
import Derived.Deep.LoopGhost
set_option linter.unusedVariables false
set_option linter.unusedSimpArgs false
namespace Go.Proofs.YtaomekmfgjgpmaaDoor
open Go Go.RowKit

/-- A text. -/
def txt (l : List UInt8) : ByteArray := ⟨l.toArray⟩
theorem txt_append (a b : List UInt8) : txt a ++ txt b = txt (a ++ b) := by
  apply ByteArray.ext; simp [txt]
theorem txt_data (s : ByteArray) : txt s.data.toList = s := by cases s; simp [txt]
theorem txt_size (l : List UInt8) : (txt l).size = l.length := by simp [txt, ByteArray.size]

theorem isEmpty_txt {A : ByteArray} {l : List UInt8} (h : A = txt l) : A.toList.isEmpty = l.isEmpty := by
  subst h
  have : (txt l).toList = l := by rw [ByteArray.toList_eq]; simp [txt]
  rw [this]
theorem nm_ne (k : Nat) : nm k ≠ [] := by unfold nm; split <;> simp
theorem joined_ne {l : List Nat} (h : l ≠ []) : joined l ≠ [] := by
  cases l with
  | nil => exact absurd rfl h
  | cons i l => intro e; have := joined_pos i l; rw [e] at this; simp at this
abbrev namesRow : Obj := .cells #[.string (nmB 0), .string (nmB 1), .string (nmB 2), .string (nmB 3), .string (nmB 4)] 9
theorem namesRow_cell (w : World) {k : Nat} (hk : k < 5) : (w.alloc namesRow).cell? ⟨w.heap.size, k, none⟩ = some (.string (nmB k)) := by
  obtain h | h | h | h | h : k = 0 ∨ k = 1 ∨ k = 2 ∨ k = 3 ∨ k = 4 := by omega
  all_goals subst h; unfold World.cell?; rw [World.alloc_heap_new]; rfl
theorem nmB_size' (i : Nat) : (nmB i).size ≤ 9 := by show (nm i).toArray.size ≤ 9; simpa using (nm_le i).1
theorem nmB_txt (i : Nat) : nmB i = txt (nm i) := rfl
theorem joined_seq_le (s : Nat) {k : Nat} (hk : k ≤ 5) : (joined (seqOf s k)).length ≤ 50 := by
  have h1 := joined_le (seqOf s k)
  have h2 := seqOf_len s k
  omega
theorem byte_append (A : ByteArray) (c : UInt8) {l : List UInt8} (h : A = txt l) : A ++ ⟨#[c]⟩ = txt (l ++ [c]) := by
  subst h; exact txt_append l [c]

set_option maxRecDepth 100000 in
set_option maxHeartbeats 1000000 in
theorem rtext_c (s : Nat) (hs : s < 256) (w : World) : Calls Tryd.prog 25 #[.int .u8 s] w fun e w' => e = .returned (.string (txt (textOf s))) ∧ Below w.heap.size w w' := by
  have HS := Lib.hid hs
  clear hs
  go_enter Tryd.func25, Tryd.ntmps25
  go_wp2_with fail
  go_loopw [3, 4] (fun o i wr => ∃ (k : Nat) (A : ByteArray), k ≤ 5 ∧ i = .int .i64 k ∧ o = .string A ∧ Hid (A = txt (joined (seqOf s k))) ∧ Below w.heap.size w wr) (fun _ i _ => 5 - (intOf i).toNat)
  case atStart => exact ⟨0, _, by omega, rfl, rfl, rfl, Below.refl _ _⟩
  case round =>
    obtain ⟨k, A, hk, rfl, rfl, HA, hB⟩ := hrel
    have HB := Lib.hid hB
    have hle : w.heap.size ≤ wr.heap.size := hB.size
    clear hB
    have hsz : A.size ≤ 50 := by rw [HA.out, txt_size]; exact joined_seq_le s hk
    by_cases hlt : k < 5
    · have hnk := nmB_size' k
      have hcell := namesRow_cell wr hlt
      by_cases hb : bit s k = true
      · have hc : ∀ w, Calls Tryd.prog 35 #[.int .u8 s, .int .i64 k] w fun e w' => e = .returned (.bool true) ∧ w = w' := fun w => by
          have := rbit_c s k HS.out hlt w; rwa [hb] at this
        have HC := Lib.hid hc
        have HBT := Lib.hid hb
        clear hc hb
        by_cases he : seqOf s k = []
        · have e1 : A.toList.isEmpty = true := by rw [isEmpty_txt HA.out, he]; rfl
          have HE := Lib.hid he
          clear he
          go_wp2_with (first | (go_at_call 35; refine (HC.out _).mono ?_; rintro e w' ⟨rfl, rfl⟩) | (go_at_call 36; refine (rnames_c _).mono ?_; rintro e w' ⟨rfl, rfl⟩))
          go_roundw
          case rel => exact ⟨k + 1, _, by omega, by go_num, rfl, by rw [seqOf_succ, if_pos HBT.out, HE.out, joined_snoc, if_pos rfl, nmB_txt, HA.out, HE.out]; exact txt_append [] _, HB.out.alloc hle _⟩
          case measure => simp [intOf]; omega
        · have e1 : A.toList.isEmpty = false := by rw [isEmpty_txt HA.out, List.isEmpty_eq_false_iff]; exact joined_ne he
          have HE := Lib.hid he
          clear he
          go_wp2_with (first | (go_at_call 35; refine (HC.out _).mono ?_; rintro e w' ⟨rfl, rfl⟩) | (go_at_call 36; refine (rnames_c _).mono ?_; rintro e w' ⟨rfl, rfl⟩))
          go_roundw
          case rel => exact ⟨k + 1, _, by omega, by go_num, rfl, by rw [seqOf_succ, if_pos HBT.out, joined_snoc, if_neg HE.out, nmB_txt, byte_append _ _ HA.out, txt_append]; simp [Hid], HB.out.alloc hle _⟩
          case measure => simp [intOf]; omega
      · have hc : ∀ w, Calls Tryd.prog 35 #[.int .u8 s, .int .i64 k] w fun e w' => e = .returned (.bool false) ∧ w = w' := fun w => by
          have := rbit_c s k HS.out hlt w; rwa [(by simpa using hb : bit s k = false)] at this
        have HC := Lib.hid hc
        have HBT := Lib.hid hb
        clear hc hb
        go_wp2_with (go_at_call 35; refine (HC.out _).mono ?_; rintro e w' ⟨rfl, rfl⟩)
        go_roundw
        case rel => exact ⟨k + 1, A, by omega, by go_num, rfl, by rw [seqOf_succ, if_neg HBT.out]; exact HA, HB.out⟩
        case measure => simp [intOf]; omega
    · obtain rfl : k = 5 := by omega
      go_wp2_with fail
      go_ret
      refine ⟨?_, HB.out⟩
      have : (⟨#[40]⟩ : ByteArray) ++ A ++ ⟨#[41]⟩ = txt (textOf s) := by
        rw [HA.out, show (⟨#[40]⟩ : ByteArray) = txt [40] from rfl, txt_append, byte_append _ _ rfl]; rfl
      rw [← this]; rfl

theorem pow_mod5 {i : Nat} (hi : i < 5) : (2 : Int) ^ i % 256 = ((2 ^ i : Nat) : Int) ∧ 2 ^ i ≤ 16 := by
  obtain h | h | h | h | h : i = 0 ∨ i = 1 ∨ i = 2 ∨ i = 3 ∨ i = 4 := by omega
  all_goals subst h; exact ⟨rfl, by decide⟩

end Go.Proofs.YtaomekmfgjgpmaaDoor

/-
  The document's answers of layer 1: a set's text, a set changed: contracts.
-/
import Derived.Test.YtmfpfebnlflfiaaDoorIter
import Derived.Test.YtmfpfebnlflfiaaDoorLeaf1
import Derived.LoopTactic
import Derived.Deep.LoopGhost
set_option linter.unusedVariables false
set_option linter.unusedSimpArgs false
namespace Go.Proofs.YtmfpfebnlflfiaaDoor
open Go Go.RowKit

/-- A text. -/
def txt (l : List UInt8) : ByteArray := ⟨l.toArray⟩
theorem txt_append (a b : List UInt8) : txt a ++ txt b = txt (a ++ b) := by
  apply ByteArray.ext; simp [txt]
theorem txt_data (s : ByteArray) : txt s.data.toList = s := by cases s; simp [txt]
theorem txt_size (l : List UInt8) : (txt l).size = l.length := by simp [txt, ByteArray.size]

theorem isEmpty_txt {A : ByteArray} {l : List UInt8} (h : A = txt l) : A.toList.isEmpty = l.isEmpty := by
  subst h
  have : (txt l).toList = l := by rw [ByteArray.toList_eq]; simp [txt]
  rw [this]
theorem nm_ne (k : Nat) : nm k ≠ [] := by unfold nm; split <;> simp
theorem joined_ne {l : List Nat} (h : l ≠ []) : joined l ≠ [] := by
  cases l with
  | nil => exact absurd rfl h
  | cons i l => intro e; have := joined_pos i l; rw [e] at this; simp at this
abbrev namesRow : Obj := .cells #[.string (nmB 0), .string (nmB 1), .string (nmB 2), .string (nmB 3), .string (nmB 4)] 9
theorem namesRow_cell (w : World) {k : Nat} (hk : k < 5) : (w.alloc namesRow).cell? ⟨w.heap.size, k, none⟩ = some (.string (nmB k)) := by
  obtain h | h | h | h | h : k = 0 ∨ k = 1 ∨ k = 2 ∨ k = 3 ∨ k = 4 := by omega
  all_goals subst h; unfold World.cell?; rw [World.alloc_heap_new]; rfl
theorem nmB_size' (i : Nat) : (nmB i).size ≤ 9 := by show (nm i).toArray.size ≤ 9; simpa using (nm_le i).1
theorem nmB_txt (i : Nat) : nmB i = txt (nm i) := rfl
theorem joined_seq_le (s : Nat) {k : Nat} (hk : k ≤ 5) : (joined (seqOf s k)).length ≤ 50 := by
  have h1 := joined_le (seqOf s k)
  have h2 := seqOf_len s k
  omega
theorem byte_append (A : ByteArray) (c : UInt8) {l : List UInt8} (h : A = txt l) : A ++ ⟨#[c]⟩ = txt (l ++ [c]) := by
  subst h; exact txt_append l [c]

set_option maxRecDepth 100000 in
set_option maxHeartbeats 1000000 in
theorem rtext_c (s : Nat) (hs : s < 256) (w : World) : Calls Tryd.prog 13 #[.int .u8 s] w fun e w' => e = .returned (.string (txt (textOf s))) ∧ Below w.heap.size w w' := by
  have HS := Lib.hid hs
  clear hs
  go_enter Tryd.func13, Tryd.ntmps13
  go_wp2_with fail
  go_loopw [3, 4] (fun o i wr => ∃ (k : Nat) (A : ByteArray), k ≤ 5 ∧ i = .int .i64 k ∧ o = .string A ∧ Hid (A = txt (joined (seqOf s k))) ∧ Below w.heap.size w wr) (fun _ i _ => 5 - (intOf i).toNat)
  case atStart => exact ⟨0, _, by omega, rfl, rfl, rfl, Below.refl _ _⟩
  case round =>
    obtain ⟨k, A, hk, rfl, rfl, HA, hB⟩ := hrel
    have HB := Lib.hid hB
    have hle : w.heap.size ≤ wr.heap.size := hB.size
    clear hB
    have hsz : A.size ≤ 50 := by rw [HA.out, txt_size]; exact joined_seq_le s hk
    by_cases hlt : k < 5
    · have hnk := nmB_size' k
      have hcell := namesRow_cell wr hlt
      by_cases hb : bit s k = true
      · have hc : ∀ w, Calls Tryd.prog 10 #[.int .u8 s, .int .i64 k] w fun e w' => e = .returned (.bool true) ∧ w = w' := fun w => by
          have := rbit_c s k HS.out hlt w; rwa [hb] at this
        have HC := Lib.hid hc
        have HBT := Lib.hid hb
        clear hc hb
        by_cases he : seqOf s k = []
        · have e1 : A.toList.isEmpty = true := by rw [isEmpty_txt HA.out, he]; rfl
          have HE := Lib.hid he
          clear he
          go_wp2_with (first | (go_at_call 10; refine (HC.out _).mono ?_; rintro e w' ⟨rfl, rfl⟩) | (go_at_call 11; refine (rnames_c _).mono ?_; rintro e w' ⟨rfl, rfl⟩))
          go_roundw
          case rel => exact ⟨k + 1, _, by omega, by go_num, rfl, by rw [seqOf_succ, if_pos HBT.out, HE.out, joined_snoc, if_pos rfl, nmB_txt, HA.out, HE.out]; exact txt_append [] _, HB.out.alloc hle _⟩
          case measure => simp [intOf]; omega
        · have e1 : A.toList.isEmpty = false := by rw [isEmpty_txt HA.out, List.isEmpty_eq_false_iff]; exact joined_ne he
          have HE := Lib.hid he
          clear he
          go_wp2_with (first | (go_at_call 10; refine (HC.out _).mono ?_; rintro e w' ⟨rfl, rfl⟩) | (go_at_call 11; refine (rnames_c _).mono ?_; rintro e w' ⟨rfl, rfl⟩))
          go_roundw
          case rel => exact ⟨k + 1, _, by omega, by go_num, rfl, by rw [seqOf_succ, if_pos HBT.out, joined_snoc, if_neg HE.out, nmB_txt, byte_append _ _ HA.out, txt_append]; simp [Hid], HB.out.alloc hle _⟩
          case measure => simp [intOf]; omega
      · have hc : ∀ w, Calls Tryd.prog 10 #[.int .u8 s, .int .i64 k] w fun e w' => e = .returned (.bool false) ∧ w = w' := fun w => by
          have := rbit_c s k HS.out hlt w; rwa [(by simpa using hb : bit s k = false)] at this
        have HC := Lib.hid hc
        have HBT := Lib.hid hb
        clear hc hb
        go_wp2_with (go_at_call 10; refine (HC.out _).mono ?_; rintro e w' ⟨rfl, rfl⟩)
        go_roundw
        case rel => exact ⟨k + 1, A, by omega, by go_num, rfl, by rw [seqOf_succ, if_neg HBT.out]; exact HA, HB.out⟩
        case measure => simp [intOf]; omega
    · obtain rfl : k = 5 := by omega
      go_wp2_with fail
      go_ret
      refine ⟨?_, HB.out⟩
      have : (⟨#[40]⟩ : ByteArray) ++ A ++ ⟨#[41]⟩ = txt (textOf s) := by
        rw [HA.out, show (⟨#[40]⟩ : ByteArray) = txt [40] from rfl, txt_append, byte_append _ _ rfl]; rfl
      rw [← this]; rfl

theorem pow_mod5 {i : Nat} (hi : i < 5) : (2 : Int) ^ i % 256 = ((2 ^ i : Nat) : Int) ∧ 2 ^ i ≤ 16 := by
  obtain h | h | h | h | h : i = 0 ∨ i = 1 ∨ i = 2 ∨ i = 3 ∨ i = 4 := by omega
  all_goals subst h; exact ⟨rfl, by decide⟩

set_option maxRecDepth 100000 in
set_option maxHeartbeats 4000000 in
theorem rchange_c (s : Nat) (how : Int) (o : Nat) (hs : s < 256) (ho : o < 256) (w : World) : Calls Tryd.prog 16 #[.int .u8 s, .int .i64 how, .int .u8 o] w fun e w' => e = .returned (.int .u8 (sChange s how o)) ∧ w = w' := by
  have hlt32 := sChange_lt s how o
  have hbits := fun i (hi : i < 5) => bit_change s how o i ho hi
  obtain ⟨X, hX⟩ : ∃ X, X = sChange s how o := ⟨_, rfl⟩
  rw [← hX] at hlt32 hbits ⊢
  have HS := Lib.hid hs
  have HO := Lib.hid ho
  have HBS := Lib.hid hbits
  clear hs ho hbits hX
  go_enter Tryd.func16, Tryd.ntmps16
  go_wp2_with fail
  go_loop [7, 8] (fun r i => ∃ (k n : Nat), k ≤ 5 ∧ i = .int .i64 k ∧ r = .int .u8 n ∧ n < 32 ∧ Hid (n = X % 2 ^ k)) (fun _ i => 5 - (intOf i).toNat)
  case atStart => exact ⟨0, 0, by omega, rfl, rfl, by omega, by simp [Hid, Nat.mod_one]⟩
  case round =>
    obtain ⟨k, n, hk, rfl, rfl, hn, HN⟩ := hrel
    by_cases hlt : k < 5
    · have hp := (pow_mod5 hlt).2
      have hp2 : (2 : Int) ^ k % 256 ≤ 16 := by rw [(pow_mod5 hlt).1]; omega
      have hp3 : 0 ≤ (2 : Int) ^ k % 256 := by rw [(pow_mod5 hlt).1]; exact Int.natCast_nonneg _
      have HP := Lib.hid (pow_mod5 hlt).1
      have c1 : ∀ w, Calls Tryd.prog 10 #[.int .u8 s, .int .i64 k] w fun e w' => e = .returned (.bool (bit s k)) ∧ w = w' := rbit_c s k HS.out hlt
      have c2 : ∀ w, Calls Tryd.prog 10 #[.int .u8 o, .int .i64 k] w fun e w' => e = .returned (.bool (bit o k)) ∧ w = w' := rbit_c o k HO.out hlt
      have hXk := HBS.out k hlt
      have hk32 : X % 2 ^ (k + 1) < 32 := Nat.lt_of_le_of_lt (Nat.mod_le _ _) hlt32
      revert c1 c2 hXk
      generalize bit s k = a
      generalize bit o k = b
      intro c1 c2 hXk
      have C1 := Lib.hid c1
      have C2 := Lib.hid c2
      clear c1 c2
      have ON : bit X k = true → (n : Int) + (2 : Int) ^ k % 256 = ((X % 2 ^ (k + 1) : Nat) : Int) := fun h => by rw [mod_succ_on h, HP.out, HN.out]; simp
      have OFF : bit X k = false → n = X % 2 ^ (k + 1) := fun h => by rw [mod_succ_off h]; exact HN.out
      have KON := Lib.hid ON
      have KOFF := Lib.hid OFF
      have KX := Lib.hid hXk
      have K32 := Lib.hid hk32
      clear ON OFF hXk hk32 hlt32
      by_cases h0 : how = 0
      · subst h0
        cases a <;> cases b
        all_goals
          go_wp2_with fail
          refine (C1.out _).mono ?_
          rintro e w' ⟨rfl, rfl⟩
          go_wp2_with fail
          refine (C2.out _).mono ?_
          rintro e w' ⟨rfl, rfl⟩
          go_wp2_with fail
          go_round
          case rel => first | exact ⟨k + 1, _, by omega, by go_num, by rw [KON.out (by simpa using KX.out)], K32.out, rfl⟩ | exact ⟨k + 1, n, by omega, by go_num, rfl, by omega, KOFF.out (by simpa using KX.out)⟩
          case measure => simp [intOf]; omega
      · have e0 : (how == 0) = false := by simpa using h0
        replace KX := Lib.hid (KX.out.trans (if_neg h0))
        clear h0
        by_cases h1 : how = 1
        · subst h1
          cases a <;> cases b
          all_goals
            go_wp2_with fail
            refine (C1.out _).mono ?_
            rintro e w' ⟨rfl, rfl⟩
            go_wp2_with fail
            refine (C2.out _).mono ?_
            rintro e w' ⟨rfl, rfl⟩
            go_wp2_with fail
            go_round
            case rel => first | exact ⟨k + 1, _, by omega, by go_num, by rw [KON.out (by simpa using KX.out)], K32.out, rfl⟩ | exact ⟨k + 1, n, by omega, by go_num, rfl, by omega, KOFF.out (by simpa using KX.out)⟩
            case measure => simp [intOf]; omega
        · have e1 : (how == 1) = false := by simpa using h1
          replace KX := Lib.hid (KX.out.trans (if_neg h1))
          clear h1
          by_cases h2 : how = 2
          · subst h2
            cases a <;> cases b
            all_goals
              go_wp2_with fail
              refine (C1.out _).mono ?_
              rintro e w' ⟨rfl, rfl⟩
              go_wp2_with fail
              refine (C2.out _).mono ?_
              rintro e w' ⟨rfl, rfl⟩
              go_wp2_with fail
              go_round
              case rel => first | exact ⟨k + 1, _, by omega, by go_num, by rw [KON.out (by simpa using KX.out)], K32.out, rfl⟩ | exact ⟨k + 1, n, by omega, by go_num, rfl, by omega, KOFF.out (by simpa using KX.out)⟩
              case measure => simp [intOf]; omega
          · have e2 : (how == 2) = false := by simpa using h2
            replace KX := Lib.hid (KX.out.trans (if_neg h2))
            clear h2
            cases a <;> cases b
            all_goals
              go_wp2_with fail
              refine (C1.out _).mono ?_
              rintro e w' ⟨rfl, rfl⟩
              go_wp2_with fail
              refine (C2.out _).mono ?_
              rintro e w' ⟨rfl, rfl⟩
              go_wp2_with fail
              go_round
              case rel => first | exact ⟨k + 1, _, by omega, by go_num, by rw [KON.out (by simpa using KX.out)], K32.out, rfl⟩ | exact ⟨k + 1, n, by omega, by go_num, rfl, by omega, KOFF.out (by simpa using KX.out)⟩
              case measure => simp [intOf]; omega
    · obtain rfl : k = 5 := by omega
      go_wp2_with fail
      go_ret
      exact ⟨ret_i (by rw [HN.out, Nat.mod_eq_of_lt (by omega)]), rfl⟩
end Go.Proofs.YtmfpfebnlflfiaaDoor

/-
  The small functions of package flags and of the document's layer 1: contracts.
-/
import Derived.Test.YtaomekmfgjgpmaaDoorPure1
import Derived.Test.YtaomekmfgjgpmaaDoorProg
import Derived.Laws.BitsAllLaws
import Derived.WalkLawsBesides
import Derived.WalkSpells
import Derived.Deep.QuietTactic
import Derived.BigQuiet
import Derived.Lib.Hide
set_option linter.unusedVariables false
set_option linter.unusedSimpArgs false
namespace Go.Proofs.YtaomekmfgjgpmaaDoor
open Go Go.RowKit

theorem ret_b {a b : Bool} (h : a = b) : Ending.returned (.bool a) = .returned (.bool b) := by rw [h]
theorem ret_i {k : IntKind} {a b : Int} (h : a = b) : Ending.returned (.int k a) = .returned (.int k b) := by rw [h]

theorem has_c (s o : Nat) (hs : s < 256) (ho : o < 256) (w : World) : Calls Tryd.prog 54 #[.int .u8 s, .int .u8 o] w fun e w' => e = .returned (.bool (sHas s o)) ∧ w = w' := by
  go_enter Tryd.func54, Tryd.ntmps54
  go_wp2
  go_ret
  refine ⟨ret_b ?_, rfl⟩
  show (bits BinOp.andNot IntKind.u8 ((o : Int) % 32) s == 0) = _
  have h1 : o % 32 < 256 := by omega
  have e1 : ((o : Int) % 32) = ((o % 32 : Nat) : Int) := by omega
  rw [e1, u8_andNot_nat _ _ h1 hs]
  unfold sHas
  rw [Bool.eq_iff_iff]; simp only [beq_iff_eq]; omega

theorem has_bit_c (s i : Nat) (hs : s < 256) (hi : i < 5) (n : Int) (hn : n = ((2 ^ i : Nat) : Int)) (w : World) : Calls Tryd.prog 54 #[.int .u8 s, .int .u8 n] w fun e w' => e = .returned (.bool (bit s i)) ∧ w = w' := by
  subst hn
  have h2 : 2 ^ i < 256 := by
    have : ∀ i < 5, 2 ^ i < 256 := by decide
    exact this i hi
  rw [← has_bit s i hs hi]
  exact has_c s (2 ^ i) hs h2 w

theorem bits_mod (x : Int) (y : Nat) (h : x = (y : Int)) (hy : y < 256) : bits BinOp.and IntKind.u8 x 31 = ((y % 32 : Nat) : Int) := by
  subst h
  rw [show bits BinOp.and IntKind.u8 (y : Int) 31 = ((y &&& 31 : Nat) : Int) from u8_and_nat y 31 hy (by omega)]
  congr 1
  have : ∀ y < 256, y &&& 31 = y % 32 := by decide +kernel
  exact this y hy
theorem rbit_c (s i : Nat) (hs : s < 256) (hi : i < 5) (w : World) : Calls Tryd.prog 35 #[.int .u8 s, .int .i64 i] w fun e w' => e = .returned (.bool (bit s i)) ∧ w = w' := by
  go_enter Tryd.func35, Tryd.ntmps35
  go_wp2
  go_ret
  refine ⟨ret_b ?_, rfl⟩
  unfold bit
  have e : ((s : Int) / 2 ^ ((i : Int)).toNat).tmod 2 = ((s / 2 ^ i % 2 : Nat) : Int) := by
    rw [Int.toNat_natCast]
    have : ((s : Int) / 2 ^ i) = ((s / 2 ^ i : Nat) : Int) := by simp
    rw [this, Int.tmod_eq_emod_of_nonneg (Int.natCast_nonneg _)]; simp
  rw [Bool.eq_iff_iff]
  simp only [beq_iff_eq]
  show ((s : Int) / 2 ^ ((i : Int)).toNat).tmod 2 = 1 ↔ _
  rw [e]; omega

def sSmall (c : Nat) : Nat := if 65 ≤ c ∧ c ≤ 90 then c + 32 else c
theorem rnames_c (w : World) : Calls Tryd.prog 36 #[] w fun e w' => e = .returned (.slice (some ⟨w.heap.size, 0, none⟩) 5 5) ∧
    w.alloc (.cells #[.string (nmB 0), .string (nmB 1), .string (nmB 2), .string (nmB 3), .string (nmB 4)] 9) = w' := by
  go_enter Tryd.func36, Tryd.ntmps36
  go_wp2
  go_ret
  exact ⟨rfl, rfl⟩
end Go.Proofs.YtaomekmfgjgpmaaDoor

/-
  Items: their names and texts, as lists; the items' small functions: contracts.
-/
import Derived.Test.YtaomekmfgjgpmaaDoorIt0
import Derived.Test.YtaomekmfgjgpmaaDoorString
import Derived.Lib.Join
set_option linter.unusedVariables false
set_option linter.unusedSimpArgs false
namespace Go.Proofs.YtaomekmfgjgpmaaDoor
open Go Go.RowKit
def askN : Nat → List UInt8
  | 0 => [85, 73, 68]
  | 1 => [70, 76, 65, 71, 83]
  | 2 => [82, 70, 67, 56, 50, 50, 46, 83, 73, 90, 69]
  | _ => [66, 79, 68, 89, 46, 80, 69, 69, 75, 91, 93]
def tolN : Nat → List UInt8
  | 0 => [85, 73, 68]
  | 1 => [70, 76, 65, 71, 83]
  | 2 => [82, 70, 67, 56, 50, 50, 46, 83, 73, 90, 69]
  | _ => [66, 79, 68, 89, 91, 93]
def ordN : Nat → List UInt8
  | 0 => [70, 76, 65, 71, 83]
  | 1 => [43, 70, 76, 65, 71, 83]
  | _ => [45, 70, 76, 65, 71, 83]
/-- A package variable's row of texts, as it was laid. -/
def RowG (W : World) (g n : Nat) (f : Nat → List UInt8) : Prop := g < W.heap.size ∧ ∀ k, k < n → W.cell? ⟨g, k, none⟩ = some (.string (txt (f k)))
theorem RowG.below {W w : World} {g n : Nat} {f : Nat → List UInt8} (h : RowG W g n f) (hb : Below W.heap.size W w) : RowG w g n f :=
  ⟨Nat.lt_of_lt_of_le h.1 hb.size, fun k hk => (hb.cell (p := ⟨g, k, none⟩) h.1).trans (h.2 k hk)⟩
/-- Texts of some places, a blank between two. -/
def joinF (T : Nat → List UInt8) (l : List Nat) : List UInt8 := Lib.join (l.map T) [32]
theorem joinF_nil (T : Nat → List UInt8) : joinF T [] = [] := rfl
theorem joinF_snoc (T : Nat → List UInt8) (l : List Nat) (x : Nat) : joinF T (l ++ [x]) = if l = [] then T x else joinF T l ++ 32 :: T x := by
  cases l with
  | nil => rw [if_pos rfl]; exact Lib.join_one _ _
  | cons a r =>
    rw [if_neg (by simp)]
    show Lib.join (T a :: (r ++ [x]).map T) [32] = Lib.join (T a :: r.map T) [32] ++ 32 :: T x
    rw [Lib.join_cons, Lib.join_cons]
    simp [Lib.joinTail]
theorem joinF_ne {T : Nat → List UInt8} (hT : ∀ k, T k ≠ []) {l : List Nat} (h : l ≠ []) : joinF T l ≠ [] := by
  cases l with
  | nil => exact absurd rfl h
  | cons a r =>
    show Lib.join (T a :: r.map T) [32] ≠ []
    rw [Lib.join_cons]
    simp [hT a]
theorem tail_len (T : Nat → List UInt8) : ∀ r : List Nat, (∀ k ∈ r, (T k).length ≤ 4000) → (Lib.joinTail [32] (r.map T)).length ≤ 4001 * r.length
  | [], _ => by simp [Lib.joinTail]
  | a :: r, h => by
    have h1 := h a (by simp)
    have h2 := tail_len T r fun k hk => h k (by simp [hk])
    have e : Lib.joinTail [32] ((a :: r).map T) = 32 :: T a ++ Lib.joinTail [32] (r.map T) := by simp [Lib.joinTail]
    rw [e, List.length_append, List.length_cons, List.length_cons]
    omega
theorem joinF_len (T : Nat → List UInt8) {l : List Nat} (h : ∀ k ∈ l, (T k).length ≤ 4000) (hl : l.length ≤ 4) : (joinF T l).length ≤ 20000 := by
  cases l with
  | nil => simp [joinF_nil]
  | cons a r =>
    show (Lib.join (T a :: r.map T) [32]).length ≤ 20000
    rw [Lib.join_cons, List.length_append]
    have h1 := h a (by simp)
    have h2 := tail_len T r fun k hk => h k (by simp [hk])
    rw [List.length_cons] at hl
    omega
def itemT (T : Nat → List UInt8) (t : Nat) : List UInt8 := 40 :: (joinF T (seqOf t 4) ++ [41])
theorem four {k : Nat} (h : k < 4) : k = 0 ∨ k = 1 ∨ k = 2 ∨ k = 3 := by omega
theorem and_bit (t k : Nat) (ht : t < 256) (hk : k < 4) : (bits BinOp.and IntKind.u8 (t : Int) ((2 ^ k : Nat) : Int) != 0) = bit t k := by
  have h2 : 2 ^ k < 256 := by obtain rfl | rfl | rfl | rfl := four hk <;> decide
  rw [u8_and_nat t (2 ^ k) ht h2]
  have : ∀ k < 4, ∀ t < 256, ((t &&& 2 ^ k) != 0) = bit t k := by decide +kernel
  rw [← this k hk t ht]
  rw [Bool.eq_iff_iff, bne_iff_ne, bne_iff_ne]
  omega
theorem iat_c (k : Nat) (hk : k < 4) (w : World) : Calls Tryd.prog 26 #[.int .i64 k] w fun e w' => e = .returned (.int .u8 ((2 ^ k : Nat) : Int)) ∧ w' = w := by
  obtain rfl | rfl | rfl | rfl := four hk
  all_goals
    go_enter Tryd.func26, Tryd.ntmps26
    go_wp2
    go_ret
    exact ⟨by rfl, rfl⟩
set_option maxRecDepth 100000 in
theorem iString1_c {W : World} (hA : RowG W 0 4 askN) (k : Nat) (hk : k < 4) : Calls Tryd.prog 13 #[.int .i64 k] W fun e w' => e = .returned (.string (txt (askN k))) ∧ Below W.heap.size W w' := by
  have kc := hA.2 k hk
  obtain ⟨X, hX⟩ : ∃ X, txt (askN k) = X := ⟨_, rfl⟩
  rw [hX] at kc ⊢
  have q : (k : Int) < 4 := by omega
  have q0 : (0 : Int) ≤ k := by omega
  clear hX hA hk
  go_enter Tryd.func13, Tryd.ntmps13
  go_wp2_with fail
  go_ret
  exact ⟨rfl, Below.refl _ _⟩
theorem lit2_eqI (d l : List UInt8) : (((⟨#[123]⟩ : ByteArray) ++ txt d) ++ ⟨#[125, 13, 10]⟩) ++ txt l = txt (123 :: (d ++ ([125, 13, 10] ++ l))) := by
  apply ByteArray.ext
  simp [txt]
set_option maxRecDepth 100000 in
theorem iLiteral_c {w : World} (hT : PowTab w) (l : List UInt8) (hl : l.length ≤ 100000) : Calls Tryd.prog 22 #[.string (txt l)] w fun e w' => e = .returned (.string (txt (123 :: (Lib.decDigits l.length ++ ([125, 13, 10] ++ l))))) ∧ Below w.heap.size w w' := by
  have C := itoa_c hT l.length (by omega)
  have e1 := txt_size l
  have hd := dec_len9 9 l.length (by omega)
  have ed := txt_size (Lib.decDigits l.length)
  have HQ := Lib.hid (lit2_eqI (Lib.decDigits l.length) l)
  obtain ⟨N, hN⟩ : ∃ N, l.length = N := ⟨_, rfl⟩
  rw [hN] at C e1 hd ed HQ hl ⊢
  obtain ⟨D, hD⟩ : ∃ D, txt (Lib.decDigits N) = D := ⟨_, rfl⟩
  obtain ⟨B, hB⟩ : ∃ B, txt l = B := ⟨_, rfl⟩
  obtain ⟨R, hR⟩ : ∃ R, txt (123 :: (Lib.decDigits N ++ ([125, 13, 10] ++ l))) = R := ⟨_, rfl⟩
  rw [hD] at C ed HQ
  rw [hB] at e1 HQ ⊢
  rw [hR] at HQ ⊢
  have C := Lib.hid C
  clear hT hN hD hB hR
  go_enter Tryd.func22, Tryd.ntmps22
  go_wp2_with (first | (go_at_call 20; refine C.out.mono ?_; rintro e w' ⟨rfl, hb⟩; have H := Lib.hid hb; clear hb) | fail)
  go_ret
  exact ⟨by rw [← HQ.out]; rfl, H.out⟩
end Go.Proofs.YtaomekmfgjgpmaaDoor

/-
  Numerals as lists of bytes: what an end of a range spells, in the program's words and in the document's.
  Contracts of Go's library off the shelf, laid at this program in plain words.
  Sets of flags as numbers, and their texts: plain mathematics.
  The parse of a set's text, on lists of bytes: plain mathematics.
  A range over a function, for iterators that themselves range over another iterator. What each side may touch is told by blocks and by the kinds of cells.
  The small functions of package flags and of the document's layer 1: contracts.
  The document's answers of layer 1: a set's text, a set changed: contracts.
  Contracts of Go's library off the shelf, laid at this program in plain words.
  Two texts alike; a text cut at a blank: contracts.
  strings.Cut at a blank, and at any one byte: contracts.
  Small laws on worlds and rows of the call's own.
  The two iterators of package flags: a set's flags with their names; a set's names.
  A set's names: the walk over the walk over its flags.
  The flag of a name: a walk over all flags, left at the first whose name is alike.
  The parse of a set's text.
  Contracts of Go's library off the shelf, laid at this program in plain words.
  Contracts of Go's library off the shelf, laid at this program in plain words.
  Contracts of Go's library off the shelf, laid at this program in plain words.
  Contracts of Go's library off the shelf, laid at this program in plain words.
  Contracts of Go's library off the shelf, laid at this program in plain words.
  Contracts of Go's library off the shelf, laid at this program in plain words.
  Contracts of Go's library off the shelf, laid at this program in plain words.
-/
import Derived.Lib.ParseIntB
import Derived.Shelf.Pu.ParseUintPublic10
import Derived.Shelf.Pu.ErrVarParseUint
import Derived.Shelf.Strconv.AppendUint10
import Derived.Shelf.LaysM
import Derived.Test.YtpnnchpaaopdcaaGreatDoorProg
import Derived.WalkKit
import Derived.RangeFuncNested
import Derived.RangeFuncLeaves
import Derived.Shelf.Abstract
import Derived.Deep.QuietTactic
import Derived.Laws.BitsAllLaws
import Derived.WalkLawsBesides
import Derived.WalkSpells
import Derived.BigQuiet
import Derived.Lib.Hide
import Derived.LoopTactic
import Derived.Deep.LoopGhost
import Derived.Shelf.Strings.Builder1
import Derived.Shelf.Strings.BuilderF
import Derived.Shelf.Strings.BuilderK
import Derived.Shelf.Strings.Search1
import Derived.Shelf.Strings.Search2
import Derived.Lib.IndexBytes
import Derived.Lib.IndexLaws
import Derived.Below
import Derived.OneCell
import Derived.Laws.AppendOwn
import Derived.Laws.Rows
import Derived.LoopIn
import Derived.LoopNIn
import Derived.TacticsInMore
import Derived.OwnWalkIn
import Derived.Shelf.Small.Strs
import Derived.Shelf.Strings.Count
import Derived.Shelf.Small.Utf8
import Derived.Shelf.Strings.Runes
import Derived.Shelf.Strings.IndexAnyAll
import Derived.Shelf.Strconv.Itoa3
import Derived.Shelf.Small.Bits
import Derived.Shelf.Strings.SlTrimAscii
import Derived.Shelf.Strings.OnBuilder
set_option linter.unusedVariables false
set_option linter.unusedSimpArgs false
namespace Go.Proofs.YtpnnchpaaopdcaaGreatDoor
open Go
theorem qF {α : Type} [BEq α] [LawfulBEq α] {a b : α} (h : ¬ a = b) : (a == b) = false := beq_eq_false_iff_ne.2 h
theorem qT {α : Type} [BEq α] [LawfulBEq α] {a b : α} (h : a = b) : (a == b) = true := beq_iff_eq.2 h
theorem qN {α : Type} [BEq α] [LawfulBEq α] {a b : α} (h : ¬ a = b) : (a != b) = true := bne_iff_ne.2 h
def dig (c : UInt8) : Prop := 48 ≤ c.toNat ∧ c.toNat ≤ 57
instance (c : UInt8) : Decidable (dig c) := by unfold dig; infer_instance
def numV : Nat → List UInt8 → Option Nat
  | a, [] => some a
  | a, c :: r => if dig c then numV (10 * a + (c.toNat - 48)) r else none
theorem numV_ge : ∀ (l : List UInt8) (a u : Nat), numV a l = some u → a * 10 ^ l.length ≤ u
  | [], a, u, h => by have : a = u := Option.some.inj h; simp [this]
  | c :: r, a, u, h => by
    unfold numV at h
    split at h
    · have := numV_ge r _ u h
      refine Nat.le_trans ?_ this
      rw [List.length_cons, Nat.pow_succ, Nat.mul_comm (10 ^ r.length) 10, ← Nat.mul_assoc]
      exact Nat.mul_le_mul_right _ (by omega)
    · cases h
theorem numV_le {l : List UInt8} {a u : Nat} (h : numV a l = some u) : a ≤ u :=
  Nat.le_trans (Nat.le_mul_of_pos_right a (Nat.pos_of_ne_zero (by intro e; simp at e))) (numV_ge l a u h)
theorem parseM : ∀ (l : List UInt8) (a u : Nat), a ≤ 4294967295 → (Lib.parseUintM 4294967295 a l = .ok u ↔ numV a l = some u ∧ u ≤ 4294967295)
  | [], a, u, ha => by
    unfold Lib.parseUintM numV
    constructor
    · intro h; cases h; exact ⟨rfl, ha⟩
    · rintro ⟨h, _⟩; cases h; rfl
  | c :: r, a, u, ha => by
    unfold Lib.parseUintM numV
    by_cases hc : 48 ≤ c.toNat ∧ c.toNat ≤ 57
    · rw [if_pos hc, if_pos (show dig c from hc), if_neg (by omega), show a * 10 + (c.toNat - 48) = 10 * a + (c.toNat - 48) by omega]
      by_cases hm : 4294967295 < 10 * a + (c.toNat - 48)
      · rw [if_pos hm]
        constructor
        · intro h; cases h
        · rintro ⟨h, h2⟩; have := numV_le h; omega
      · rw [if_neg hm]; exact parseM r _ u (by omega)
    · rw [if_neg hc, if_neg (show ¬ dig c from hc)]
      constructor
      · intro h; cases h
      · rintro ⟨h, _⟩; cases h
def endB (l : List UInt8) : Option Nat :=
  if l = [42] then some 0 else if l.head? = some 48 then none else match Lib.parseUintB 32 l with | .ok u => some u | _ => none
def numR (l : List UInt8) (most : Nat) : Option Nat :=
  if l.length < 1 ∨ 10 < l.length ∨ (1 < l.length ∧ l.head? = some 48) then none else match numV 0 l with | some n => if n ≤ most then some n else none | none => none
theorem endB_ok {l : List UInt8} (h1 : l ≠ [42]) (h2 : l.head? ≠ some 48) (v : Nat) : endB l = some v ↔ l ≠ [] ∧ numV 0 l = some v ∧ v ≤ 4294967295 := by
  unfold endB
  rw [if_neg h1, if_neg h2]
  unfold Lib.parseUintB
  by_cases hn : l = []
  · rw [if_pos hn]; simp [hn]
  · rw [if_neg hn]
    have hp := parseM l 0
    rw [show (2 ^ 32 - 1 : Nat) = 4294967295 from rfl]
    cases hm : Lib.parseUintM 4294967295 0 l with
    | ok u =>
      have := (hp u (by omega)).1 hm
      simp only [Option.some.injEq]
      constructor
      · rintro rfl; exact ⟨hn, this⟩
      · rintro ⟨_, h, _⟩; exact Option.some.inj (this.1.symm.trans h)
    | range =>
      simp only [reduceCtorEq, false_iff]
      rintro ⟨_, h⟩; exact absurd ((hp v (by omega)).2 h) (by rw [hm]; simp)
    | _ =>
      simp only [reduceCtorEq, false_iff]
      rintro ⟨_, h⟩; exact absurd ((hp v (by omega)).2 h) (by rw [hm]; simp)
end Go.Proofs.YtpnnchpaaopdcaaGreatDoor
namespace Go.Proofs
open Go.Shelf
def Tryz.laysPu14_ren : Go.Shelf.Ren := ⟨fun | 14 => 182 | 16 => 220 | 17 => 221 | 19 => 253 | 20 => 254 | 21 => 255 | 22 => 256 | 23 => 257 | 24 => 258 | 25 => 278 | 27 => 151 | 26 => 279 | 28 => 192 | 29 => 228 | 30 => 215 | 31 => 216 | 32 => 217 | 33 => 218 | 35 => 246 | 34 => 245 | 36 => 247 | 37 => 248 | 38 => 249 | 39 => 275 | 40 => 276 | n => n, fun | 9 => 9 | 3 => 3 | 22 => 105 | 24 => 173 | 25 => 197 | 4 => 4 | 34 => 263 | 5 => 5 | 36 => 196 | 37 => 97 | 0 => 0 | 39 => 265 | 21 => 21 | 44 => 290 | 47 => 220 | 50 => 315 | 48 => 313 | 2 => 2 | 52 => 234 | 55 => 237 | 59 => 260 | 60 => 23 | 20 => 20 | 61 => 261 | 65 => 311 | 66 => 312 | 67 => 45 | n => n, fun | 0 => 8 | 1 => 9 | 2 => 7 | 3 => 12 | 4 => 13 | n => n⟩
theorem Tryz.laysPu14 : Go.Proofs.LaysPu.n14 Tryz.prog Tryz.laysPu14_ren := {
  mixed := by kernel_rfl
  f14 := Tryz.func182.trans (congrArg some (by kernel_rfl))
  f16 := Tryz.func220.trans (congrArg some (by kernel_rfl))
  f17 := Tryz.func221.trans (congrArg some (by kernel_rfl))
  f19 := Tryz.func253.trans (congrArg some (by kernel_rfl))
  f20 := Tryz.func254.trans (congrArg some (by kernel_rfl))
  f21 := Tryz.func255.trans (congrArg some (by kernel_rfl))
  f22 := Tryz.func256.trans (congrArg some (by kernel_rfl))
  f23 := Tryz.func257.trans (congrArg some (by kernel_rfl))
  f24 := Tryz.func258.trans (congrArg some (by kernel_rfl))
  f25 := Tryz.func278.trans (congrArg some (by kernel_rfl))
  f26 := Tryz.func279.trans (congrArg some (by kernel_rfl))
  f27 := Tryz.func151.trans (congrArg some (by kernel_rfl))
  f28 := Tryz.func192.trans (congrArg some (by kernel_rfl))
  f29 := Tryz.func228.trans (congrArg some (by kernel_rfl))
  f30 := Tryz.func215.trans (congrArg some (by kernel_rfl))
  f31 := Tryz.func216.trans (congrArg some (by kernel_rfl))
  f32 := Tryz.func217.trans (congrArg some (by kernel_rfl))
  f33 := Tryz.func218.trans (congrArg some (by kernel_rfl))
  f34 := Tryz.func245.trans (congrArg some (by kernel_rfl))
  f35 := Tryz.func246.trans (congrArg some (by kernel_rfl))
  f36 := Tryz.func247.trans (congrArg some (by kernel_rfl))
  f37 := Tryz.func248.trans (congrArg some (by kernel_rfl))
  f38 := Tryz.func249.trans (congrArg some (by kernel_rfl))
  f39 := Tryz.func275.trans (congrArg some (by kernel_rfl))
  f40 := Tryz.func276.trans (congrArg some (by kernel_rfl))
  t0 := Tryz.underlying0
  a0 := Tryz.isAgg0
  z0 := Tryz.sizeOf0
  v0 := Tryz.zeroValue0
  i0 := by kernel_rfl
  t2 := Tryz.underlying2
  a2 := Tryz.isAgg2
  z2 := Tryz.sizeOf2
  v2 := Tryz.zeroValue2
  i2 := by kernel_rfl
  t3 := Tryz.underlying3
  a3 := Tryz.isAgg3
  z3 := Tryz.sizeOf3
  v3 := Tryz.zeroValue3
  i3 := by kernel_rfl
  t4 := Tryz.underlying4
  a4 := Tryz.isAgg4
  z4 := Tryz.sizeOf4
  v4 := Tryz.zeroValue4
  i4 := by kernel_rfl
  t5 := Tryz.underlying5
  a5 := Tryz.isAgg5
  z5 := Tryz.sizeOf5
  v5 := Tryz.zeroValue5
  i5 := by kernel_rfl
  t9 := Tryz.underlying9
  a9 := Tryz.isAgg9
  z9 := Tryz.sizeOf9
  v9 := Tryz.zeroValue9
  i9 := by kernel_rfl
  t20 := Tryz.underlying20
  a20 := Tryz.isAgg20
  z20 := Tryz.sizeOf20
  v20 := Tryz.zeroValue20
  i20 := by kernel_rfl
  t21 := Tryz.underlying21
  a21 := Tryz.isAgg21
  z21 := Tryz.sizeOf21
  v21 := Tryz.zeroValue21
  i21 := by kernel_rfl
  t22 := Tryz.underlying105
  a22 := Tryz.isAgg105
  z22 := Tryz.sizeOf105
  v22 := Tryz.zeroValue105
  i22 := by kernel_rfl
  t24 := Tryz.underlying173
  a24 := Tryz.isAgg173
  z24 := Tryz.sizeOf173
  v24 := Tryz.zeroValue173
  i24 := by kernel_rfl
  t25 := Tryz.underlying197
  a25 := Tryz.isAgg197
  z25 := Tryz.sizeOf197
  v25 := Tryz.zeroValue197
  i25 := by kernel_rfl
  t34 := Tryz.underlying263
  a34 := Tryz.isAgg263
  z34 := Tryz.sizeOf263
  v34 := Tryz.zeroValue263
  i34 := by kernel_rfl
  c34 := by kernel_rfl
  t36 := Tryz.underlying196
  a36 := Tryz.isAgg196
  z36 := Tryz.sizeOf196
  v36 := Tryz.zeroValue196
  i36 := by kernel_rfl
  t37 := Tryz.underlying97
  a37 := Tryz.isAgg97
  z37 := Tryz.sizeOf97
  v37 := Tryz.zeroValue97
  i37 := by kernel_rfl
  t39 := Tryz.underlying265
  a39 := Tryz.isAgg265
  z39 := Tryz.sizeOf265
  v39 := Tryz.zeroValue265
  i39 := by kernel_rfl
  t44 := Tryz.underlying290
  a44 := Tryz.isAgg290
  z44 := Tryz.sizeOf290
  v44 := Tryz.zeroValue290
  i44 := by kernel_rfl
  t47 := Tryz.underlying220
  a47 := Tryz.isAgg220
  z47 := Tryz.sizeOf220
  v47 := Tryz.zeroValue220
  i47 := by kernel_rfl
  t48 := Tryz.underlying313
  a48 := Tryz.isAgg313
  z48 := Tryz.sizeOf313
  v48 := Tryz.zeroValue313
  i48 := by kernel_rfl
  t50 := Tryz.underlying315
  a50 := Tryz.isAgg315
  z50 := Tryz.sizeOf315
  v50 := Tryz.zeroValue315
  i50 := by kernel_rfl
  t52 := Tryz.underlying234
  a52 := Tryz.isAgg234
  z52 := Tryz.sizeOf234
  v52 := Tryz.zeroValue234
  i52 := by kernel_rfl
  t55 := Tryz.underlying237
  a55 := Tryz.isAgg237
  z55 := Tryz.sizeOf237
  v55 := Tryz.zeroValue237
  i55 := by kernel_rfl
  t59 := Tryz.underlying260
  a59 := Tryz.isAgg260
  z59 := Tryz.sizeOf260
  v59 := Tryz.zeroValue260
  i59 := by kernel_rfl
  t60 := Tryz.underlying23
  a60 := Tryz.isAgg23
  z60 := Tryz.sizeOf23
  v60 := Tryz.zeroValue23
  i60 := by kernel_rfl
  t61 := Tryz.underlying261
  a61 := Tryz.isAgg261
  z61 := Tryz.sizeOf261
  t65 := Tryz.underlying311
  a65 := Tryz.isAgg311
  z65 := Tryz.sizeOf311
  v65 := Tryz.zeroValue311
  i65 := by kernel_rfl
  t66 := Tryz.underlying312
  a66 := Tryz.isAgg312
  z66 := Tryz.sizeOf312
  v66 := Tryz.zeroValue312
  i66 := by kernel_rfl
  t67 := Tryz.underlying45
  a67 := Tryz.isAgg45
  z67 := Tryz.sizeOf45
  v67 := Tryz.zeroValue45
  i67 := by kernel_rfl
  g0 := by kernel_rfl
  m0 := by kernel_rfl
  g1 := by kernel_rfl
  m1 := by kernel_rfl
  g2 := by kernel_rfl
  m2 := by kernel_rfl
  g3 := by kernel_rfl
  m3 := by kernel_rfl
  g4 := by kernel_rfl
  m4 := by kernel_rfl }
open Go.RowKit in
theorem Tryz.strconv_ParseUint_10_at32_ok (s : ByteArray) (hmax : s.size ≤ 9223372036854775806) (u : Nat) (h : Lib.parseUintB 32 s.data.toList = .ok u) (w : World) :
    Calls Tryz.prog 182 #[.string s, .int .i64 10, .int .i64 32] w fun e w' => e = .returned (.tuple #[.int .u64 u, .nilIface]) ∧ (w' = w ∨ w' = Lib.bytesWorld w 5 s) := Any.strconv_ParseUint_10_at32_ok Tryz.laysPu14 s hmax u h w
open Go.RowKit in
theorem Tryz.strconv_ParseUint_10_at32_range (s : ByteArray) (hlim : s.size ≤ 281474976710656) (h : Lib.parseUintB 32 s.data.toList = .range) (ev : Value) (w : World) (hv : w.cell? ⟨9, 0, none⟩ = some ev) (hev : ev = .nilIface ∨ ∃ te pe, ev = .iface te pe) :
    Calls Tryz.prog 182 #[.string s, .int .i64 10, .int .i64 32] w fun e w' => ∃ N, e = .returned (.tuple #[.int .u64 4294967295, .iface 265 (.pointer (some ⟨N, 0, none⟩))]) ∧ w.heap.size ≤ N ∧ w'.heap[N]? = some (.cells #[.string ⟨#[80, 97, 114, 115, 101, 85, 105, 110, 116]⟩, .string s, ev] 290 (0, 0)) ∧ Below w.heap.size w w' := Any.strconv_ParseUint_10_at32_range Tryz.laysPu14 s hlim h ev w hv hev
def Tryz.laysM288_ren : Go.Shelf.Ren := ⟨fun | 288 => 231 | 283 => 215 | 284 => 216 | 285 => 217 | 286 => 218 | 129 => 246 | 317 => 245 | 318 => 247 | 319 => 248 | 320 => 249 | 337 => 275 | 338 => 276 | n => n, fun | 37 => 97 | 53 => 105 | 3 => 3 | 4 => 4 | 9 => 9 | 171 => 234 | 0 => 0 | 173 => 237 | 212 => 260 | 51 => 23 | 5 => 5 | 20 => 20 | 213 => 261 | 46 => 196 | 232 => 311 | 233 => 312 | n => n, fun | 17 => 7 | 18 => 12 | 19 => 13 | n => n⟩
theorem Tryz.laysM288 : Go.Proofs.LaysM.n288 Tryz.prog Tryz.laysM288_ren := {
  mixed := by kernel_rfl
  f129 := Tryz.func246.trans (congrArg some (by kernel_rfl))
  f283 := Tryz.func215.trans (congrArg some (by kernel_rfl))
  f284 := Tryz.func216.trans (congrArg some (by kernel_rfl))
  f285 := Tryz.func217.trans (congrArg some (by kernel_rfl))
  f286 := Tryz.func218.trans (congrArg some (by kernel_rfl))
  f288 := Tryz.func231.trans (congrArg some (by kernel_rfl))
  f317 := Tryz.func245.trans (congrArg some (by kernel_rfl))
  f318 := Tryz.func247.trans (congrArg some (by kernel_rfl))
  f319 := Tryz.func248.trans (congrArg some (by kernel_rfl))
  f320 := Tryz.func249.trans (congrArg some (by kernel_rfl))
  f337 := Tryz.func275.trans (congrArg some (by kernel_rfl))
  f338 := Tryz.func276.trans (congrArg some (by kernel_rfl))
  t0 := Tryz.underlying0
  a0 := Tryz.isAgg0
  z0 := Tryz.sizeOf0
  v0 := Tryz.zeroValue0
  t3 := Tryz.underlying3
  a3 := Tryz.isAgg3
  z3 := Tryz.sizeOf3
  v3 := Tryz.zeroValue3
  t4 := Tryz.underlying4
  a4 := Tryz.isAgg4
  z4 := Tryz.sizeOf4
  v4 := Tryz.zeroValue4
  t5 := Tryz.underlying5
  a5 := Tryz.isAgg5
  z5 := Tryz.sizeOf5
  v5 := Tryz.zeroValue5
  t9 := Tryz.underlying9
  a9 := Tryz.isAgg9
  z9 := Tryz.sizeOf9
  v9 := Tryz.zeroValue9
  t20 := Tryz.underlying20
  a20 := Tryz.isAgg20
  z20 := Tryz.sizeOf20
  v20 := Tryz.zeroValue20
  t37 := Tryz.underlying97
  a37 := Tryz.isAgg97
  z37 := Tryz.sizeOf97
  v37 := Tryz.zeroValue97
  t46 := Tryz.underlying196
  a46 := Tryz.isAgg196
  z46 := Tryz.sizeOf196
  v46 := Tryz.zeroValue196
  t51 := Tryz.underlying23
  a51 := Tryz.isAgg23
  z51 := Tryz.sizeOf23
  v51 := Tryz.zeroValue23
  t53 := Tryz.underlying105
  a53 := Tryz.isAgg105
  z53 := Tryz.sizeOf105
  v53 := Tryz.zeroValue105
  t171 := Tryz.underlying234
  a171 := Tryz.isAgg234
  z171 := Tryz.sizeOf234
  v171 := Tryz.zeroValue234
  t173 := Tryz.underlying237
  a173 := Tryz.isAgg237
  z173 := Tryz.sizeOf237
  v173 := Tryz.zeroValue237
  t212 := Tryz.underlying260
  a212 := Tryz.isAgg260
  z212 := Tryz.sizeOf260
  v212 := Tryz.zeroValue260
  t213 := Tryz.underlying261
  a213 := Tryz.isAgg261
  z213 := Tryz.sizeOf261
  t232 := Tryz.underlying311
  a232 := Tryz.isAgg311
  z232 := Tryz.sizeOf311
  v232 := Tryz.zeroValue311
  t233 := Tryz.underlying312
  a233 := Tryz.isAgg312
  z233 := Tryz.sizeOf312
  v233 := Tryz.zeroValue312
  g17 := by kernel_rfl
  g18 := by kernel_rfl
  g19 := by kernel_rfl
  i0 := by kernel_rfl
  i3 := by kernel_rfl
  i4 := by kernel_rfl
  i5 := by kernel_rfl
  i9 := by kernel_rfl
  i20 := by kernel_rfl
  i37 := by kernel_rfl
  i46 := by kernel_rfl
  i51 := by kernel_rfl
  i53 := by kernel_rfl
  i171 := by kernel_rfl
  i173 := by kernel_rfl
  i212 := by kernel_rfl
  i232 := by kernel_rfl
  i233 := by kernel_rfl
  m17 := by kernel_rfl
  m18 := by kernel_rfl
  m19 := by kernel_rfl }
open Go.RowKit Go.Sort Go.Lib in
theorem Tryz.internal_strconv_AppendUint_10_small (B n u : Nat) (hu : u < 100) (sv : Value) (xs : List Value) (w : World) (hown : w.ownsRow B 5 1 sv n xs) (hBw : B ≤ w.heap.size) (hlim : n + 20 ≤ 140737488355328) :
    Calls Tryz.prog 231 #[sv, .int .u64 u, .int .i64 10] w fun e w' => ∃ v', e = .returned v' ∧ w'.ownsRow B 5 1 v' (n + (Lib.decDigits u).length) (xs ++ Lib.byteCells (Lib.decDigits u)) ∧ Below B w w' ∧ Lib.OthersKept 5 none w w' := Any.internal_strconv_AppendUint_10_small Tryz.laysM288 B n u hu sv xs w hown hBw hlim
open Go.RowKit Go.Sort Go.Lib in
theorem Tryz.internal_strconv_AppendUint_10_big (B n u : Nat) (hu : 100 ≤ u) (hu64 : u < 18446744073709551616) (sv : Value) (xs : List Value) (w : World) (hown : w.ownsRow B 5 1 sv n xs) (hBw : B ≤ w.heap.size) (hlim : n + 20 ≤ 140737488355328) (htab : Lib.TabIs Tryz.prog w "internal/strconv.uint64pow10" .u64 Lib.pow10Tab) :
    Calls Tryz.prog 231 #[sv, .int .u64 u, .int .i64 10] w fun e w' => ∃ v', e = .returned v' ∧ w'.ownsRow B 5 1 v' (n + (Lib.decDigits u).length) (xs ++ Lib.byteCells (Lib.decDigits u)) ∧ Below B w w' ∧ Lib.OthersKept 5 none w w' := Any.internal_strconv_AppendUint_10_big Tryz.laysM288 B n u hu hu64 sv xs w hown hBw hlim htab
end Go.Proofs
namespace Go.Proofs.YtpnnchpaaopdcaaGreatDoor
open Go Go.RowKit
def nm : Nat → List UInt8
  | 0 => [92, 65, 110, 115, 119, 101, 114, 101, 100]
  | 1 => [92, 70, 108, 97, 103, 103, 101, 100]
  | 2 => [92, 68, 101, 108, 101, 116, 101, 100]
  | 3 => [92, 83, 101, 101, 110]
  | _ => [92, 68, 114, 97, 102, 116]
def nmB (k : Nat) : ByteArray := ⟨(nm k).toArray⟩
def bit (s i : Nat) : Bool := s / 2 ^ i % 2 == 1
def sHas (s o : Nat) : Bool := (o % 32) &&& (255 - s) == 0
def seqOf (s k : Nat) : List Nat := (List.range k).filter (bit s)
def joined : List Nat → List UInt8
  | [] => []
  | [i] => nm i
  | i :: j :: l => nm i ++ 32 :: joined (j :: l)
def textOf (s : Nat) : List UInt8 := 40 :: joined (seqOf s 5) ++ [41]
theorem seqOf_succ (s k : Nat) : seqOf s (k + 1) = if bit s k then seqOf s k ++ [k] else seqOf s k := by
  unfold seqOf
  rw [List.range_succ, List.filter_append]
  by_cases h : bit s k <;> simp [h]
theorem seqOf_prefix (s : Nat) {j k : Nat} (h : j ≤ k) : seqOf s j <+: seqOf s k := by
  induction k with
  | zero => obtain rfl : j = 0 := by omega
            exact List.prefix_refl _
  | succ k ih =>
    by_cases e : j = k + 1
    · subst e; exact List.prefix_refl _
    · refine (ih (by omega)).trans ?_
      rw [seqOf_succ]; split
      · exact List.prefix_append _ _
      · exact List.prefix_refl _
theorem seqOf_step {s k : Nat} (hk : k < 5) (hb : bit s k = true) : seqOf s k ++ [k] <+: seqOf s 5 := by
  have h := seqOf_prefix s (show k + 1 ≤ 5 by omega)
  rwa [seqOf_succ, if_pos hb] at h
theorem joined_snoc (l : List Nat) (x : Nat) : joined (l ++ [x]) = if l = [] then nm x else joined l ++ 32 :: nm x := by
  induction l with
  | nil => rfl
  | cons i l ih =>
    cases l with
    | nil => rfl
    | cons j l =>
      rw [if_neg (by simp)] at ih
      rw [if_neg (by simp)]
      show nm i ++ 32 :: joined (j :: l ++ [x]) = (nm i ++ 32 :: joined (j :: l)) ++ 32 :: nm x
      rw [ih]; simp
theorem nm_le (i : Nat) : (nm i).length ≤ 9 ∧ 5 ≤ (nm i).length := by
  unfold nm; split <;> simp
theorem joined_le (l : List Nat) : (joined l).length ≤ 10 * l.length := by
  induction l with
  | nil => simp [joined]
  | cons i l ih =>
    cases l with
    | nil => simp only [joined, List.length_cons, List.length_nil]; have := nm_le i; omega
    | cons j l => simp only [joined, List.length_append, List.length_cons] at ih ⊢; have := nm_le i; omega
theorem joined_pos (i : Nat) (l : List Nat) : 5 ≤ (joined (i :: l)).length := by
  cases l with
  | nil => exact (nm_le i).2
  | cons j l => simp only [joined, List.length_append]; have := nm_le i; omega
theorem seqOf_len (s k : Nat) : (seqOf s k).length ≤ k := by
  have := List.length_filter_le (bit s) (List.range k); simpa [seqOf] using this
theorem has_bit (s i : Nat) (hs : s < 256) (hi : i < 5) : sHas s (2 ^ i) = bit s i := by
  have : ∀ i < 5, ∀ s < 256, sHas s (2 ^ i) = bit s i := by decide +kernel
  exact this i hi s hs
def lowerB (c : UInt8) : UInt8 := if 65 ≤ c ∧ c ≤ 90 then c + 32 else c
def alikeB (a b : List UInt8) : Bool := a.map lowerB == b.map lowerB
def flagOf (l : List UInt8) : Nat :=
  if alikeB l (nm 0) then 1 else if alikeB l (nm 1) then 2 else if alikeB l (nm 2) then 4 else if alikeB l (nm 3) then 8 else if alikeB l (nm 4) then 16 else 0
def splitB (c : UInt8) : List UInt8 → List (List UInt8)
  | [] => [[]]
  | x :: r => if x = c then [] :: splitB c r else match splitB c r with
    | [] => [[x]]
    | h :: t => (x :: h) :: t
def ps : List (List UInt8) → Nat → Option Nat
  | [], acc => some acc
  | w :: ws, acc => if flagOf w = 0 then none else ps ws (acc ||| flagOf w)
theorem splitB_ne (c : UInt8) (l : List UInt8) : splitB c l ≠ [] := by
  cases l with
  | nil => simp [splitB]
  | cons x r => unfold splitB; split
                · simp
                · split <;> simp
theorem splitB_none {c : UInt8} {l : List UInt8} (h : ∀ x ∈ l, x ≠ c) : splitB c l = [l] := by
  induction l with
  | nil => rfl
  | cons x r ih =>
    unfold splitB
    rw [if_neg (h x (by simp)), ih (fun y hy => h y (by simp [hy]))]
theorem splitB_some {c : UInt8} {a b : List UInt8} (h : ∀ x ∈ a, x ≠ c) : splitB c (a ++ c :: b) = a :: splitB c b := by
  induction a with
  | nil => show splitB c (c :: b) = _; simp only [splitB, if_true, List.nil_append]
  | cons x r ih =>
    show splitB c (x :: (r ++ c :: b)) = _
    rw [splitB, if_neg (h x (by simp)), ih (fun y hy => h y (by simp [hy]))]
structure Keeps (T : TypeId → Prop) (cap : Nat → Prop) (D : Nat) (W W' : World) : Prop where
  size : W.heap.size ≤ W'.heap.size
  same : ∀ (k : Nat) (o : Obj), W.heap[k]? = some o → (cap k ∨ (D ≤ k ∧ ∀ c e fz, T e → o ≠ .cells c e fz)) → W'.heap[k]? = some o
theorem Keeps.refl (T cap D) (W : World) : Keeps T cap D W W := ⟨Nat.le_refl _, fun _ _ h _ => h⟩
theorem Keeps.trans {T cap D} {A B C : World} (h : Keeps T cap D A B) (k : Keeps T cap D B C) : Keeps T cap D A C :=
  ⟨Nat.le_trans h.size k.size, fun i o hi hp => k.same i o (h.same i o hi hp) hp⟩
theorem Keeps.alloc (T cap D) (W : World) (o : Obj) : Keeps T cap D W (W.alloc o) :=
  ⟨by simp, fun k o' hk _ => (Below.heap_alloc W o k (Array.getElem?_eq_some_iff.1 hk).1).trans hk⟩
theorem Keeps.putObj (T) {cap : Nat → Prop} {D : Nat} (W : World) (l : Nat) (o' : Obj) (hc : ¬ cap l) (hD : l < D) : Keeps T cap D W (W.putObj l o') :=
  ⟨by simp, fun k _ hk hp => by
    by_cases e : k = l
    · subst e
      rcases hp with h | ⟨h, _⟩
      · exact absurd h hc
      · omega
    · exact (World.putObj_heap_other e).trans hk⟩
theorem Keeps.setCell (T) {cap : Nat → Prop} {D : Nat} (W : World) (a : Addr) (v : Value) (hc : ¬ cap a.block) (hD : a.block < D) : Keeps T cap D W (W.setCell a v) :=
  ⟨by show W.heap.size ≤ (W.heap.modify _ _).size; rw [Array.size_modify]; exact Nat.le_refl _, fun k _ hk hp => by
    by_cases e : k = a.block
    · subst e
      rcases hp with h | ⟨h, _⟩
      · exact absurd h hc
      · omega
    · exact (Below.heap_setCell W a v k e).trans hk⟩
theorem Keeps.boxed {T cap D} {W W' : World} (h : Keeps T cap D W W') {B : Nat} {t : TypeId} {v : Value} (hb : Boxed W B t v) (hp : cap B ∨ (D ≤ B ∧ ¬ T t)) : Boxed W' B t v :=
  h.same B _ hb (hp.imp id fun hp => ⟨hp.1, fun c e fz he e2 => (by cases e2; exact hp.2 he)⟩)
theorem Keeps.of_below {T cap D} {W W' : World} (h : Below W.heap.size W W') : Keeps T cap D W W' :=
  ⟨h.size, fun k o hk _ => (h.block k (Array.getElem?_eq_some_iff.1 hk).1).trans hk⟩
theorem Keeps.mono {T T' : TypeId → Prop} {cap cap' : Nat → Prop} {D D' : Nat} {W W' : World} (h : Keeps T cap D W W') (hT : ∀ e, T e → T' e) (hD : D ≤ D')
    (hc : ∀ k o, W.heap[k]? = some o → cap' k → cap k ∨ (D ≤ k ∧ ∀ c e fz, T e → o ≠ .cells c e fz)) : Keeps T' cap' D' W W' :=
  ⟨h.size, fun k o hk hp => h.same k o hk (by
    rcases hp with hp | ⟨h1, h2⟩
    · exact hc k o hk hp
    · exact .inr ⟨Nat.le_trans hD h1, fun c e fz he => h2 c e fz (hT e he)⟩)⟩
structure Itself (T0 : TypeId → Prop) (D : Nat) (A B : World) : Prop where
  os : B.os = A.os
  tape : B.tape = A.tape
  output : B.output = A.output
  size : A.heap.size ≤ B.heap.size
  below : ∀ k, k < D → B.heap[k]? = A.heap[k]?
  same : ∀ (k : Nat) (c : Array Value) (e : TypeId) (fz : Nat × Nat), ¬ T0 e → A.heap[k]? = some (.cells c e fz) → B.heap[k]? = some (.cells c e fz)
theorem Itself.refl (T0 D) (A : World) : Itself T0 D A A := ⟨rfl, rfl, rfl, Nat.le_refl _, fun _ _ => rfl, fun _ _ _ _ _ h => h⟩
theorem Itself.trans {T0 D} {A B C : World} (h : Itself T0 D A B) (k : Itself T0 D B C) : Itself T0 D A C :=
  ⟨k.os.trans h.os, k.tape.trans h.tape, k.output.trans h.output, Nat.le_trans h.size k.size, fun i hi => (k.below i hi).trans (h.below i hi), fun i c e fz he hi => k.same i c e fz he (h.same i c e fz he hi)⟩
theorem Itself.alloc (T0) {D : Nat} (W : World) (o : Obj) (hD : D ≤ W.heap.size) : Itself T0 D W (W.alloc o) :=
  ⟨rfl, rfl, rfl, by simp, fun k hk => Below.heap_alloc W o k (by omega), fun k c e fz _ hk => (Below.heap_alloc W o k (Array.getElem?_eq_some_iff.1 hk).1).trans hk⟩
theorem Itself.putObj (T0) {D : Nat} (W : World) (l : Nat) (o o' : Obj) (hD : D ≤ l) (hl : W.heap[l]? = some o) (ho : o.isCells = false) : Itself T0 D W (W.putObj l o') :=
  ⟨rfl, rfl, rfl, by simp, fun k hk => World.putObj_heap_other (by omega), fun k c e fz _ hk => by
    by_cases e2 : k = l
    · subst e2; rw [hl] at hk; cases hk; cases ho
    · exact (World.putObj_heap_other e2).trans hk⟩
theorem Itself.mono {T0 T0' : TypeId → Prop} {D D' : Nat} {A B : World} (h : Itself T0 D A B) (hT : ∀ e, T0 e → T0' e) (hD : D' ≤ D) : Itself T0' D' A B :=
  ⟨h.os, h.tape, h.output, h.size, fun k hk => h.below k (by omega), fun k c e fz he => h.same k c e fz (fun x => he (hT e x))⟩
theorem Itself.boxed {T0 D} {A B : World} (h : Itself T0 D A B) {k : Nat} {t : TypeId} {v : Value} (hb : Boxed A k t v) (hp : k < D ∨ ¬ T0 t) : Boxed B k t v := by
  rcases hp with hp | hp
  · exact (h.below k hp).trans hb
  · exact h.same k _ _ _ hp hb
theorem Itself.toBelow {T0 D} {A B : World} (h : Itself T0 D A B) : Below D A B := ⟨h.os, h.tape, h.output, h.size, h.below⟩
def Iter {α : Type} (P : Program) (g : Nat) (lb : Array Value) (encs : α → Array Value) (T0 : TypeId → Prop) (cap : Nat → Prop) (capW : World → Prop)
    (step : List α → α → Prop) (S Sp : List α → Prop) : Prop :=
  ∀ (l : Nat) (T : TypeId → Prop) (J Jx : List α → World → Prop) (W : World), capW W → (∀ e, T e → ¬ T0 e) →
    (∀ s A B, J s A → Itself T0 W.heap.size A B → J s B) → (∀ s A B, Jx s A → Itself T0 W.heap.size A B → Jx s B) →
    (∀ pre x W1, J pre W1 → step pre x → YieldAt Fence.wide 0 P l (encs x) W1 fun e W' =>
      Keeps T cap W.heap.size W1 W' ∧ ((e = .returned (.bool true) ∧ J (pre ++ [x]) W') ∨ (e = .returned (.bool false) ∧ Jx (pre ++ [x]) W'))) →
    J [] W →
    Calls P g (#[.func (.yield l) #[] #[]] ++ lb) W fun e W' => (∃ v, e = .returned v) ∧ ((∃ xs, S xs ∧ J xs W') ∨ (∃ pre, Sp pre ∧ Jx pre W'))
theorem RoundIn.any {n m : Nat} {P : Program} {l f : Nat} {tmps : Array Value} {assign body : Code} {w : World} {R : Ending → World → Prop}
    (h : RoundIn Fence.wide n P l f tmps assign body w R) : RoundIn Fence.wide m P l f tmps assign body w R := ⟨h.1, fun c cs _ => h.2 c cs (room_wide _)⟩
theorem RoundIn.inL {n m : Nat} {P : Program} {l f : Nat} {tmps : Array Value} {assign body : Code} {w : World} {R : Ending → World → Prop} (k : Nat)
    (h : RoundIn Fence.wide n P l f tmps assign body w R) : RoundIn (Fence.wide.inRound k) m P l f tmps assign body w R := RoundIn.any h
def bodyOf {α : Type} (T : TypeId → Prop) (cap : Nat → Prop) (D : Nat) (I : List α → World → Prop) (Ix : Code → List α → World → Prop) (xs : List α) (W : World) : Exit → Act → World → Prop
  | .normal, _, W' => Keeps T cap D W W' ∧ I xs W'
  | .ret, _, W' => Keeps T cap D W W' ∧ Ix .ret xs W'
  | .exit id, _, W' => Keeps T cap D W W' ∧ Ix (.exit id) xs W'
  | .goto t, _, W' => Keeps T cap D W W' ∧ Ix (.goto t) xs W'
  | .panic _, _, _ => False
  | .outgrown, _, _ => False
variable {n : Nat} {P : Program}
set_option maxHeartbeats 1000000 in
theorem wpIn_rangeIter {α : Type} {g : Operand} {ps : Array Tmp} {assign body : Code} {Q : Exit → Act → World → Prop} {a : Act} {w : World}
    {gf : Nat} {lb : Array Value} (hg : a.eval g = .func (.func gf) #[] lb) (eg : ∀ args w, (callFunc gf args).run P w = .ok (.enter gf args) w)
    {encs : α → Array Value} {T0 : TypeId → Prop} {cap : Nat → Prop} {capW : World → Prop} {step : List α → α → Prop} {S Sp : List α → Prop}
    (hit : Iter P gf lb encs T0 cap capW step S Sp) (T : TypeId → Prop) (hT : ∀ e, T e → ¬ T0 e) (hps : ∀ x, (encs x).size = ps.size)
    (hcap : ∀ k, cap k → k < w.heap.size) (hcW : ∀ W, Below w.heap.size w W → capW W)
    (I : List α → World → Prop) (Ix : Code → List α → World → Prop)
    (hI : ∀ s A B, I s A → Itself T0 w.heap.size A B → I s B) (hIx : ∀ c s A B, Ix c s A → Itself T0 w.heap.size A B → Ix c s B) (h0 : I [] w)
    (hround : ∀ (l : Nat) (pre : List α) (x : α) (W : World), w.heap.size ≤ l → I pre W → step pre x →
      assign.wpIn (Fence.wide.inRound l) 0 P (Exit.then (fun a₁ W₁ => Keeps T cap w.heap.size W W₁ ∧ (∀ W₂, Itself T0 w.heap.size W₁ W₂ → W₂.heap.size = W₁.heap.size → (∃ r, W₂.heap[l]? = some (.loop r)) →
        (∀ k, k ≠ l → W₂.heap[k]? = W₁.heap[k]?) → body.wpIn (Fence.wide.inRound l) 0 P (bodyOf T cap w.heap.size I Ix (pre ++ [x]) W₂) a₁ W₂)) (fun _ _ _ => False))
        { tmps := (ps.zip (encs x)).foldl (fun t (p, v) => t.setIfInBounds p v) a.tmps, defers := [] } W)
    (hdone : ∀ (D : Nat) (xs : List α) (W : World), w.heap.size ≤ D → S xs → I xs W → W.heap[D]? = some (.deferred (some [])) → Q .normal { a with defers := { target := .collected D, args := #[] } :: a.defers } W)
    (hstop : ∀ (D : Nat) (c : Code) (pre : List α) (W : World), w.heap.size ≤ D → Sp pre → Ix c pre W → W.heap[D]? = some (.deferred (some [])) →
      c.wpIn Fence.wide n P Q { a with defers := { target := .collected D, args := #[] } :: a.defers } W) :
    (Code.rangeFunc g ps assign body).wpIn Fence.wide n P Q a w := by
  refine wpIn_rangeFunc fun fn hfn => ?_
  obtain ⟨rec, hrec⟩ : ∃ rec : LoopState → Option Code → Loop, rec = fun st pe => { state := st, pending := pe, fn, tmps := a.tmps, params := ps, assign, body, defers := w.heap.size } := ⟨_, rfl⟩
  obtain ⟨W1, hW1⟩ : ∃ W1, (w.alloc (.deferred (some []))).alloc (.loop (rec .ready none)) = W1 := ⟨_, rfl⟩
  have hsz : W1.heap.size = w.heap.size + 2 := by rw [← hW1]; simp
  have hI01 : Itself T0 w.heap.size w W1 := by
    rw [← hW1]; exact (Itself.alloc T0 w _ (Nat.le_refl _)).trans (Itself.alloc T0 _ _ (by simp))
  have hL1 : W1.heap[w.heap.size + 1]? = some (.loop (rec .ready none)) := by
    rw [← hW1]; have := World.alloc_heap_new (w.alloc (.deferred (some []))) (.loop (rec .ready none)); rwa [World.size_alloc] at this
  have hK1 : W1.heap[w.heap.size]? = some (.deferred (some [])) := by
    rw [← hW1]; exact (Below.heap_alloc _ _ _ (by simp)).trans (World.alloc_heap_new w _)
  refine ⟨w.heap.size + 1, [{ target := .collected w.heap.size, args := #[] }], W1, { target := .fn (.func gf) lb, args := #[.func (.yield (w.heap.size + 1)) #[] #[]] }, W1, gf,
    #[.func (.yield (w.heap.size + 1)) #[] #[]] ++ lb, W1, ?_, ?_, fun _ _ => trivial, ?_, (fun h => by cases h), ?_⟩
  · rw [← hW1, hrec]; exact run_enterLoop_outer _ _ _ _ _
  · simp only [resolve, hg]
    simp [go_sem]
  · simp [invoke, go_sem, eg]
  refine callsIn_wide.2 ((hit (w.heap.size + 1) T
      (fun pre W => I pre W ∧ W.heap[w.heap.size + 1]? = some (.loop (rec .ready none)) ∧ W.heap[w.heap.size]? = some (.deferred (some [])))
      (fun pre W => ∃ c, Ix c pre W ∧ W.heap[w.heap.size + 1]? = some (.loop (rec .done (some c))) ∧ W.heap[w.heap.size]? = some (.deferred (some [])))
      W1 (hcW _ hI01.toBelow) hT ?_ ?_ ?_ ⟨hI _ _ _ h0 hI01, hL1, hK1⟩).mono ?_)
  · rintro s A B ⟨h1, h2, h3⟩ hAB
    rw [hsz] at hAB
    exact ⟨hI _ _ _ h1 (hAB.mono (fun _ h => h) (by omega)), (hAB.below _ (by omega)).trans h2, (hAB.below _ (by omega)).trans h3⟩
  · rintro s A B ⟨c, h1, h2, h3⟩ hAB
    rw [hsz] at hAB
    exact ⟨c, hIx c _ _ _ h1 (hAB.mono (fun _ h => h) (by omega)), (hAB.below _ (by omega)).trans h2, (hAB.below _ (by omega)).trans h3⟩
  · -- one round
    rintro pre x W ⟨hi, hl, hk⟩ hst
    have hy := run_yield (P := P) (args := encs x) hl (by rw [hrec]; exact hps x)
    rw [hrec] at hy
    refine ⟨fn, _, assign, body, hy, roundIn_of_wpIn hfn (wpIn_mono (hround _ pre x W (by omega) hi hst) ?_)⟩
    rintro e a₁ Wa hq
    cases e with
    | normal =>
      obtain ⟨hka, hnext⟩ := hq
      have hnc : ¬ cap (w.heap.size + 1) := fun h => by have := hcap _ h; omega
      have hkeep : ∀ {X Y : World}, Keeps T cap w.heap.size X Y → X.heap[w.heap.size]? = some (.deferred (some [])) → Y.heap[w.heap.size]? = some (.deferred (some [])) :=
        fun h h' => h.same _ _ h' (.inr ⟨Nat.le_refl _, fun _ _ _ _ e => by cases e⟩)
      have hkeepL : ∀ {X Y : World} {r : Loop}, Keeps T cap w.heap.size X Y → X.heap[w.heap.size + 1]? = some (.loop r) → Y.heap[w.heap.size + 1]? = some (.loop r) :=
        fun h h' => h.same _ _ h' (.inr ⟨by omega, fun _ _ _ _ e => by cases e⟩)
      have hl1 := hkeepL hka hl
      have hk1 := hkeep hka hk
      refine ⟨_, run_beginRound hl1 (by rw [hrec]), ?_⟩
      have hlt : w.heap.size + 1 < Wa.heap.size := (Array.getElem?_eq_some_iff.1 hl1).1
      have hit2 : Itself T0 w.heap.size Wa (Wa.putObj (w.heap.size + 1) (.loop { rec .ready none with state := .busy })) := Itself.putObj T0 Wa _ _ _ (by omega) hl1 rfl
      have hl2 : (Wa.putObj (w.heap.size + 1) (.loop { rec .ready none with state := .busy })).heap[w.heap.size + 1]? = some (.loop { rec .ready none with state := .busy }) := World.putObj_heap_same hlt
      have hk2 : (Wa.putObj (w.heap.size + 1) (.loop { rec .ready none with state := .busy })).heap[w.heap.size]? = some (.deferred (some [])) := (World.putObj_heap_other (by omega)).trans hk1
      have hkp : ∀ {X : World} (o' : Obj), Keeps T cap W1.heap.size X (X.putObj (w.heap.size + 1) o') := fun o' => Keeps.putObj T _ _ o' hnc (by omega)
      have hup : ∀ {X Y : World}, Keeps T cap w.heap.size X Y → Keeps T cap W1.heap.size X Y := fun h => h.mono (fun _ h => h) (by omega) (fun _ _ _ h => .inl h)
      have hkW2 : Keeps T cap W1.heap.size W (Wa.putObj (w.heap.size + 1) (.loop { rec .ready none with state := .busy })) := (hup hka).trans (hkp _)
      have fin : ∀ (jump : Option Code) (W3 : World), Keeps T cap w.heap.size (Wa.putObj (w.heap.size + 1) (.loop { rec .ready none with state := .busy })) W3 →
          (Instr.endRound (w.heap.size + 1) jump).run P W3 = .ok (.bool jump.isNone) (W3.putObj (w.heap.size + 1) (.loop (rec (if jump.isNone then .ready else .done) jump))) ∧
          Itself T0 w.heap.size W3 (W3.putObj (w.heap.size + 1) (.loop (rec (if jump.isNone then .ready else .done) jump))) ∧
          (W3.putObj (w.heap.size + 1) (.loop (rec (if jump.isNone then .ready else .done) jump))).heap[w.heap.size + 1]? = some (.loop (rec (if jump.isNone then .ready else .done) jump)) ∧
          (W3.putObj (w.heap.size + 1) (.loop (rec (if jump.isNone then .ready else .done) jump))).heap[w.heap.size]? = some (.deferred (some [])) ∧
          Keeps T cap W1.heap.size W (W3.putObj (w.heap.size + 1) (.loop (rec (if jump.isNone then .ready else .done) jump))) := fun jump W3 hk3 => by
        have hl3 := hkeepL hk3 hl2
        have hk3' := hkeep hk3 hk2
        have he := run_endRound (P := P) jump hl3
        rw [hrec] at he ⊢
        refine ⟨he, Itself.putObj T0 W3 _ _ _ (by omega) hl3 rfl, World.putObj_heap_same (Array.getElem?_eq_some_iff.1 hl3).1, (World.putObj_heap_other (by omega)).trans hk3', ?_⟩
        have := (hkW2.trans (hup hk3)).trans (hkp (X := W3) (.loop (rec (if jump.isNone then .ready else .done) jump)))
        rw [hrec] at this
        exact this
      refine wpIn_mono (hnext _ hit2 (by simp) ⟨_, hl2⟩ (fun k hk => World.putObj_heap_other hk)) ?_
      · rintro e a3 W3 hp
        cases e with
        | normal =>
          obtain ⟨hk3, hi3⟩ := hp
          obtain ⟨hr, hits, hl4, hk4, hkk⟩ := fin none W3 hk3
          exact ⟨_, _, hr, hkk, .inl ⟨rfl, hI _ _ _ hi3 hits, hl4, hk4⟩⟩
        | ret =>
          obtain ⟨hk3, hi3⟩ := hp
          obtain ⟨hr, hits, hl4, hk4, hkk⟩ := fin (some .ret) W3 hk3
          exact ⟨_, _, hr, hkk, .inr ⟨rfl, .ret, hIx _ _ _ _ hi3 hits, hl4, hk4⟩⟩
        | exit id =>
          obtain ⟨hk3, hi3⟩ := hp
          obtain ⟨hr, hits, hl4, hk4, hkk⟩ := fin (some (.exit id)) W3 hk3
          exact ⟨_, _, hr, hkk, .inr ⟨rfl, .exit id, hIx _ _ _ _ hi3 hits, hl4, hk4⟩⟩
        | goto t =>
          obtain ⟨hk3, hi3⟩ := hp
          obtain ⟨hr, hits, hl4, hk4, hkk⟩ := fin (some (.goto t)) W3 hk3
          exact ⟨_, _, hr, hkk, .inr ⟨rfl, .goto t, hIx _ _ _ _ hi3 hits, hl4, hk4⟩⟩
        | panic ch => exact hp.elim
        | outgrown => exact hp.elim
    | exit id => exact hq.elim
    | goto t => exact hq.elim
    | ret => exact hq.elim
    | panic ch => exact hq.elim
    | outgrown => exact hq.elim
  · rintro e W2 ⟨⟨v, rfl⟩, (⟨xs, hS, hi, hl, hk⟩ | ⟨pre, hSp, c, hi, hl, hk⟩)⟩
    · refine ⟨none, _, by have := run_endLoop (P := P) hl (by rw [hrec]; simp); rw [hrec] at this; exact this, ?_⟩
      exact hdone _ xs _ (Nat.le_refl _) hS (hI _ _ _ hi (Itself.putObj T0 W2 _ _ _ (by omega) hl rfl)) ((World.putObj_heap_other (by omega)).trans hk)
    · refine ⟨some c, _, by have := run_endLoop (P := P) hl (by rw [hrec]; simp); rw [hrec] at this; exact this, ?_⟩
      exact hstop _ c pre _ (Nat.le_refl _) hSp (hIx c _ _ _ hi (Itself.putObj T0 W2 _ _ _ (by omega) hl rfl)) ((World.putObj_heap_other (by omega)).trans hk)
end Go.Proofs.YtpnnchpaaopdcaaGreatDoor
namespace Go.Proofs.YtpnnchpaaopdcaaGreatDoor
open Go Go.RowKit
theorem ret_b {a b : Bool} (h : a = b) : Ending.returned (.bool a) = .returned (.bool b) := by rw [h]
theorem has_c (s o : Nat) (hs : s < 256) (ho : o < 256) (w : World) : Calls Tryz.prog 126 #[.int .u8 s, .int .u8 o] w fun e w' => e = .returned (.bool (sHas s o)) ∧ w = w' := by
  go_enter Tryz.func126, Tryz.ntmps126
  go_wp2
  go_ret
  refine ⟨ret_b ?_, rfl⟩
  show (bits BinOp.andNot IntKind.u8 ((o : Int) % 32) s == 0) = _
  have h1 : o % 32 < 256 := by omega
  have e1 : ((o : Int) % 32) = ((o % 32 : Nat) : Int) := by omega
  rw [e1, u8_andNot_nat _ _ h1 hs]
  unfold sHas
  rw [Bool.eq_iff_iff]; simp only [beq_iff_eq]; omega
theorem has_bit_c (s i : Nat) (hs : s < 256) (hi : i < 5) (n : Int) (hn : n = ((2 ^ i : Nat) : Int)) (w : World) : Calls Tryz.prog 126 #[.int .u8 s, .int .u8 n] w fun e w' => e = .returned (.bool (bit s i)) ∧ w = w' := by
  subst hn
  have h2 : 2 ^ i < 256 := by
    have : ∀ i < 5, 2 ^ i < 256 := by decide
    exact this i hi
  rw [← has_bit s i hs hi]
  exact has_c s (2 ^ i) hs h2 w
theorem rbit_c (s i : Nat) (hs : s < 256) (hi : i < 5) (w : World) : Calls Tryz.prog 114 #[.int .u8 s, .int .i64 i] w fun e w' => e = .returned (.bool (bit s i)) ∧ w = w' := by
  go_enter Tryz.func114, Tryz.ntmps114
  go_wp2
  go_ret
  refine ⟨ret_b ?_, rfl⟩
  unfold bit
  have e : ((s : Int) / 2 ^ ((i : Int)).toNat).tmod 2 = ((s / 2 ^ i % 2 : Nat) : Int) := by
    rw [Int.toNat_natCast]
    have : ((s : Int) / 2 ^ i) = ((s / 2 ^ i : Nat) : Int) := by simp
    rw [this, Int.tmod_eq_emod_of_nonneg (Int.natCast_nonneg _)]; simp
  rw [Bool.eq_iff_iff]
  simp only [beq_iff_eq]
  show ((s : Int) / 2 ^ ((i : Int)).toNat).tmod 2 = 1 ↔ _
  rw [e]; omega
theorem rnames_c (w : World) : Calls Tryz.prog 145 #[] w fun e w' => e = .returned (.slice (some ⟨w.heap.size, 0, none⟩) 5 5) ∧
    w.alloc (.cells #[.string (nmB 0), .string (nmB 1), .string (nmB 2), .string (nmB 3), .string (nmB 4)] 9) = w' := by
  go_enter Tryz.func145, Tryz.ntmps145
  go_wp2
  go_ret
  exact ⟨rfl, rfl⟩
def txt (l : List UInt8) : ByteArray := ⟨l.toArray⟩
theorem txt_append (a b : List UInt8) : txt a ++ txt b = txt (a ++ b) := by
  apply ByteArray.ext; simp [txt]
theorem txt_data (s : ByteArray) : txt s.data.toList = s := by cases s; simp [txt]
theorem txt_size (l : List UInt8) : (txt l).size = l.length := by simp [txt, ByteArray.size]
theorem isEmpty_txt {A : ByteArray} {l : List UInt8} (h : A = txt l) : A.toList.isEmpty = l.isEmpty := by
  subst h
  have : (txt l).toList = l := by rw [ByteArray.toList_eq]; simp [txt]
  rw [this]
abbrev namesRow : Obj := .cells #[.string (nmB 0), .string (nmB 1), .string (nmB 2), .string (nmB 3), .string (nmB 4)] 9
theorem namesRow_cell (w : World) {k : Nat} (hk : k < 5) : (w.alloc namesRow).cell? ⟨w.heap.size, k, none⟩ = some (.string (nmB k)) := by
  obtain h | h | h | h | h : k = 0 ∨ k = 1 ∨ k = 2 ∨ k = 3 ∨ k = 4 := by omega
  all_goals subst h; unfold World.cell?; rw [World.alloc_heap_new]; rfl
theorem byte_append (A : ByteArray) (c : UInt8) {l : List UInt8} (h : A = txt l) : A ++ ⟨#[c]⟩ = txt (l ++ [c]) := by
  subst h; exact txt_append l [c]
end Go.Proofs.YtpnnchpaaopdcaaGreatDoor
namespace Go.Proofs
open Go.Shelf
def Tryz.lays170_ren : Go.Shelf.Ren := ⟨fun | 170 => 154 | n => n, fun | 70 => 169 | 3 => 3 | 0 => 0 | 72 => 171 | 37 => 97 | 5 => 5 | n => n, fun | n => n⟩
theorem Tryz.lays170 : Go.Proofs.Lays.n170 Tryz.prog Tryz.lays170_ren := {
  mixed := by kernel_rfl
  f170 := Tryz.func154.trans (congrArg some (by kernel_rfl))
  t0 := Tryz.underlying0
  a0 := Tryz.isAgg0
  z0 := Tryz.sizeOf0
  v0 := Tryz.zeroValue0
  t3 := Tryz.underlying3
  a3 := Tryz.isAgg3
  z3 := Tryz.sizeOf3
  v3 := Tryz.zeroValue3
  t37 := Tryz.underlying97
  a37 := Tryz.isAgg97
  z37 := Tryz.sizeOf97
  v37 := Tryz.zeroValue97
  t70 := Tryz.underlying169
  a70 := Tryz.isAgg169
  z70 := Tryz.sizeOf169
  v70 := Tryz.zeroValue169
  t72 := Tryz.underlying171
  a72 := Tryz.isAgg171
  z72 := Tryz.sizeOf171
  v72 := Tryz.zeroValue171 }
def Tryz.lays169_ren : Go.Shelf.Ren := ⟨fun | 169 => 156 | n => n, fun | 70 => 169 | 9 => 9 | 0 => 0 | 72 => 171 | 37 => 97 | 127 => 220 | 3 => 3 | 5 => 5 | n => n, fun | n => n⟩
theorem Tryz.lays169 : Go.Proofs.Lays.n169 Tryz.prog Tryz.lays169_ren := {
  mixed := by kernel_rfl
  f169 := Tryz.func156.trans (congrArg some (by kernel_rfl))
  t0 := Tryz.underlying0
  a0 := Tryz.isAgg0
  z0 := Tryz.sizeOf0
  v0 := Tryz.zeroValue0
  t3 := Tryz.underlying3
  a3 := Tryz.isAgg3
  z3 := Tryz.sizeOf3
  v3 := Tryz.zeroValue3
  t9 := Tryz.underlying9
  a9 := Tryz.isAgg9
  z9 := Tryz.sizeOf9
  v9 := Tryz.zeroValue9
  t37 := Tryz.underlying97
  a37 := Tryz.isAgg97
  z37 := Tryz.sizeOf97
  v37 := Tryz.zeroValue97
  t70 := Tryz.underlying169
  a70 := Tryz.isAgg169
  z70 := Tryz.sizeOf169
  v70 := Tryz.zeroValue169
  t72 := Tryz.underlying171
  a72 := Tryz.isAgg171
  z72 := Tryz.sizeOf171
  v72 := Tryz.zeroValue171
  t127 := Tryz.underlying220
  a127 := Tryz.isAgg220
  z127 := Tryz.sizeOf220
  v127 := Tryz.zeroValue220 }
theorem Tryz.Builder_Extra_169 : Builder.Extra Tryz.prog Tryz.lays169_ren := {
  sizeBuilder := by kernel_rfl
  liesBuilder := by kernel_rfl
  t5 := Tryz.underlying5
  a5 := Tryz.isAgg5
  z5 := Tryz.sizeOf5
  v5 := Tryz.zeroValue5
  infoByte := by kernel_rfl
  cellsByte := by kernel_rfl
  sizeByte := by kernel_rfl
  neB5 := by decide }
open Go.RowKit in
theorem Tryz.Builder_Len_f (B b : Nat) (bs : List Value) (w : World) (h : Lib.IsBuilderF 171 5 B b bs w) :
    Calls Tryz.prog 154 #[.pointer (some ⟨b, 0, none⟩)] w fun e w' => e = .returned (.int .i64 bs.length) ∧ w' = w := Any.Builder_Len_f Tryz.lays170 B b bs w h
open Go.RowKit in
theorem Tryz.Builder_String_any_k (B b : Nat) (l : List UInt8) (w : World) (h : Lib.IsBuilderF 171 5 B b (Lib.byteCells l) w) (hBw : B ≤ w.heap.size) :
    Calls Tryz.prog 156 #[.pointer (some ⟨b, 0, none⟩)] w fun e w' => e = .returned (.string ⟨l.toArray⟩) ∧ (Lib.IsBuilderF 171 5 B b (Lib.byteCells l) w' ∧ Below B w w' ∧ Lib.OthersKept 5 (some b) w w') := Any.Builder_String_any_k Tryz.lays169 Tryz.Builder_Extra_169 B b l w h hBw
def Tryz.lays219_ren : Go.Shelf.Ren := ⟨fun | 219 => 219 | 217 => 140 | 225 => 250 | 224 => 251 | 267 => 252 | 266 => 186 | 314 => 277 | n => n, fun | 9 => 9 | 3 => 3 | 4 => 4 | 5 => 5 | 46 => 196 | 146 => 193 | 51 => 23 | n => n, fun | 1 => 5 | n => n⟩
theorem Tryz.lays219 : Go.Proofs.Lays.n219 Tryz.prog Tryz.lays219_ren := {
  mixed := by kernel_rfl
  f217 := Tryz.func140.trans (congrArg some (by kernel_rfl))
  f219 := Tryz.func219.trans (congrArg some (by kernel_rfl))
  f224 := Tryz.func251.trans (congrArg some (by kernel_rfl))
  f225 := Tryz.func250.trans (congrArg some (by kernel_rfl))
  f266 := Tryz.func186.trans (congrArg some (by kernel_rfl))
  f267 := Tryz.func252.trans (congrArg some (by kernel_rfl))
  f314 := Tryz.func277.trans (congrArg some (by kernel_rfl))
  t3 := Tryz.underlying3
  a3 := Tryz.isAgg3
  z3 := Tryz.sizeOf3
  v3 := Tryz.zeroValue3
  t4 := Tryz.underlying4
  a4 := Tryz.isAgg4
  z4 := Tryz.sizeOf4
  v4 := Tryz.zeroValue4
  t5 := Tryz.underlying5
  a5 := Tryz.isAgg5
  z5 := Tryz.sizeOf5
  v5 := Tryz.zeroValue5
  t9 := Tryz.underlying9
  a9 := Tryz.isAgg9
  z9 := Tryz.sizeOf9
  v9 := Tryz.zeroValue9
  t46 := Tryz.underlying196
  a46 := Tryz.isAgg196
  z46 := Tryz.sizeOf196
  v46 := Tryz.zeroValue196
  t51 := Tryz.underlying23
  a51 := Tryz.isAgg23
  z51 := Tryz.sizeOf23
  v51 := Tryz.zeroValue23
  t146 := Tryz.underlying193
  a146 := Tryz.isAgg193
  z146 := Tryz.sizeOf193
  v146 := Tryz.zeroValue193
  g1 := by kernel_rfl }
open Go.RowKit Go.Lib in
theorem Tryz.stringslite_Index_one (s : ByteArray) (c : UInt8) (w : World) :
    Calls Tryz.prog 219 #[.string s, .string ⟨#[c]⟩] w fun e w' => e = .returned (.int .i64 (Lib.indexByte s.data.toList c)) ∧ w' = w := Any.stringslite_Index_one Tryz.lays219 s c w
end Go.Proofs
namespace Go.Proofs.YtpnnchpaaopdcaaGreatDoor
open Go Go.RowKit
theorem ba_len (s : ByteArray) : s.data.toList.length = s.size := by rw [Array.length_toList]; rfl
theorem indexByte_off {l : List UInt8} {c : UInt8} (h : ∀ x ∈ l, x ≠ c) : Lib.indexByte l c = -1 := by
  induction l with
  | nil => rfl
  | cons x r ih =>
    have h1 := ih (fun y hy => h y (by simp [hy]))
    have h2 : (x == c) = false := by simpa using h x (by simp)
    unfold Lib.indexByte
    rw [h2, h1]; rfl
theorem indexByte_on {p r : List UInt8} {c : UInt8} (h : ∀ x ∈ p, x ≠ c) : Lib.indexByte (p ++ c :: r) c = p.length := by
  induction p with
  | nil => unfold Lib.indexByte; simp
  | cons x p ih =>
    have h1 := ih (fun y hy => h y (by simp [hy]))
    have h2 : (x == c) = false := by simpa using h x (by simp)
    show Lib.indexByte (x :: (p ++ c :: r)) c = _
    unfold Lib.indexByte
    rw [h2, h1]
    have : ((p.length : Int) == -1) = false := qF (by omega)
    rw [this]; simp
theorem at_byte (c : UInt8) (l : List UInt8) : (∀ x ∈ l, x ≠ c) ∨ ∃ p r, l = p ++ c :: r ∧ ∀ x ∈ p, x ≠ c := by
  induction l with
  | nil => exact .inl (by simp)
  | cons x l ih =>
    by_cases e : x = c
    · subst e; exact .inr ⟨[], l, rfl, by simp⟩
    · rcases ih with h | ⟨p, r, h1, h2⟩
      · exact .inl (by intro y hy; rcases List.mem_cons.1 hy with h3 | h3
                       · rw [h3]; exact e
                       · exact h y h3)
      · exact .inr ⟨x :: p, r, by rw [h1]; rfl, by intro y hy; rcases List.mem_cons.1 hy with h3 | h3
                                                   · rw [h3]; exact e
                                                   · exact h2 y h3⟩
theorem index_c (s : ByteArray) (c : UInt8) (n : Int) (hn : Lib.indexByte s.data.toList c = n) (w : World) : Calls Tryz.prog 219 #[.string s, .string ⟨#[c]⟩] w fun e w' => e = .returned (.int .i64 n) ∧ w = w' :=
  (Tryz.stringslite_Index_one s c w).mono fun _ _ ⟨h1, h2⟩ => ⟨by rw [← hn]; exact h1, h2.symm⟩
theorem extract_txt {s : ByteArray} {a b : Nat} {l : List UInt8} (h : (s.data.toList.take b).drop a = l) : s.extract a b = txt l := by
  apply ByteArray.ext
  apply Array.ext'
  subst h
  rw [Lib.extract_data]
  simp [txt, List.drop_take]
set_option maxRecDepth 100000 in
theorem cut0_none (s : ByteArray) (c : UInt8) (h : ∀ x ∈ s.data.toList, x ≠ c) (w : World) :
    Calls Tryz.prog 187 #[.string s, .string ⟨#[c]⟩] w fun e w' => e = .returned (.tuple #[.string s, .string ⟨#[]⟩, .bool false]) ∧ w = w' := by
  have HI := Lib.hid (index_c s c _ (indexByte_off h) w)
  clear h
  go_enter Tryz.func187, Tryz.ntmps187
  go_wp2_with fail
  refine HI.out.mono ?_
  rintro e w' ⟨rfl, rfl⟩
  go_wp2_with fail
  go_ret3
  exact ⟨rfl, rfl⟩
set_option maxRecDepth 100000 in
theorem cut0_some (s : ByteArray) (c : UInt8) (p r : List UInt8) (hs : s.size ≤ 9223372036854775806) (h : s.data.toList = p ++ c :: r) (hp : ∀ x ∈ p, x ≠ c) (w : World) :
    Calls Tryz.prog 187 #[.string s, .string ⟨#[c]⟩] w fun e w' => e = .returned (.tuple #[.string (txt p), .string (txt r), .bool true]) ∧ ∃ n, w' = w.drewN n := by
  have HI := Lib.hid (index_c s c (p.length : Int) (by rw [h]; exact indexByte_on hp) w)
  have hl : p.length < s.size := by rw [← ba_len, h]; simp
  have e1 : s.extract 0 p.length = txt p := extract_txt (by rw [h, List.take_left']; rfl; rfl)
  have e2 : s.extract (p.length + 1) s.size = txt r := extract_txt (by rw [← ba_len, h, List.take_of_length_le (Nat.le_refl _), List.drop_append]; simp)
  have E1 := Lib.hid e1
  have E2 := Lib.hid e2
  have hl1 : (p.length : Int) + 1 ≤ s.size := by omega
  clear h hp e1 e2
  go_enter Tryz.func187, Tryz.ntmps187
  go_wp2_with fail
  refine HI.out.mono ?_
  rintro e w' ⟨rfl, rfl⟩
  go_wp2_with fail
  go_quiet (fail)
  go_wp2_with fail
  go_ret3
  refine ⟨?_, nq, rfl⟩
  rw [← E1.out, ← E2.out]; rfl
theorem cut_none (s : ByteArray) (c : UInt8) (h : ∀ x ∈ s.data.toList, x ≠ c) (w : World) :
    Calls Tryz.prog 141 #[.string s, .string ⟨#[c]⟩] w fun e w' => e = .returned (.tuple #[.string s, .string ⟨#[]⟩, .bool false]) ∧ ∃ n, w' = w.drewN n := by
  have HI := Lib.hid (cut0_none s c h w)
  clear h
  go_enter Tryz.func141, Tryz.ntmps141
  go_wp2_with fail
  refine HI.out.mono ?_
  rintro e w' ⟨rfl, rfl⟩
  go_wp2_with fail
  go_ret3
  exact ⟨rfl, 0, rfl⟩
theorem cut_some (s : ByteArray) (c : UInt8) (p r : List UInt8) (hs : s.size ≤ 9223372036854775806) (h : s.data.toList = p ++ c :: r) (hp : ∀ x ∈ p, x ≠ c) (w : World) :
    Calls Tryz.prog 141 #[.string s, .string ⟨#[c]⟩] w fun e w' => e = .returned (.tuple #[.string (txt p), .string (txt r), .bool true]) ∧ ∃ n, w' = w.drewN n := by
  have HI := Lib.hid (cut0_some s c p r hs h hp w)
  clear h hp hs
  go_enter Tryz.func141, Tryz.ntmps141
  go_wp2_with fail
  refine HI.out.mono ?_
  rintro e w' ⟨rfl, hw⟩
  have HW := Lib.hid hw
  clear hw
  go_wp2_with fail
  go_ret3
  exact ⟨rfl, HW.out⟩
theorem below_drewN {B : Nat} {w W : World} (h : Below B w W) (n : Nat) : Below B w (W.drewN n) := ⟨h.os, h.tape, h.output, h.size, h.block⟩
theorem own_below {w w' : World} {B e size n : Nat} {v : Value} {xs : List Value} (h : w.ownsRow B e size v n xs) (hb : Below w.heap.size w w') : w'.ownsRow B e size v n xs := by
  refine ⟨h.1, ?_⟩
  rcases h.2 with hn | ⟨g, cap, cur, rfl, hg, hgg, rest⟩
  · exact .inl hn
  · exact .inr ⟨g, cap, cur, rfl, hg, by rw [hb.block g (Array.getElem?_eq_some_iff.1 hgg).1]; exact hgg, rest⟩
theorem own_form {w : World} {B e size n : Nat} {v : Value} {xs : List Value} (h : w.ownsRow B e size v n xs) : ∃ ad cp, v = .slice ad n cp := by
  rcases h.2 with ⟨rfl, rfl⟩ | ⟨g, cap, cur, rfl, _⟩
  · exact ⟨none, 0, rfl⟩
  · exact ⟨_, _, rfl⟩
attribute [local go_sem] Oper.semAt_some
@[local go_sem] theorem wide_fn (f : Nat) : Fence.wide.fn f = True := rfl
@[local go_sem] theorem wide_depth : Fence.wide.depth = none := rfl
def Names (W : World) : Prop := W.cell? ⟨6, 0, none⟩ = some (.string (nmB 0)) ∧ W.cell? ⟨6, 1, none⟩ = some (.string (nmB 1)) ∧ W.cell? ⟨6, 2, none⟩ = some (.string (nmB 2)) ∧
  W.cell? ⟨6, 3, none⟩ = some (.string (nmB 3)) ∧ W.cell? ⟨6, 4, none⟩ = some (.string (nmB 4))
theorem pow_mod {i : Nat} (hi : i < 5) : (2 : Int) ^ i % 256 = ((2 ^ i : Nat) : Int) := by
  obtain h | h | h | h | h : i = 0 ∨ i = 1 ∨ i = 2 ∨ i = 3 ∨ i = 4 := by omega
  all_goals subst h; rfl
theorem CallsIn.w {n : Nat} {P : Program} {f : FuncId} {args : Array Value} {w : World} {R R' : Ending → World → Prop} (h : Calls P f args w R) (hr : ∀ e w', R e w' → R' e w') : CallsIn Fence.wide n P f args w R' :=
  (callsIn_wide.2 h).mono hr
theorem CallsIn.wr {l n : Nat} {P : Program} {f : FuncId} {args : Array Value} {w : World} {R R' : Ending → World → Prop} (h : Calls P f args w R) (hr : ∀ e w', R e w' → R' e w') : CallsIn (Fence.wide.inRound l) n P f args w R' :=
  (CallsIn.inRound l (callsIn_wide.2 h)).mono hr
set_option maxRecDepth 100000 in
set_option maxHeartbeats 1000000 in
theorem flags1_iter (s Bs : Nat) (hs : s < 256) : Iter Tryz.prog 230 #[.pointer (some ⟨Bs, 0, none⟩)] (fun i : Nat => #[.int .u8 ((2 : Int) ^ i % 256), .string (nmB i)])
    (fun _ => False) (fun k => k = Bs) (fun W => Names W ∧ Boxed W Bs 32 (.int .u8 s)) (fun pre x => pre ++ [x] <+: seqOf s 5) (fun xs => xs = seqOf s 5) (fun pre => pre <+: seqOf s 5) := by
  rintro l T J Jx W ⟨⟨c0, c1, c2, c3, c4⟩, hb⟩ hT hJ hJx hY h0
  refine (callsIn_wide (n := 3)).1 ?_
  refine callsIn_of_wp Tryz.func230 rfl trivial ?_
  simp only [Tryz.ntmps230, List.size_toArray, List.length_cons, List.length_nil, Nat.reduceAdd, Nat.reduceSub, Array.replicate_succ, Array.replicate_zero, List.push_toArray, List.append_toArray, List.nil_append, List.cons_append]
  have HJ := Lib.hid hJ
  have HX := Lib.hid hJx
  have HY := Lib.hid hY
  have HS := Lib.hid hs
  clear hJ hJx hY hT hs
  gi_wp2
  clear c0 c1 c2 c3 c4
  gi_loopw [7] (fun i wr => ∃ k : Nat, k ≤ 5 ∧ i = .int .i64 k ∧ J (seqOf s k) wr ∧ Boxed wr Bs 32 (.int .u8 s)) (fun i _ => 5 - (intOf i).toNat)
  case atStart => exact ⟨0, by omega, rfl, h0, hb⟩
  case round =>
    obtain ⟨k, hk, rfl, hJk, hbk⟩ := hrel
    clear hb h0
    have cb := hbk.cell
    have HB := Lib.hid hbk
    have HK := Lib.hid hJk
    clear hbk hJk
    by_cases hlt : k < 5
    · have hidx : ∀ w, (Instr.index 247 (.agg #[.string (nmB 0), .string (nmB 1), .string (nmB 2), .string (nmB 3), .string (nmB 4)]) (.int .i64 (k : Int))).run Tryz.prog w = .ok (.string (nmB k)) w := by
        obtain h | h | h | h | h : k = 0 ∨ k = 1 ∨ k = 2 ∨ k = 3 ∨ k = 4 := by omega
        all_goals subst h; exact fun w => by kernel_rfl
      by_cases hbit : bit s k = true
      · have HB2 := Lib.hid hbit
        clear hbit
        have hc : ∀ w, Calls Tryz.prog 126 #[.int .u8 s, .int .u8 ((2 : Int) ^ k % 256)] w fun e w' => e = .returned (.bool true) ∧ w = w' := fun w => by
          have := has_bit_c s k HS.out hlt _ (pow_mod hlt) w
          rwa [HB2.out] at this
        have HC := Lib.hid hc
        clear hc
        obtain ⟨fn, tmps, assign, body, hy, hR⟩ := HY.out _ k wr HK.out (seqOf_step hlt HB2.out)
        have HR := Lib.hid (RoundIn.any (m := 2) hR)
        clear hR
        gi_wp2_with (gi_at_call 126; refine CallsIn.w (HC.out _) ?_; rintro e w' ⟨rfl, rfl⟩)
        refine HR.out.mono ?_
        rintro e w2 ⟨hk2, (⟨rfl, hJ2⟩ | ⟨rfl, hx2⟩)⟩
        · have HB3 := Lib.hid (hk2.boxed HB.out (.inl rfl))
          have HJ2 := Lib.hid hJ2
          clear hJ2 hk2
          gi_wp2_with fail
          go_roundw
          case rel => exact ⟨k + 1, by omega, by go_num, by rw [seqOf_succ, if_pos HB2.out]; exact HJ2.out, HB3.out⟩
          case measure => simp [intOf]; omega
        · have HX2 := Lib.hid hx2
          clear hx2 hk2
          gi_wp2_with fail
          refine bodyPost_ret (results_none rfl _ _ _) rfl ?_
          exact ⟨⟨_, rfl⟩, .inr ⟨_, seqOf_step hlt HB2.out, HX2.out⟩⟩
      · have HB2 := Lib.hid (by simpa using hbit : bit s k = false)
        clear hbit
        have hc : ∀ w, Calls Tryz.prog 126 #[.int .u8 s, .int .u8 ((2 : Int) ^ k % 256)] w fun e w' => e = .returned (.bool false) ∧ w = w' := fun w => by
          have := has_bit_c s k HS.out hlt _ (pow_mod hlt) w
          rwa [HB2.out] at this
        have HC := Lib.hid hc
        clear hc
        gi_wp2_with (gi_at_call 126; refine CallsIn.w (HC.out _) ?_; rintro e w' ⟨rfl, rfl⟩)
        go_roundw
        case rel => exact ⟨k + 1, by omega, by go_num, by rw [seqOf_succ, HB2.out]; exact HK.out, HB.out⟩
        case measure => simp [intOf]; omega
    · obtain rfl : k = 5 := by omega
      gi_wp2_with fail
      go_end0
      exact ⟨⟨_, rfl⟩, .inl ⟨_, rfl, HK.out⟩⟩
end Go.Proofs.YtpnnchpaaopdcaaGreatDoor
namespace Go.Proofs.YtpnnchpaaopdcaaGreatDoor
open Go Go.RowKit Go.Shelf
attribute [local go_sem] Oper.semAt_some wide_fn wide_depth
theorem flags_c (s : Int) (w : World) : Calls Tryz.prog 195 #[.int .u8 s] w fun e w' => e = .returned (.func (.func 230) #[] #[.pointer (some ⟨w.heap.size, 0, none⟩)]) ∧ w.alloc (.cells #[.int .u8 s] 32) = w' := by
  go_enter Tryz.func195, Tryz.ntmps195
  go_wp2
  go_ret
  exact ⟨rfl, rfl⟩
theorem names_c (s : Int) (w : World) : Calls Tryz.prog 153 #[.int .u8 s] w fun e w' => e = .returned (.func (.func 194) #[] #[.pointer (some ⟨w.heap.size, 0, none⟩)]) ∧ w.alloc (.cells #[.int .u8 s] 32) = w' := by
  go_enter Tryz.func153, Tryz.ntmps153
  go_wp2
  go_ret
  exact ⟨rfl, rfl⟩
theorem Names.later {W W' : World} (h : Names W) (hb : Below (6 + 1) W W') : Names W' := by
  obtain ⟨c0, c1, c2, c3, c4⟩ := h
  have hc : ∀ j, W'.cell? ⟨6, j, none⟩ = W.cell? ⟨6, j, none⟩ := fun j => hb.cell (p := ⟨6, j, none⟩) (by show (6 : Nat) < 6 + 1; omega)
  exact ⟨(hc 0).trans c0, (hc 1).trans c1, (hc 2).trans c2, (hc 3).trans c3, (hc 4).trans c4⟩
theorem Names.lt {W : World} (h : Names W) : 6 < W.heap.size := by
  have h0 := h.1
  unfold World.cell? at h0
  apply Decidable.byContradiction
  intro hn
  rw [Array.getElem?_eq_none (by show W.heap.size ≤ 6; omega)] at h0
  simp at h0
set_option maxRecDepth 100000 in
set_option maxHeartbeats 2000000 in
theorem names1_iter (s Bs : Nat) (hs : s < 256) : Iter Tryz.prog 194 #[.pointer (some ⟨Bs, 0, none⟩)] (fun i : Nat => #[.string (nmB i)])
    (fun e => e = 68 ∨ e = 32) (fun k => k = Bs) (fun W => Names W ∧ Boxed W Bs 32 (.int .u8 s)) (fun pre x => pre ++ [x] <+: seqOf s 5) (fun xs => xs = seqOf s 5) (fun pre => pre <+: seqOf s 5) := by
  rintro l T J Jx W ⟨hN, hb⟩ hT hJ hJx hY h0
  refine (callsIn_wide (n := 3)).1 ?_
  refine callsIn_of_wp_marks Tryz.func194 rfl trivial ?_
  simp only [Tryz.ntmps194, List.size_toArray, List.length_cons, List.length_nil, Nat.reduceAdd, Nat.reduceSub, Array.replicate_succ, Array.replicate_zero, List.push_toArray, List.append_toArray, List.nil_append, List.cons_append]
  have HT := Lib.hid hT
  have HJ := Lib.hid hJ
  have HX := Lib.hid hJx
  have HY := Lib.hid hY
  have HS := Lib.hid hs
  have HN := Lib.hid hN
  have H0 := Lib.hid h0
  have cb := (hb.alloc (.cells #[.func (.yield l) #[] #[]] 68)).cell
  clear hT hJ hJx hY hs hN h0
  gi_wp2_with (gi_at_call 195; refine CallsIn.w (flags_c _ _) ?_; rintro e w' ⟨rfl, rfl⟩)
  have bF := (Boxed.new W 68 (.func (.yield l) #[] #[])).alloc (.cells #[.int .u8 s] 32)
  have bS := Boxed.new (W.alloc (.cells #[.func (.yield l) #[] #[]] 68)) 32 (.int .u8 s)
  rw [World.size_alloc] at bS
  have hBW : Below W.heap.size W ((W.alloc (.cells #[.func (.yield l) #[] #[]] 68)).alloc (.cells #[.int .u8 s] 32)) := ((Below.refl _ W).alloc (Nat.le_refl _) _).alloc (by simp) _
  have hit0 : Itself (fun e => e = 68 ∨ e = 32) W.heap.size W ((W.alloc (.cells #[.func (.yield l) #[] #[]] 68)).alloc (.cells #[.int .u8 s] 32)) := (Itself.alloc _ W _ (Nat.le_refl _)).trans (Itself.alloc _ _ _ (by simp))
  have hsz : ((W.alloc (.cells #[.func (.yield l) #[] #[]] 68)).alloc (.cells #[.int .u8 s] 32)).heap.size = W.heap.size + 2 := by simp
  obtain ⟨W0, hW0⟩ : ∃ W0, (W.alloc (.cells #[.func (.yield l) #[] #[]] 68)).alloc (.cells #[.int .u8 s] 32) = W0 := ⟨_, rfl⟩
  rw [hW0] at bF bS hBW hsz hit0 ⊢
  clear hW0 cb
  have hsub : ∀ {A B : World}, Itself (fun _ => False) W0.heap.size A B → Itself (fun e => e = 68 ∨ e = 32) W.heap.size A B := fun h => h.mono (fun _ h => h.elim) (by omega)
  refine wpIn_rangeIter (gf := 230) (lb := #[.pointer (some ⟨W.heap.size + 1, 0, none⟩)]) rfl (enters_of Tryz.func230 (by kernel_rfl) rfl) (flags1_iter s (W.heap.size + 1) HS.out) T (fun _ _ h => h) (fun _ => rfl)
    (fun k hk => by subst hk; omega) (fun W' hW' => ⟨HN.out.later ((hBW.trans (hW'.mono (by omega))).mono HN.out.lt), (hW'.block _ (by omega)).trans bS⟩)
    (fun pre W' => J pre W' ∧ Boxed W' W.heap.size 68 (.func (.yield l) #[] #[]) ∧ Boxed W' (W.heap.size + 1) 32 (.int .u8 s))
    (fun c pre W' => c = .ret ∧ Jx pre W')
    (fun s' A B h hAB => ⟨HJ.out _ _ _ h.1 (hsub hAB), hAB.boxed h.2.1 (.inl (by omega)), hAB.boxed h.2.2 (.inl (by omega))⟩)
    (fun c s' A B h hAB => ⟨h.1, HX.out _ _ _ h.2 (hsub hAB)⟩)
    ⟨HJ.out _ _ _ H0.out hit0, bF, bS⟩ ?round ?done ?stop
  case round =>
    rintro l' pre x W1 hl ⟨hj, hf, hb1⟩ hst
    gi_wp2
    refine ⟨Keeps.refl _ _ _ _, fun W2 hits hsz2 hrec hoth => ?_⟩
    have hj2 := HJ.out _ _ _ hj (hsub hits)
    have hf2 := hits.boxed hf (.inl (by omega))
    have hb2 := hits.boxed hb1 (.inl (by omega))
    have cf := hf2.cell
    obtain ⟨fn, tmps, assign, body, hy, hR⟩ := HY.out pre x W2 hj2 hst
    have HR := Lib.hid (RoundIn.inL (m := 0) l' hR)
    have HF2 := Lib.hid hf2
    have HB2 := Lib.hid hb2
    clear hR hf2 hb2 hj2 hj hf hb1 hst hsz2 hrec hoth hits
    gi_wp2
    refine HR.out.mono ?_
    rintro e W3 ⟨hk3, (⟨rfl, hj3⟩ | ⟨rfl, hx3⟩)⟩
    all_goals
      have hkk : Keeps T (fun k => k = W.heap.size + 1) W0.heap.size W2 W3 := hk3.mono (fun _ h => h) (by omega) (fun k o ho hk => .inr ⟨by omega, fun c e fz he heq => by
        subst hk
        have h24 := (show W2.heap[W.heap.size + 1]? = _ from HB2.out).symm.trans ho
        rw [heq] at h24
        cases h24
        exact HT.out _ he (.inr rfl)⟩)
      have hf3 := hk3.boxed HF2.out (.inr ⟨Nat.le_refl _, fun h => HT.out _ h (.inl rfl)⟩)
      have hb3 := hkk.boxed HB2.out (.inl rfl)
      have HKK := Lib.hid hkk
      have HF3 := Lib.hid hf3
      have HB3 := Lib.hid hb3
      clear hkk hf3 hb3 hk3 cf
    · gi_wp2
      exact ⟨HKK.out, hj3, HF3.out, HB3.out⟩
    · gi_wp2
      exact ⟨HKK.out, rfl, hx3⟩
  case done =>
    rintro D xs W1 hD hS ⟨hj, hf, hb1⟩ hK
    gi_wp2
    refine ⟨by simp, .inl ⟨_, _, rfl, run_takeDeferred hK, ?_⟩⟩
    exact ⟨_, results_none rfl _ _ _, ⟨_, rfl⟩, .inl ⟨xs, hS, HJ.out _ _ _ hj (Itself.putObj _ W1 _ _ _ (by omega) hK rfl)⟩⟩
  case stop =>
    rintro D c pre W1 hD hS ⟨rfl, hj⟩ hK
    gi_wp2
    refine ⟨by simp, .inl ⟨_, _, rfl, run_takeDeferred hK, ?_⟩⟩
    exact ⟨_, results_none rfl _ _ _, ⟨_, rfl⟩, .inr ⟨pre, hS, HX.out _ _ _ hj (Itself.putObj _ W1 _ _ _ (by omega) hK rfl)⟩⟩
end Go.Proofs.YtpnnchpaaopdcaaGreatDoor
namespace Go.Proofs.YtpnnchpaaopdcaaGreatDoor
open Go Go.RowKit Go.Shelf
attribute [local go_sem] Oper.semAt_some wide_fn wide_depth
end Go.Proofs.YtpnnchpaaopdcaaGreatDoor
namespace Go.Proofs.YtpnnchpaaopdcaaGreatDoor
open Go Go.RowKit
def strLenV : Value → Nat
  | .string s => s.size
  | _ => 0
def boolV : Value → Nat
  | .bool true => 1
  | _ => 0
end Go.Proofs.YtpnnchpaaopdcaaGreatDoor
namespace Go.Proofs
open Go.Shelf
def Tryz.lays137_ren : Go.Shelf.Ren := ⟨fun | 137 => 79 | 217 => 140 | 266 => 186 | n => n, fun | 9 => 9 | 5 => 5 | 3 => 3 | n => n, fun | n => n⟩
theorem Tryz.lays137 : Go.Proofs.Lays.n137 Tryz.prog Tryz.lays137_ren := {
  mixed := by kernel_rfl
  f137 := Tryz.func79.trans (congrArg some (by kernel_rfl))
  f217 := Tryz.func140.trans (congrArg some (by kernel_rfl))
  f266 := Tryz.func186.trans (congrArg some (by kernel_rfl))
  t3 := Tryz.underlying3
  a3 := Tryz.isAgg3
  z3 := Tryz.sizeOf3
  v3 := Tryz.zeroValue3
  t5 := Tryz.underlying5
  a5 := Tryz.isAgg5
  z5 := Tryz.sizeOf5
  v5 := Tryz.zeroValue5
  t9 := Tryz.underlying9
  a9 := Tryz.isAgg9
  z9 := Tryz.sizeOf9
  v9 := Tryz.zeroValue9 }
open Go.RowKit in
theorem Tryz.strings_IndexByte (s : ByteArray) (c : Int) (w : World) :
    Calls Tryz.prog 79 #[.string s, .int .u8 c] w fun e w' => e = .returned (.int .i64 (Lib.indexByte s.data.toList c.toNat.toUInt8)) ∧ w' = w := Any.strings_IndexByte Tryz.lays137 s c w
def Tryz.lays138_ren : Go.Shelf.Ren := ⟨fun | 138 => 342 | 195 => 343 | 218 => 344 | 143 => 180 | 219 => 219 | 217 => 140 | 225 => 250 | 224 => 251 | 267 => 252 | 266 => 186 | 314 => 277 | n => n, fun | 9 => 9 | 3 => 3 | 4 => 4 | 5 => 5 | 0 => 0 | 46 => 196 | 146 => 193 | 51 => 23 | n => n, fun | 1 => 5 | n => n⟩
theorem Tryz.lays138 : Go.Proofs.Lays.n138 Tryz.prog Tryz.lays138_ren := {
  mixed := by kernel_rfl
  f138 := Tryz.func342.trans (congrArg some (by kernel_rfl))
  f143 := Tryz.func180.trans (congrArg some (by kernel_rfl))
  f195 := Tryz.func343.trans (congrArg some (by kernel_rfl))
  f217 := Tryz.func140.trans (congrArg some (by kernel_rfl))
  f218 := Tryz.func344.trans (congrArg some (by kernel_rfl))
  f219 := Tryz.func219.trans (congrArg some (by kernel_rfl))
  f224 := Tryz.func251.trans (congrArg some (by kernel_rfl))
  f225 := Tryz.func250.trans (congrArg some (by kernel_rfl))
  f266 := Tryz.func186.trans (congrArg some (by kernel_rfl))
  f267 := Tryz.func252.trans (congrArg some (by kernel_rfl))
  f314 := Tryz.func277.trans (congrArg some (by kernel_rfl))
  t0 := Tryz.underlying0
  a0 := Tryz.isAgg0
  z0 := Tryz.sizeOf0
  v0 := Tryz.zeroValue0
  t3 := Tryz.underlying3
  a3 := Tryz.isAgg3
  z3 := Tryz.sizeOf3
  v3 := Tryz.zeroValue3
  t4 := Tryz.underlying4
  a4 := Tryz.isAgg4
  z4 := Tryz.sizeOf4
  v4 := Tryz.zeroValue4
  t5 := Tryz.underlying5
  a5 := Tryz.isAgg5
  z5 := Tryz.sizeOf5
  v5 := Tryz.zeroValue5
  t9 := Tryz.underlying9
  a9 := Tryz.isAgg9
  z9 := Tryz.sizeOf9
  v9 := Tryz.zeroValue9
  t46 := Tryz.underlying196
  a46 := Tryz.isAgg196
  z46 := Tryz.sizeOf196
  v46 := Tryz.zeroValue196
  t51 := Tryz.underlying23
  a51 := Tryz.isAgg23
  z51 := Tryz.sizeOf23
  v51 := Tryz.zeroValue23
  t146 := Tryz.underlying193
  a146 := Tryz.isAgg193
  z146 := Tryz.sizeOf193
  v146 := Tryz.zeroValue193
  g1 := by kernel_rfl }
open Go.RowKit Go.Lib in
theorem Tryz.strings_Count_one (s : ByteArray) (c : UInt8) (w : World) :
    Calls Tryz.prog 342 #[.string s, .string ⟨#[c]⟩] w fun e w' => e = .returned (.int .i64 (Lib.countByte s.data.toList c)) ∧ w' = w := Any.strings_Count_one Tryz.lays138 s c w
def Tryz.lays119_ren : Go.Shelf.Ren := ⟨fun | 119 => 259 | n => n, fun | 21 => 21 | 4 => 4 | n => n, fun | n => n⟩
theorem Tryz.lays119 : Go.Proofs.Lays.n119 Tryz.prog Tryz.lays119_ren := {
  mixed := by kernel_rfl
  f119 := Tryz.func259.trans (congrArg some (by kernel_rfl))
  t4 := Tryz.underlying4
  a4 := Tryz.isAgg4
  z4 := Tryz.sizeOf4
  v4 := Tryz.zeroValue4
  t21 := Tryz.underlying21
  a21 := Tryz.isAgg21
  z21 := Tryz.sizeOf21
  v21 := Tryz.zeroValue21 }
theorem Tryz.utf8_ValidRune (r : Int) (w : World) :
    Calls Tryz.prog 259 #[.int .i32 r] w fun e w' => e = .returned (.bool (Lib.validRune r)) ∧ w' = w := Any.utf8_ValidRune Tryz.lays119 r w
def Tryz.laysM171_ren : Go.Shelf.Ren := ⟨fun | 171 => 151 | 243 => 192 | 246 => 228 | 283 => 215 | 284 => 216 | 285 => 217 | 286 => 218 | 129 => 246 | 317 => 245 | 318 => 247 | 319 => 248 | 320 => 249 | 337 => 275 | 338 => 276 | n => n, fun | 3 => 3 | 9 => 9 | 2 => 2 | 4 => 4 | 171 => 234 | 0 => 0 | 53 => 105 | 37 => 97 | 5 => 5 | 173 => 237 | 212 => 260 | 51 => 23 | 20 => 20 | 213 => 261 | 46 => 196 | 232 => 311 | 233 => 312 | n => n, fun | 17 => 7 | 18 => 12 | 19 => 13 | n => n⟩
theorem Tryz.laysM171 : Go.Proofs.LaysM.n171 Tryz.prog Tryz.laysM171_ren := {
  mixed := by kernel_rfl
  f129 := Tryz.func246.trans (congrArg some (by kernel_rfl))
  f171 := Tryz.func151.trans (congrArg some (by kernel_rfl))
  f243 := Tryz.func192.trans (congrArg some (by kernel_rfl))
  f246 := Tryz.func228.trans (congrArg some (by kernel_rfl))
  f283 := Tryz.func215.trans (congrArg some (by kernel_rfl))
  f284 := Tryz.func216.trans (congrArg some (by kernel_rfl))
  f285 := Tryz.func217.trans (congrArg some (by kernel_rfl))
  f286 := Tryz.func218.trans (congrArg some (by kernel_rfl))
  f317 := Tryz.func245.trans (congrArg some (by kernel_rfl))
  f318 := Tryz.func247.trans (congrArg some (by kernel_rfl))
  f319 := Tryz.func248.trans (congrArg some (by kernel_rfl))
  f320 := Tryz.func249.trans (congrArg some (by kernel_rfl))
  f337 := Tryz.func275.trans (congrArg some (by kernel_rfl))
  f338 := Tryz.func276.trans (congrArg some (by kernel_rfl))
  t0 := Tryz.underlying0
  a0 := Tryz.isAgg0
  z0 := Tryz.sizeOf0
  v0 := Tryz.zeroValue0
  t2 := Tryz.underlying2
  a2 := Tryz.isAgg2
  z2 := Tryz.sizeOf2
  v2 := Tryz.zeroValue2
  t3 := Tryz.underlying3
  a3 := Tryz.isAgg3
  z3 := Tryz.sizeOf3
  v3 := Tryz.zeroValue3
  t4 := Tryz.underlying4
  a4 := Tryz.isAgg4
  z4 := Tryz.sizeOf4
  v4 := Tryz.zeroValue4
  t5 := Tryz.underlying5
  a5 := Tryz.isAgg5
  z5 := Tryz.sizeOf5
  v5 := Tryz.zeroValue5
  t9 := Tryz.underlying9
  a9 := Tryz.isAgg9
  z9 := Tryz.sizeOf9
  v9 := Tryz.zeroValue9
  t20 := Tryz.underlying20
  a20 := Tryz.isAgg20
  z20 := Tryz.sizeOf20
  v20 := Tryz.zeroValue20
  t37 := Tryz.underlying97
  a37 := Tryz.isAgg97
  z37 := Tryz.sizeOf97
  v37 := Tryz.zeroValue97
  t46 := Tryz.underlying196
  a46 := Tryz.isAgg196
  z46 := Tryz.sizeOf196
  v46 := Tryz.zeroValue196
  t51 := Tryz.underlying23
  a51 := Tryz.isAgg23
  z51 := Tryz.sizeOf23
  v51 := Tryz.zeroValue23
  t53 := Tryz.underlying105
  a53 := Tryz.isAgg105
  z53 := Tryz.sizeOf105
  v53 := Tryz.zeroValue105
  t171 := Tryz.underlying234
  a171 := Tryz.isAgg234
  z171 := Tryz.sizeOf234
  v171 := Tryz.zeroValue234
  t173 := Tryz.underlying237
  a173 := Tryz.isAgg237
  z173 := Tryz.sizeOf237
  v173 := Tryz.zeroValue237
  t212 := Tryz.underlying260
  a212 := Tryz.isAgg260
  z212 := Tryz.sizeOf260
  v212 := Tryz.zeroValue260
  t213 := Tryz.underlying261
  a213 := Tryz.isAgg261
  z213 := Tryz.sizeOf261
  t232 := Tryz.underlying311
  a232 := Tryz.isAgg311
  z232 := Tryz.sizeOf311
  v232 := Tryz.zeroValue311
  t233 := Tryz.underlying312
  a233 := Tryz.isAgg312
  z233 := Tryz.sizeOf312
  v233 := Tryz.zeroValue312
  g17 := by kernel_rfl
  g18 := by kernel_rfl
  g19 := by kernel_rfl
  i0 := by kernel_rfl
  i2 := by kernel_rfl
  i3 := by kernel_rfl
  i4 := by kernel_rfl
  i5 := by kernel_rfl
  i9 := by kernel_rfl
  i20 := by kernel_rfl
  i37 := by kernel_rfl
  i46 := by kernel_rfl
  i51 := by kernel_rfl
  i53 := by kernel_rfl
  i171 := by kernel_rfl
  i173 := by kernel_rfl
  i212 := by kernel_rfl
  i232 := by kernel_rfl
  i233 := by kernel_rfl
  m17 := by kernel_rfl
  m18 := by kernel_rfl
  m19 := by kernel_rfl }
open Go.RowKit Go.Sort Go.Lib in
theorem Tryz.strconv_Itoa (n : Int) (h0 : -9223372036854775808 ≤ n) (h1 : n ≤ 9223372036854775807) (w : World) (htab : Lib.TabIs Tryz.prog w "internal/strconv.uint64pow10" .u64 Lib.pow10Tab) :
    Calls Tryz.prog 151 #[.int .i64 n] w fun e w' => e = .returned (.string ⟨(Lib.itoa n).toArray⟩) ∧ ∃ k os, w' = grow (w.drewN k) os := Any.strconv_Itoa Tryz.laysM171 n h0 h1 w htab
def Tryz.lays152_ren : Go.Shelf.Ren := ⟨fun | 152 => 222 | 137 => 79 | 119 => 259 | 224 => 251 | 225 => 250 | 217 => 140 | 266 => 186 | n => n, fun | 9 => 9 | 21 => 21 | 3 => 3 | 4 => 4 | 5 => 5 | 0 => 0 | 46 => 196 | n => n, fun | n => n⟩
theorem Tryz.lays152 : Go.Proofs.Lays.n152 Tryz.prog Tryz.lays152_ren := {
  mixed := by kernel_rfl
  f119 := Tryz.func259.trans (congrArg some (by kernel_rfl))
  f137 := Tryz.func79.trans (congrArg some (by kernel_rfl))
  f152 := Tryz.func222.trans (congrArg some (by kernel_rfl))
  f217 := Tryz.func140.trans (congrArg some (by kernel_rfl))
  f224 := Tryz.func251.trans (congrArg some (by kernel_rfl))
  f225 := Tryz.func250.trans (congrArg some (by kernel_rfl))
  f266 := Tryz.func186.trans (congrArg some (by kernel_rfl))
  t0 := Tryz.underlying0
  a0 := Tryz.isAgg0
  z0 := Tryz.sizeOf0
  v0 := Tryz.zeroValue0
  t3 := Tryz.underlying3
  a3 := Tryz.isAgg3
  z3 := Tryz.sizeOf3
  v3 := Tryz.zeroValue3
  t4 := Tryz.underlying4
  a4 := Tryz.isAgg4
  z4 := Tryz.sizeOf4
  v4 := Tryz.zeroValue4
  t5 := Tryz.underlying5
  a5 := Tryz.isAgg5
  z5 := Tryz.sizeOf5
  v5 := Tryz.zeroValue5
  t9 := Tryz.underlying9
  a9 := Tryz.isAgg9
  z9 := Tryz.sizeOf9
  v9 := Tryz.zeroValue9
  t21 := Tryz.underlying21
  a21 := Tryz.isAgg21
  z21 := Tryz.sizeOf21
  v21 := Tryz.zeroValue21
  t46 := Tryz.underlying196
  a46 := Tryz.isAgg196
  z46 := Tryz.sizeOf196
  v46 := Tryz.zeroValue196 }
open Go.RowKit Go.Lib in
theorem Tryz.strings_IndexRune_ascii (s : ByteArray) (r : Int) (w : World) (h0 : 0 ≤ r) (h1 : r < 128) :
    Calls Tryz.prog 222 #[.string s, .int .i32 r] w fun e w' => e = .returned (.int .i64 (Lib.indexByte s.data.toList r.toNat.toUInt8)) ∧ w' = w := Any.strings_IndexRune_ascii Tryz.lays152 s r w h0 h1
def Tryz.lays226_ren : Go.Shelf.Ren := ⟨fun | 226 => 223 | n => n, fun | 3 => 3 | 4 => 4 | n => n, fun | n => n⟩
theorem Tryz.lays226 : Go.Proofs.Lays.n226 Tryz.prog Tryz.lays226_ren := {
  mixed := by kernel_rfl
  f226 := Tryz.func223.trans (congrArg some (by kernel_rfl))
  t3 := Tryz.underlying3
  a3 := Tryz.isAgg3
  z3 := Tryz.sizeOf3
  v3 := Tryz.zeroValue3
  t4 := Tryz.underlying4
  a4 := Tryz.isAgg4
  z4 := Tryz.sizeOf4
  v4 := Tryz.zeroValue4 }
open Go.RowKit Go.Lib in
theorem Tryz.strings_shouldUseASCIISet (n : Int) (w : World) :
    Calls Tryz.prog 223 #[.int .i64 n] w fun e w' => e = .returned (.bool (decide (8 < n))) ∧ w' = w := Any.strings_shouldUseASCIISet Tryz.lays226 n w
def Tryz.lays153_ren : Go.Shelf.Ren := ⟨fun | 153 => 189 | 152 => 222 | 226 => 223 | 227 => 210 | 228 => 224 | 137 => 79 | 119 => 259 | 224 => 251 | 225 => 250 | 217 => 140 | 266 => 186 | n => n, fun | 9 => 9 | 3 => 3 | 4 => 4 | 5 => 5 | 21 => 21 | 117 => 230 | 116 => 229 | 0 => 0 | 46 => 196 | 124 => 233 | n => n, fun | n => n⟩
theorem Tryz.lays153 : Go.Proofs.Lays.n153 Tryz.prog Tryz.lays153_ren := {
  mixed := by kernel_rfl
  f119 := Tryz.func259.trans (congrArg some (by kernel_rfl))
  f137 := Tryz.func79.trans (congrArg some (by kernel_rfl))
  f152 := Tryz.func222.trans (congrArg some (by kernel_rfl))
  f153 := Tryz.func189.trans (congrArg some (by kernel_rfl))
  f217 := Tryz.func140.trans (congrArg some (by kernel_rfl))
  f224 := Tryz.func251.trans (congrArg some (by kernel_rfl))
  f225 := Tryz.func250.trans (congrArg some (by kernel_rfl))
  f226 := Tryz.func223.trans (congrArg some (by kernel_rfl))
  f227 := Tryz.func210.trans (congrArg some (by kernel_rfl))
  f228 := Tryz.func224.trans (congrArg some (by kernel_rfl))
  f266 := Tryz.func186.trans (congrArg some (by kernel_rfl))
  t0 := Tryz.underlying0
  a0 := Tryz.isAgg0
  z0 := Tryz.sizeOf0
  v0 := Tryz.zeroValue0
  t3 := Tryz.underlying3
  a3 := Tryz.isAgg3
  z3 := Tryz.sizeOf3
  v3 := Tryz.zeroValue3
  t4 := Tryz.underlying4
  a4 := Tryz.isAgg4
  z4 := Tryz.sizeOf4
  v4 := Tryz.zeroValue4
  t5 := Tryz.underlying5
  a5 := Tryz.isAgg5
  z5 := Tryz.sizeOf5
  v5 := Tryz.zeroValue5
  t9 := Tryz.underlying9
  a9 := Tryz.isAgg9
  z9 := Tryz.sizeOf9
  v9 := Tryz.zeroValue9
  t21 := Tryz.underlying21
  a21 := Tryz.isAgg21
  z21 := Tryz.sizeOf21
  v21 := Tryz.zeroValue21
  t46 := Tryz.underlying196
  a46 := Tryz.isAgg196
  z46 := Tryz.sizeOf196
  v46 := Tryz.zeroValue196
  t116 := Tryz.underlying229
  a116 := Tryz.isAgg229
  z116 := Tryz.sizeOf229
  t117 := Tryz.underlying230
  a117 := Tryz.isAgg230
  z117 := Tryz.sizeOf230
  v117 := Tryz.zeroValue230
  t124 := Tryz.underlying233
  a124 := Tryz.isAgg233
  z124 := Tryz.sizeOf233
  v124 := Tryz.zeroValue233 }
open Go.RowKit Go.Lib in
theorem Tryz.strings_IndexAny_long (hv116 : ∀ w, (zeroValue 229).run Tryz.prog w = .ok (.agg (Array.replicate 256 (.bool false))) w) (s chars : ByteArray) (w : World) (h2 : 2 ≤ chars.size) (h8 : 8 < s.size) (hs : s.size < 4294967281) (hcs : chars.size < 4294967281) (hascii : ∀ (j : Nat) b, chars.data.toList[j]? = some b → b.toNat < 128) :
    Calls Tryz.prog 189 #[.string s, .string chars] w fun e w' => e = .returned (.int .i64 (Lib.indexAny s.data.toList chars.data.toList)) ∧ w' = ((w.alloc (.cells (Lib.setCells chars.data.toList) 229)).alloc (.cells (Lib.setCells chars.data.toList) 229)) := Any.strings_IndexAny_long Tryz.lays153 hv116 (by kernel_rfl) s chars w h2 h8 hs hcs hascii
def Tryz.lays135_ren : Go.Shelf.Ren := ⟨fun | 135 => 176 | n => n, fun | 5 => 5 | 3 => 3 | 9 => 9 | n => n, fun | n => n⟩
theorem Tryz.lays135 : Go.Proofs.Lays.n135 Tryz.prog Tryz.lays135_ren := {
  mixed := by kernel_rfl
  f135 := Tryz.func176.trans (congrArg some (by kernel_rfl))
  t3 := Tryz.underlying3
  a3 := Tryz.isAgg3
  z3 := Tryz.sizeOf3
  v3 := Tryz.zeroValue3
  t5 := Tryz.underlying5
  a5 := Tryz.isAgg5
  z5 := Tryz.sizeOf5
  v5 := Tryz.zeroValue5
  t9 := Tryz.underlying9
  a9 := Tryz.isAgg9
  z9 := Tryz.sizeOf9
  v9 := Tryz.zeroValue9 }
theorem Tryz.bits_OnesCount8 (x : Int) (w : World) (h0 : 0 ≤ x) (h1 : x ≤ 255) :
    Calls Tryz.prog 176 #[.int .u8 x] w fun e w' => e = .returned (.int .i64 (Lib.onesCount x.toNat)) ∧ w' = w := Any.bits_OnesCount8 Tryz.lays135 x w h0 h1
def Tryz.lays144_ren : Go.Shelf.Ren := ⟨fun | 144 => 128 | 143 => 180 | 219 => 219 | 217 => 140 | 225 => 250 | 224 => 251 | 267 => 252 | 266 => 186 | 314 => 277 | n => n, fun | 9 => 9 | 4 => 4 | 3 => 3 | 5 => 5 | 46 => 196 | 146 => 193 | 51 => 23 | n => n, fun | 1 => 5 | n => n⟩
theorem Tryz.lays144 : Go.Proofs.Lays.n144 Tryz.prog Tryz.lays144_ren := {
  mixed := by kernel_rfl
  f143 := Tryz.func180.trans (congrArg some (by kernel_rfl))
  f144 := Tryz.func128.trans (congrArg some (by kernel_rfl))
  f217 := Tryz.func140.trans (congrArg some (by kernel_rfl))
  f219 := Tryz.func219.trans (congrArg some (by kernel_rfl))
  f224 := Tryz.func251.trans (congrArg some (by kernel_rfl))
  f225 := Tryz.func250.trans (congrArg some (by kernel_rfl))
  f266 := Tryz.func186.trans (congrArg some (by kernel_rfl))
  f267 := Tryz.func252.trans (congrArg some (by kernel_rfl))
  f314 := Tryz.func277.trans (congrArg some (by kernel_rfl))
  t3 := Tryz.underlying3
  a3 := Tryz.isAgg3
  z3 := Tryz.sizeOf3
  v3 := Tryz.zeroValue3
  t4 := Tryz.underlying4
  a4 := Tryz.isAgg4
  z4 := Tryz.sizeOf4
  v4 := Tryz.zeroValue4
  t5 := Tryz.underlying5
  a5 := Tryz.isAgg5
  z5 := Tryz.sizeOf5
  v5 := Tryz.zeroValue5
  t9 := Tryz.underlying9
  a9 := Tryz.isAgg9
  z9 := Tryz.sizeOf9
  v9 := Tryz.zeroValue9
  t46 := Tryz.underlying196
  a46 := Tryz.isAgg196
  z46 := Tryz.sizeOf196
  v46 := Tryz.zeroValue196
  t51 := Tryz.underlying23
  a51 := Tryz.isAgg23
  z51 := Tryz.sizeOf23
  v51 := Tryz.zeroValue23
  t146 := Tryz.underlying193
  a146 := Tryz.isAgg193
  z146 := Tryz.sizeOf193
  v146 := Tryz.zeroValue193
  g1 := by kernel_rfl }
open Go.RowKit Go.Lib in
theorem Tryz.strings_Contains (s sub : ByteArray) (m : Int) (w : World) (hs : s.size < 4294967281) (hm : w.cell? ⟨5, 0, none⟩ = some (.int .i64 m)) :
    Calls Tryz.prog 128 #[.string s, .string sub] w fun e w' => e = .returned (.bool (Lib.contains s.data.toList sub.data.toList)) ∧ w' = w := Any.strings_Contains Tryz.lays144 s sub m w hs hm
def Tryz.lays160_ren : Go.Shelf.Ren := ⟨fun | 160 => 177 | 232 => 209 | 231 => 208 | 227 => 210 | 234 => 212 | 233 => 211 | 236 => 214 | 235 => 213 | 228 => 224 | 271 => 244 | 151 => 243 | 197 => 242 | 120 => 274 | 152 => 222 | 260 => 273 | 137 => 79 | 119 => 259 | 224 => 251 | 225 => 250 | 217 => 140 | 266 => 186 | n => n, fun | 9 => 9 | 4 => 4 | 3 => 3 | 5 => 5 | 117 => 230 | 116 => 229 | 0 => 0 | 124 => 233 | 21 => 21 | 105 => 255 | 46 => 196 | 119 => 276 | 139 => 310 | 138 => 309 | n => n, fun | 3 => 10 | 4 => 11 | n => n⟩
theorem Tryz.lays160 : Go.Proofs.Lays.n160 Tryz.prog Tryz.lays160_ren := {
  mixed := by kernel_rfl
  f119 := Tryz.func259.trans (congrArg some (by kernel_rfl))
  f120 := Tryz.func274.trans (congrArg some (by kernel_rfl))
  f137 := Tryz.func79.trans (congrArg some (by kernel_rfl))
  f151 := Tryz.func243.trans (congrArg some (by kernel_rfl))
  f152 := Tryz.func222.trans (congrArg some (by kernel_rfl))
  f160 := Tryz.func177.trans (congrArg some (by kernel_rfl))
  f197 := Tryz.func242.trans (congrArg some (by kernel_rfl))
  f217 := Tryz.func140.trans (congrArg some (by kernel_rfl))
  f224 := Tryz.func251.trans (congrArg some (by kernel_rfl))
  f225 := Tryz.func250.trans (congrArg some (by kernel_rfl))
  f227 := Tryz.func210.trans (congrArg some (by kernel_rfl))
  f228 := Tryz.func224.trans (congrArg some (by kernel_rfl))
  f231 := Tryz.func208.trans (congrArg some (by kernel_rfl))
  f232 := Tryz.func209.trans (congrArg some (by kernel_rfl))
  f233 := Tryz.func211.trans (congrArg some (by kernel_rfl))
  f234 := Tryz.func212.trans (congrArg some (by kernel_rfl))
  f235 := Tryz.func213.trans (congrArg some (by kernel_rfl))
  f236 := Tryz.func214.trans (congrArg some (by kernel_rfl))
  f260 := Tryz.func273.trans (congrArg some (by kernel_rfl))
  f266 := Tryz.func186.trans (congrArg some (by kernel_rfl))
  f271 := Tryz.func244.trans (congrArg some (by kernel_rfl))
  t0 := Tryz.underlying0
  a0 := Tryz.isAgg0
  z0 := Tryz.sizeOf0
  v0 := Tryz.zeroValue0
  t3 := Tryz.underlying3
  a3 := Tryz.isAgg3
  z3 := Tryz.sizeOf3
  v3 := Tryz.zeroValue3
  t4 := Tryz.underlying4
  a4 := Tryz.isAgg4
  z4 := Tryz.sizeOf4
  v4 := Tryz.zeroValue4
  t5 := Tryz.underlying5
  a5 := Tryz.isAgg5
  z5 := Tryz.sizeOf5
  v5 := Tryz.zeroValue5
  t9 := Tryz.underlying9
  a9 := Tryz.isAgg9
  z9 := Tryz.sizeOf9
  v9 := Tryz.zeroValue9
  t21 := Tryz.underlying21
  a21 := Tryz.isAgg21
  z21 := Tryz.sizeOf21
  v21 := Tryz.zeroValue21
  t46 := Tryz.underlying196
  a46 := Tryz.isAgg196
  z46 := Tryz.sizeOf196
  v46 := Tryz.zeroValue196
  t105 := Tryz.underlying255
  a105 := Tryz.isAgg255
  z105 := Tryz.sizeOf255
  v105 := Tryz.zeroValue255
  t116 := Tryz.underlying229
  a116 := Tryz.isAgg229
  z116 := Tryz.sizeOf229
  t117 := Tryz.underlying230
  a117 := Tryz.isAgg230
  z117 := Tryz.sizeOf230
  v117 := Tryz.zeroValue230
  t119 := Tryz.underlying276
  a119 := Tryz.isAgg276
  z119 := Tryz.sizeOf276
  t124 := Tryz.underlying233
  a124 := Tryz.isAgg233
  z124 := Tryz.sizeOf233
  v124 := Tryz.zeroValue233
  t138 := Tryz.underlying309
  a138 := Tryz.isAgg309
  z138 := Tryz.sizeOf309
  v138 := Tryz.zeroValue309
  t139 := Tryz.underlying310
  a139 := Tryz.isAgg310
  z139 := Tryz.sizeOf310
  v139 := Tryz.zeroValue310
  g3 := by kernel_rfl
  g4 := by kernel_rfl }
def Tryz.lays156_ren : Go.Shelf.Ren := ⟨fun | 156 => 97 | 165 => 160 | 166 => 155 | 169 => 156 | 240 => 193 | 241 => 198 | 276 => 229 | 277 => 232 | n => n, fun | 31 => 92 | 9 => 9 | 3 => 3 | 4 => 4 | 0 => 0 | 20 => 20 | 72 => 171 | 76 => 178 | 70 => 169 | 37 => 97 | 75 => 173 | 127 => 220 | 164 => 244 | 5 => 5 | 80 => 45 | n => n, fun | n => n⟩
theorem Tryz.lays156 : Go.Proofs.Lays.n156 Tryz.prog Tryz.lays156_ren := {
  mixed := by kernel_rfl
  f156 := Tryz.func97.trans (congrArg some (by kernel_rfl))
  f165 := Tryz.func160.trans (congrArg some (by kernel_rfl))
  f166 := Tryz.func155.trans (congrArg some (by kernel_rfl))
  f169 := Tryz.func156.trans (congrArg some (by kernel_rfl))
  f240 := Tryz.func193.trans (congrArg some (by kernel_rfl))
  f241 := Tryz.func198.trans (congrArg some (by kernel_rfl))
  f276 := Tryz.func229.trans (congrArg some (by kernel_rfl))
  f277 := Tryz.func232.trans (congrArg some (by kernel_rfl))
  t0 := Tryz.underlying0
  a0 := Tryz.isAgg0
  z0 := Tryz.sizeOf0
  v0 := Tryz.zeroValue0
  t3 := Tryz.underlying3
  a3 := Tryz.isAgg3
  z3 := Tryz.sizeOf3
  v3 := Tryz.zeroValue3
  t4 := Tryz.underlying4
  a4 := Tryz.isAgg4
  z4 := Tryz.sizeOf4
  v4 := Tryz.zeroValue4
  t9 := Tryz.underlying9
  a9 := Tryz.isAgg9
  z9 := Tryz.sizeOf9
  v9 := Tryz.zeroValue9
  t20 := Tryz.underlying20
  a20 := Tryz.isAgg20
  z20 := Tryz.sizeOf20
  v20 := Tryz.zeroValue20
  t31 := Tryz.underlying92
  a31 := Tryz.isAgg92
  z31 := Tryz.sizeOf92
  v31 := Tryz.zeroValue92
  t37 := Tryz.underlying97
  a37 := Tryz.isAgg97
  z37 := Tryz.sizeOf97
  v37 := Tryz.zeroValue97
  t70 := Tryz.underlying169
  a70 := Tryz.isAgg169
  z70 := Tryz.sizeOf169
  v70 := Tryz.zeroValue169
  t72 := Tryz.underlying171
  a72 := Tryz.isAgg171
  z72 := Tryz.sizeOf171
  v72 := Tryz.zeroValue171
  t75 := Tryz.underlying173
  a75 := Tryz.isAgg173
  z75 := Tryz.sizeOf173
  v75 := Tryz.zeroValue173
  t76 := Tryz.underlying178
  a76 := Tryz.isAgg178
  z76 := Tryz.sizeOf178
  v76 := Tryz.zeroValue178
  t127 := Tryz.underlying220
  a127 := Tryz.isAgg220
  z127 := Tryz.sizeOf220
  v127 := Tryz.zeroValue220
  t164 := Tryz.underlying244
  a164 := Tryz.isAgg244
  z164 := Tryz.sizeOf244
  v164 := Tryz.zeroValue244 }
theorem Tryz.Builder_Extra_156 : Builder.Extra Tryz.prog Tryz.lays156_ren := {
  sizeBuilder := by kernel_rfl
  liesBuilder := by kernel_rfl
  t5 := Tryz.underlying5
  a5 := Tryz.isAgg5
  z5 := Tryz.sizeOf5
  v5 := Tryz.zeroValue5
  infoByte := by kernel_rfl
  cellsByte := by kernel_rfl
  sizeByte := by kernel_rfl
  neB5 := by decide }
open Go.RowKit in
theorem Tryz.strings_Join_none (a : Option Addr) (c : Nat) (sep : ByteArray) (w : World) :
    Calls Tryz.prog 97 #[.slice a 0 c, .string sep] w fun e w' => e = .returned (.string ⟨#[]⟩) ∧ w' = w := Any.strings_Join_none Tryz.lays156 Tryz.Builder_Extra_156 a c sep w
open Go.RowKit in
theorem Tryz.strings_Join (bk o c : Nat) (xs : List ByteArray) (sep : ByteArray) (w : World) (hcells : ∀ (j : Nat) x, xs[j]? = some x → w.cell? ⟨bk, o + j, none⟩ = some (.string x)) (hbk : bk < w.heap.size) (hN : xs.length ≤ 140737488355328) (hcap : xs.length ≤ c) (hlen : (Lib.join (xs.map (·.data.toList)) sep.data.toList).length ≤ 140737488355328) :
    Calls Tryz.prog 97 #[.slice (some ⟨bk, o, none⟩) xs.length c, .string sep] w fun e w' => e = .returned (.string ⟨(Lib.join (xs.map (·.data.toList)) sep.data.toList).toArray⟩) ∧ Below w.heap.size w w' := Any.strings_Join Tryz.lays156 Tryz.Builder_Extra_156 bk o c xs sep w hcells hbk hN hcap hlen
def Tryz.lays283_ren : Go.Shelf.Ren := ⟨fun | 283 => 215 | n => n, fun | 3 => 3 | 9 => 9 | 4 => 4 | n => n, fun | n => n⟩
theorem Tryz.lays283 : Go.Proofs.Lays.n283 Tryz.prog Tryz.lays283_ren := {
  mixed := by kernel_rfl
  f283 := Tryz.func215.trans (congrArg some (by kernel_rfl))
  t3 := Tryz.underlying3
  a3 := Tryz.isAgg3
  z3 := Tryz.sizeOf3
  v3 := Tryz.zeroValue3
  t4 := Tryz.underlying4
  a4 := Tryz.isAgg4
  z4 := Tryz.sizeOf4
  v4 := Tryz.zeroValue4
  t9 := Tryz.underlying9
  a9 := Tryz.isAgg9
  z9 := Tryz.sizeOf9
  v9 := Tryz.zeroValue9 }
open Go.Lib in
theorem Tryz.internal_strconv_small (i : Nat) (h : i < 100) (w : World) :
    Calls Tryz.prog 215 #[.int .i64 i] w fun e w' => e = .returned (.string ⟨(Lib.decDigits i).toArray⟩) ∧ w' = w := Any.internal_strconv_small Tryz.lays283 i h w
def Tryz.laysM284_ren : Go.Shelf.Ren := ⟨fun | 284 => 216 | 129 => 246 | 317 => 245 | 318 => 247 | n => n, fun | 53 => 105 | 3 => 3 | 212 => 260 | 0 => 0 | 4 => 4 | 46 => 196 | 5 => 5 | 9 => 9 | n => n, fun | 17 => 7 | n => n⟩
theorem Tryz.laysM284 : Go.Proofs.LaysM.n284 Tryz.prog Tryz.laysM284_ren := {
  mixed := by kernel_rfl
  f129 := Tryz.func246.trans (congrArg some (by kernel_rfl))
  f284 := Tryz.func216.trans (congrArg some (by kernel_rfl))
  f317 := Tryz.func245.trans (congrArg some (by kernel_rfl))
  f318 := Tryz.func247.trans (congrArg some (by kernel_rfl))
  t0 := Tryz.underlying0
  a0 := Tryz.isAgg0
  z0 := Tryz.sizeOf0
  v0 := Tryz.zeroValue0
  t3 := Tryz.underlying3
  a3 := Tryz.isAgg3
  z3 := Tryz.sizeOf3
  v3 := Tryz.zeroValue3
  t4 := Tryz.underlying4
  a4 := Tryz.isAgg4
  z4 := Tryz.sizeOf4
  v4 := Tryz.zeroValue4
  t5 := Tryz.underlying5
  a5 := Tryz.isAgg5
  z5 := Tryz.sizeOf5
  v5 := Tryz.zeroValue5
  t9 := Tryz.underlying9
  a9 := Tryz.isAgg9
  z9 := Tryz.sizeOf9
  v9 := Tryz.zeroValue9
  t46 := Tryz.underlying196
  a46 := Tryz.isAgg196
  z46 := Tryz.sizeOf196
  v46 := Tryz.zeroValue196
  t53 := Tryz.underlying105
  a53 := Tryz.isAgg105
  z53 := Tryz.sizeOf105
  v53 := Tryz.zeroValue105
  t212 := Tryz.underlying260
  a212 := Tryz.isAgg260
  z212 := Tryz.sizeOf260
  v212 := Tryz.zeroValue260
  g17 := by kernel_rfl
  i0 := by kernel_rfl
  i3 := by kernel_rfl
  i4 := by kernel_rfl
  i5 := by kernel_rfl
  i9 := by kernel_rfl
  i46 := by kernel_rfl
  i53 := by kernel_rfl
  i212 := by kernel_rfl
  m17 := by kernel_rfl }
open Go.Lib in
theorem Tryz.internal_strconv_numDigits (u : Nat) (h1 : 1 ≤ u) (h2 : u < 18446744073709551616) (w : World) (htab : Lib.TabIs Tryz.prog w "internal/strconv.uint64pow10" .u64 Lib.pow10Tab) :
    Calls Tryz.prog 216 #[.int .u64 u] w fun e w' => e = .returned (.int .i64 (Lib.nDigits u)) ∧ w' = w := Any.internal_strconv_numDigits Tryz.laysM284 u h1 h2 w htab
def Tryz.lays285_ren : Go.Shelf.Ren := ⟨fun | 285 => 217 | n => n, fun | 37 => 97 | 53 => 105 | 3 => 3 | 4 => 4 | 51 => 23 | 9 => 9 | 5 => 5 | 0 => 0 | n => n, fun | n => n⟩
theorem Tryz.lays285 : Go.Proofs.Lays.n285 Tryz.prog Tryz.lays285_ren := {
  mixed := by kernel_rfl
  f285 := Tryz.func217.trans (congrArg some (by kernel_rfl))
  t0 := Tryz.underlying0
  a0 := Tryz.isAgg0
  z0 := Tryz.sizeOf0
  v0 := Tryz.zeroValue0
  t3 := Tryz.underlying3
  a3 := Tryz.isAgg3
  z3 := Tryz.sizeOf3
  v3 := Tryz.zeroValue3
  t4 := Tryz.underlying4
  a4 := Tryz.isAgg4
  z4 := Tryz.sizeOf4
  v4 := Tryz.zeroValue4
  t5 := Tryz.underlying5
  a5 := Tryz.isAgg5
  z5 := Tryz.sizeOf5
  v5 := Tryz.zeroValue5
  t9 := Tryz.underlying9
  a9 := Tryz.isAgg9
  z9 := Tryz.sizeOf9
  v9 := Tryz.zeroValue9
  t37 := Tryz.underlying97
  a37 := Tryz.isAgg97
  z37 := Tryz.sizeOf97
  v37 := Tryz.zeroValue97
  t51 := Tryz.underlying23
  a51 := Tryz.isAgg23
  z51 := Tryz.sizeOf23
  v51 := Tryz.zeroValue23
  t53 := Tryz.underlying105
  a53 := Tryz.isAgg105
  z53 := Tryz.sizeOf105
  v53 := Tryz.zeroValue105 }
open Go.RowKit Go.Sort Go.Lib in
theorem Tryz.internal_strconv_formatBase10 (blk off cap : Nat) (u : Nat) (d : Array UInt8) (w : World) (hH : Holds (fun (b : UInt8) => Value.int .u8 (b.toNat : Int)) w blk off d) (hu : u < 10 ^ d.size) (hu64 : u < 18446744073709551616) (hsz : d.size < 4611686018427387904) :
    Calls Tryz.prog 217 #[.slice (some ⟨blk, off, none⟩) d.size cap, .int .u64 u] w fun e w' =>
      e = .returned (.tuple #[]) ∧ ∃ (n v' : Nat) (dk : Array UInt8), w' = (putRow (fun (b : UInt8) => Value.int .u8 (b.toNat : Int)) w blk off dk).drewN n ∧ FmtInv d.size u 0 v' dk := Any.internal_strconv_formatBase10 Tryz.lays285 blk off cap u d w hH hu hu64 hsz
end Go.Proofs

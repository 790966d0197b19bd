/-
  A range of a text: the program's parseRange: contract.
  A set of a text: the program's seqset.Parse: contract.
  The document's Split: contract.
  The set of a text, by the document: contract.
  An end's text, by the document and by the program: contracts.
  A set's text, by the document: contract.
  A set's text, by the program: contract.
  A set is the document's: the law's Same: contract.
  What a set means: the program's bounds and Has: contracts.
  Plain lists: ranges that rise; the numbers that they mean; what is merged.
  A set of the document, as the program's: contract. What a set means, by the document: contract.
  What a set means, by the document: contract.
  Readers of texts, as lists of bytes: what a reader has left, and whether it gave up; what it answers.
  The program's reader: to give up, what is left, what comes next, all bytes that are so: contracts.
  Rows of bytes that a conversion laid; a text of one byte.
  A text with great letters, by the program and by the document: contracts.
  The program's reader: words, blanks, rows of bytes: contracts.
  The program's reader: all bytes that are so; atoms, numbers: contracts.
  search.ReadSet's closure: is it a byte of a set? And While with it. MADE by wip/tools/mkSr1.py.
  The program's reader: atoms, numbers, literals: contracts.
-/
import Derived.Test.YtpnnchpaaopdcaaGreatDoorZB03
import Derived.Test.YtpnnchpaaopdcaaGreatDoorZB01
import Derived.WalkKit
import Derived.WalkMore
import Derived.ScopeJumps
import Derived.Deep.LoopGhost
import Derived.WalkSmall
import Derived.Laws.OwnMore
import Derived.BigRegion
import Derived.Deep.Onto
import Derived.Lib.ItoaNum
import Derived.Lib.OthersKept
import Derived.Lib.UnsafeStr
import Derived.BigQuiet
import Derived.Deep.RegionHeld3
import Derived.Deep.AppendLies
import Derived.Deep.DrawnRows
import Derived.OwnWalk
import Derived.LoopTactic
import Derived.Lib.Strings
import Derived.Deep.QuietTactic
import Derived.Lib.ConvBytes
import Derived.Lib.SmallJoins
import Derived.Laws.IdiomStrings
import Derived.MapKept
import Derived.Lib.ParseIntBCases
import Derived.Lib.AtoiErrMem
set_option linter.unusedVariables false
set_option linter.unusedSimpArgs false
namespace Go.Proofs.YtpnnchpaaopdcaaGreatDoor
open Go Go.RowKit
def pair2 : Option Nat → Option Nat → Option (Nat × Nat)
  | some x, some y => some (x, y)
  | _, _ => none
def rangeOf (l : List UInt8) : Option (Nat × Nat) := match splitB 58 l with
  | [a] => pair2 (endB a) (endB a)
  | [a, b] => pair2 (endB a) (endB b)
  | _ => none
theorem numV_dig {l : List UInt8} {a u : Nat} (h : numV a l = some u) : ∀ c ∈ l, dig c := by
  induction l generalizing a with
  | nil => simp
  | cons x r ih =>
    rw [numV_cons] at h
    split at h
    · intro c hc
      rcases List.mem_cons.1 hc with e | e
      · rw [e]; assumption
      · exact ih h c e
    · cases h
theorem endB_colon (p r : List UInt8) : endB (p ++ 58 :: r) = none := by
  cases h : endB (p ++ 58 :: r) with
  | none => rfl
  | some v =>
    exfalso
    by_cases h1 : p ++ 58 :: r = [42]
    · have : (58 : UInt8) ∈ [(42 : UInt8)] := by rw [← h1]; simp
      simp at this
    · by_cases h2 : (p ++ 58 :: r).head? = some 48
      · unfold endB at h; rw [if_neg h1, if_pos h2] at h; cases h
      · have := numV_dig ((endB_ok h1 h2 v).1 h).2.1 58 (by simp)
        revert this; decide
theorem pair2_none_r (a : Option Nat) : pair2 a none = none := by cases a <;> rfl
theorem rangeOf_one {l : List UInt8} (h : ∀ x ∈ l, x ≠ 58) : rangeOf l = pair2 (endB l) (endB l) := by unfold rangeOf; rw [splitB_none h]
theorem rangeOf_two {p r : List UInt8} (h : ∀ x ∈ p, x ≠ 58) : rangeOf (p ++ 58 :: r) = pair2 (endB p) (endB r) := by
  unfold rangeOf
  rw [splitB_some h]
  rcases at_byte 58 r with hr | ⟨a, b, rfl, ha⟩
  · rw [splitB_none hr]
  · rw [splitB_some ha, endB_colon, pair2_none_r]
    cases hs : splitB 58 b with
    | nil => exact absurd hs (splitB_ne _ _)
    | cons _ _ => rfl
theorem Errs.later {W W' : World} (h : Errs W) {B : Nat} (hb : Below B W W') (hB : max 8 9 < B) : Errs W' := by
  obtain ⟨⟨t1, p1, h1⟩, t2, p2, h2⟩ := h
  exact ⟨⟨t1, p1, (hb.cell (p := ⟨8, 0, none⟩) (by show (8 : Nat) < B; omega)).trans h1⟩, t2, p2, (hb.cell (p := ⟨9, 0, none⟩) (by show (9 : Nat) < B; omega)).trans h2⟩
theorem cell_lt {W : World} {k j : Nat} {v : Value} (h : W.cell? ⟨k, j, none⟩ = some v) : k < W.heap.size := by
  unfold World.cell? at h
  apply Decidable.byContradiction
  intro hn
  rw [Array.getElem?_eq_none (by show W.heap.size ≤ k; omega)] at h
  simp at h
theorem Errs.lt {W : World} (h : Errs W) : max 8 9 < W.heap.size := by
  obtain ⟨⟨t1, p1, h1⟩, t2, p2, h2⟩ := h
  have := cell_lt h1
  have := cell_lt h2
  omega
def Pair (W : World) (B : Nat) (t : TypeId) (a b : Value) : Prop := W.heap[B]? = some (.cells #[a, b] t (0, 0))
theorem Pair.new (W : World) (t : TypeId) (a b : Value) : Pair (W.alloc (.cells #[a, b] t)) W.heap.size t a b := World.alloc_heap_new W _
theorem Pair.lt {W : World} {B : Nat} {t : TypeId} {a b : Value} (h : Pair W B t a b) : B < W.heap.size := (Array.getElem?_eq_some_iff.1 h).1
theorem Pair.c0 {W : World} {B : Nat} {t : TypeId} {a b : Value} (h : Pair W B t a b) : W.cell? ⟨B, 0, none⟩ = some a := by simp [World.cell?, show W.heap[B]? = _ from h]
theorem Pair.c1 {W : World} {B : Nat} {t : TypeId} {a b : Value} (h : Pair W B t a b) : W.cell? ⟨B, 1, none⟩ = some b := by simp [World.cell?, show W.heap[B]? = _ from h]
theorem Pair.f0 {W : World} {B : Nat} {t : TypeId} {a b : Value} (h : Pair W B t a b) : W.frozen? ⟨B, 0, none⟩ = false := by simp [World.frozen?, show W.heap[B]? = _ from h]
theorem Pair.f1 {W : World} {B : Nat} {t : TypeId} {a b : Value} (h : Pair W B t a b) : W.frozen? ⟨B, 1, none⟩ = false := by simp [World.frozen?, show W.heap[B]? = _ from h]
theorem Pair.set0 {W : World} {B : Nat} {t : TypeId} {a b : Value} (v : Value) (h : Pair W B t a b) : Pair (W.setCell ⟨B, 0, none⟩ v) B t v b := by
  obtain ⟨hlt, hk⟩ := Array.getElem?_eq_some_iff.1 h
  show (W.heap.modify B _)[B]? = _
  rw [Array.getElem?_eq_getElem (by rw [Array.size_modify]; exact hlt), Array.getElem_modify_self, hk]
  rfl
theorem Pair.set1 {W : World} {B : Nat} {t : TypeId} {a b : Value} (v : Value) (h : Pair W B t a b) : Pair (W.setCell ⟨B, 1, none⟩ v) B t a v := by
  obtain ⟨hlt, hk⟩ := Array.getElem?_eq_some_iff.1 h
  show (W.heap.modify B _)[B]? = _
  rw [Array.getElem?_eq_getElem (by rw [Array.size_modify]; exact hlt), Array.getElem_modify_self, hk]
  rfl
theorem results_pr (tmps : Array Value) (w : World) (B : Nat) (a b : Value) (h : Pair w B 112 a b) (h2 : tmps.getD 2 undef = .pointer (some ⟨B, 0, none⟩)) :
    (results Tryz.f142 tmps).run Tryz.prog w = .ok (.tuple #[.agg #[a, b], tmps.getD 3 undef]) w := by
  have c0 := h.c0
  have c1 := h.c1
  have h2' : tmps[2]?.getD undef = .pointer (some ⟨B, 0, none⟩) := by simpa using h2
  simp [results, Tryz.f142, go_sem, h2', c0, c1]
def rng (x y : Nat) : Value := .agg #[.int .u32 x, .int .u32 y]
def RangeIs (l : List UInt8) (e : Ending) : Prop := (∃ x y : Nat, rangeOf l = some (x, y) ∧ x ≤ 4294967295 ∧ y ≤ 4294967295 ∧ e = .returned (.tuple #[rng x y, .bool true])) ∨ (rangeOf l = none ∧ e = .returned (.tuple #[rng 0 0, .bool false]))
set_option maxRecDepth 100000 in
set_option maxHeartbeats 1000000 in
theorem prange_c (s : ByteArray) (hs : s.size ≤ 1100000) (w : World) (hE : Errs w) : Calls Tryz.prog 142 #[.string s] w fun e w' => RangeIs s.data.toList e ∧ Below w.heap.size w w' := by
  rcases at_byte 58 s.data.toList with hn | ⟨p, r, hpr, hp⟩
  · have HC := Lib.hid (fun w => cut_none s 58 hn w)
    have HR := Lib.hid (rangeOf_one hn)
    have HE := Lib.hid hE
    clear hn hE
    go_enter Tryz.func142, Tryz.ntmps142
    go_wp2_with fail
    refine (HC.out _).mono ?_
    rintro e w1 ⟨rfl, n, hw⟩
    have hb1 : Below w.heap.size w w1 := by rw [hw]; exact below_drewN ((Below.refl _ w).alloc (Nat.le_refl _) _) n
    have hsz : w1.heap.size = w.heap.size + 1 := by rw [hw]; simp
    have hx : Pair w1 w.heap.size 112 (.int .u32 0) (.int .u32 0) := by rw [hw]; exact Pair.new w 112 (.int .u32 0) (.int .u32 0)
    have HW := Lib.hid hw
    have HE1 := Lib.hid (HE.out.later hb1 HE.out.lt)
    have HB1 := Lib.hid hb1
    clear hw hb1
    go_wp2_with fail
    refine (pend_c s hs _ HE1.out).mono ?_
    rintro e w2 ⟨h, hb2⟩
    have HE2 := Lib.hid (HE1.out.later (hb2.mono HE1.out.lt) (by have := HE.out.lt; omega))
    have hx2 : Pair w2 w.heap.size 112 (.int .u32 0) (.int .u32 0) := (hb2.block _ (by omega)).trans hx
    have k0 := hx2.c0
    have k1 := hx2.c1
    have g0 := hx2.f0
    have g1 := hx2.f1
    have HX := Lib.hid hx2
    have HB2 := Lib.hid hb2
    clear hx hx2 hb2
    rcases h with ⟨v, hv, hle, rfl⟩ | ⟨hv, v, hle, rfl⟩
    · have HV := Lib.hid hv
      clear hv k0 k1 g0 g1
      go_wp2_with fail
      refine (pend_c s hs _ HE2.out).mono ?_
      rintro e w3 ⟨h, hb3⟩
      have hx3 : Pair w3 w.heap.size 112 (.int .u32 0) (.int .u32 0) := (hb3.block _ HX.out.lt).trans HX.out
      have k0 := hx3.c0
      have k1 := hx3.c1
      have g0 := hx3.f0
      have g1 := hx3.f1
      have HX3 := Lib.hid hx3
      have HB3 := Lib.hid hb3
      clear hx3 hb3
      rcases h with ⟨v2, hv2, hle2, rfl⟩ | ⟨hv2, v2, hle2, rfl⟩
      · obtain rfl : v2 = v := Option.some.inj (hv2.symm.trans HV.out)
        clear hv2
        go_wp2_with fail
        have hx4 := (HX3.out.set0 (.int .u32 v2)).set1 (.int .u32 v2)
        refine bodyPost_ret (results_pr _ _ w.heap.size _ _ hx4 rfl) rfl ?_
        refine ⟨.inl ⟨v2, v2, by rw [HR.out, HV.out]; rfl, hle, hle, rfl⟩, ?_⟩
        exact (((HB1.out.trans (HB2.out.mono (by omega))).trans (HB3.out.mono (by have := HB2.out.size; omega))).setCell (p := ⟨w.heap.size, 0, none⟩) (Nat.le_refl _) _).setCell (p := ⟨w.heap.size, 1, none⟩) (Nat.le_refl _) _
      · exact absurd (hv2.symm.trans HV.out) (by simp)
    · have HV := Lib.hid hv
      clear hv
      go_wp2_with fail
      have hx4 := (HX.out.set0 (.int .u32 0)).set1 (.int .u32 0)
      refine bodyPost_ret (results_pr _ _ w.heap.size _ _ hx4 rfl) rfl ?_
      refine ⟨.inr ⟨by rw [HR.out, HV.out]; rfl, rfl⟩, ?_⟩
      exact ((HB1.out.trans (HB2.out.mono (by omega))).setCell (p := ⟨w.heap.size, 0, none⟩) (Nat.le_refl _) _).setCell (p := ⟨w.heap.size, 1, none⟩) (Nat.le_refl _) _
  · have hsp : p.length ≤ s.size ∧ r.length ≤ s.size := by rw [← ba_len, hpr]; simp; omega
    have HC := Lib.hid (fun w => cut_some s 58 p r (by omega) hpr hp w)
    have HR : Hid (rangeOf s.data.toList = pair2 (endB p) (endB r)) := by rw [hpr]; exact rangeOf_two hp
    have HE := Lib.hid hE
    clear hpr hp hE
    go_enter Tryz.func142, Tryz.ntmps142
    go_wp2_with fail
    refine (HC.out _).mono ?_
    rintro e w1 ⟨rfl, n, hw⟩
    have hb1 : Below w.heap.size w w1 := by rw [hw]; exact below_drewN ((Below.refl _ w).alloc (Nat.le_refl _) _) n
    have hsz : w1.heap.size = w.heap.size + 1 := by rw [hw]; simp
    have hx : Pair w1 w.heap.size 112 (.int .u32 0) (.int .u32 0) := by rw [hw]; exact Pair.new w 112 (.int .u32 0) (.int .u32 0)
    have HW := Lib.hid hw
    have HE1 := Lib.hid (HE.out.later hb1 HE.out.lt)
    have HB1 := Lib.hid hb1
    clear hw hb1
    go_wp2_with fail
    refine (pend_c (txt p) (by rw [txt_size]; omega) _ HE1.out).mono ?_
    rintro e w2 ⟨h, hb2⟩
    rw [show (txt p).data.toList = p by simp [txt]] at h
    have HE2 := Lib.hid (HE1.out.later (hb2.mono HE1.out.lt) (by have := HE.out.lt; omega))
    have hx2 : Pair w2 w.heap.size 112 (.int .u32 0) (.int .u32 0) := (hb2.block _ (by omega)).trans hx
    have k0 := hx2.c0
    have k1 := hx2.c1
    have g0 := hx2.f0
    have g1 := hx2.f1
    have HX := Lib.hid hx2
    have HB2 := Lib.hid hb2
    clear hx hx2 hb2
    rcases h with ⟨v, hv, hle, rfl⟩ | ⟨hv, v, hle, rfl⟩
    · have HV := Lib.hid hv
      clear hv k0 k1 g0 g1
      go_wp2_with fail
      refine (pend_c (txt r) (by rw [txt_size]; omega) _ HE2.out).mono ?_
      rintro e w3 ⟨h, hb3⟩
      rw [show (txt r).data.toList = r by simp [txt]] at h
      have hx3 : Pair w3 w.heap.size 112 (.int .u32 0) (.int .u32 0) := (hb3.block _ HX.out.lt).trans HX.out
      have k0 := hx3.c0
      have k1 := hx3.c1
      have g0 := hx3.f0
      have g1 := hx3.f1
      have HX3 := Lib.hid hx3
      have HB3 := Lib.hid hb3
      clear hx3 hb3
      rcases h with ⟨v2, hv2, hle2, rfl⟩ | ⟨hv2, v2, hle2, rfl⟩
      · have HV2 := Lib.hid hv2
        clear hv2
        go_wp2_with fail
        have hx4 := (HX3.out.set0 (.int .u32 v)).set1 (.int .u32 v2)
        refine bodyPost_ret (results_pr _ _ w.heap.size _ _ hx4 rfl) rfl ?_
        refine ⟨.inl ⟨v, v2, by rw [HR.out, HV.out, HV2.out]; rfl, hle, hle2, rfl⟩, ?_⟩
        exact (((HB1.out.trans (HB2.out.mono (by omega))).trans (HB3.out.mono (by have := HB2.out.size; omega))).setCell (p := ⟨w.heap.size, 0, none⟩) (Nat.le_refl _) _).setCell (p := ⟨w.heap.size, 1, none⟩) (Nat.le_refl _) _
      · have HV2 := Lib.hid hv2
        clear hv2
        go_wp2_with fail
        have hx4 := (HX3.out.set0 (.int .u32 0)).set1 (.int .u32 0)
        refine bodyPost_ret (results_pr _ _ w.heap.size _ _ hx4 rfl) rfl ?_
        refine ⟨.inr ⟨by rw [HR.out, HV2.out, pair2_none_r], rfl⟩, ?_⟩
        exact (((HB1.out.trans (HB2.out.mono (by omega))).trans (HB3.out.mono (by have := HB2.out.size; omega))).setCell (p := ⟨w.heap.size, 0, none⟩) (Nat.le_refl _) _).setCell (p := ⟨w.heap.size, 1, none⟩) (Nat.le_refl _) _
    · have HV := Lib.hid hv
      clear hv
      go_wp2_with fail
      have hx4 := (HX.out.set0 (.int .u32 0)).set1 (.int .u32 0)
      refine bodyPost_ret (results_pr _ _ w.heap.size _ _ hx4 rfl) rfl ?_
      refine ⟨.inr ⟨by rw [HR.out, HV.out]; rfl, rfl⟩, ?_⟩
      exact ((HB1.out.trans (HB2.out.mono (by omega))).setCell (p := ⟨w.heap.size, 0, none⟩) (Nat.le_refl _) _).setCell (p := ⟨w.heap.size, 1, none⟩) (Nat.le_refl _) _
def mapR : List (List UInt8) → Option (List (Nat × Nat))
  | [] => some []
  | l :: r => match rangeOf l with | none => none | some x => (mapR r).map (x :: ·)
def setOf (l : List UInt8) : Option (List (Nat × Nat)) := mapR (splitB 44 l)
def cellsP (l : List (Nat × Nat)) : List Value := l.flatMap fun x => [.int .u32 x.1, .int .u32 x.2]
theorem cellsP_len (l : List (Nat × Nat)) : (cellsP l).length = l.length * 2 := by
  induction l with
  | nil => rfl
  | cons x r ih =>
    show (_ :: _ :: cellsP r).length = _
    simp only [List.length_cons, ih]; omega
theorem cellsP_snoc (l : List (Nat × Nat)) (x y : Nat) : cellsP (l ++ [(x, y)]) = cellsP l ++ [.int .u32 x, .int .u32 y] := by
  unfold cellsP; rw [List.flatMap_append]; rfl
theorem cut_any (B : ByteArray) (c : UInt8) (hB : B.size ≤ 9223372036854775806) : ∃ (P S : ByteArray) (m : Bool), splitB c B.data.toList = P.data.toList :: (if m then splitB c S.data.toList else []) ∧ P.size ≤ B.size ∧ S.size ≤ B.size ∧ S.size + boolV (.bool m) < B.size + 1 ∧
    ∀ w, Calls Tryz.prog 141 #[.string B, .string ⟨#[c]⟩] w fun e w' => e = .returned (.tuple #[.string P, .string S, .bool m]) ∧ ∃ n, w' = w.drewN n := by
  rcases at_byte c B.data.toList with hno | ⟨p, r, hpr, hp⟩
  · exact ⟨B, ⟨#[]⟩, false, by rw [splitB_none hno]; rfl, Nat.le_refl _, by show (0 : Nat) ≤ _; omega, by show 0 + 0 < _; omega, cut_none B c hno⟩
  · have hl : p.length + 1 + r.length = B.size := by rw [← ba_len, hpr]; simp; omega
    refine ⟨txt p, txt r, true, ?_, by rw [txt_size]; omega, by rw [txt_size]; omega, by show (txt r).size + 1 < _; rw [txt_size]; omega, cut_some B c p r hB hpr hp⟩
    rw [hpr, splitB_some hp]; simp [txt]
theorem mapR_cons (l : List UInt8) (r : List (List UInt8)) : mapR (l :: r) = match rangeOf l with | none => none | some x => (mapR r).map (x :: ·) := rfl
theorem setStep {R : Option (List (Nat × Nat))} {done : List (Nat × Nat)} {l : List UInt8} {rest : List (List UInt8)} {x : Nat × Nat} (h : R = (mapR (l :: rest)).map (done ++ ·)) (hx : rangeOf l = some x) :
    R = (mapR rest).map ((done ++ [x]) ++ ·) := by
  rw [h, mapR_cons, hx]
  cases mapR rest with
  | none => rfl
  | some v => simp
theorem setFail {R : Option (List (Nat × Nat))} {done : List (Nat × Nat)} {l : List UInt8} {rest : List (List UInt8)} (h : R = (mapR (l :: rest)).map (done ++ ·)) (hx : rangeOf l = none) : R = none := by
  rw [h, mapR_cons, hx]; rfl
theorem mapR_if (m : Bool) (l : List (List UInt8)) : mapR (if m then l else []) = if m then mapR l else some [] := by cases m <;> rfl
def SetIs (B : Nat) (t : TypeId) (R : Option (List (Nat × Nat))) (e : Ending) (w' : World) : Prop := match R with
  | none => e = .returned (.tuple #[.slice none 0 0, .int .i64 2])
  | some l => if 64 < l.length then e = .returned (.tuple #[.slice none 0 0, .int .i64 9]) else ∃ v, e = .returned (.tuple #[v, .int .i64 0]) ∧ w'.ownsRow B t 2 v l.length (cellsP l)
theorem SetIs.bad {B : Nat} {t : TypeId} {R : Option (List (Nat × Nat))} {w' : World} (h : R = none) : SetIs B t R (.returned (.tuple #[.slice none 0 0, .int .i64 2])) w' := by subst h; rfl
theorem SetIs.long {B : Nat} {t : TypeId} {R : Option (List (Nat × Nat))} {l : List (Nat × Nat)} {w' : World} (h : R = some l) (hl : 64 < l.length) : SetIs B t R (.returned (.tuple #[.slice none 0 0, .int .i64 9])) w' := by subst h; show (if _ then _ else _); rw [if_pos hl]
theorem SetIs.good {B : Nat} {t : TypeId} {R : Option (List (Nat × Nat))} {l : List (Nat × Nat)} {w' : World} {v : Value} (h : R = some l) (hl : ¬ 64 < l.length) (ho : w'.ownsRow B t 2 v l.length (cellsP l)) : SetIs B t R (.returned (.tuple #[v, .int .i64 0])) w' := by subst h; show (if _ then _ else _); rw [if_neg hl]; exact ⟨_, rfl, ho⟩
theorem take_snoc {l : List (Nat × Nat)} {x : Nat × Nat} (h : l.length < 64) : (l ++ [x]).take 64 = l.take 64 ++ [x] := by
  rw [List.take_of_length_le (by simp; omega), List.take_of_length_le (by omega)]
theorem take_same {l : List (Nat × Nat)} {x : Nat × Nat} (h : 64 ≤ l.length) : (l ++ [x]).take 64 = l.take 64 := by
  rw [List.take_append_of_le_length h]
theorem Tryz.infoRange : (Tryz.prog.info? 112).map (fun i => (i.zero, i.size, i.bytes)) = some (some (.agg #[.int .u32 0, .int .u32 0]), 2, 8) := by kernel_rfl
set_option maxRecDepth 100000 in
set_option maxHeartbeats 2000000 in
theorem qparse_c (A : ByteArray) (hA : A.size ≤ 1100000) (w : World) (hE : Errs w) : Calls Tryz.prog 80 #[.string A] w fun e w' => SetIs w.heap.size 112 (setOf A.data.toList) e w' ∧ Below w.heap.size w w' := by
  obtain ⟨i0, hi, hz0, hz1, hz2⟩ := info_parts Tryz.infoRange
  obtain ⟨R, hR⟩ : ∃ R, R = setOf A.data.toList := ⟨_, rfl⟩
  rw [← hR]
  have HR := Lib.hid hR
  have HE := Lib.hid hE
  clear hR hE
  go_enter Tryz.func80, Tryz.ntmps80
  go_wp2_with fail
  go_step3
  go_wp2_with fail
  go_step3
  go_wp2_with fail
  go_loopw [0, 4, 5, 6, 7, 8, 9] (fun t0 t4 t5 t6 _ _ _ wr => ∃ (S : ByteArray) (done : List (Nat × Nat)) (ad : Option Addr) (n cp : Nat) (m : Bool), t0 = .string S ∧ t4 = .slice ad n cp ∧ t5 = .bool (decide (64 < done.length)) ∧ t6 = .bool m ∧ S.size ≤ 1100000 ∧ n ≤ 64 ∧
      Hid (R = (if m then mapR (splitB 44 S.data.toList) else some []).map (done ++ ·)) ∧ Hid (n = min 64 done.length) ∧ Hid (wr.ownsRow w.heap.size 112 2 (.slice ad n cp) n (cellsP (done.take 64))) ∧ Hid (Below w.heap.size w wr)) (fun t0 _ _ t6 _ _ _ _ => strLenV t0 + boolV t6)
  case atStart =>
    refine ⟨A, [], none, 0, 0, true, rfl, rfl, rfl, rfl, hA, by omega, ?_, rfl, World.ownsRow_nil _ _ _ _, Below.refl _ _⟩
    show R = _
    rw [HR.out]; unfold setOf; cases mapR (splitB 44 A.data.toList) <;> simp
  case round =>
    obtain ⟨S, done, ad, n, cp, m, rfl, rfl, rfl, rfl, hsS, hn, HM, HN, HO, HB⟩ := hrel
    cases m with
    | false =>
      have hRR : R = some done := by rw [HM.out]; simp
      have HRR := Lib.hid hRR
      clear hRR HM
      by_cases hl : 64 < done.length
      · go_wp2_with fail
        rw [Exit.noGoto_ret]
        go_ret2
        exact ⟨SetIs.long HRR.out hl, HB.out⟩
      · go_wp2_with fail
        rw [Exit.noGoto_ret]
        go_ret2
        refine ⟨SetIs.good HRR.out hl ?_, HB.out⟩
        have h1 := HO.out
        have h2 := HN.out
        have hd : done.take 64 = done := List.take_of_length_le (by omega)
        rw [hd] at h1
        have hn2 : n = done.length := by omega
        rw [← hn2]; exact h1
    | true =>
      obtain ⟨P, S2, m2, hsp, hP, hS2, hme, hcut⟩ := cut_any S 44 (by omega)
      have hRR : R = (mapR (P.data.toList :: (if m2 then splitB 44 S2.data.toList else []))).map (done ++ ·) := by rw [← hsp]; exact HM.out
      have HRR := Lib.hid hRR
      have HC := Lib.hid hcut
      have HME := Lib.hid hme
      clear hRR hcut hsp hme HM
      go_wp2_with fail
      refine (HC.out _).mono ?_
      rintro e w2 ⟨rfl, k, hw⟩
      have HB2 : Hid (Below w.heap.size w w2) := by rw [hw]; exact below_drewN HB.out k
      have HO2 : Hid (w2.ownsRow w.heap.size 112 2 (.slice ad n cp) n (cellsP (done.take 64))) := own_below HO.out (by rw [hw]; exact below_drewN (Below.refl _ wr) k)
      have HE2 := Lib.hid (HE.out.later HB2.out HE.out.lt)
      clear hw
      go_wp2_with fail
      refine (prange_c P (by omega) _ HE2.out).mono ?_
      rintro e w3 ⟨h, hb3⟩
      have HB3 : Hid (Below w.heap.size w w3) := HB2.out.trans (hb3.mono HB2.out.size)
      have HO3 : Hid (w3.ownsRow w.heap.size 112 2 (.slice ad n cp) n (cellsP (done.take 64))) := own_below HO2.out hb3
      clear hb3
      rcases h with ⟨x, y, hr, hx, hy, rfl⟩ | ⟨hr, rfl⟩
      · have hrn := setStep HRR.out hr
        rw [mapR_if] at hrn
        have HRN := Lib.hid hrn
        clear hrn
        clear hr
        unfold rng
        by_cases h64 : n = 64
        · subst h64
          go_wp2_with fail
          go_roundw
          case rel =>
            have hl : 64 ≤ done.length := by have := HN.out; omega
            refine ⟨S2, done ++ [(x, y)], ad, 64, cp, m2, rfl, rfl, ?_, rfl, by omega, by omega, HRN.out, ?_, ?_, HB3.out.alloc HB3.out.size _⟩
            · rw [show decide (64 < (done ++ [(x, y)]).length) = true by simp; omega]
            · show 64 = min 64 (done ++ [(x, y)]).length
              simp; omega
            · show World.ownsRow _ _ _ _ _ _ _
              rw [take_same hl]; exact HO3.out.alloc _
          case measure => exact HME.out
        · have e64 : ((n : Int) == 64) = false := qF (by omega)
          have hc2 : ∀ j u, [Value.int .u32 x, Value.int .u32 y][j]? = some u → ((w3.alloc (.cells #[.int .u32 x, .int .u32 y] 112)).alloc (.cells #[.int .u32 x, .int .u32 y] 112)).cell? ((⟨w3.heap.size + 1, 0, none⟩ : Addr).add j) = some u := by
            have := cell_two_new (w3.alloc (.cells #[.int .u32 x, .int .u32 y] 112)) (.int .u32 x) (.int .u32 y) 112
            rw [World.size_alloc] at this; exact this
          have HC2 := Lib.hid hc2
          have hls := HB3.out.size
          clear hc2
          go_wp2_with (at_builtin; refine wpList_append_own _ rfl (.tmp 27) (.tmp 29) 34 rfl w.heap.size 112 i0 (.agg #[.int .u32 0, .int .u32 0]) 2 8 Tryz.underlying34 hi hz0 hz1 hz2 rfl (by decide) _ _ _ rfl ((HO3.out.alloc _).alloc _) ⟨w3.heap.size + 1, 0, none⟩ 1 1 [.int .u32 x, .int .u32 y] rfl rfl HC2.out (fun x hx => by simp at hx; rcases hx with rfl | rfl <;> rfl) (by unfold maxLen; omega) (by omega) (by simp; omega) ?_)
          intro v' w4 hown4 hgrow4 _
          have hb4 : Below w.heap.size w w4 := Below.grown ((HB3.out.alloc hls _).alloc (by simp; omega) _) hgrow4 (by simp; omega) (fun j hj => (HO3.out.lt _ hj).1)
          obtain ⟨ad4, cp4, rfl⟩ := own_form hown4
          have HO4 := Lib.hid hown4
          have HB4 := Lib.hid hb4
          clear hown4 hgrow4 hb4
          go_wp2_with fail
          go_roundw
          case rel =>
            have hl : done.length < 64 := by have := HN.out; omega
            refine ⟨S2, done ++ [(x, y)], ad4, n + 1, cp4, m2, rfl, rfl, ?_, rfl, by omega, by omega, HRN.out, ?_, ?_, HB4.out⟩
            · rw [show decide (64 < (done ++ [(x, y)]).length) = false by simp; omega, show decide (64 < done.length) = false by simp; omega]
            · show n + 1 = min 64 (done ++ [(x, y)]).length
              have := HN.out; simp; omega
            · show World.ownsRow _ _ _ _ _ _ _
              rw [take_snoc hl, cellsP_snoc]; exact HO4.out
          case measure => exact HME.out
      · have HRN := Lib.hid (setFail HRR.out hr)
        clear hr
        unfold rng
        go_wp2_with fail
        rw [Exit.noGoto_ret]
        go_ret2
        exact ⟨SetIs.bad HRN.out, (HB3.out.alloc HB3.out.size _)⟩
theorem Tryz.infoRRange : (Tryz.prog.info? 115).map (fun i => (i.zero, i.size, i.bytes)) = some (some (.agg #[.int .u32 0, .int .u32 0]), 2, 8) := by kernel_rfl
def endT (n : Nat) : List UInt8 := if n = 0 then [42] else Lib.decDigits n
def rangeT (x : Nat × Nat) : List UInt8 := endT x.1 ++ if x.1 = x.2 then [] else 58 :: endT x.2
def u64V : Value → Nat | .int _ n => n.toNat | _ => 0
theorem dec_small {u : Nat} (h : u < 10) : Lib.decDigits u = [UInt8.ofNat (48 + u)] := by rw [Lib.decDigits, dif_pos h]
theorem dec_big {u : Nat} (h : ¬ u < 10) : Lib.decDigits u = Lib.decDigits (u / 10) ++ [UInt8.ofNat (48 + u % 10)] := by rw [Lib.decDigits, dif_neg h]
theorem dec_len : ∀ (k u : Nat), u < 10 ^ (k + 1) → (Lib.decDigits u).length ≤ k + 1
  | 0, u, h => by rw [dec_small (by simpa using h)]; simp
  | k + 1, u, h => by
    by_cases hu : u < 10
    · rw [dec_small hu]; simp
    · rw [dec_big hu, List.length_append]
      have := dec_len k (u / 10) (by rw [Nat.pow_succ] at h; omega)
      simp; omega
theorem endT_len {n : Nat} (h : n ≤ 4294967295) : (endT n).length ≤ 10 := by
  unfold endT; split
  · simp
  · exact dec_len 9 n (by omega)
theorem ret_s {a b : ByteArray} (h : a = b) : Ending.returned (.string a) = .returned (.string b) := by rw [h]
theorem digit_slice {d : Nat} (h : d < 10) : (⟨#[48, 49, 50, 51, 52, 53, 54, 55, 56, 57]⟩ : ByteArray).extract d (d + 1) = txt [UInt8.ofNat (48 + d)] := by
  have : ∀ d < 10, ((⟨#[48, 49, 50, 51, 52, 53, 54, 55, 56, 57]⟩ : ByteArray).extract d (d + 1)).data.toList = [UInt8.ofNat (48 + d)] := by decide +kernel
  have h2 := this d h
  rw [← txt_data (ByteArray.extract _ _ _), h2]
set_option maxRecDepth 100000 in
set_option maxHeartbeats 1000000 in
theorem rnum_c (n : Nat) (hn : n ≤ 4294967295) (w : World) : Calls Tryz.prog 57 #[.int .u64 n] w fun e w' => e = .returned (.string (txt (Lib.decDigits n))) ∧ Below w.heap.size w w' := by
  go_enter Tryz.func57, Tryz.ntmps57
  go_wp2_with fail
  go_loopw [0, 3] (fun t0 t3 wr => ∃ (m : Nat) (S : ByteArray), t0 = .int .u64 m ∧ t3 = .string S ∧ m ≤ 4294967295 ∧ Hid (Lib.decDigits n = Lib.decDigits m ++ S.data.toList) ∧ S.size ≤ 1000 ∧ Hid (Below w.heap.size w wr)) (fun t0 _ _ => u64V t0)
  case atStart => exact ⟨n, _, rfl, rfl, hn, (List.append_nil _).symm, by show (0 : Nat) ≤ _; omega, Below.refl _ _⟩
  case round =>
    obtain ⟨m, S, rfl, rfl, hm, HD, hS, HB⟩ := hrel
    by_cases h9 : m < 10
    · have q9 : ¬ (9 : Int) < m := by omega
      go_wp2_with fail
      go_ret
      refine ⟨ret_s ?_, HB.out⟩
      have h1 := HD.out
      rw [dec_small h9] at h1
      rw [digit_slice h9, h1]
      conv => lhs; rw [← txt_data S]
      exact txt_append _ _
    · have q9 : (9 : Int) < m := by omega
      go_wp2_with fail
      go_roundw
      case rel =>
        have hd : m % 10 < 10 := Nat.mod_lt _ (by omega)
        have hS' : ((⟨#[48, 49, 50, 51, 52, 53, 54, 55, 56, 57]⟩ : ByteArray).extract (m % 10) (m % 10 + 1) ++ S).data.toList = UInt8.ofNat (48 + m % 10) :: S.data.toList := by rw [digit_slice hd]; simp [txt]
        have h1 := HD.out
        rw [dec_big h9, List.append_assoc] at h1
        have h2 : Lib.decDigits n = Lib.decDigits (m / 10) ++ ((⟨#[48, 49, 50, 51, 52, 53, 54, 55, 56, 57]⟩ : ByteArray).extract (m % 10) (m % 10 + 1) ++ S).data.toList := by rw [hS', h1]; rfl
        have h3 : (Lib.decDigits n).length ≤ 10 := dec_len 9 n (by omega)
        refine ⟨m / 10, _, by go_num, rfl, by omega, h2, ?_, HB.out⟩
        have h4 := congrArg List.length h2
        rw [List.length_append, ba_len] at h4
        omega
      case measure => show ((m : Int) / 10).toNat < ((m : Int)).toNat; omega
set_option maxRecDepth 100000 in
set_option maxHeartbeats 1000000 in
theorem rone_c (n : Nat) (hn : n ≤ 4294967295) (w : World) : Calls Tryz.prog 116 #[.int .u32 n] w fun e w' => e = .returned (.string (txt (endT n))) ∧ Below w.heap.size w w' := by
  by_cases h0 : n = 0
  · subst h0
    go_enter Tryz.func116, Tryz.ntmps116
    go_wp2_with fail
    go_ret
    exact ⟨rfl, Below.refl _ _⟩
  · have e0 : ((n : Int) == 0) = false := qF (by omega)
    have he : endT n = Lib.decDigits n := if_neg h0
    rw [he]
    have HC := Lib.hid (rnum_c n hn w)
    clear he h0
    go_enter Tryz.func116, Tryz.ntmps116
    go_wp2_with fail
    refine HC.out.mono ?_
    rintro e w' ⟨rfl, hb⟩
    have HB := Lib.hid hb
    clear hb
    go_wp2_with fail
    go_ret
    exact ⟨rfl, HB.out⟩
def Tab (w : World) : Prop := Lib.TabIs Tryz.prog w "internal/strconv.uint64pow10" .u64 Lib.pow10Tab
theorem iappend_c (B n u : Nat) (hu : u ≤ 4294967295) (sv : Value) (xs : List Value) (w : World) (hown : w.ownsRow B 5 1 sv n xs) (hBw : B ≤ w.heap.size) (hlim : n ≤ 1000000) (hT : Tab w) :
    Calls Tryz.prog 231 #[sv, .int .u64 u, .int .i64 10] w fun e w' => ∃ v', e = .returned v' ∧ w'.ownsRow B 5 1 v' (n + (Lib.decDigits u).length) (xs ++ Lib.byteCells (Lib.decDigits u)) ∧ Below B w w' ∧ Lib.OthersKept 5 none w w' := by
  by_cases h : u < 100
  · exact Tryz.internal_strconv_AppendUint_10_small B n u h sv xs w hown hBw (by omega)
  · exact Tryz.internal_strconv_AppendUint_10_big B n u (by omega) (by omega) sv xs w hown hBw (by omega) hT
set_option maxRecDepth 100000 in
theorem puappend_c (B n u : Nat) (hu : u ≤ 4294967295) (sv : Value) (xs : List Value) (w : World) (hown : w.ownsRow B 5 1 sv n xs) (hBw : B ≤ w.heap.size) (hlim : n ≤ 1000000) (hT : Tab w) :
    Calls Tryz.prog 196 #[sv, .int .u64 u, .int .i64 10] w fun e w' => ∃ v', e = .returned v' ∧ w'.ownsRow B 5 1 v' (n + (Lib.decDigits u).length) (xs ++ Lib.byteCells (Lib.decDigits u)) ∧ Below B w w' ∧ Lib.OthersKept 5 none w w' := by
    have HC := Lib.hid (iappend_c B n u hu sv xs w hown hBw hlim hT)
    clear hown hT
    go_enter Tryz.func196, Tryz.ntmps196
    go_wp2_with fail
    refine HC.out.mono ?_
    rintro e w' ⟨v', rfl, h1, h2, h3⟩
    have H1 := Lib.hid h1
    have H2 := Lib.hid h2
    have H3 := Lib.hid h3
    clear h1 h2 h3
    go_wp2_with fail
    go_ret
    exact ⟨v', rfl, H1.out, H2.out, H3.out⟩
theorem Tryz.infoByte : (Tryz.prog.info? 5).map (fun i => (i.zero, i.size, i.bytes)) = some (some (.int .u8 0), 1, 1) := by kernel_rfl
theorem own_row {w : World} {B e n size : Nat} {v : Value} {xs : List Value} (h : w.ownsRow B e size v n xs) : ∀ g, v.ownBlock = some g → ∃ c fz, w.heap[g]? = some (.cells c e fz) := by
  rcases h.2 with ⟨rfl, rfl⟩ | ⟨g', cap, cur, rfl, _, hg, _⟩
  · intro g h; cases h
  · intro g h; cases h; exact ⟨_, _, hg⟩
set_option maxRecDepth 100000 in
set_option maxHeartbeats 1000000 in
theorem append_end_c (B n u : Nat) (hu : u ≤ 4294967295) (sv : Value) (xs : List Value) (w : World) (hown : w.ownsRow B 5 1 sv n xs) (hBw : B ≤ w.heap.size) (hlim : n ≤ 1000000) (hT : Tab w) :
    Calls Tryz.prog 157 #[sv, .int .u32 u] w fun e w' => ∃ v', e = .returned v' ∧ w'.ownsRow B 5 1 v' (n + (endT u).length) (xs ++ Lib.byteCells (endT u)) ∧ Below B w w' ∧ Lib.OthersKept 5 none w w' := by
  by_cases h0 : u = 0
  · subst h0
    obtain ⟨i0, hi, hz0, hz1, hz2⟩ := info_parts Tryz.infoByte
    go_enter Tryz.func157, Tryz.ntmps157
    go_wp2_with (at_builtin; refine wpList_append_own _ rfl (.tmp 7) (.tmp 8) 97 rfl B 5 i0 (.int .u8 0) 1 1 Tryz.underlying97 hi hz0 hz1 hz2 rfl (by decide) _ _ _ rfl (hown.alloc _) ⟨w.heap.size, 0, none⟩ 1 1 [.int .u8 42] rfl rfl (cell_one_new _ _ _) (fun x hx => by simp at hx; subst hx; rfl) (by unfold maxLen; omega) (by omega) (by simp; omega) ?_)
    intro v' w4 hown4 hgrow4 _
    have hk : Lib.OthersKept 5 none w w4 := ((Lib.OthersKept.refl _ _ w).alloc _).grown hgrow4 (own_row (hown.alloc _))
    have hb4 : Below B w w4 := Below.grown ((Below.refl B w).alloc hBw _) hgrow4 (by simp; omega) (fun j hj => (hown.lt _ hj).1)
    have HO4 := Lib.hid hown4
    have HB4 := Lib.hid hb4
    have HK := Lib.hid hk
    clear hown4 hgrow4 hb4 hk hown
    go_wp2_with fail
    go_ret
    exact ⟨v', rfl, HO4.out, HB4.out, HK.out⟩
  · have e0 : ((u : Int) == 0) = false := qF (by omega)
    have he : endT u = Lib.decDigits u := if_neg h0
    rw [he]
    have HC := Lib.hid (puappend_c B n u hu sv xs w hown hBw hlim hT)
    clear he h0 hown hT
    go_enter Tryz.func157, Tryz.ntmps157
    go_wp2_with fail
    refine HC.out.mono ?_
    rintro e w' ⟨v', rfl, h1, h2, h3⟩
    have H1 := Lib.hid h1
    have H2 := Lib.hid h2
    have H3 := Lib.hid h3
    clear h1 h2 h3
    go_wp2_with fail
    go_ret
    exact ⟨v', rfl, H1.out, H2.out, H3.out⟩
def rangesT : Bool → List (Nat × Nat) → List UInt8
  | _, [] => []
  | b, x :: r => (if b then [] else [44]) ++ rangeT x ++ rangesT false r
def setT (l : List (Nat × Nat)) : List UInt8 := rangesT true l
theorem rangesT_snoc : ∀ (b : Bool) (l : List (Nat × Nat)) (x : Nat × Nat), rangesT b (l ++ [x]) = rangesT b l ++ (if b && l.isEmpty then [] else [44]) ++ rangeT x
  | b, [], x => by cases b <;> simp [rangesT]
  | b, y :: r, x => by
    show (if b then [] else [44]) ++ rangeT y ++ rangesT false (r ++ [x]) = _
    rw [rangesT_snoc false r x]
    cases b <;> simp [rangesT]
theorem setT_take {l : List (Nat × Nat)} {k : Nat} (h : k < l.length) : setT (l.take (k + 1)) = setT (l.take k) ++ (if k = 0 then [] else [44]) ++ rangeT l[k] := by
  unfold setT
  rw [List.take_succ_eq_append_getElem h, rangesT_snoc]
  cases k with
  | zero => simp
  | succ k =>
    have : (l.take (k + 1)).isEmpty = false := by
      cases l with
      | nil => simp at h
      | cons a b => rfl
    rw [this]; simp
theorem rangeT_len {x : Nat × Nat} (h1 : x.1 ≤ 4294967295) (h2 : x.2 ≤ 4294967295) : (rangeT x).length ≤ 21 := by
  unfold rangeT
  have := endT_len h1
  have := endT_len h2
  rw [List.length_append]
  split
  · simp; omega
  · simp; omega
theorem setT_len {l : List (Nat × Nat)} (h : ∀ x ∈ l, x.1 ≤ 4294967295 ∧ x.2 ≤ 4294967295) : ∀ k ≤ l.length, (setT (l.take k)).length ≤ 22 * k
  | 0, _ => by simp [setT, rangesT]
  | k + 1, hk => by
    rw [setT_take (by omega), List.length_append, List.length_append]
    have h1 := setT_len h k (by omega)
    have h2 := h _ (List.getElem_mem (show k < l.length by omega))
    have h3 := rangeT_len h2.1 h2.2
    have h4 : (if k = 0 then ([] : List UInt8) else [44]).length ≤ 1 := by split <;> simp
    omega
theorem cellsP_at {l : List (Nat × Nat)} : ∀ {k : Nat} (h : k < l.length), (cellsP l)[k * 2]? = some (.int .u32 l[k].1) ∧ (cellsP l)[k * 2 + 1]? = some (.int .u32 l[k].2) := by
  induction l with
  | nil => intro k h; simp at h
  | cons x r ih =>
    intro k h
    cases k with
    | zero => exact ⟨rfl, rfl⟩
    | succ k =>
      have := ih (k := k) (by simpa using h)
      show (Value.int .u32 x.1 :: .int .u32 x.2 :: cellsP r)[(k + 1) * 2]? = _ ∧ (Value.int .u32 x.1 :: .int .u32 x.2 :: cellsP r)[(k + 1) * 2 + 1]? = _
      rw [show (k + 1) * 2 = k * 2 + 1 + 1 by omega, show k * 2 + 1 + 1 + 1 = (k * 2 + 1) + 1 + 1 by omega]
      simpa using this
theorem txt_44 : (⟨#[44]⟩ : ByteArray) = txt [44] := rfl
theorem txt_58 : (⟨#[58]⟩ : ByteArray) = txt [58] := rfl
def Small (l : List (Nat × Nat)) : Prop := ∀ x ∈ l, x.1 ≤ 4294967295 ∧ x.2 ≤ 4294967295
theorem pow10_named : Tryz.prog.globalNamed "internal/strconv.uint64pow10" = some 7 := by kernel_rfl
theorem Tab.later {w w' : World} {B : Nat} (h : Tab w) (hb : Below B w w') (hB : 7 < B) : Tab w' := by
  unfold Tab Lib.TabIs World.var? at *
  rw [pow10_named] at *
  simp only [Option.bind_some] at *
  rw [hb.block 7 hB]; exact h
theorem Tab.lt {w : World} (h : Tab w) : 7 < w.heap.size := by
  unfold Tab Lib.TabIs World.var? at h
  rw [pow10_named] at h
  simp only [Option.bind_some] at h
  apply Decidable.byContradiction
  intro hn
  rw [Array.getElem?_eq_none (by omega)] at h
  simp at h
theorem Pair.others {W W' : World} {B : Nat} {a b : Value} (h : Pair W B 112 a b) (hk : Lib.OthersKept 5 none W W') : Pair W' B 112 a b :=
  hk B _ h (by simp) (fun c fz e => by cases e)
theorem cell_new_at {w : World} {x : Value} {t : TypeId} (A : Nat) (hA : A = w.heap.size) : ∀ j u, [x][j]? = some u → (w.alloc (.cells #[x] t)).cell? ((⟨A, 0, none⟩ : Addr).add j) = some u := by subst hA; exact cell_one_new w x t
def ov (x last : Nat) : Nat := if x = 0 then last else x
def loB (r : Nat × Nat) (last : Nat) : Nat := min (ov r.1 last) (ov r.2 last)
def hiB (r : Nat × Nat) (last : Nat) : Nat := max (ov r.1 last) (ov r.2 last)
def inB (n last : Nat) (r : Nat × Nat) : Bool := decide (loB r last ≤ n) && decide (n ≤ hiB r last)
def hasB (l : List (Nat × Nat)) (n last : Nat) : Bool := decide (n ≠ 0) && l.any (inB n last)
theorem take_any {α : Type} {l : List α} {k : Nat} {r : α} {p : α → Bool} (h : l[k]? = some r) : (l.take (k + 1)).any p = ((l.take k).any p || p r) := by
  obtain ⟨hk, rfl⟩ := List.getElem?_eq_some_iff.1 h
  rw [List.take_succ_eq_append_getElem hk, List.any_append]; simp
theorem any_at {α : Type} {l : List α} {k : Nat} {r : α} {p : α → Bool} (h : l[k]? = some r) (hp : p r = true) : l.any p = true :=
  List.any_eq_true.2 ⟨r, List.mem_of_getElem? h, hp⟩
theorem ret_2 {a c b d : Int} (h1 : a = b) (h2 : c = d) : Ending.returned (.tuple #[.int .u32 a, .int .u32 c]) = .returned (.tuple #[.int .u32 b, .int .u32 d]) := by rw [h1, h2]
set_option maxRecDepth 100000 in
set_option maxHeartbeats 1000000 in
theorem bounds_c (x y last : Nat) (w : World) : Calls Tryz.prog 179 #[.agg #[.int .u32 x, .int .u32 y], .int .u32 last] w fun e w' => e = .returned (.tuple #[.int .u32 (loB (x, y) last), .int .u32 (hiB (x, y) last)]) ∧ Below w.heap.size w w' := by
  have key : ∀ a b : Nat, ov x last = a → ov y last = b → loB (x, y) last = min a b ∧ hiB (x, y) last = max a b := by rintro a b rfl rfl; exact ⟨rfl, rfl⟩
  by_cases hx : x = 0
  · by_cases hy : y = 0
    · obtain ⟨h1, h2⟩ := key last last (by simp [ov, hx]) (by simp [ov, hy])
      have H1 := Lib.hid h1
      have H2 := Lib.hid h2
      subst hx
      subst hy
      clear key h1 h2
      go_enter Tryz.func179, Tryz.ntmps179
      go_wp2_with fail
      go_quiet (fail)
      go_wp2_with fail
      go_ret2
      refine ⟨ret_2 ?_ ?_, below_drewN ((Below.refl _ w).alloc (Nat.le_refl _) _) _⟩
      · rw [H1.out]; omega
      · rw [H2.out]; omega
    · obtain ⟨h1, h2⟩ := key last y (by simp [ov, hx]) (by simp [ov, hy])
      have ey : ((y : Int) == 0) = false := qF (by omega)
      have H1 := Lib.hid h1
      have H2 := Lib.hid h2
      subst hx
      clear hy
      clear key h1 h2
      go_enter Tryz.func179, Tryz.ntmps179
      go_wp2_with fail
      go_quiet (fail)
      go_wp2_with fail
      go_ret2
      refine ⟨ret_2 ?_ ?_, below_drewN ((Below.refl _ w).alloc (Nat.le_refl _) _) _⟩
      · rw [H1.out]; omega
      · rw [H2.out]; omega
  · by_cases hy : y = 0
    · obtain ⟨h1, h2⟩ := key x last (by simp [ov, hx]) (by simp [ov, hy])
      have ex : ((x : Int) == 0) = false := qF (by omega)
      have H1 := Lib.hid h1
      have H2 := Lib.hid h2
      clear hx
      subst hy
      clear key h1 h2
      go_enter Tryz.func179, Tryz.ntmps179
      go_wp2_with fail
      go_quiet (fail)
      go_wp2_with fail
      go_ret2
      refine ⟨ret_2 ?_ ?_, below_drewN ((Below.refl _ w).alloc (Nat.le_refl _) _) _⟩
      · rw [H1.out]; omega
      · rw [H2.out]; omega
    · obtain ⟨h1, h2⟩ := key x y (by simp [ov, hx]) (by simp [ov, hy])
      have ex : ((x : Int) == 0) = false := qF (by omega)
      have ey : ((y : Int) == 0) = false := qF (by omega)
      have H1 := Lib.hid h1
      have H2 := Lib.hid h2
      clear hx
      clear hy
      clear key h1 h2
      go_enter Tryz.func179, Tryz.ntmps179
      go_wp2_with fail
      go_quiet (fail)
      go_wp2_with fail
      go_ret2
      refine ⟨ret_2 ?_ ?_, below_drewN ((Below.refl _ w).alloc (Nat.le_refl _) _) _⟩
      · rw [H1.out]; omega
      · rw [H2.out]; omega
end Go.Proofs.YtpnnchpaaopdcaaGreatDoor
namespace Go.Proofs.YtpnnchpaaopdcaaGreatDoor
open Go
end Go.Proofs.YtpnnchpaaopdcaaGreatDoor
namespace Go.Proofs.YtpnnchpaaopdcaaGreatDoor
open Go Go.RowKit
attribute [local go_sem ↓] Go.wp_at_zero Go.wp_at_succ
theorem infoR : (Tryz.prog.info? 112).map (fun i => (i.zero, i.size, i.bytes)) = some (some (.agg #[.int .u32 0, .int .u32 0]), 2, 8) := by kernel_rfl
def PairsAt (w : World) (p : Option Addr) (l : List (Nat × Nat)) : Prop :=
  ∀ i r, l[i]? = some r → ∃ b off, p = some ⟨b, off, none⟩ ∧ b < w.heap.size ∧ w.cell? ⟨b, off + i * 2, none⟩ = some (.int .u32 r.1) ∧ w.cell? ⟨b, off + i * 2 + 1, none⟩ = some (.int .u32 r.2)
theorem PairsAt.below {w w' : World} {p : Option Addr} {l : List (Nat × Nat)} (h : PairsAt w p l) (hb : Below w.heap.size w w') : PairsAt w' p l := by
  intro i r hr
  obtain ⟨b, off, e, hlt, h1, h2⟩ := h i r hr
  exact ⟨b, off, e, Nat.lt_of_lt_of_le hlt hb.size, by rw [hb.cell (p := ⟨b, _, none⟩) hlt]; exact h1, by rw [hb.cell (p := ⟨b, _, none⟩) hlt]; exact h2⟩
theorem take_at {α : Type} {l : List α} {k : Nat} {r : α} (h : l[k]? = some r) : l.take (k + 1) = l.take k ++ [r] := by
  obtain ⟨hk, rfl⟩ := List.getElem?_eq_some_iff.1 h
  exact List.take_succ_eq_append_getElem hk
set_option maxRecDepth 20000 in
set_option maxHeartbeats 2000000 in
theorem own2_c (p : Option Addr) (cap : Nat) (l : List (Nat × Nat)) (hl : l.length ≤ 1000) (w : World) (hp : PairsAt w p l) :
    Calls Tryz.prog 54 #[.slice p l.length cap] w fun e w' => ∃ v, e = .returned v ∧ w'.ownsRow w.heap.size 112 2 v l.length (cellsP l) ∧ Below w.heap.size w w' := by
  obtain ⟨i0, hi0, hz0, hz1, hz2⟩ := info_parts infoR
  obtain ⟨N, hN⟩ : ∃ N, N = l.length := ⟨_, rfl⟩
  rw [← hN] at hl ⊢
  have HN := Lib.hid hN
  have HP := Lib.hid hp
  clear hN hp
  go_enter Tryz.func54, Tryz.ntmps54
  go_wp2_with fail
  go_loopw [3, 4] (fun v i wr => ∃ (k : Nat), k ≤ N ∧ i = .int .i64 k ∧ Hid (wr.ownsRow w.heap.size 112 2 v k (cellsP (l.take k))) ∧ Hid (Below w.heap.size w wr)) (fun _ i _ => N - (intOf i).toNat)
  case atStart => exact ⟨0, by omega, rfl, World.ownsRow_nil _ _ _ _, Below.refl _ _⟩
  case round =>
    obtain ⟨k, hk, rfl, HO, HB⟩ := hrel
    by_cases hlt : k < N
    · have hkl : k < l.length := by rw [← HN.out]; exact hlt
      obtain ⟨r, hr⟩ : ∃ r, l[k]? = some r := ⟨_, List.getElem?_eq_getElem hkl⟩
      obtain ⟨b, off, rfl, hbw, kc0, kc1⟩ := HP.out k r hr
      obtain ⟨ad, cp, hv⟩ := own_form HO.out
      subst hv
      have hq : (k : Int) < N := by omega
      have hq0 : (0 : Int) ≤ k := by omega
      have PC : Hid (∀ w', Below w.heap.size w w' → w'.cell? ⟨b, off + k * 2, none⟩ = some (.int .u32 r.1) ∧ w'.cell? ⟨b, off + k * 2 + 1, none⟩ = some (.int .u32 r.2)) := fun w' hb =>
        ⟨by rw [hb.cell (p := ⟨b, _, none⟩) hbw]; exact kc0, by rw [hb.cell (p := ⟨b, _, none⟩) hbw]; exact kc1⟩
      have HR : Hid (l.take (k + 1) = l.take k ++ [r]) := take_at hr
      have hls := HB.out.size
      clear kc0 kc1 hr hkl
      go_wp2_with fail
      go_region_held3 (fun w' => w'.cell? ⟨b, off + k * 2, none⟩ = some (.int .u32 r.1) ∧ w'.cell? ⟨b, off + k * 2 + 1, none⟩ = some (.int .u32 r.2))
        (first | exact PC.out _ HB.out.drew | exact PC.out _ (HB.out.alloc hls _).drew | exact PC.out _ (HB.out.alloc hls _) | exact PC.out _ hb3)
        ((refine step_append_lies _ (by rfl) (.tmp 11) (.tmp 23) _ (by rfl) w.heap.size 112 i0 _ 2 8 Tryz.underlying34 hi0 hz0 hz1 hz2 rfl (by omega) (.slice ad k cp) k (cellsP (l.take k)) (by rfl) ((HO.out.alloc _).drew) ⟨wr.heap.size, 0, none⟩ 1 1 [.int .u32 r.1, .int .u32 r.2] (by rfl) (by rfl) (World.news_of_block (cs := #[.int .u32 r.1, .int .u32 r.2]) (t := 112) (fr := (0, 0)) (heap_alloc_new wr _)) (by simp [Value.oneCell']) (by omega) (by unfold maxLen; omega) (by omega) (by simp; omega) (wr.heap.size + 1) (by simp) ?_; intro g2 cap2 w3 hown3 hgrow hat hlt3; have hb3 : Below w.heap.size w w3 := (HB.out.alloc hls _).drew.grown hgrow (by simp; omega) (fun q hq => (HO.out.lt q hq).1)))
      have HO3 : Hid (w3.ownsRow w.heap.size 112 2 (.slice (some ⟨g2, 0, none⟩) (k + 1) cap2) (k + 1) (cellsP (l.take (k + 1)))) := by
        show World.ownsRow _ _ _ _ _ _ _
        rw [HR.out, cellsP_snoc]; exact hown3
      have HB3 := Lib.hid hb3
      clear hown3 hb3 hgrow hat hlt3
      go_wp2_with fail
      go_roundw
      case rel => exact ⟨k + 1, by omega, by go_num, HO3.out, HB3.out⟩
      case measure => simp [intOf]; omega
    · obtain rfl : k = N := by omega
      go_wp2_with fail
      go_ret
      refine ⟨_, rfl, ?_, HB.out⟩
      have h := HO.out
      rw [List.take_of_length_le (by rw [← HN.out]; exact Nat.le_refl _)] at h
      exact h
end Go.Proofs.YtpnnchpaaopdcaaGreatDoor
namespace Go.Proofs.YtpnnchpaaopdcaaGreatDoor
open Go Go.RowKit
theorem ret_bt {b : Bool} (h : b = true) : Ending.returned (.bool true) = .returned (.bool b) := by rw [h]
theorem inB_iff (n last x y : Nat) : inB n last (x, y) = true ↔ (ov x last ≤ n ∧ n ≤ ov y last ∨ ov y last ≤ n ∧ n ≤ ov x last) := by
  unfold inB loB hiB
  simp only [Bool.and_eq_true, decide_eq_true_eq]
  omega
set_option maxRecDepth 20000 in
set_option maxHeartbeats 2000000 in
theorem rqhas_c (p : Option Addr) (cap : Nat) (l : List (Nat × Nat)) (hl : l.length ≤ 1000) (n last : Nat) (w : World) (hp : PairsAt w p l) :
    Calls Tryz.prog 59 #[.slice p l.length cap, .int .u32 n, .int .u32 last] w fun e w' => e = .returned (.bool (hasB l n last)) ∧ ∃ q, w' = w.drewN q := by
  obtain ⟨N, hN⟩ : ∃ N, N = l.length := ⟨_, rfl⟩
  rw [← hN] at hl ⊢
  have HN := Lib.hid hN
  have HP := Lib.hid hp
  clear hN hp
  have qn : (0 : Int) ≤ n := by omega
  have ql : (0 : Int) ≤ last := by omega
  go_enter Tryz.func59, Tryz.ntmps59
  go_wp2_with fail
  go_loopw [7] (fun i wr => ∃ (k q : Nat), k ≤ N ∧ i = .int .i64 k ∧ Hid (n = 0 ∨ (l.take k).any (inB n last) = false) ∧ wr = w.drewN q) (fun i _ => N - (intOf i).toNat)
  case atStart => exact ⟨0, 0, by omega, rfl, .inr rfl, rfl⟩
  case round =>
    obtain ⟨k, q, hk, rfl, HF, rfl⟩ := hrel
    by_cases hlt : k < N
    · have hkl : k < l.length := by rw [← HN.out]; exact hlt
      obtain ⟨r, hr⟩ : ∃ r, l[k]? = some r := ⟨_, List.getElem?_eq_getElem hkl⟩
      obtain ⟨b, off, rfl, hbw, kc0, kc1⟩ := HP.out k r hr
      have hq : (k : Int) < N := by omega
      have hq0 : (0 : Int) ≤ k := by omega
      have HR := Lib.hid hr
      obtain ⟨x, y⟩ := r
      dsimp only at kc0 kc1
      clear hr hkl
      go_wp2_with fail
      go_quiet (fail)
      have HI : Hid (∀ a b, ov x last = a → ov y last = b → (inB n last (x, y) = true ↔ (a ≤ n ∧ n ≤ b ∨ b ≤ n ∧ n ≤ a))) := by
        rintro a b rfl rfl; exact inB_iff n last x y
      have hand : ∀ a b, ov x last = a → ov y last = b → ¬ (0 < n ∧ (a ≤ n ∧ n ≤ b ∨ b ≤ n ∧ n ≤ a)) → Hid (n = 0 ∨ (l.take (k + 1)).any (inB n last) = false) := by
        intro a b ha hb h
        by_cases h0 : n = 0
        · exact .inl h0
        · right
          rw [take_any HR.out, HF.out.resolve_left h0, Bool.false_or]
          cases hc : inB n last (x, y)
          · rfl
          · exact absurd ⟨by omega, (HI.out a b ha hb).1 hc⟩ h
      have hyes : ∀ a b, ov x last = a → ov y last = b → 0 < n → (a ≤ n ∧ n ≤ b ∨ b ≤ n ∧ n ≤ a) → hasB l n last = true := by
        intro a b ha hb h0 h
        unfold hasB
        rw [any_at HR.out ((HI.out a b ha hb).2 h)]
        simp; omega
      have HA := Lib.hid hand
      have HY := Lib.hid hyes
      clear hand hyes
      by_cases hx : x = 0
      · by_cases hy : y = 0
        · subst hx
          subst hy
          have E1 : Hid (ov 0 last = last) := by show _ = _; simp [ov]
          go_wp2_with fail
          all_goals first
            | exact ⟨⟨k + 1, _, by omega, by go_num, HA.out _ _ E1.out E1.out (by omega), rfl⟩, by simp [intOf]; omega⟩
            | (go_ret; exact ⟨ret_bt (HY.out _ _ E1.out E1.out (by omega) (by omega)), _, rfl⟩)
        · have E2 : Hid (ov y last = y) := by show _ = _; simp [ov, hy]
          have ey : ((y : Int) == 0) = false := qF (by omega)
          subst hx
          have E1 : Hid (ov 0 last = last) := by show _ = _; simp [ov]
          clear hy
          go_wp2_with fail
          all_goals first
            | exact ⟨⟨k + 1, _, by omega, by go_num, HA.out _ _ E1.out E2.out (by omega), rfl⟩, by simp [intOf]; omega⟩
            | (go_ret; exact ⟨ret_bt (HY.out _ _ E1.out E2.out (by omega) (by omega)), _, rfl⟩)
      · have E1 : Hid (ov x last = x) := by show _ = _; simp [ov, hx]
        have ex : ((x : Int) == 0) = false := qF (by omega)
        clear hx
        by_cases hy : y = 0
        · subst hy
          have E2 : Hid (ov 0 last = last) := by show _ = _; simp [ov]
          go_wp2_with fail
          all_goals first
            | exact ⟨⟨k + 1, _, by omega, by go_num, HA.out _ _ E1.out E2.out (by omega), rfl⟩, by simp [intOf]; omega⟩
            | (go_ret; exact ⟨ret_bt (HY.out _ _ E1.out E2.out (by omega) (by omega)), _, rfl⟩)
        · have E2 : Hid (ov y last = y) := by show _ = _; simp [ov, hy]
          have ey : ((y : Int) == 0) = false := qF (by omega)
          clear hy
          go_wp2_with fail
          all_goals first
            | exact ⟨⟨k + 1, _, by omega, by go_num, HA.out _ _ E1.out E2.out (by omega), rfl⟩, by simp [intOf]; omega⟩
            | (go_ret; exact ⟨ret_bt (HY.out _ _ E1.out E2.out (by omega) (by omega)), _, rfl⟩)
    · obtain rfl : k = N := by omega
      go_wp2_with fail
      go_ret
      refine ⟨?_, q, rfl⟩
      have h := HF.out
      rw [List.take_of_length_le (by rw [← HN.out]; exact Nat.le_refl _)] at h
      rcases h with h | h
      · unfold hasB; simp [h]
      · unfold hasB; rw [h]; simp
theorem data_txt (l : List UInt8) : (txt l).data.toList = l := by simp [txt]
theorem ext_take (l : List UInt8) {k : Nat} : (txt l).extract 0 k = txt (l.take k) := extract_txt (by rw [data_txt]; rfl)
theorem ext_drop (l : List UInt8) {k n : Nat} (hn : n = l.length) : (txt l).extract k n = txt (l.drop k) := extract_txt (by rw [data_txt, hn, List.take_of_length_le (Nat.le_refl _)])
theorem at_txt {l : List UInt8} {k : Nat} (h : k < l.length) : (txt l)[k]'(by rw [txt_size]; exact h) = l[k] := by
  show l.toArray[k] = _
  simp
theorem isEmpty_txt' (l : List UInt8) : (txt l).toList.isEmpty = l.isEmpty := by
  rw [ByteArray.toList_eq, data_txt]
/-! Blocks of cells. -/
def Cells (W : World) (B : Nat) (t : TypeId) (cur : Array Value) : Prop := W.heap[B]? = some (.cells cur t (0, 0))
theorem Cells.lt {W : World} {B : Nat} {t : TypeId} {cur : Array Value} (h : Cells W B t cur) : B < W.heap.size := (Array.getElem?_eq_some_iff.1 h).1
theorem Cells.cell {W : World} {B : Nat} {t : TypeId} {cur : Array Value} (h : Cells W B t cur) {i : Nat} {v : Value} (hi : cur[i]? = some v) : W.cell? ⟨B, i, none⟩ = some v := by
  have h' : W.heap[B]? = _ := h
  simp [World.cell?, h', hi]
theorem Cells.frozen {W : World} {B : Nat} {t : TypeId} {cur : Array Value} (h : Cells W B t cur) (i : Nat) : W.frozen? ⟨B, i, none⟩ = false := by
  have h' : W.heap[B]? = _ := h
  simp [World.frozen?, h']
theorem Cells.set {W : World} {B : Nat} {t : TypeId} {cur : Array Value} (h : Cells W B t cur) (i : Nat) (v : Value) : Cells (W.setCell ⟨B, i, none⟩ v) B t (cur.setIfInBounds i v) := by
  obtain ⟨hlt, hk⟩ := Array.getElem?_eq_some_iff.1 h
  show (W.heap.modify B _)[B]? = _
  rw [Array.getElem?_eq_getElem (by rw [Array.size_modify]; exact hlt), Array.getElem_modify_self, hk]
  rfl
theorem Cells.later {W W' : World} {B : Nat} {t : TypeId} {cur : Array Value} (h : Cells W B t cur) (hb : W'.heap[B]? = W.heap[B]?) : Cells W' B t cur := hb.trans h
theorem size_setCell (W : World) (a : Addr) (v : Value) : (W.setCell a v).heap.size = W.heap.size := by show (W.heap.modify _ _).size = _; rw [Array.size_modify]
structure Tk (g : Nat) (w w' : World) : Prop where
  os : w'.os = w.os
  tape : w'.tape = w.tape
  output : w'.output = w.output
  size : w.heap.size ≤ w'.heap.size
  blk : ∀ k, k < w.heap.size → k ≠ g → w'.heap[k]? = w.heap[k]?
theorem Tk.refl (g : Nat) (w : World) : Tk g w w := ⟨rfl, rfl, rfl, Nat.le_refl _, fun _ _ _ => rfl⟩
theorem Tk.trans {g : Nat} {a b c : World} (h : Tk g a b) (h' : Tk g b c) : Tk g a c :=
  ⟨h'.os.trans h.os, h'.tape.trans h.tape, h'.output.trans h.output, Nat.le_trans h.size h'.size, fun k hk hg => (h'.blk k (Nat.lt_of_lt_of_le hk h.size) hg).trans (h.blk k hk hg)⟩
theorem Tk.of_below {g : Nat} {a b : World} (h : Below a.heap.size a b) : Tk g a b := ⟨h.os, h.tape, h.output, h.size, fun k hk _ => h.block k hk⟩
theorem Tk.below {g B : Nat} {a b : World} (h : Tk g a b) (hB : B ≤ g) (hs : B ≤ a.heap.size) : Below B a b := ⟨h.os, h.tape, h.output, h.size, fun k hk => h.blk k (by omega) (by omega)⟩
theorem Tk.drewN {g : Nat} {a b : World} (h : Tk g a b) (n : Nat) : Tk g a (b.drewN n) := ⟨h.os, h.tape, h.output, h.size, h.blk⟩
theorem Tk.set {g : Nat} (a : World) (i : Nat) (v : Value) : Tk g a (a.setCell ⟨g, i, none⟩ v) := ⟨rfl, rfl, rfl, by rw [size_setCell]; exact Nat.le_refl _, fun k _ hk => Below.heap_setCell a ⟨g, i, none⟩ v k hk⟩
/-! What a reader answers. -/
structure RS where
  l : List UInt8
  f : Bool
def RS.gone : RS := ⟨[], true⟩
def RS.Ok (s : RS) : Prop := s.f = true → s.l = []
theorem gone_ok : RS.gone.Ok := fun _ => rfl
def atomB (c : UInt8) : Bool := decide (32 < c.toNat) && (decide (c.toNat ≤ 126) && !([40, 41, 123, 37, 42, 34, 92, 93] : List UInt8).contains c)
def digB (c : UInt8) : Bool := decide (48 ≤ c.toNat) && decide (c.toNat ≤ 57)
def upB (c : UInt8) : UInt8 := if 97 ≤ c.toNat ∧ c.toNat ≤ 122 then UInt8.ofNat (c.toNat - 32) else c
theorem upB_toNat (c : UInt8) : (upB c).toNat = if 97 ≤ c.toNat ∧ c.toNat ≤ 122 then c.toNat - 32 else c.toNat := by
  unfold upB; split
  · rw [UInt8.toNat_ofNat']; have := c.toNat_lt; omega
  · rfl
def wordB (s : RS) (w : List UInt8) : Bool := !s.f && (decide (w.length ≤ s.l.length) && ((s.l.take w.length).map upB == w.map upB))
def wordS (s : RS) (w : List UInt8) : RS := if wordB s w then ⟨s.l.drop w.length, false⟩ else s
def mustS (s : RS) (w : List UInt8) : RS := if wordB s w then ⟨s.l.drop w.length, false⟩ else .gone
def skipS (p : UInt8 → Bool) (s : RS) : RS := ⟨s.l.dropWhile p, s.f⟩
def atomV (s : RS) : List UInt8 := s.l.takeWhile atomB
def atomS (s : RS) : RS := if s.l.takeWhile atomB = [] then .gone else ⟨s.l.dropWhile atomB, s.f⟩
def numO (s : RS) : Option Nat := numR (s.l.takeWhile digB) 4294967295
def numN (s : RS) : Nat := (numO s).getD 0
def numS (s : RS) : RS := if (numO s).isSome then ⟨s.l.dropWhile digB, s.f⟩ else .gone
def litH (s : RS) : RS := mustS (numS (mustS s [123])) [125, 13, 10]
def litN (s : RS) : Nat := numN (mustS s [123])
def litB (s : RS) : Bool := !(litH s).f && (decide (litN s ≤ 65536) && decide (litN s ≤ (litH s).l.length))
def litV (s : RS) : List UInt8 := if litB s then (litH s).l.take (litN s) else []
def litS (s : RS) : RS := if litB s then ⟨(litH s).l.drop (litN s), false⟩ else .gone
def qd : List UInt8 → Option (List UInt8 × List UInt8)
  | [] => none
  | c :: r => if c = 34 then some ([], r) else if c = 13 ∨ c = 10 then none else if c = 92 then
      match r with
      | [] => none
      | d :: r' => if d = 34 ∨ d = 92 then (qd r').map fun x => (d :: x.1, x.2) else none
    else (qd r).map fun x => (c :: x.1, x.2)
def strV (s : RS) : List UInt8 := if s.l.head? = some 34 then ((qd s.l.tail).map (·.1)).getD [] else if s.l.head? = some 123 then litV s else atomV s
def strS (s : RS) : RS := if s.l.head? = some 34 then (match qd s.l.tail with | some x => ⟨x.2, s.f⟩ | none => .gone) else if s.l.head? = some 123 then litS s else atomS s
def nextB (s : RS) (c : UInt8) : Bool := s.l.head? == some c
theorem RS.Ok.skip {s : RS} (h : s.Ok) (p : UInt8 → Bool) : (skipS p s).Ok := fun hf => by
  have := h hf; unfold skipS; dsimp only; rw [this]; rfl
theorem RS.Ok.must {s : RS} (h : s.Ok) (w : List UInt8) : (mustS s w).Ok := by
  unfold mustS; split
  · intro hf; cases hf
  · exact gone_ok
theorem RS.Ok.word {s : RS} (h : s.Ok) (w : List UInt8) : (wordS s w).Ok := by
  unfold wordS; split
  · intro hf; cases hf
  · exact h
theorem RS.Ok.atom {s : RS} (h : s.Ok) : (atomS s).Ok := by
  unfold atomS; split
  · exact gone_ok
  · exact h.skip atomB
theorem RS.Ok.num {s : RS} (h : s.Ok) : (numS s).Ok := by
  unfold numS; split
  · exact h.skip digB
  · exact gone_ok
theorem RS.Ok.lit {s : RS} (h : s.Ok) : (litS s).Ok := by
  unfold litS; split
  · intro hf; cases hf
  · exact gone_ok
theorem RS.Ok.str {s : RS} (h : s.Ok) : (strS s).Ok := by
  unfold strS
  split
  · rename_i hh
    have hf : s.f = false := by
      cases hf : s.f with
      | false => rfl
      | true => rw [h hf] at hh; cases hh
    split
    · intro hq; dsimp only at hq; rw [hf] at hq; cases hq
    · exact gone_ok
  · split
    · exact h.lit
    · exact h.atom
theorem drop_le {α : Type} (p : α → Bool) (l : List α) : (l.dropWhile p).length ≤ l.length := (List.dropWhile_sublist p).length_le
theorem must_le (s : RS) (w : List UInt8) : (mustS s w).l.length ≤ s.l.length := by
  unfold mustS; split
  · simp
  · exact Nat.zero_le _
theorem word_le (s : RS) (w : List UInt8) : (wordS s w).l.length ≤ s.l.length := by
  unfold wordS; split
  · simp
  · exact Nat.le_refl _
theorem num_le (s : RS) : (numS s).l.length ≤ s.l.length := by
  unfold numS; split
  · exact drop_le _ _
  · exact Nat.zero_le _
theorem atom_le (s : RS) : (atomS s).l.length ≤ s.l.length := by
  unfold atomS; split
  · exact Nat.zero_le _
  · exact drop_le _ _
theorem litH_le (s : RS) : (litH s).l.length ≤ s.l.length := Nat.le_trans (must_le _ _) (Nat.le_trans (num_le _) (must_le _ _))
theorem lit_le (s : RS) : (litS s).l.length ≤ s.l.length := by
  unfold litS; split
  · have := litH_le s; simp; omega
  · exact Nat.zero_le _
theorem qd_le : ∀ (n : Nat) (l : List UInt8), l.length ≤ n → ∀ x, qd l = some x → x.2.length ≤ l.length ∧ x.1.length ≤ l.length := by
  intro n
  induction n with
  | zero => intro l hl x h; obtain rfl : l = [] := List.length_eq_zero_iff.1 (by omega); cases h
  | succ n ih =>
    intro l hl x h
    match l, h with
    | c :: r, h =>
      rw [List.length_cons] at hl ⊢
      unfold qd at h
      split at h
      · cases h; simp
      · split at h
        · cases h
        · split at h
          · match r, h with
            | [], h => cases h
            | d :: r', h =>
              dsimp only at h
              split at h
              · obtain ⟨y, hy, rfl⟩ := Option.map_eq_some_iff.1 h
                rw [List.length_cons] at hl
                have := ih r' (by omega) y hy
                dsimp only; simp; omega
              · cases h
          · obtain ⟨y, hy, rfl⟩ := Option.map_eq_some_iff.1 h
            have := ih r (by omega) y hy
            dsimp only; simp; omega
theorem str_le (s : RS) : (strS s).l.length ≤ s.l.length := by
  unfold strS
  split
  · split
    · rename_i x hx
      have := (qd_le _ _ (Nat.le_refl _) x hx).1
      have h2 : s.l.tail.length ≤ s.l.length := by simp
      dsimp only; omega
    · exact Nat.zero_le _
  · split
    · exact lit_le s
    · exact atom_le s
abbrev pt (g : Nat) : Value := .pointer (some ⟨g, 0, none⟩)
def PR (W : World) (g : Nat) (s : RS) : Prop := Cells W g 118 #[.string (txt s.l), .bool s.f]
theorem PR.facts {W : World} {g : Nat} {s : RS} (h : PR W g s) : W.cell? ⟨g, 0, none⟩ = some (.string (txt s.l)) ∧ W.cell? ⟨g, 1, none⟩ = some (.bool s.f) ∧ g < W.heap.size ∧ W.frozen? ⟨g, 0, none⟩ = false ∧ W.frozen? ⟨g, 1, none⟩ = false :=
  ⟨Cells.cell h rfl, Cells.cell h rfl, Cells.lt h, Cells.frozen h 0, Cells.frozen h 1⟩
theorem PR.tk {W W' : World} {g h : Nat} {s : RS} (hp : PR W g s) (ht : Tk h W W') (hne : g ≠ h) : PR W' g s := Cells.later hp (ht.blk g (Cells.lt hp) hne)
theorem PR.set0 {W : World} {g : Nat} {s : RS} (h : PR W g s) (l : List UInt8) : PR (W.setCell ⟨g, 0, none⟩ (.string (txt l))) g ⟨l, s.f⟩ := Cells.set h 0 _
theorem PR.set1 {W : World} {g : Nat} {s : RS} (h : PR W g s) (f : Bool) : PR (W.setCell ⟨g, 1, none⟩ (.bool f)) g ⟨s.l, f⟩ := Cells.set h 1 _
def Does (W : World) (g : Nat) (v : Value) (s' : RS) (e : Ending) (w' : World) : Prop := e = .returned v ∧ PR w' g s' ∧ Tk g W w'
variable {W : World} {g : Nat} {s : RS}
set_option maxRecDepth 20000 in
theorem tkFail_c (h : PR W g s) : Calls Tryz.prog 75 #[pt g] W (Does W g (.tuple #[]) .gone) := by
  obtain ⟨c0, c1, hb, f0, f1⟩ := h.facts
  have H := Lib.hid h
  clear h
  go_enter Tryz.func75, Tryz.ntmps75
  go_wp2_with fail
  go_end0
  refine ⟨rfl, ?_, ?_⟩
  · exact (H.out.set0 []).set1 true
  · exact (Tk.set W 0 _).trans (Tk.set _ 1 _)
theorem tkmust_c (h : PR W g s) (b : Bool) : Calls Tryz.prog 161 #[pt g, .bool b] W (Does W g (.tuple #[]) (if b then s else .gone)) := by
  have C := Lib.hid (tkFail_c h)
  have H := Lib.hid h
  clear h
  cases b with
  | true =>
    go_enter Tryz.func161, Tryz.ntmps161
    go_wp2_with fail
    go_end0
    exact ⟨rfl, H.out, Tk.refl _ _⟩
  | false =>
    go_enter Tryz.func161, Tryz.ntmps161
    go_wp2_with fail
    refine C.out.mono ?_
    rintro e w1 ⟨rfl, h1, h2⟩
    have H1 := Lib.hid h1
    have H2 := Lib.hid h2
    clear h1 h2
    go_wp2_with fail
    go_end0
    exact ⟨rfl, H1.out, H2.out⟩
theorem tkOk_c (h : PR W g s) : Calls Tryz.prog 30 #[pt g] W fun e w' => e = .returned (.bool (!s.f)) ∧ w' = W := by
  obtain ⟨c0, c1, hb, f0, f1⟩ := h.facts
  clear h
  obtain ⟨f, hf⟩ : ∃ f, s.f = f := ⟨_, rfl⟩
  rw [hf] at c1 ⊢
  cases f
  all_goals
    go_enter Tryz.func30, Tryz.ntmps30
    go_wp2_with fail
    go_ret
    exact ⟨rfl, rfl⟩
theorem tkEnd_c (h : PR W g s) : Calls Tryz.prog 34 #[pt g] W fun e w' => e = .returned (.bool (!s.f && s.l.isEmpty)) ∧ w' = W := by
  obtain ⟨c0, c1, hb, f0, f1⟩ := h.facts
  clear h
  obtain ⟨f, hf⟩ : ∃ f, s.f = f := ⟨_, rfl⟩
  have e0 := isEmpty_txt' s.l
  obtain ⟨B, hB⟩ : ∃ B, txt s.l = B := ⟨_, rfl⟩
  obtain ⟨y, hy⟩ : ∃ y, s.l.isEmpty = y := ⟨_, rfl⟩
  rw [hf] at c1 ⊢
  rw [hB] at c0 e0
  rw [hy] at e0 ⊢
  clear hB hy
  cases f <;> cases y
  all_goals
    go_enter Tryz.func34, Tryz.ntmps34
    go_wp2_with fail
    go_ret
    exact ⟨by simp [e0], rfl⟩
theorem tkNext_c (h : PR W g s) (n : Nat) (c : UInt8) (hn : n = c.toNat) : Calls Tryz.prog 111 #[pt g, .int .u8 n] W fun e w' => e = .returned (.bool (nextB s c)) ∧ w' = W := by
  obtain ⟨c0, c1, hb, f0, f1⟩ := h.facts
  clear h
  unfold nextB
  match hl : s.l, c0 with
  | [], c0 =>
    have e0 : (txt []).toList.isEmpty = true := isEmpty_txt' []
    obtain ⟨B, hB⟩ : ∃ B, txt [] = B := ⟨_, rfl⟩
    rw [hB] at c0 e0
    go_enter Tryz.func111, Tryz.ntmps111
    go_wp2_with fail
    go_ret
    exact ⟨by simp [e0], rfl⟩
  | x :: r, c0 =>
    have e0 : (txt (x :: r)).toList.isEmpty = false := isEmpty_txt' (x :: r)
    have e1 : (txt (x :: r)).size = r.length + 1 := txt_size (x :: r)
    have e2 : (txt (x :: r))[0]'(by omega) = x := at_txt (l := x :: r) (k := 0) (by simp)
    obtain ⟨B, hB⟩ : ∃ B, txt (x :: r) = B := ⟨_, rfl⟩
    simp only [hB] at c0 e0 e1 e2
    have hsz : 0 < B.size := by omega
    have hq1 : (0 : Int) < B.size := by omega
    have hc1 : B[0].toNat < 256 := B[0].toNat_lt
    by_cases hx : x = c
    · subst hx
      subst hn
      have u : ((x.toNat : Int) == (x.toNat : Int)) = true := by rw [beq_iff_eq]
      go_enter Tryz.func111, Tryz.ntmps111
      go_wp2_with fail
      go_ret
      exact ⟨by simp, rfl⟩
    · have u : ((x.toNat : Int) == (n : Int)) = false := by
        rw [beq_eq_false_iff_ne, hn]; intro h; exact hx (UInt8.toNat_inj.1 (by omega))
      have u2 : ((x :: r).head? == some c) = false := by simp [hx]
      rw [u2]
      clear hx hn
      go_enter Tryz.func111, Tryz.ntmps111
      go_wp2_with fail
      go_ret
      exact ⟨by simp [u], rfl⟩
theorem tkRead_c (l : List UInt8) (W : World) : Calls Tryz.prog 24 #[.string (txt l)] W (fun e w' => e = .returned (pt W.heap.size) ∧ PR w' W.heap.size ⟨l, false⟩ ∧ Below W.heap.size W w') := by
  obtain ⟨B, hB⟩ : ∃ B, txt l = B := ⟨_, rfl⟩
  have HB := Lib.hid hB
  rw [hB]
  clear hB
  go_enter Tryz.func24, Tryz.ntmps24
  go_wp2_with fail
  go_ret
  refine ⟨rfl, ?_, ?_⟩
  · unfold PR Cells
    rw [HB.out]
    exact heap_alloc_new W _
  · exact (Below.refl _ W).alloc (Nat.le_refl _) _
end Go.Proofs.YtpnnchpaaopdcaaGreatDoor
namespace Go.Proofs.YtpnnchpaaopdcaaGreatDoor
open Go Go.RowKit
def BytesAt (W : World) (b : Nat) (l : List UInt8) : Prop := ∃ cur : Array Value, W.heap[b]? = some (.cells cur 5 (cur.size, cur.size + 1)) ∧ ∀ (j : Nat) (c : UInt8), l[j]? = some c → cur[j]? = some (Value.int .u8 (c.toNat : Int))
theorem BytesAt.lt {W : World} {b : Nat} {l : List UInt8} (h : BytesAt W b l) : b < W.heap.size := by
  obtain ⟨cur, hc, _⟩ := h
  exact (Array.getElem?_eq_some_iff.1 hc).1
theorem BytesAt.cell {W : World} {b : Nat} {l : List UInt8} (h : BytesAt W b l) {j : Nat} {c : UInt8} (hj : l[j]? = some c) : W.cell? ⟨b, j, none⟩ = some (.int .u8 (c.toNat : Int)) ∧ W.frozen? ⟨b, j, none⟩ = false := by
  obtain ⟨cur, hc, hl⟩ := h
  have h1 := hl j c hj
  have h2 : j < cur.size := (Array.getElem?_eq_some_iff.1 h1).1
  refine ⟨by simp [World.cell?, hc, h1], ?_⟩
  simp [World.frozen?, hc]
  omega
theorem BytesAt.set {W : World} {b : Nat} {l : List UInt8} (h : BytesAt W b l) {j : Nat} (hj : j < l.length) (c : UInt8) : BytesAt (W.setCell ⟨b, j, none⟩ (.int .u8 (c.toNat : Int))) b (l.set j c) := by
  obtain ⟨cur, hc, hl⟩ := h
  obtain ⟨hlt, hk⟩ := Array.getElem?_eq_some_iff.1 hc
  refine ⟨cur.setIfInBounds j (.int .u8 (c.toNat : Int)), ?_, fun i d hi => ?_⟩
  · show (W.heap.modify b _)[b]? = _
    rw [Array.getElem?_eq_getElem (by rw [Array.size_modify]; exact hlt), Array.getElem_modify_self, hk]
    simp
  · rw [List.getElem?_set] at hi
    have h2 : j < cur.size := (Array.getElem?_eq_some_iff.1 (hl j l[j] (List.getElem?_eq_getElem hj))).1
    rw [Array.getElem?_setIfInBounds]
    split at hi
    · rename_i hji; subst hji
      obtain rfl : c = d := by simpa [hj] using hi
      simp [h2]
    · rename_i hji
      rw [if_neg hji]
      exact hl i d hi
theorem BytesAt.new (W : World) (l : List UInt8) : BytesAt (Lib.bytesWorld W 5 (txt l)) W.heap.size l := by
  refine ⟨_, Lib.bytesWorld_at_new W 5 (txt l), fun j c hj => ?_⟩
  obtain ⟨hj1, hj2⟩ := List.getElem?_eq_some_iff.1 hj
  have hs : j < (txt l).size := by rw [txt_size]; exact hj1
  have := Lib.bytesWorld_cell W 5 (txt l) j hs
  rw [data_txt, List.getD_eq_getElem?_getD, hj] at this
  simpa [World.cell?, Lib.bytesWorld_at_new] using this
theorem BytesAt.back {W : World} {b : Nat} {l : List UInt8} (h : BytesAt W b l) (cap n : Nat) (hn : l.length = n) : (convert 97 9 (.slice (some ⟨b, 0, none⟩) n cap)).run Tryz.prog W = .ok (.string (txt l)) W := by
  subst hn
  exact run_convert_bytes_back (P := Tryz.prog) W 97 9 5 ⟨b, 0, none⟩ cap l Tryz.underlying97 Tryz.underlying5 Tryz.underlying9 (fun j hj => by
    have h2 := (h.cell (List.getElem?_eq_getElem hj)).1
    rw [Addr.add_lit, Nat.zero_add]; exact h2)
theorem conv1 (w : World) (x : Int) (c : UInt8) (hx : x = c.toNat) :
    (convert 97 9 (.slice (some ⟨w.heap.size, 0, none⟩) 1 1)).run Tryz.prog (w.alloc (.cells #[.int .u8 x] 5)) = .ok (.string ⟨#[c]⟩) (w.alloc (.cells #[.int .u8 x] 5)) := by
  have := run_convert_bytes_back (P := Tryz.prog) (w.alloc (.cells #[.int .u8 x] 5)) 97 9 5 ⟨w.heap.size, 0, none⟩ 1 [c] Tryz.underlying97 Tryz.underlying5 Tryz.underlying9 (by
    intro j hj
    obtain rfl : j = 0 := by simpa using hj
    subst hx
    show World.cell? _ ⟨w.heap.size, 0, none⟩ = _
    unfold World.cell?; rw [heap_alloc_new]; rfl)
  exact this
theorem up_take {l : List UInt8} {k : Nat} (hk : k < l.length) (c : UInt8) (hc : c = upB l[k]) : ((l.take k).map upB ++ l.drop k).set k c = (l.take (k + 1)).map upB ++ l.drop (k + 1) := by
  subst hc
  rw [List.set_append_right _ _ (by simp; omega), List.take_succ_eq_append_getElem hk, List.map_append, List.append_assoc]
  congr 1
  have : k - ((l.take k).map upB).length = 0 := by simp; omega
  rw [this, List.drop_eq_getElem_cons hk]; rfl
theorem up_at {l : List UInt8} {k : Nat} (hk : k < l.length) : ((l.take k).map upB ++ l.drop k)[k]? = some l[k] := by
  have : ((l.take k).map upB).length = k := by simp; omega
  rw [List.getElem?_append_right (by omega), this, Nat.sub_self, List.drop_eq_getElem_cons hk]; rfl
theorem up_same {l : List UInt8} {k : Nat} (hk : k < l.length) (h : upB l[k] = l[k]) : (l.take k).map upB ++ l.drop k = (l.take (k + 1)).map upB ++ l.drop (k + 1) := by
  rw [List.take_succ_eq_append_getElem hk, List.map_append, List.append_assoc, List.drop_eq_getElem_cons hk]
  simp [h]
set_option maxRecDepth 100000 in
set_option maxHeartbeats 1000000 in
theorem tkUpper_c (l : List UInt8) (hl : l.length ≤ 100000) (w : World) : Calls Tryz.prog 129 #[.string (txt l)] w fun e w' => e = .returned (.string (txt (l.map upB))) ∧ Below w.heap.size w w' := by
  have hcv := Lib.run_convert_string_bytes (P := Tryz.prog) w 9 97 5 (txt l) Tryz.underlying9 Tryz.underlying97 Tryz.underlying5
  have hnew := BytesAt.new w l
  have hbel := Joins.below_bytesWorld w.heap.size w 5 (txt l) (Nat.le_refl _)
  have hsz := txt_size l
  obtain ⟨N, hN⟩ : ∃ N, l.length = N := ⟨_, rfl⟩
  obtain ⟨B, hB⟩ : ∃ B, txt l = B := ⟨_, rfl⟩
  obtain ⟨w1, hw1⟩ : ∃ w1, Lib.bytesWorld w 5 B = w1 := ⟨_, rfl⟩
  rw [hB] at hcv hnew hbel hsz ⊢
  rw [hw1] at hcv hnew hbel
  rw [hN] at hsz
  rw [hsz] at hcv
  obtain ⟨cp, hcp⟩ : ∃ cp, grownCap w N 0 5 = cp := ⟨_, rfl⟩
  rw [hcp] at hcv
  have HN := Lib.hid hN
  have H1 := Lib.hid hnew
  have HB := Lib.hid hbel
  clear hnew hbel hw1 hN hB hcp
  go_enter Tryz.func129, Tryz.ntmps129
  go_wp2_with fail
  go_loopw [4, 5, 10] (fun x y i wr => ∃ k : Nat, k ≤ N ∧ i = .int .i64 k ∧ Hid (BytesAt wr w.heap.size ((l.take k).map upB ++ l.drop k)) ∧ Hid (Below w.heap.size w wr)) (fun _ _ i _ => N - (intOf i).toNat)
  case atStart => exact ⟨0, Nat.zero_le _, rfl, H1.out, HB.out⟩
  case round =>
    obtain ⟨k, hk, rfl, HA, HW⟩ := hrel
    by_cases hlt : k < N
    · have hq : (k : Int) < N := by omega
      have hq0 : (0 : Int) ≤ k := by omega
      have hkl : k < l.length := by rw [HN.out]; exact hlt
      obtain ⟨c, hc⟩ : ∃ c, l[k] = c := ⟨_, rfl⟩
      obtain ⟨c0, f0⟩ := HA.out.cell (up_at hkl)
      have hbl := HA.out.lt
      have hle := HW.out.size
      rw [hc] at c0
      have hc1 : c.toNat < 256 := c.toNat_lt
      have HKL := Lib.hid hkl
      have HC := Lib.hid hc
      clear hc
      by_cases h1 : 97 ≤ c.toNat
      · by_cases h2 : c.toNat ≤ 122
        · have q1 : (97 : Int) ≤ c.toNat := by omega
          have q2 : (c.toNat : Int) ≤ 122 := by omega
          have hup : ((upB c).toNat : Int) = (c.toNat : Int) - 97 + 65 := by rw [upB_toNat, if_pos ⟨h1, h2⟩]; omega
          have HS : Hid (BytesAt (wr.setCell ⟨w.heap.size, k, none⟩ (.int .u8 ((c.toNat : Int) - 97 + 65))) w.heap.size ((l.take (k + 1)).map upB ++ l.drop (k + 1))) := by
            have := HA.out.set (j := k) (by simp; have := HKL.out; omega) (upB c)
            rw [hup, up_take HKL.out (upB c) (by rw [HC.out])] at this
            exact this
          have HS2 : Hid (Below w.heap.size w (wr.setCell ⟨w.heap.size, k, none⟩ (.int .u8 ((c.toNat : Int) - 97 + 65)))) := ⟨HW.out.os, HW.out.tape, HW.out.output, by rw [size_setCell]; exact HW.out.size, fun i hi => (Below.heap_setCell wr ⟨w.heap.size, k, none⟩ _ i (by show i ≠ w.heap.size; omega)).trans (HW.out.block i hi)⟩
          clear hup
          go_wp2_with fail
          go_roundw
          case rel => exact ⟨k + 1, by omega, by go_num, HS.out, HS2.out⟩
          case measure => simp [intOf]; omega
        · have q1 : (97 : Int) ≤ c.toNat := by omega
          have q2 : ¬ (c.toNat : Int) ≤ 122 := by omega
          have HS : Hid (BytesAt wr w.heap.size ((l.take (k + 1)).map upB ++ l.drop (k + 1))) := by
            have := HA.out
            rw [up_same HKL.out (by rw [HC.out]; unfold upB; rw [if_neg (by omega)])] at this
            exact this
          go_wp2_with fail
          go_roundw
          case rel => exact ⟨k + 1, by omega, by go_num, HS.out, HW.out⟩
          case measure => simp [intOf]; omega
      · have q1 : ¬ (97 : Int) ≤ c.toNat := by omega
        have HS : Hid (BytesAt wr w.heap.size ((l.take (k + 1)).map upB ++ l.drop (k + 1))) := by
          have := HA.out
          rw [up_same HKL.out (by rw [HC.out]; unfold upB; rw [if_neg (by omega)])] at this
          exact this
        go_wp2_with fail
        go_roundw
        case rel => exact ⟨k + 1, by omega, by go_num, HS.out, HW.out⟩
        case measure => simp [intOf]; omega
    · obtain rfl : k = N := by omega
      have hq : ¬ (k : Int) < k := by omega
      have ha := HA.out
      rw [List.take_of_length_le (by rw [HN.out]; exact Nat.le_refl _), List.drop_of_length_le (by rw [HN.out]; exact Nat.le_refl _), List.append_nil] at ha
      have kc := ha.back cp k (by rw [List.length_map]; exact HN.out)
      clear ha
      go_wp2_with fail
      go_ret
      exact ⟨rfl, HW.out⟩
theorem upper_take {A : ByteArray} {B : ByteArray} {k : Nat} (hk : k < A.size) (hB : B = txt ((A.data.toList.take k).map upB)) : B ++ ⟨#[upB A[k]]⟩ = txt ((A.data.toList.take (k + 1)).map upB) := by
  have hk' : k < A.data.toList.length := by rw [ba_len]; exact hk
  rw [byte_append _ _ hB, List.take_succ_eq_append_getElem hk', List.map_append]
  rfl
set_option maxRecDepth 100000 in
set_option maxHeartbeats 1000000 in
theorem rtUpper_c0 (A : ByteArray) (hA : A.size ≤ 100000) (w : World) : Calls Tryz.prog 61 #[.string A] w fun e w' => e = .returned (.string (txt (A.data.toList.map upB))) ∧ Below w.heap.size w w' := by
  go_enter Tryz.func61, Tryz.ntmps61
  go_wp2_with fail
  go_loopw [3, 4, 5] (fun o i _ wr => ∃ (k : Nat) (B : ByteArray), k ≤ A.size ∧ i = .int .i64 k ∧ o = .string B ∧ B.size ≤ 100000 ∧ Hid (B = txt ((A.data.toList.take k).map upB)) ∧ Below w.heap.size w wr) (fun _ i _ _ => A.size - (intOf i).toNat)
  case atStart => exact ⟨0, _, by omega, rfl, rfl, by show (0 : Nat) ≤ _; omega, rfl, Below.refl _ _⟩
  case round =>
    obtain ⟨k, B, hk, rfl, rfl, hsB, HB, hB⟩ := hrel
    have hle : w.heap.size ≤ wr.heap.size := hB.size
    have HW := Lib.hid hB
    clear hB
    by_cases hlt : k < A.size
    · have hq1 : ((k : Int)) < A.size := by omega
      have hc1 : (A[k].toNat) < 256 := A[k].toNat_lt
      have hbs : B.size ≤ k := by rw [HB.out, txt_size, List.length_map, List.length_take]; omega
      by_cases hup : 97 ≤ A[k].toNat ∧ A[k].toNat ≤ 122
      · have hlo : ((upB A[k]).toNat : Int) = (A[k].toNat : Int) - 32 := by rw [upB_toNat, if_pos hup]; omega
        have u1 : 97 ≤ (A[k].toNat : Int) := by omega
        have u2 : (A[k].toNat : Int) ≤ 122 := by omega
        have kc := conv1 wr ((A[k].toNat : Int) - 32) (upB A[k]) hlo.symm
        clear hlo hup
        go_wp2_with fail
        go_roundw
        case rel => exact ⟨k + 1, _, by omega, by go_num, rfl, by rw [ByteArray.size_append]; show B.size + 1 ≤ 100000; omega, upper_take hlt HB.out, HW.out.alloc hle _⟩
        case measure => simp [intOf]; omega
      · have hlo : ((upB A[k]).toNat : Int) = (A[k].toNat : Int) := by rw [upB_toNat, if_neg hup]
        have kc := conv1 wr (A[k].toNat : Int) (upB A[k]) hlo.symm
        clear hlo
        by_cases hup1 : 97 ≤ A[k].toNat
        · have u1 : 97 ≤ (A[k].toNat : Int) := by omega
          have u2 : 122 < (A[k].toNat : Int) := by omega
          clear hup hup1
          go_wp2_with fail
          go_roundw
          case rel => exact ⟨k + 1, _, by omega, by go_num, rfl, by rw [ByteArray.size_append]; show B.size + 1 ≤ 100000; omega, upper_take hlt HB.out, HW.out.alloc hle _⟩
          case measure => simp [intOf]; omega
        · have u1 : (A[k].toNat : Int) < 97 := by omega
          clear hup hup1
          go_wp2_with fail
          go_roundw
          case rel => exact ⟨k + 1, _, by omega, by go_num, rfl, by rw [ByteArray.size_append]; show B.size + 1 ≤ 100000; omega, upper_take hlt HB.out, HW.out.alloc hle _⟩
          case measure => simp [intOf]; omega
    · obtain rfl : k = A.size := by omega
      go_wp2_with fail
      go_ret
      refine ⟨?_, HW.out⟩
      have h1 := HB.out
      rw [List.take_of_length_le (by rw [ba_len]; exact Nat.le_refl _)] at h1
      rw [← h1]; rfl
theorem rtUpper_c (l : List UInt8) (hl : l.length ≤ 100000) (w : World) : Calls Tryz.prog 61 #[.string (txt l)] w fun e w' => e = .returned (.string (txt (l.map upB))) ∧ Below w.heap.size w w' := by
  have := rtUpper_c0 (txt l) (by rw [txt_size]; exact hl) w
  rw [data_txt] at this
  exact this
variable {W : World} {g : Nat} {s : RS}
theorem toList_txt (l : List UInt8) : (txt l).toList = l := by rw [ByteArray.toList_eq, data_txt]
theorem bne_txt {a b : List UInt8} (h : a ≠ b) : ((txt a).toList == (txt b).toList) = false := by rw [toList_txt, toList_txt, beq_eq_false_iff_ne]; exact h
set_option maxRecDepth 100000 in
set_option maxHeartbeats 1000000 in
theorem tkWord_c (h : PR W g s) (hl : s.l.length ≤ 1100000) (x : List UInt8) (hx : x.length ≤ 100000) : Calls Tryz.prog 99 #[pt g, .string (txt x)] W (Does W g (.bool (wordB s x)) (wordS s x)) := by
  obtain ⟨c0, c1, hb, f0, f1⟩ := h.facts
  have H := Lib.hid h
  obtain ⟨l, f⟩ := s
  dsimp only at c0 c1 hl
  cases f with
  | true =>
    have hw : wordB ⟨l, true⟩ x = false := by simp [wordB]
    unfold wordS
    rw [hw]
    obtain ⟨B, hB⟩ : ∃ B, txt l = B := ⟨_, rfl⟩
    obtain ⟨X, hX⟩ : ∃ X, txt x = X := ⟨_, rfl⟩
    rw [hB] at c0
    rw [hX]
    clear h hw hB hX
    go_enter Tryz.func99, Tryz.ntmps99
    go_wp2_with fail
    go_ret
    exact ⟨rfl, H.out, Tk.refl _ _⟩
  | false =>
    have e1 := txt_size l
    have e2 := txt_size x
    obtain ⟨N, hN⟩ : ∃ N, l.length = N := ⟨_, rfl⟩
    obtain ⟨M, hM⟩ : ∃ M, x.length = M := ⟨_, rfl⟩
    by_cases hlt : N < M
    · have hw : wordB ⟨l, false⟩ x = false := by unfold wordB; dsimp only; rw [hN, hM]; simp; omega
      unfold wordS
      rw [hw]
      obtain ⟨B, hB⟩ : ∃ B, txt l = B := ⟨_, rfl⟩
      obtain ⟨X, hX⟩ : ∃ X, txt x = X := ⟨_, rfl⟩
      rw [hB] at c0 e1
      rw [hX] at e2 ⊢
      rw [hN] at e1
      rw [hM] at e2
      have q1 : (N : Int) < M := by omega
      clear h hw hB hX
      go_enter Tryz.func99, Tryz.ntmps99
      go_wp2_with fail
      go_ret
      exact ⟨rfl, H.out, Tk.refl _ _⟩
    · have hM9 : M ≤ 100000 := by omega
      have hN9 : N ≤ 1100000 := by omega
      have q1 : ¬ (N : Int) < M := by omega
      have q2 : (M : Int) ≤ N := by omega
      have hex : (txt l).extract 0 M = txt (l.take M) := ext_take l
      have hed : (txt l).extract M N = txt (l.drop M) := ext_drop l hN.symm
      have C1 := fun w => tkUpper_c (l.take M) (by rw [List.length_take]; omega) w
      have C2 := fun w => tkUpper_c x hx w
      rw [← hex] at C1
      have HED := Lib.hid hed
      obtain ⟨B, hB⟩ : ∃ B, txt l = B := ⟨_, rfl⟩
      obtain ⟨X, hX⟩ : ∃ X, txt x = X := ⟨_, rfl⟩
      rw [hB] at c0 e1 C1 HED
      rw [hX] at e2 C2 ⊢
      rw [hN] at e1
      rw [hM] at e2
      have C1 := Lib.hid C1
      have C2 := Lib.hid C2
      have HBT := Lib.hid hB
      by_cases hup : (l.take M).map upB = x.map upB
      · have hw : wordB ⟨l, false⟩ x = true := by unfold wordB; dsimp only; rw [hN, hM, hup]; simp; omega
        have hS : wordS ⟨l, false⟩ x = ⟨l.drop M, false⟩ := by unfold wordS; rw [hw, hM]; rfl
        rw [hw, hS]
        rw [hup] at C1
        obtain ⟨Y, hY⟩ : ∃ Y, txt (x.map upB) = Y := ⟨_, rfl⟩
        rw [hY] at C1 C2
        have u0 : (Y.toList != Y.toList) = false := by simp
        clear h hw hB hX hN hM hS hex hed hup hY
        go_enter Tryz.func99, Tryz.ntmps99
        go_wp2_with fail
        refine (C1.out _).mono ?_
        rintro e w1 ⟨rfl, hb1⟩
        have HB1 := Lib.hid hb1
        clear hb1
        go_wp2_with fail
        refine (C2.out _).mono ?_
        rintro e w2 ⟨rfl, hb2⟩
        have hbb := HB1.out.trans (hb2.mono HB1.out.size)
        have hp2 := H.out.tk (Tk.of_below (g := g + 1) hbb) (by omega)
        obtain ⟨d0, d1, dd, g0, g1⟩ := hp2.facts
        rw [show txt (RS.mk l false).l = B from HBT.out] at d0
        have H2 := Lib.hid hp2
        have HBB := Lib.hid hbb
        clear hb2 hp2 hbb c0 c1 f0 f1
        go_wp2_with fail
        go_ret
        refine ⟨rfl, ?_, (Tk.of_below HBB.out).trans (Tk.set _ _ _)⟩
        have h3 := H2.out.set0 (l.drop M)
        rw [← HED.out] at h3
        exact h3
      · have hne : ((l.take M).map upB == x.map upB) = false := by rw [beq_eq_false_iff_ne]; exact hup
        have hw : wordB ⟨l, false⟩ x = false := by unfold wordB; dsimp only; rw [hM, hne]; simp
        have hS : wordS ⟨l, false⟩ x = ⟨l, false⟩ := by unfold wordS; rw [hw]; rfl
        rw [hw, hS]
        have u0 := bne_txt hup
        obtain ⟨Y, hY⟩ : ∃ Y, txt (x.map upB) = Y := ⟨_, rfl⟩
        obtain ⟨Z, hZ⟩ : ∃ Z, txt ((l.take M).map upB) = Z := ⟨_, rfl⟩
        rw [hY] at C2 u0
        rw [hZ] at C1 u0
        clear h hw hB hX hN hM hS hex hed hup hY hZ hne
        go_enter Tryz.func99, Tryz.ntmps99
        go_wp2_with fail
        refine (C1.out _).mono ?_
        rintro e w1 ⟨rfl, hb1⟩
        have HB1 := Lib.hid hb1
        clear hb1
        go_wp2_with fail
        refine (C2.out _).mono ?_
        rintro e w2 ⟨rfl, hb2⟩
        have hbb := HB1.out.trans (hb2.mono HB1.out.size)
        have HBB := Lib.hid hbb
        clear hb2 hbb
        go_wp2_with fail
        go_ret
        exact ⟨rfl, H.out.tk (Tk.of_below (g := g + 1) HBB.out) (by omega), Tk.of_below HBB.out⟩
theorem tkBlank_c (h : PR W g s) (hl : s.l.length ≤ 1100000) : Calls Tryz.prog 98 #[pt g] W (Does W g (.tuple #[]) (mustS s [32])) := by
  have C := Lib.hid (tkWord_c h hl [32] (by decide))
  have e0 : txt [32] = ⟨#[32]⟩ := rfl
  rw [e0] at C
  have HS : Hid (mustS s [32] = if wordB s [32] then wordS s [32] else .gone) := by
    show _ = _
    unfold mustS wordS
    split <;> rfl
  obtain ⟨b, hb⟩ : ∃ b, wordB s [32] = b := ⟨_, rfl⟩
  obtain ⟨t, ht⟩ : ∃ t, wordS s [32] = t := ⟨_, rfl⟩
  rw [hb, ht] at C HS
  rw [HS.out]
  clear h HS hb ht
  cases b
  · go_enter Tryz.func98, Tryz.ntmps98
    go_wp2_with fail
    refine C.out.mono ?_
    rintro e w1 ⟨rfl, h1, h2⟩
    have C2 := Lib.hid (tkmust_c h1 false)
    have H2 := Lib.hid h2
    clear h1 h2
    go_wp2_with fail
    refine C2.out.mono ?_
    rintro e w2 ⟨rfl, h3, h4⟩
    have H3 := Lib.hid h3
    have H4 := Lib.hid h4
    clear h3 h4
    go_wp2_with fail
    go_end0
    exact ⟨rfl, H3.out, H2.out.trans H4.out⟩
  · go_enter Tryz.func98, Tryz.ntmps98
    go_wp2_with fail
    refine C.out.mono ?_
    rintro e w1 ⟨rfl, h1, h2⟩
    have C2 := Lib.hid (tkmust_c h1 true)
    have H2 := Lib.hid h2
    clear h1 h2
    go_wp2_with fail
    refine C2.out.mono ?_
    rintro e w2 ⟨rfl, h3, h4⟩
    have H3 := Lib.hid h3
    have H4 := Lib.hid h4
    clear h3 h4
    go_wp2_with fail
    go_end0
    exact ⟨rfl, H3.out, H2.out.trans H4.out⟩
/-! All bytes that are so. -/
theorem tw_step {p : UInt8 → Bool} : ∀ {l : List UInt8} {k : Nat}, k ≤ (l.takeWhile p).length → (hk : k < l.length) → (p l[k] = true → k + 1 ≤ (l.takeWhile p).length) ∧ (p l[k] = false → k = (l.takeWhile p).length)
  | c :: r, 0, _, _ => by
    rw [List.takeWhile_cons]
    refine ⟨fun h => ?_, fun h => ?_⟩
    · have h : p c = true := h
      rw [if_pos h]; simp
    · have h : p c = false := h
      rw [h]; rfl
  | c :: r, k + 1, h, hk => by
    rw [List.takeWhile_cons] at h ⊢
    by_cases hc : p c = true
    · rw [if_pos hc] at h ⊢
      have := tw_step (p := p) (l := r) (k := k) (by simpa using h) (by simpa using hk)
      simp only [List.getElem_cons_succ, List.length_cons]
      exact ⟨fun hp => by have := this.1 hp; omega, fun hp => by have := this.2 hp; omega⟩
    · rw [if_neg hc] at h; simp at h
theorem tw_end {p : UInt8 → Bool} {l : List UInt8} {k : Nat} (h : k ≤ (l.takeWhile p).length) (hk : ¬ k < l.length) : k = (l.takeWhile p).length := by
  have := (List.takeWhile_sublist (l := l) p).length_le; omega
theorem tw_take {p : UInt8 → Bool} (l : List UInt8) : l.take (l.takeWhile p).length = l.takeWhile p ∧ l.drop (l.takeWhile p).length = l.dropWhile p := by
  induction l with
  | nil => exact ⟨rfl, rfl⟩
  | cons c r ih =>
    rw [List.takeWhile_cons, List.dropWhile_cons]
    split
    · simp [ih.1, ih.2]
    · exact ⟨rfl, rfl⟩
theorem tw_le {p : UInt8 → Bool} (l : List UInt8) : (l.takeWhile p).length ≤ l.length := (List.takeWhile_sublist p).length_le
end Go.Proofs.YtpnnchpaaopdcaaGreatDoor
namespace Go.Proofs.YtpnnchpaaopdcaaGreatDoor
open Go Go.RowKit
variable {W : World} {g : Nat} {s : RS}
theorem isdig (x : UInt8) (n : Nat) (hx : x.toNat = n) : digB x = (decide (48 ≤ n) && decide (n ≤ 57)) := by subst hx; rfl
set_option maxRecDepth 20000 in
theorem num1_c (n : Nat) (x : UInt8) (hx : x.toNat = n) (w : World) : Calls Tryz.prog 181 #[.int .u8 n] w fun e w' => e = .returned (.bool (digB x)) ∧ w' = w := by
  rw [isdig x n hx]
  have hn : n < 256 := by rw [← hx]; exact x.toNat_lt
  clear hx
  by_cases h1 : 48 ≤ n
  · have q1 : (48 : Int) ≤ n := by omega
    by_cases h2 : n ≤ 57
    · have q2 : (n : Int) ≤ 57 := by omega
      have e : (decide (48 ≤ n) && decide (n ≤ 57)) = true := by simp [h1, h2]
      rw [e]; clear e h1 h2
      go_enter Tryz.func181, Tryz.ntmps181
      go_wp2_with fail
      go_ret
      exact ⟨rfl, rfl⟩
    · have q2 : ¬ (n : Int) ≤ 57 := by omega
      have e : (decide (48 ≤ n) && decide (n ≤ 57)) = false := by simp [h1, h2]
      rw [e]; clear e h1 h2
      go_enter Tryz.func181, Tryz.ntmps181
      go_wp2_with fail
      go_ret
      exact ⟨rfl, rfl⟩
  · have q1 : ¬ (48 : Int) ≤ n := by omega
    have e : (decide (48 ≤ n) && decide (n ≤ 57)) = false := by simp [h1]
    rw [e]; clear e h1
    go_enter Tryz.func181, Tryz.ntmps181
    go_wp2_with fail
    go_ret
    exact ⟨rfl, rfl⟩
def offL : List UInt8 := [40, 41, 123, 37, 42, 34, 92, 93]
theorem off_idx : ∀ n < 256, decide (Lib.indexByte offL (UInt8.ofNat n) < 0) = !offL.contains (UInt8.ofNat n) := by decide +kernel
theorem off_bd : ∀ n < 256, -1 ≤ Lib.indexByte offL (UInt8.ofNat n) ∧ Lib.indexByte offL (UInt8.ofNat n) ≤ 8 := by decide +kernel
set_option maxRecDepth 20000 in
theorem atom1_c (n : Nat) (x : UInt8) (hx : x.toNat = n) (w : World) : Calls Tryz.prog 173 #[.int .u8 n] w fun e w' => e = .returned (.bool (atomB x)) ∧ w' = w := by
  have hn : n < 256 := by rw [← hx]; exact x.toNat_lt
  have hxn : x = UInt8.ofNat n := by rw [← hx]; exact UInt8.toNat_inj.1 (by rw [UInt8.toNat_ofNat']; have := x.toNat_lt; omega)
  have hb := off_idx n hn
  have hbd := off_bd n hn
  have hC : Calls Tryz.prog 79 #[.string ⟨#[40, 41, 123, 37, 42, 34, 92, 93]⟩, .int .u8 n] w fun e w' => e = .returned (.int .i64 (Lib.indexByte offL (UInt8.ofNat n))) ∧ w' = w := by
    have := Tryz.strings_IndexByte ⟨#[40, 41, 123, 37, 42, 34, 92, 93]⟩ n w
    exact this
  have hA : atomB x = (decide (32 < n) && (decide (n ≤ 126) && !offL.contains (UInt8.ofNat n))) := by
    unfold atomB; rw [hx, hxn]; rfl
  rw [hA, ← hb]
  obtain ⟨i, hi⟩ : ∃ i, Lib.indexByte offL (UInt8.ofNat n) = i := ⟨_, rfl⟩
  rw [hi] at hC hbd ⊢
  have HC := Lib.hid hC
  clear hC hA hb hi hx hxn
  by_cases h1 : 32 < n
  · have q1 : (32 : Int) < n := by omega
    by_cases h2 : n ≤ 126
    · have q2 : (n : Int) ≤ 126 := by omega
      by_cases h3 : i < 0
      all_goals
        have e : (decide (32 < n) && (decide (n ≤ 126) && decide (i < 0))) = decide (i < 0) := by simp [h1, h2]
        rw [e]; clear e h1 h2
        go_enter Tryz.func173, Tryz.ntmps173
        go_wp2_with fail
        refine HC.out.mono ?_
        rintro e w' ⟨rfl, rfl⟩
        go_wp2_with fail
        go_ret
        exact ⟨by simp [h3], rfl⟩
    · have q2 : ¬ (n : Int) ≤ 126 := by omega
      have e : (decide (32 < n) && (decide (n ≤ 126) && decide (i < 0))) = false := by simp [h2]
      rw [e]; clear e h1 h2
      go_enter Tryz.func173, Tryz.ntmps173
      go_wp2_with fail
      go_ret
      exact ⟨rfl, rfl⟩
  · have q1 : ¬ (32 : Int) < n := by omega
    have e : (decide (32 < n) && (decide (n ≤ 126) && decide (i < 0))) = false := by simp [h1]
    rw [e]; clear e h1
    go_enter Tryz.func173, Tryz.ntmps173
    go_wp2_with fail
    go_ret
    exact ⟨rfl, rfl⟩
set_option maxRecDepth 100000 in
set_option maxHeartbeats 1000000 in
theorem tkWhileN_c  (p : UInt8 → Bool) (hF : ∀ (n : Nat) (x : UInt8), x.toNat = n → Calls Tryz.prog 181 #[.int .u8 n] W fun e w' => e = .returned (.bool (p x)) ∧ w' = W) (h : PR W g s) (hok : s.Ok) (hl : s.l.length ≤ 1100000) :
    Calls Tryz.prog 77 #[pt g, .func (.func 181) #[] #[]] W (Does W g (.string (txt (s.l.takeWhile p))) (skipS p s)) := by
  obtain ⟨c0, c1, hb, f0, f1⟩ := h.facts
  have H := Lib.hid h
  have HF := Lib.hid hF
  have HOK := Lib.hid hok
  obtain ⟨l, f⟩ := s
  dsimp only at c0 c1 hl
  have e1 := txt_size l
  obtain ⟨N, hN⟩ : ∃ N, l.length = N := ⟨_, rfl⟩
  have hex : ∀ k, (txt l).extract 0 k = txt (l.take k) := fun k => ext_take l
  have hed : ∀ k, (txt l).extract k N = txt (l.drop k) := fun k => ext_drop l hN.symm
  obtain ⟨B, hB⟩ : ∃ B, txt l = B := ⟨_, rfl⟩
  rw [hB] at c0 e1
  simp only [hB] at hex hed
  have hat : ∀ k (hk : k < B.size), l[k]? = some B[k] := fun k hk => by
    subst hB
    rw [at_txt (by rw [txt_size] at hk; exact hk)]; exact List.getElem?_eq_getElem _
  rw [hN] at e1
  have HAT := Lib.hid hat
  have HEX := Lib.hid hex
  have HED := Lib.hid hed
  have HN := Lib.hid hN
  have hN9 : N ≤ 1100000 := by omega
  clear h hF hok hB hN hat hex hed hl
  go_enter Tryz.func77, Tryz.ntmps77
  go_wp2_with fail
  go_loop [6] (fun i => ∃ k : Nat, k ≤ N ∧ i = .int .i64 k ∧ Hid (k ≤ (l.takeWhile p).length)) (fun i => N - (intOf i).toNat)
  case atStart => exact ⟨0, Nat.zero_le _, rfl, Nat.zero_le _⟩
  case round =>
    obtain ⟨k, hk, rfl, HK⟩ := hrel
    have fin : k = (l.takeWhile p).length → Hid (B.extract 0 k = txt (l.takeWhile p) ∧ B.extract k N = txt (l.dropWhile p)) := fun hkk => by
      obtain ⟨t1, t2⟩ := tw_take (p := p) l
      rw [← hkk] at t1 t2
      exact ⟨by rw [HEX.out, t1], by rw [HED.out, t2]⟩
    have FIN := Lib.hid fin
    clear fin
    by_cases hlt : k < N
    · have hq : (k : Int) < N := by omega
      have hq0 : (0 : Int) ≤ k := by omega
      have hkB : k < B.size := by omega
      have hc1 : B[k].toNat < 256 := B[k].toNat_lt
      have hstep := tw_step HK.out (by rw [HN.out]; exact hlt)
      have C := HF.out (B[k].toNat) B[k] rfl
      obtain ⟨_, hbk⟩ := List.getElem?_eq_some_iff.1 (HAT.out k hkB)
      rw [hbk] at hstep
      obtain ⟨b, hbb⟩ : ∃ b, p B[k] = b := ⟨_, rfl⟩
      rw [hbb] at C hstep
      have C := Lib.hid C
      have HS := Lib.hid hstep
      clear hstep hbb hbk
      cases b with
      | true =>
        have HK2 : Hid (k + 1 ≤ (l.takeWhile p).length) := HS.out.1 rfl
        go_wp2_with fail
        refine C.out.mono ?_
        rintro e w' ⟨rfl, rfl⟩
        go_wp2_with fail
        go_round
        case rel => exact ⟨k + 1, by omega, by go_num, HK2.out⟩
        case measure => simp [intOf]; omega
      | false =>
        have HZ := FIN.out (HS.out.2 rfl)
        cases f with
        | true => 
          have hl0 : l = [] := HOK.out rfl
          exfalso
          have := HN.out
          rw [hl0] at this
          simp at this; omega
        | false =>
          go_wp2_with fail
          refine C.out.mono ?_
          rintro e w' ⟨rfl, rfl⟩
          go_wp2_with fail
          go_ret
          refine ⟨ret_s HZ.out.1, ?_, Tk.set _ _ _⟩
          rw [HZ.out.2]
          exact H.out.set0 _
    · obtain rfl : k = N := by omega
      have hq : ¬ (k : Int) < k := by omega
      have HZ := FIN.out (tw_end HK.out (by rw [HN.out]; omega))
      cases f with
      | true =>
        have HL0 : Hid (l = []) := HOK.out rfl
        go_wp2_with fail
        go_ret
        refine ⟨ret_s (by rw [HL0.out]; rfl), ?_, Tk.refl _ _⟩
        unfold skipS
        have h9 := H.out
        rw [HL0.out] at h9 ⊢
        exact h9
      | false =>
        go_wp2_with fail
        go_ret
        refine ⟨ret_s HZ.out.1, ?_, Tk.set _ _ _⟩
        have h3 := H.out.set0 (l.dropWhile p)
        rw [← HZ.out.2] at h3
        unfold skipS; simpa using h3
set_option maxRecDepth 100000 in
set_option maxHeartbeats 1000000 in
theorem tkWhileA_c  (p : UInt8 → Bool) (hF : ∀ (n : Nat) (x : UInt8), x.toNat = n → Calls Tryz.prog 173 #[.int .u8 n] W fun e w' => e = .returned (.bool (p x)) ∧ w' = W) (h : PR W g s) (hok : s.Ok) (hl : s.l.length ≤ 1100000) :
    Calls Tryz.prog 77 #[pt g, .func (.func 173) #[] #[]] W (Does W g (.string (txt (s.l.takeWhile p))) (skipS p s)) := by
  obtain ⟨c0, c1, hb, f0, f1⟩ := h.facts
  have H := Lib.hid h
  have HF := Lib.hid hF
  have HOK := Lib.hid hok
  obtain ⟨l, f⟩ := s
  dsimp only at c0 c1 hl
  have e1 := txt_size l
  obtain ⟨N, hN⟩ : ∃ N, l.length = N := ⟨_, rfl⟩
  have hex : ∀ k, (txt l).extract 0 k = txt (l.take k) := fun k => ext_take l
  have hed : ∀ k, (txt l).extract k N = txt (l.drop k) := fun k => ext_drop l hN.symm
  obtain ⟨B, hB⟩ : ∃ B, txt l = B := ⟨_, rfl⟩
  rw [hB] at c0 e1
  simp only [hB] at hex hed
  have hat : ∀ k (hk : k < B.size), l[k]? = some B[k] := fun k hk => by
    subst hB
    rw [at_txt (by rw [txt_size] at hk; exact hk)]; exact List.getElem?_eq_getElem _
  rw [hN] at e1
  have HAT := Lib.hid hat
  have HEX := Lib.hid hex
  have HED := Lib.hid hed
  have HN := Lib.hid hN
  have hN9 : N ≤ 1100000 := by omega
  clear h hF hok hB hN hat hex hed hl
  go_enter Tryz.func77, Tryz.ntmps77
  go_wp2_with fail
  go_loop [6] (fun i => ∃ k : Nat, k ≤ N ∧ i = .int .i64 k ∧ Hid (k ≤ (l.takeWhile p).length)) (fun i => N - (intOf i).toNat)
  case atStart => exact ⟨0, Nat.zero_le _, rfl, Nat.zero_le _⟩
  case round =>
    obtain ⟨k, hk, rfl, HK⟩ := hrel
    have fin : k = (l.takeWhile p).length → Hid (B.extract 0 k = txt (l.takeWhile p) ∧ B.extract k N = txt (l.dropWhile p)) := fun hkk => by
      obtain ⟨t1, t2⟩ := tw_take (p := p) l
      rw [← hkk] at t1 t2
      exact ⟨by rw [HEX.out, t1], by rw [HED.out, t2]⟩
    have FIN := Lib.hid fin
    clear fin
    by_cases hlt : k < N
    · have hq : (k : Int) < N := by omega
      have hq0 : (0 : Int) ≤ k := by omega
      have hkB : k < B.size := by omega
      have hc1 : B[k].toNat < 256 := B[k].toNat_lt
      have hstep := tw_step HK.out (by rw [HN.out]; exact hlt)
      have C := HF.out (B[k].toNat) B[k] rfl
      obtain ⟨_, hbk⟩ := List.getElem?_eq_some_iff.1 (HAT.out k hkB)
      rw [hbk] at hstep
      obtain ⟨b, hbb⟩ : ∃ b, p B[k] = b := ⟨_, rfl⟩
      rw [hbb] at C hstep
      have C := Lib.hid C
      have HS := Lib.hid hstep
      clear hstep hbb hbk
      cases b with
      | true =>
        have HK2 : Hid (k + 1 ≤ (l.takeWhile p).length) := HS.out.1 rfl
        go_wp2_with fail
        refine C.out.mono ?_
        rintro e w' ⟨rfl, rfl⟩
        go_wp2_with fail
        go_round
        case rel => exact ⟨k + 1, by omega, by go_num, HK2.out⟩
        case measure => simp [intOf]; omega
      | false =>
        have HZ := FIN.out (HS.out.2 rfl)
        cases f with
        | true => 
          have hl0 : l = [] := HOK.out rfl
          exfalso
          have := HN.out
          rw [hl0] at this
          simp at this; omega
        | false =>
          go_wp2_with fail
          refine C.out.mono ?_
          rintro e w' ⟨rfl, rfl⟩
          go_wp2_with fail
          go_ret
          refine ⟨ret_s HZ.out.1, ?_, Tk.set _ _ _⟩
          rw [HZ.out.2]
          exact H.out.set0 _
    · obtain rfl : k = N := by omega
      have hq : ¬ (k : Int) < k := by omega
      have HZ := FIN.out (tw_end HK.out (by rw [HN.out]; omega))
      cases f with
      | true =>
        have HL0 : Hid (l = []) := HOK.out rfl
        go_wp2_with fail
        go_ret
        refine ⟨ret_s (by rw [HL0.out]; rfl), ?_, Tk.refl _ _⟩
        unfold skipS
        have h9 := H.out
        rw [HL0.out] at h9 ⊢
        exact h9
      | false =>
        go_wp2_with fail
        go_ret
        refine ⟨ret_s HZ.out.1, ?_, Tk.set _ _ _⟩
        have h3 := H.out.set0 (l.dropWhile p)
        rw [← HZ.out.2] at h3
        unfold skipS; simpa using h3
end Go.Proofs.YtpnnchpaaopdcaaGreatDoor
namespace Go.Proofs.YtpnnchpaaopdcaaGreatDoor
open Go Go.RowKit
variable {W : World} {g : Nat} {s : RS}
def setL : List UInt8 := [42, 48, 49, 50, 51, 52, 53, 54, 55, 56, 57, 58, 44]
def setB (x : UInt8) : Bool := setL.contains x
theorem setB_idx : ∀ n < 256, decide (0 ≤ Lib.indexByte setL (UInt8.ofNat n)) = setB (UInt8.ofNat n) := by decide +kernel
theorem setB_bd : ∀ n < 256, -1 ≤ Lib.indexByte setL (UInt8.ofNat n) ∧ Lib.indexByte setL (UInt8.ofNat n) ≤ 13 := by decide +kernel
set_option maxRecDepth 20000 in
theorem sReadSet1_c (n : Nat) (x : UInt8) (hx : x.toNat = n) (w : World) : Calls Tryz.prog 78 #[.int .u8 n] w fun e w' => e = .returned (.bool (setB x)) ∧ w' = w := by
  have hn : n < 256 := by rw [← hx]; exact x.toNat_lt
  have hxn : x = UInt8.ofNat n := by rw [← hx]; exact UInt8.toNat_inj.1 (by rw [UInt8.toNat_ofNat']; have := x.toNat_lt; omega)
  have hb := setB_idx n hn
  have hbd := setB_bd n hn
  have hC : Calls Tryz.prog 79 #[.string ⟨#[42, 48, 49, 50, 51, 52, 53, 54, 55, 56, 57, 58, 44]⟩, .int .u8 n] w fun e w' => e = .returned (.int .i64 (Lib.indexByte setL (UInt8.ofNat n))) ∧ w' = w := by
    have := Tryz.strings_IndexByte ⟨#[42, 48, 49, 50, 51, 52, 53, 54, 55, 56, 57, 58, 44]⟩ n w
    exact this
  rw [hxn, ← hb]
  obtain ⟨i, hi⟩ : ∃ i, Lib.indexByte setL (UInt8.ofNat n) = i := ⟨_, rfl⟩
  rw [hi] at hC hbd ⊢
  have HC := Lib.hid hC
  clear hC hb hi hx hxn
  by_cases h3 : 0 ≤ i
  all_goals
    go_enter Tryz.func78, Tryz.ntmps78
    go_wp2_with fail
    refine HC.out.mono ?_
    rintro e w' ⟨rfl, rfl⟩
    go_wp2_with fail
    go_ret
    exact ⟨by simp [h3], rfl⟩
set_option maxRecDepth 100000 in
set_option maxHeartbeats 1000000 in
theorem tkWhileS_c  (p : UInt8 → Bool) (hF : ∀ (n : Nat) (x : UInt8), x.toNat = n → Calls Tryz.prog 78 #[.int .u8 n] W fun e w' => e = .returned (.bool (p x)) ∧ w' = W) (h : PR W g s) (hok : s.Ok) (hl : s.l.length ≤ 1100000) :
    Calls Tryz.prog 77 #[pt g, .func (.func 78) #[] #[]] W (Does W g (.string (txt (s.l.takeWhile p))) (skipS p s)) := by
  obtain ⟨c0, c1, hb, f0, f1⟩ := h.facts
  have H := Lib.hid h
  have HF := Lib.hid hF
  have HOK := Lib.hid hok
  obtain ⟨l, f⟩ := s
  dsimp only at c0 c1 hl
  have e1 := txt_size l
  obtain ⟨N, hN⟩ : ∃ N, l.length = N := ⟨_, rfl⟩
  have hex : ∀ k, (txt l).extract 0 k = txt (l.take k) := fun k => ext_take l
  have hed : ∀ k, (txt l).extract k N = txt (l.drop k) := fun k => ext_drop l hN.symm
  obtain ⟨B, hB⟩ : ∃ B, txt l = B := ⟨_, rfl⟩
  rw [hB] at c0 e1
  simp only [hB] at hex hed
  have hat : ∀ k (hk : k < B.size), l[k]? = some B[k] := fun k hk => by
    subst hB
    rw [at_txt (by rw [txt_size] at hk; exact hk)]; exact List.getElem?_eq_getElem _
  rw [hN] at e1
  have HAT := Lib.hid hat
  have HEX := Lib.hid hex
  have HED := Lib.hid hed
  have HN := Lib.hid hN
  have hN9 : N ≤ 1100000 := by omega
  clear h hF hok hB hN hat hex hed hl
  go_enter Tryz.func77, Tryz.ntmps77
  go_wp2_with fail
  go_loop [6] (fun i => ∃ k : Nat, k ≤ N ∧ i = .int .i64 k ∧ Hid (k ≤ (l.takeWhile p).length)) (fun i => N - (intOf i).toNat)
  case atStart => exact ⟨0, Nat.zero_le _, rfl, Nat.zero_le _⟩
  case round =>
    obtain ⟨k, hk, rfl, HK⟩ := hrel
    have fin : k = (l.takeWhile p).length → Hid (B.extract 0 k = txt (l.takeWhile p) ∧ B.extract k N = txt (l.dropWhile p)) := fun hkk => by
      obtain ⟨t1, t2⟩ := tw_take (p := p) l
      rw [← hkk] at t1 t2
      exact ⟨by rw [HEX.out, t1], by rw [HED.out, t2]⟩
    have FIN := Lib.hid fin
    clear fin
    by_cases hlt : k < N
    · have hq : (k : Int) < N := by omega
      have hq0 : (0 : Int) ≤ k := by omega
      have hkB : k < B.size := by omega
      have hc1 : B[k].toNat < 256 := B[k].toNat_lt
      have hstep := tw_step HK.out (by rw [HN.out]; exact hlt)
      have C := HF.out (B[k].toNat) B[k] rfl
      obtain ⟨_, hbk⟩ := List.getElem?_eq_some_iff.1 (HAT.out k hkB)
      rw [hbk] at hstep
      obtain ⟨b, hbb⟩ : ∃ b, p B[k] = b := ⟨_, rfl⟩
      rw [hbb] at C hstep
      have C := Lib.hid C
      have HS := Lib.hid hstep
      clear hstep hbb hbk
      cases b with
      | true =>
        have HK2 : Hid (k + 1 ≤ (l.takeWhile p).length) := HS.out.1 rfl
        go_wp2_with fail
        refine C.out.mono ?_
        rintro e w' ⟨rfl, rfl⟩
        go_wp2_with fail
        go_round
        case rel => exact ⟨k + 1, by omega, by go_num, HK2.out⟩
        case measure => simp [intOf]; omega
      | false =>
        have HZ := FIN.out (HS.out.2 rfl)
        cases f with
        | true => 
          have hl0 : l = [] := HOK.out rfl
          exfalso
          have := HN.out
          rw [hl0] at this
          simp at this; omega
        | false =>
          go_wp2_with fail
          refine C.out.mono ?_
          rintro e w' ⟨rfl, rfl⟩
          go_wp2_with fail
          go_ret
          refine ⟨ret_s HZ.out.1, ?_, Tk.set _ _ _⟩
          rw [HZ.out.2]
          exact H.out.set0 _
    · obtain rfl : k = N := by omega
      have hq : ¬ (k : Int) < k := by omega
      have HZ := FIN.out (tw_end HK.out (by rw [HN.out]; omega))
      cases f with
      | true =>
        have HL0 : Hid (l = []) := HOK.out rfl
        go_wp2_with fail
        go_ret
        refine ⟨ret_s (by rw [HL0.out]; rfl), ?_, Tk.refl _ _⟩
        unfold skipS
        have h9 := H.out
        rw [HL0.out] at h9 ⊢
        exact h9
      | false =>
        go_wp2_with fail
        go_ret
        refine ⟨ret_s HZ.out.1, ?_, Tk.set _ _ _⟩
        have h3 := H.out.set0 (l.dropWhile p)
        rw [← HZ.out.2] at h3
        unfold skipS; simpa using h3
end Go.Proofs.YtpnnchpaaopdcaaGreatDoor
namespace Go.Proofs.YtpnnchpaaopdcaaGreatDoor
open Go Go.RowKit
variable {W : World} {g : Nat} {s : RS}
def Away (g : Nat) : Prop := 8 ≠ g ∧ 9 ≠ g
theorem cell_ltA {w : World} {a : Addr} {v : Value} (h : w.cell? a = some v) : a.block < w.heap.size := by
  by_cases hb : a.block < w.heap.size
  · exact hb
  · have : w.heap[a.block]? = none := Array.getElem?_eq_none (by omega)
    unfold World.cell? at h
    rw [this] at h
    cases h
theorem cell_same {w w' : World} {a : Addr} (h : w'.heap[a.block]? = w.heap[a.block]?) : w'.cell? a = w.cell? a := by unfold World.cell?; rw [h]
theorem Errs.tk {w w' : World} (h : Errs w) (ht : Tk g w w') (hg : Away g) : Errs w' := by
  obtain ⟨⟨t1, p1, h1⟩, t2, p2, h2⟩ := h
  exact ⟨⟨t1, p1, (cell_same (ht.blk _ (cell_ltA h1) hg.1)).trans h1⟩, t2, p2, (cell_same (ht.blk _ (cell_ltA h2) hg.2)).trans h2⟩
theorem Errs.below {w w' : World} (h : Errs w) (hb : Below w.heap.size w w') : Errs w' := by
  obtain ⟨⟨t1, p1, h1⟩, t2, p2, h2⟩ := h
  exact ⟨⟨t1, p1, (cell_same (hb.block _ (cell_ltA h1))).trans h1⟩, t2, p2, (cell_same (hb.block _ (cell_ltA h2))).trans h2⟩
theorem pB_ok (l : List UInt8) (v : Nat) : Lib.parseUintB 32 l = .ok v ↔ l ≠ [] ∧ numV 0 l = some v ∧ v ≤ 4294967295 := by
  unfold Lib.parseUintB
  by_cases hn : l = []
  · rw [if_pos hn]; simp [hn]
  · rw [if_neg hn, show (2 ^ 32 - 1 : Nat) = 4294967295 from rfl, parseM l 0 v (by omega)]
    exact ⟨fun h => ⟨hn, h⟩, fun h => h.2⟩
theorem numR_none {l : List UInt8} (h : ∀ u, Lib.parseUintB 32 l ≠ .ok u) : numR l 4294967295 = none := by
  cases hn : numR l 4294967295 with
  | none => rfl
  | some v =>
    exfalso
    unfold numR at hn
    split at hn
    · cases hn
    · rename_i hl
      cases hv : numV 0 l with
      | none => rw [hv] at hn; cases hn
      | some n =>
        rw [hv] at hn
        dsimp only at hn
        split at hn
        · exact h n ((pB_ok l n).2 ⟨fun e => hl (.inl (by rw [e]; decide)), hv, by assumption⟩)
        · cases hn
theorem numR_zero {l : List UInt8} (h0 : l.head? = some 48) (h : l ≠ [48]) : numR l 4294967295 = none := by
  unfold numR
  rw [if_pos]
  right; right
  refine ⟨?_, h0⟩
  match l, h0, h with
  | [c], h0, h => simp at h0; subst h0; exact absurd rfl h
  | c :: d :: r, _, _ => simp
theorem numR_some {l : List UInt8} {u : Nat} (h : Lib.parseUintB 32 l = .ok u) (h0 : ¬ (l.head? = some 48 ∧ l ≠ [48])) : numR l 4294967295 = some u := by
  obtain ⟨hn, hv, hu⟩ := (pB_ok l u).1 h
  unfold numR
  rw [if_neg, hv]
  · dsimp only; rw [if_pos hu]
  · rintro (h1 | h1 | ⟨h1, h2⟩)
    · exact hn (List.length_eq_zero_iff.1 (by omega))
    · match l, hn with
      | c :: r, _ =>
        have h48 : c ≠ 48 := fun e => h0 ⟨by rw [e]; rfl, fun e2 => by rw [e2] at h1; simp at h1⟩
        unfold numV at hv
        split at hv
        · rename_i hd
          have h3 := numV_ge r _ u hv
          have h4 : c.toNat ≠ 48 := fun e => h48 (UInt8.toNat_inj.1 e)
          have h5 : 1 ≤ 10 * 0 + (c.toNat - 48) := by have := hd.1; omega
          have h6 : 10 ^ r.length ≤ u := Nat.le_trans (by simpa using Nat.mul_le_mul_right (10 ^ r.length) h5) h3
          have h7 : 10 ^ 10 ≤ 10 ^ r.length := Nat.pow_le_pow_right (by omega) (by simp at h1; omega)
          omega
        · cases hv
    · exact h0 ⟨h2, fun e => by rw [e] at h1; simp at h1⟩
set_option maxRecDepth 100000 in
theorem tkAtom_c (h : PR W g s) (hok : s.Ok) (hl : s.l.length ≤ 1100000) : Calls Tryz.prog 110 #[pt g] W (Does W g (.string (txt (atomV s))) (atomS s)) := by
  have C := Lib.hid (tkWhileA_c atomB (fun n x hx => atom1_c n x hx W) h hok hl)
  have e0 := isEmpty_txt' (s.l.takeWhile atomB)
  have HA : Hid (atomS s = if s.l.takeWhile atomB = [] then .gone else skipS atomB s) := rfl
  unfold atomV
  obtain ⟨a, ha⟩ : ∃ a, s.l.takeWhile atomB = a := ⟨_, rfl⟩
  obtain ⟨t, ht⟩ : ∃ t, skipS atomB s = t := ⟨_, rfl⟩
  rw [ha] at C e0 HA ⊢
  rw [ht] at C HA
  rw [HA.out]
  obtain ⟨B, hB⟩ : ∃ B, txt a = B := ⟨_, rfl⟩
  rw [hB] at C e0 ⊢
  by_cases hz : a = []
  · have e1 : a.isEmpty = true := by rw [hz]; rfl
    rw [e1] at e0
    rw [if_pos hz]
    clear h HA ha ht hB e1 hz
    go_enter Tryz.func110, Tryz.ntmps110
    go_wp2_with fail
    refine C.out.mono ?_
    rintro e w1 ⟨rfl, h1, h2⟩
    have C2 := Lib.hid (tkmust_c h1 false)
    have H2 := Lib.hid h2
    clear h1 h2
    go_wp2_with fail
    refine C2.out.mono ?_
    rintro e w2 ⟨rfl, h3, h4⟩
    have H3 := Lib.hid h3
    have H4 := Lib.hid h4
    clear h3 h4
    go_wp2_with fail
    go_ret
    exact ⟨rfl, H3.out, H2.out.trans H4.out⟩
  · have e1 : a.isEmpty = false := by rw [List.isEmpty_eq_false_iff]; exact hz
    rw [e1] at e0
    rw [if_neg hz]
    clear h HA ha ht hB e1 hz
    go_enter Tryz.func110, Tryz.ntmps110
    go_wp2_with fail
    refine C.out.mono ?_
    rintro e w1 ⟨rfl, h1, h2⟩
    have C2 := Lib.hid (tkmust_c h1 true)
    have H2 := Lib.hid h2
    clear h1 h2
    go_wp2_with fail
    refine C2.out.mono ?_
    rintro e w2 ⟨rfl, h3, h4⟩
    have H3 := Lib.hid h3
    have H4 := Lib.hid h4
    clear h3 h4
    go_wp2_with fail
    go_ret
    exact ⟨rfl, H3.out, H2.out.trans H4.out⟩
set_option maxRecDepth 100000 in
set_option maxHeartbeats 1000000 in
theorem tkNumber_c (h : PR W g s) (hok : s.Ok) (hl : s.l.length ≤ 1100000) (hE : Errs W) (hg : Away g) : Calls Tryz.prog 136 #[pt g] W (Does W g (.int .u32 (numN s)) (numS s)) := by
  have C := Lib.hid (tkWhileN_c digB (fun n x hx => num1_c n x hx W) h hok hl)
  have hle : (s.l.takeWhile digB).length ≤ 1100000 := Nat.le_trans (tw_le _) hl
  unfold numN numS
  rw [show RS.mk (s.l.dropWhile digB) s.f = skipS digB s from rfl]
  unfold numO
  obtain ⟨a, ha⟩ : ∃ a, s.l.takeWhile digB = a := ⟨_, rfl⟩
  obtain ⟨t, ht⟩ : ∃ t, skipS digB s = t := ⟨_, rfl⟩
  rw [ha] at C hle ⊢
  rw [ht] at C ⊢
  have e1 := txt_size a
  have P := fun w hE => pu_c (txt a) (by rw [e1]; exact hle) w hE
  rw [data_txt] at P
  have h48 := toList_txt a
  obtain ⟨B, hB⟩ : ∃ B, txt a = B := ⟨_, rfl⟩
  have hhd : ∀ h : 0 < B.size, a.head? = some B[0] := fun h => by
    rw [show a = B.data.toList by rw [← hB, data_txt]]; exact head_eq h
  rw [hB] at C P e1 h48
  have HP := Lib.hid P
  have HHD := Lib.hid hhd
  have HE := Lib.hid hE
  have HA0 : Hid (a = [] → B.size = 0) := fun h => by rw [e1, h]; rfl
  have HT := Lib.hid h48
  obtain ⟨n, hn⟩ : ∃ n, (numR a 4294967295).getD 0 = n := ⟨_, rfl⟩
  obtain ⟨z, hz⟩ : ∃ z, (if (numR a 4294967295).isSome = true then t else RS.gone) = z := ⟨_, rfl⟩
  rw [hn, hz]
  have HNN := Lib.hid hn
  have HZZ := Lib.hid hz
  clear h P hhd hE ha ht hB e1 h48 hn hz
  go_enter Tryz.func136, Tryz.ntmps136
  go_wp2_with fail
  refine C.out.mono ?_
  rintro e w1 ⟨rfl, h1, h2⟩
  have H1 := Lib.hid h1
  have H2 := Lib.hid h2
  have CP := Lib.hid (HP.out w1 (HE.out.tk h2 hg))
  clear h1 h2
  go_wp2_with fail
  refine CP.out.mono ?_
  rintro e w2 ⟨hr, hb2⟩
  have HK := Lib.hid (H2.out.trans (Tk.of_below (g := g) hb2))
  have H3 := Lib.hid (H1.out.tk (Tk.of_below (g := g + 1) hb2) (by omega))
  clear hb2 CP
  rcases hr with ⟨u, hu, hu9, rfl⟩ | ⟨hu, x, tt, pp, rfl⟩
  · have hne : a ≠ [] := ((pB_ok a u).1 hu).1
    have hsz : 0 < B.size := by
      rcases Nat.eq_zero_or_pos B.size with h | h
      · exfalso
        have h9 := HT.out
        have : B.toList = [] := by
          rw [ByteArray.toList_eq]; exact List.length_eq_zero_iff.1 (by rw [ba_len]; exact h)
        rw [this] at h9; exact hne h9.symm
      · exact h
    have hq1 : (0 : Int) < B.size := by omega
    have hc1 : B[0].toNat < 256 := B[0].toNat_lt
    have hh := HHD.out hsz
    by_cases hz : B[0].toNat = 48
    · have hz' : B[0] = 48 := UInt8.toNat_inj.1 hz
      rw [hz'] at hh
      have ez : ((B[0].toNat : Int) == 48) = true := qT (by omega)
      by_cases h1 : a = [48]
      · have hv : numR a 4294967295 = some u := numR_some hu (fun h => h.2 h1)
        have HQ : Hid (u = n ∧ t = z) := ⟨by rw [← HNN.out, hv]; rfl, by rw [← HZZ.out, hv]; rfl⟩
        have ec : (B.toList == [48]) = true := by rw [HT.out, h1]; rfl
        have hm : (u : Int) % 4294967296 = u := by omega
        clear hv hu hh hz hz' h1 hne
        go_wp2_with fail
        go_ret
        exact ⟨by rw [← HQ.out.1]; simp [hm], HQ.out.2 ▸ H3.out, HK.out⟩
      · have hv : numR a 4294967295 = none := numR_zero hh h1
        have HQ : Hid (0 = n ∧ RS.gone = z) := ⟨by rw [← HNN.out, hv]; rfl, by rw [← HZZ.out, hv]; rfl⟩
        have ec : (B.toList == [48]) = false := by rw [HT.out, beq_eq_false_iff_ne]; exact h1
        have C4 := Lib.hid (tkFail_c H3.out)
        clear hv hu hh hz hz' h1 hne
        go_wp2_with fail
        refine C4.out.mono ?_
        rintro e w3 ⟨rfl, h5, h6⟩
        have H5 := Lib.hid h5
        have H6 := Lib.hid (HK.out.trans h6)
        clear h5 h6
        go_wp2_with fail
        go_ret
        exact ⟨by rw [← HQ.out.1]; rfl, HQ.out.2 ▸ H5.out, H6.out⟩
    · have ez : ((B[0].toNat : Int) == 48) = false := qF (by omega)
      have hv : numR a 4294967295 = some u := numR_some hu (fun h => hz (by
        have := h.1
        rw [hh] at this
        rw [Option.some.inj this]; rfl))
      have HQ : Hid (u = n ∧ t = z) := ⟨by rw [← HNN.out, hv]; rfl, by rw [← HZZ.out, hv]; rfl⟩
      have hm : (u : Int) % 4294967296 = u := by omega
      clear hv hu hh hz hne
      go_wp2_with fail
      go_ret
      exact ⟨by rw [← HQ.out.1]; simp [hm], HQ.out.2 ▸ H3.out, HK.out⟩
  · have hv : numR a 4294967295 = none := numR_none hu
    have HQ : Hid (0 = n ∧ RS.gone = z) := ⟨by rw [← HNN.out, hv]; rfl, by rw [← HZZ.out, hv]; rfl⟩
    have C4 := Lib.hid (tkFail_c H3.out)
    clear hv hu
    go_wp2_with fail
    refine C4.out.mono ?_
    rintro e w3 ⟨rfl, h5, h6⟩
    have H5 := Lib.hid h5
    have H6 := Lib.hid (HK.out.trans h6)
    clear h5 h6
    go_wp2_with fail
    go_ret
    exact ⟨by rw [← HQ.out.1]; rfl, HQ.out.2 ▸ H5.out, H6.out⟩
end Go.Proofs.YtpnnchpaaopdcaaGreatDoor

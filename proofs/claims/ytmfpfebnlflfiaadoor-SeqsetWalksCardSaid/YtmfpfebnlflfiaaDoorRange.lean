/-
  A range of a text: the program's parseRange: contract.
-/
import Derived.Test.YtmfpfebnlflfiaaDoorEndR
set_option linter.unusedVariables false
set_option linter.unusedSimpArgs false
namespace Go.Proofs.YtmfpfebnlflfiaaDoor
open Go Go.RowKit

def pair2 : Option Nat → Option Nat → Option (Nat × Nat)
  | some x, some y => some (x, y)
  | _, _ => none
/-- The range that a text is. -/
def rangeOf (l : List UInt8) : Option (Nat × Nat) := match splitB 58 l with
  | [a] => pair2 (endB a) (endB a)
  | [a, b] => pair2 (endB a) (endB b)
  | _ => none

theorem numV_dig {l : List UInt8} {a u : Nat} (h : numV a l = some u) : ∀ c ∈ l, dig c := by
  induction l generalizing a with
  | nil => simp
  | cons x r ih =>
    rw [numV_cons] at h
    split at h
    · intro c hc
      rcases List.mem_cons.1 hc with e | e
      · rw [e]; assumption
      · exact ih h c e
    · cases h
theorem endB_colon (p r : List UInt8) : endB (p ++ 58 :: r) = none := by
  cases h : endB (p ++ 58 :: r) with
  | none => rfl
  | some v =>
    exfalso
    by_cases h1 : p ++ 58 :: r = [42]
    · have : (58 : UInt8) ∈ [(42 : UInt8)] := by rw [← h1]; simp
      simp at this
    · by_cases h2 : (p ++ 58 :: r).head? = some 48
      · unfold endB at h; rw [if_neg h1, if_pos h2] at h; cases h
      · have := numV_dig ((endB_ok h1 h2 v).1 h).2.1 58 (by simp)
        revert this; decide
theorem pair2_none_r (a : Option Nat) : pair2 a none = none := by cases a <;> rfl
theorem rangeOf_one {l : List UInt8} (h : ∀ x ∈ l, x ≠ 58) : rangeOf l = pair2 (endB l) (endB l) := by unfold rangeOf; rw [splitB_none h]
theorem rangeOf_two {p r : List UInt8} (h : ∀ x ∈ p, x ≠ 58) : rangeOf (p ++ 58 :: r) = pair2 (endB p) (endB r) := by
  unfold rangeOf
  rw [splitB_some h]
  rcases at_byte 58 r with hr | ⟨a, b, rfl, ha⟩
  · rw [splitB_none hr]
  · rw [splitB_some ha, endB_colon, pair2_none_r]
    cases hs : splitB 58 b with
    | nil => exact absurd hs (splitB_ne _ _)
    | cons _ _ => rfl

theorem Errs.later {W W' : World} (h : Errs W) {B : Nat} (hb : Below B W W') (hB : max 3 4 < B) : Errs W' := by
  obtain ⟨⟨t1, p1, h1⟩, t2, p2, h2⟩ := h
  exact ⟨⟨t1, p1, (hb.cell (p := ⟨3, 0, none⟩) (by show (3 : Nat) < B; omega)).trans h1⟩, t2, p2, (hb.cell (p := ⟨4, 0, none⟩) (by show (4 : Nat) < B; omega)).trans h2⟩
theorem cell_lt {W : World} {k j : Nat} {v : Value} (h : W.cell? ⟨k, j, none⟩ = some v) : k < W.heap.size := by
  unfold World.cell? at h
  apply Decidable.byContradiction
  intro hn
  rw [Array.getElem?_eq_none (by show W.heap.size ≤ k; omega)] at h
  simp at h
theorem Errs.lt {W : World} (h : Errs W) : max 3 4 < W.heap.size := by
  obtain ⟨⟨t1, p1, h1⟩, t2, p2, h2⟩ := h
  have := cell_lt h1
  have := cell_lt h2
  omega

/-- A block of two cells. -/
def Pair (W : World) (B : Nat) (t : TypeId) (a b : Value) : Prop := W.heap[B]? = some (.cells #[a, b] t (0, 0))
theorem Pair.new (W : World) (t : TypeId) (a b : Value) : Pair (W.alloc (.cells #[a, b] t)) W.heap.size t a b := World.alloc_heap_new W _
theorem Pair.lt {W : World} {B : Nat} {t : TypeId} {a b : Value} (h : Pair W B t a b) : B < W.heap.size := (Array.getElem?_eq_some_iff.1 h).1
theorem Pair.c0 {W : World} {B : Nat} {t : TypeId} {a b : Value} (h : Pair W B t a b) : W.cell? ⟨B, 0, none⟩ = some a := by simp [World.cell?, show W.heap[B]? = _ from h]
theorem Pair.c1 {W : World} {B : Nat} {t : TypeId} {a b : Value} (h : Pair W B t a b) : W.cell? ⟨B, 1, none⟩ = some b := by simp [World.cell?, show W.heap[B]? = _ from h]
theorem Pair.f0 {W : World} {B : Nat} {t : TypeId} {a b : Value} (h : Pair W B t a b) : W.frozen? ⟨B, 0, none⟩ = false := by simp [World.frozen?, show W.heap[B]? = _ from h]
theorem Pair.f1 {W : World} {B : Nat} {t : TypeId} {a b : Value} (h : Pair W B t a b) : W.frozen? ⟨B, 1, none⟩ = false := by simp [World.frozen?, show W.heap[B]? = _ from h]

theorem Pair.set0 {W : World} {B : Nat} {t : TypeId} {a b : Value} (v : Value) (h : Pair W B t a b) : Pair (W.setCell ⟨B, 0, none⟩ v) B t v b := by
  obtain ⟨hlt, hk⟩ := Array.getElem?_eq_some_iff.1 h
  show (W.heap.modify B _)[B]? = _
  rw [Array.getElem?_eq_getElem (by rw [Array.size_modify]; exact hlt), Array.getElem_modify_self, hk]
  rfl
theorem Pair.set1 {W : World} {B : Nat} {t : TypeId} {a b : Value} (v : Value) (h : Pair W B t a b) : Pair (W.setCell ⟨B, 1, none⟩ v) B t a v := by
  obtain ⟨hlt, hk⟩ := Array.getElem?_eq_some_iff.1 h
  show (W.heap.modify B _)[B]? = _
  rw [Array.getElem?_eq_getElem (by rw [Array.size_modify]; exact hlt), Array.getElem_modify_self, hk]
  rfl
theorem results_pr (tmps : Array Value) (w : World) (B : Nat) (a b : Value) (h : Pair w B 83 a b) (h2 : tmps.getD 2 undef = .pointer (some ⟨B, 0, none⟩)) :
    (results Tryd.f41 tmps).run Tryd.prog w = .ok (.tuple #[.agg #[a, b], tmps.getD 3 undef]) w := by
  have c0 := h.c0
  have c1 := h.c1
  have h2' : tmps[2]?.getD undef = .pointer (some ⟨B, 0, none⟩) := by simpa using h2
  simp [results, Tryd.f41, go_sem, h2', c0, c1]

def rng (x y : Nat) : Value := .agg #[.int .u32 x, .int .u32 y]
def RangeIs (l : List UInt8) (e : Ending) : Prop := (∃ x y : Nat, rangeOf l = some (x, y) ∧ x ≤ 4294967295 ∧ y ≤ 4294967295 ∧ e = .returned (.tuple #[rng x y, .bool true])) ∨ (rangeOf l = none ∧ e = .returned (.tuple #[rng 0 0, .bool false]))

set_option maxRecDepth 100000 in
set_option maxHeartbeats 1000000 in
theorem prange_c (s : ByteArray) (hs : s.size ≤ 100000) (w : World) (hE : Errs w) : Calls Tryd.prog 41 #[.string s] w fun e w' => RangeIs s.data.toList e ∧ Below w.heap.size w w' := by
  rcases at_byte 58 s.data.toList with hn | ⟨p, r, hpr, hp⟩
  · have HC := Lib.hid (fun w => cut_none s 58 hn w)
    have HR := Lib.hid (rangeOf_one hn)
    have HE := Lib.hid hE
    clear hn hE
    go_enter Tryd.func41, Tryd.ntmps41
    go_wp2_with fail
    refine (HC.out _).mono ?_
    rintro e w1 ⟨rfl, n, hw⟩
    have hb1 : Below w.heap.size w w1 := by rw [hw]; exact below_drewN ((Below.refl _ w).alloc (Nat.le_refl _) _) n
    have hsz : w1.heap.size = w.heap.size + 1 := by rw [hw]; simp
    have hx : Pair w1 w.heap.size 83 (.int .u32 0) (.int .u32 0) := by rw [hw]; exact Pair.new w 83 (.int .u32 0) (.int .u32 0)
    have HW := Lib.hid hw
    have HE1 := Lib.hid (HE.out.later hb1 HE.out.lt)
    have HB1 := Lib.hid hb1
    clear hw hb1
    go_wp2_with fail
    refine (pend_c s hs _ HE1.out).mono ?_
    rintro e w2 ⟨h, hb2⟩
    have HE2 := Lib.hid (HE1.out.later (hb2.mono HE1.out.lt) (by have := HE.out.lt; omega))
    have hx2 : Pair w2 w.heap.size 83 (.int .u32 0) (.int .u32 0) := (hb2.block _ (by omega)).trans hx
    have k0 := hx2.c0
    have k1 := hx2.c1
    have g0 := hx2.f0
    have g1 := hx2.f1
    have HX := Lib.hid hx2
    have HB2 := Lib.hid hb2
    clear hx hx2 hb2
    rcases h with ⟨v, hv, hle, rfl⟩ | ⟨hv, v, hle, rfl⟩
    · have HV := Lib.hid hv
      clear hv k0 k1 g0 g1
      go_wp2_with fail
      refine (pend_c s hs _ HE2.out).mono ?_
      rintro e w3 ⟨h, hb3⟩
      have hx3 : Pair w3 w.heap.size 83 (.int .u32 0) (.int .u32 0) := (hb3.block _ HX.out.lt).trans HX.out
      have k0 := hx3.c0
      have k1 := hx3.c1
      have g0 := hx3.f0
      have g1 := hx3.f1
      have HX3 := Lib.hid hx3
      have HB3 := Lib.hid hb3
      clear hx3 hb3
      rcases h with ⟨v2, hv2, hle2, rfl⟩ | ⟨hv2, v2, hle2, rfl⟩
      · obtain rfl : v2 = v := Option.some.inj (hv2.symm.trans HV.out)
        clear hv2
        go_wp2_with fail
        have hx4 := (HX3.out.set0 (.int .u32 v2)).set1 (.int .u32 v2)
        refine bodyPost_ret (results_pr _ _ w.heap.size _ _ hx4 rfl) rfl ?_
        refine ⟨.inl ⟨v2, v2, by rw [HR.out, HV.out]; rfl, hle, hle, rfl⟩, ?_⟩
        exact (((HB1.out.trans (HB2.out.mono (by omega))).trans (HB3.out.mono (by have := HB2.out.size; omega))).setCell (p := ⟨w.heap.size, 0, none⟩) (Nat.le_refl _) _).setCell (p := ⟨w.heap.size, 1, none⟩) (Nat.le_refl _) _
      · exact absurd (hv2.symm.trans HV.out) (by simp)
    · have HV := Lib.hid hv
      clear hv
      go_wp2_with fail
      have hx4 := (HX.out.set0 (.int .u32 0)).set1 (.int .u32 0)
      refine bodyPost_ret (results_pr _ _ w.heap.size _ _ hx4 rfl) rfl ?_
      refine ⟨.inr ⟨by rw [HR.out, HV.out]; rfl, rfl⟩, ?_⟩
      exact ((HB1.out.trans (HB2.out.mono (by omega))).setCell (p := ⟨w.heap.size, 0, none⟩) (Nat.le_refl _) _).setCell (p := ⟨w.heap.size, 1, none⟩) (Nat.le_refl _) _
  · have hsp : p.length ≤ s.size ∧ r.length ≤ s.size := by rw [← ba_len, hpr]; simp; omega
    have HC := Lib.hid (fun w => cut_some s 58 p r (by omega) hpr hp w)
    have HR : Hid (rangeOf s.data.toList = pair2 (endB p) (endB r)) := by rw [hpr]; exact rangeOf_two hp
    have HE := Lib.hid hE
    clear hpr hp hE
    go_enter Tryd.func41, Tryd.ntmps41
    go_wp2_with fail
    refine (HC.out _).mono ?_
    rintro e w1 ⟨rfl, n, hw⟩
    have hb1 : Below w.heap.size w w1 := by rw [hw]; exact below_drewN ((Below.refl _ w).alloc (Nat.le_refl _) _) n
    have hsz : w1.heap.size = w.heap.size + 1 := by rw [hw]; simp
    have hx : Pair w1 w.heap.size 83 (.int .u32 0) (.int .u32 0) := by rw [hw]; exact Pair.new w 83 (.int .u32 0) (.int .u32 0)
    have HW := Lib.hid hw
    have HE1 := Lib.hid (HE.out.later hb1 HE.out.lt)
    have HB1 := Lib.hid hb1
    clear hw hb1
    go_wp2_with fail
    refine (pend_c (txt p) (by rw [txt_size]; omega) _ HE1.out).mono ?_
    rintro e w2 ⟨h, hb2⟩
    rw [show (txt p).data.toList = p by simp [txt]] at h
    have HE2 := Lib.hid (HE1.out.later (hb2.mono HE1.out.lt) (by have := HE.out.lt; omega))
    have hx2 : Pair w2 w.heap.size 83 (.int .u32 0) (.int .u32 0) := (hb2.block _ (by omega)).trans hx
    have k0 := hx2.c0
    have k1 := hx2.c1
    have g0 := hx2.f0
    have g1 := hx2.f1
    have HX := Lib.hid hx2
    have HB2 := Lib.hid hb2
    clear hx hx2 hb2
    rcases h with ⟨v, hv, hle, rfl⟩ | ⟨hv, v, hle, rfl⟩
    · have HV := Lib.hid hv
      clear hv k0 k1 g0 g1
      go_wp2_with fail
      refine (pend_c (txt r) (by rw [txt_size]; omega) _ HE2.out).mono ?_
      rintro e w3 ⟨h, hb3⟩
      rw [show (txt r).data.toList = r by simp [txt]] at h
      have hx3 : Pair w3 w.heap.size 83 (.int .u32 0) (.int .u32 0) := (hb3.block _ HX.out.lt).trans HX.out
      have k0 := hx3.c0
      have k1 := hx3.c1
      have g0 := hx3.f0
      have g1 := hx3.f1
      have HX3 := Lib.hid hx3
      have HB3 := Lib.hid hb3
      clear hx3 hb3
      rcases h with ⟨v2, hv2, hle2, rfl⟩ | ⟨hv2, v2, hle2, rfl⟩
      · have HV2 := Lib.hid hv2
        clear hv2
        go_wp2_with fail
        have hx4 := (HX3.out.set0 (.int .u32 v)).set1 (.int .u32 v2)
        refine bodyPost_ret (results_pr _ _ w.heap.size _ _ hx4 rfl) rfl ?_
        refine ⟨.inl ⟨v, v2, by rw [HR.out, HV.out, HV2.out]; rfl, hle, hle2, rfl⟩, ?_⟩
        exact (((HB1.out.trans (HB2.out.mono (by omega))).trans (HB3.out.mono (by have := HB2.out.size; omega))).setCell (p := ⟨w.heap.size, 0, none⟩) (Nat.le_refl _) _).setCell (p := ⟨w.heap.size, 1, none⟩) (Nat.le_refl _) _
      · have HV2 := Lib.hid hv2
        clear hv2
        go_wp2_with fail
        have hx4 := (HX3.out.set0 (.int .u32 0)).set1 (.int .u32 0)
        refine bodyPost_ret (results_pr _ _ w.heap.size _ _ hx4 rfl) rfl ?_
        refine ⟨.inr ⟨by rw [HR.out, HV2.out, pair2_none_r], rfl⟩, ?_⟩
        exact (((HB1.out.trans (HB2.out.mono (by omega))).trans (HB3.out.mono (by have := HB2.out.size; omega))).setCell (p := ⟨w.heap.size, 0, none⟩) (Nat.le_refl _) _).setCell (p := ⟨w.heap.size, 1, none⟩) (Nat.le_refl _) _
    · have HV := Lib.hid hv
      clear hv
      go_wp2_with fail
      have hx4 := (HX.out.set0 (.int .u32 0)).set1 (.int .u32 0)
      refine bodyPost_ret (results_pr _ _ w.heap.size _ _ hx4 rfl) rfl ?_
      refine ⟨.inr ⟨by rw [HR.out, HV.out]; rfl, rfl⟩, ?_⟩
      exact ((HB1.out.trans (HB2.out.mono (by omega))).setCell (p := ⟨w.heap.size, 0, none⟩) (Nat.le_refl _) _).setCell (p := ⟨w.heap.size, 1, none⟩) (Nat.le_refl _) _
end Go.Proofs.YtmfpfebnlflfiaaDoor

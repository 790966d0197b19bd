/-
  A set's text, by the document: contract.
-/
import Derived.Test.YtmfpfebnlflfiaaDoorQNum
import Derived.BigQuiet
set_option linter.unusedVariables false
set_option linter.unusedSimpArgs false
namespace Go.Proofs.YtmfpfebnlflfiaaDoor
open Go Go.RowKit

def rangesT : Bool → List (Nat × Nat) → List UInt8
  | _, [] => []
  | b, x :: r => (if b then [] else [44]) ++ rangeT x ++ rangesT false r
def setT (l : List (Nat × Nat)) : List UInt8 := rangesT true l
theorem rangesT_snoc : ∀ (b : Bool) (l : List (Nat × Nat)) (x : Nat × Nat), rangesT b (l ++ [x]) = rangesT b l ++ (if b && l.isEmpty then [] else [44]) ++ rangeT x
  | b, [], x => by cases b <;> simp [rangesT]
  | b, y :: r, x => by
    show (if b then [] else [44]) ++ rangeT y ++ rangesT false (r ++ [x]) = _
    rw [rangesT_snoc false r x]
    cases b <;> simp [rangesT]
theorem setT_take {l : List (Nat × Nat)} {k : Nat} (h : k < l.length) : setT (l.take (k + 1)) = setT (l.take k) ++ (if k = 0 then [] else [44]) ++ rangeT l[k] := by
  unfold setT
  rw [List.take_succ_eq_append_getElem h, rangesT_snoc]
  cases k with
  | zero => simp
  | succ k =>
    have : (l.take (k + 1)).isEmpty = false := by
      cases l with
      | nil => simp at h
      | cons a b => rfl
    rw [this]; simp
theorem rangeT_len {x : Nat × Nat} (h1 : x.1 ≤ 4294967295) (h2 : x.2 ≤ 4294967295) : (rangeT x).length ≤ 21 := by
  unfold rangeT
  have := endT_len h1
  have := endT_len h2
  rw [List.length_append]
  split
  · simp; omega
  · simp; omega
theorem setT_len {l : List (Nat × Nat)} (h : ∀ x ∈ l, x.1 ≤ 4294967295 ∧ x.2 ≤ 4294967295) : ∀ k ≤ l.length, (setT (l.take k)).length ≤ 22 * k
  | 0, _ => by simp [setT, rangesT]
  | k + 1, hk => by
    rw [setT_take (by omega), List.length_append, List.length_append]
    have h1 := setT_len h k (by omega)
    have h2 := h _ (List.getElem_mem (show k < l.length by omega))
    have h3 := rangeT_len h2.1 h2.2
    have h4 : (if k = 0 then ([] : List UInt8) else [44]).length ≤ 1 := by split <;> simp
    omega
theorem cellsP_at {l : List (Nat × Nat)} : ∀ {k : Nat} (h : k < l.length), (cellsP l)[k * 2]? = some (.int .u32 l[k].1) ∧ (cellsP l)[k * 2 + 1]? = some (.int .u32 l[k].2) := by
  induction l with
  | nil => intro k h; simp at h
  | cons x r ih =>
    intro k h
    cases k with
    | zero => exact ⟨rfl, rfl⟩
    | succ k =>
      have := ih (k := k) (by simpa using h)
      show (Value.int .u32 x.1 :: .int .u32 x.2 :: cellsP r)[(k + 1) * 2]? = _ ∧ (Value.int .u32 x.1 :: .int .u32 x.2 :: cellsP r)[(k + 1) * 2 + 1]? = _
      rw [show (k + 1) * 2 = k * 2 + 1 + 1 by omega, show k * 2 + 1 + 1 + 1 = (k * 2 + 1) + 1 + 1 by omega]
      simpa using this

theorem txt_nil : txt [] = ⟨#[]⟩ := rfl
theorem txt_44 : (⟨#[44]⟩ : ByteArray) = txt [44] := rfl
theorem txt_58 : (⟨#[58]⟩ : ByteArray) = txt [58] := rfl

def Small (l : List (Nat × Nat)) : Prop := ∀ x ∈ l, x.1 ≤ 4294967295 ∧ x.2 ≤ 4294967295

set_option maxRecDepth 100000 in
set_option maxHeartbeats 2000000 in
theorem rqtext_c (B : Nat) (v : Value) (l : List (Nat × Nat)) (hl : l.length ≤ 1000) (hS : Small l) (w : World) (ho : w.ownsRow B 89 2 v l.length (cellsP l)) :
    Calls Tryd.prog 24 #[v] w fun e w' => e = .returned (.string (txt (setT l))) ∧ Below w.heap.size w w' := by
  obtain ⟨ad, cp, rfl⟩ := own_form ho
  obtain ⟨N, hN⟩ : ∃ N, N = l.length := ⟨_, rfl⟩
  rw [← hN] at ho hl ⊢
  have HO := Lib.hid ho
  have HN := Lib.hid hN
  have HS := Lib.hid hS
  clear ho hN hS
  go_enter Tryd.func24, Tryd.ntmps24
  go_wp2_with fail
  go_loopw [3, 4] (fun t3 t4 wr => ∃ (k : Nat) (S : ByteArray), k ≤ N ∧ t4 = .int .i64 k ∧ t3 = .string S ∧ S.size ≤ 22 * k ∧ Hid (S = txt (setT (l.take k))) ∧ Hid (Below w.heap.size w wr)) (fun _ i _ => N - (intOf i).toNat)
  case atStart => exact ⟨0, _, by omega, rfl, rfl, by show (0 : Nat) ≤ _; omega, rfl, Below.refl _ _⟩
  case round =>
    obtain ⟨k, S, hk, rfl, rfl, hsz, HT, HB⟩ := hrel
    by_cases hlt : k < N
    · have hkl : k < l.length := by rw [← HN.out]; exact hlt
      obtain ⟨x, y, hxy⟩ : ∃ x y, l[k] = (x, y) := ⟨_, _, rfl⟩
      have hb := HS.out _ (List.getElem_mem hkl)
      rw [hxy] at hb
      have hx : x ≤ 4294967295 := hb.1
      have hy : y ≤ 4294967295 := hb.2
      have how := own_below HO.out HB.out
      obtain ⟨g, rfl⟩ : ∃ g, ad = some ⟨g, 0, none⟩ := by
        rcases how.2 with ⟨h, h2⟩ | ⟨g, cap, cur, h, _⟩
        · omega
        · cases h; exact ⟨g, rfl⟩
      have hc := cellsP_at hkl
      rw [hxy] at hc
      have k0 : wr.cell? ⟨g, k * 2, none⟩ = some (.int .u32 x) := by rw [how.cellAt _ (by omega)]; exact hc.1
      have k1 : wr.cell? ⟨g, k * 2 + 1, none⟩ = some (.int .u32 y) := by rw [how.cellAt _ (by omega)]; exact hc.2
      have hT2 := setT_take hkl
      rw [hxy] at hT2
      have HT2 := Lib.hid hT2
      have hq1 : (k : Int) < N := by omega
      have hex : (txt (endT x)).size ≤ 10 := by rw [txt_size]; exact endT_len hx
      have hey : (txt (endT y)).size ≤ 10 := by rw [txt_size]; exact endT_len hy
      clear hb how hc hxy hkl hT2
      by_cases hk0 : k = 0
      · subst hk0
        go_wp2_with fail
        refine (rone_c x hx wr).mono ?_
        rintro e w2 ⟨rfl, hb2⟩
        have HB2 : Hid (Below w.heap.size w w2) := HB.out.trans (hb2.mono HB.out.size)
        have c0 : w2.cell? ⟨g, 0 * 2, none⟩ = some (.int .u32 x) := (hb2.cell (p := ⟨g, 0 * 2, none⟩) (cell_lt k0)).trans k0
        have c1 : w2.cell? ⟨g, 0 * 2 + 1, none⟩ = some (.int .u32 y) := (hb2.cell (p := ⟨g, 0 * 2 + 1, none⟩) (cell_lt k1)).trans k1
        clear hb2 k0 k1
        by_cases hxy : x = y
        · have exy : ((x : Int) != (y : Int)) = false := by simp [hxy]
          have HXY := Lib.hid hxy
          clear hxy
          go_wp2_with fail
          go_quiet (fail)
          go_wp2_with fail
          go_roundw
          case rel =>
            have e1 : setT (l.take (0 + 1)) = setT (l.take 0) ++ [] ++ endT x := by rw [HT2.out]; simp [rangeT, HXY.out]
            refine ⟨0 + 1, _, by omega, by go_num, rfl, ?_, ?_, below_drewN HB2.out _⟩
            · simp only [ByteArray.size_append]; have : (⟨#[44]⟩ : ByteArray).size = 1 := rfl; have : (⟨#[58]⟩ : ByteArray).size = 1 := rfl; omega
            · show _ = txt _
              rw [e1, HT.out]; simp [txt_58, txt_append]
          case measure => simp [intOf]; omega
        · have exy : ((x : Int) != (y : Int)) = true := by simp; omega
          have HXY := Lib.hid hxy
          clear hxy
          go_wp2_with fail
          go_quiet (fail)
          go_wp2_with fail
          refine (rone_c y hy _).mono ?_
          rintro e w3 ⟨rfl, hb3⟩
          have HB3 : Hid (Below w.heap.size w w3) := (below_drewN HB2.out _).trans (hb3.mono HB2.out.size)
          clear hb3
          go_wp2_with fail
          go_roundw
          case rel =>
            have e1 : setT (l.take (0 + 1)) = setT (l.take 0) ++ [] ++ endT x ++ [58] ++ endT y := by rw [HT2.out]; simp [rangeT, HXY.out]
            refine ⟨0 + 1, _, by omega, by go_num, rfl, ?_, ?_, HB3.out⟩
            · simp only [ByteArray.size_append]; have : (⟨#[44]⟩ : ByteArray).size = 1 := rfl; have : (⟨#[58]⟩ : ByteArray).size = 1 := rfl; omega
            · show _ = txt _
              rw [e1, HT.out]; simp [txt_58, txt_append]
          case measure => simp [intOf]; omega
      · have qk : (0 : Int) < k := by omega
        go_wp2_with fail
        refine (rone_c x hx wr).mono ?_
        rintro e w2 ⟨rfl, hb2⟩
        have HB2 : Hid (Below w.heap.size w w2) := HB.out.trans (hb2.mono HB.out.size)
        have c0 : w2.cell? ⟨g, k * 2, none⟩ = some (.int .u32 x) := (hb2.cell (p := ⟨g, k * 2, none⟩) (cell_lt k0)).trans k0
        have c1 : w2.cell? ⟨g, k * 2 + 1, none⟩ = some (.int .u32 y) := (hb2.cell (p := ⟨g, k * 2 + 1, none⟩) (cell_lt k1)).trans k1
        clear hb2 k0 k1
        by_cases hxy : x = y
        · have exy : ((x : Int) != (y : Int)) = false := by simp [hxy]
          have HXY := Lib.hid hxy
          clear hxy
          go_wp2_with fail
          go_quiet (fail)
          go_wp2_with fail
          go_roundw
          case rel =>
            have e1 : setT (l.take (k + 1)) = setT (l.take k) ++ [44] ++ endT x := by rw [HT2.out, if_neg (by omega)]; simp [rangeT, HXY.out]
            refine ⟨k + 1, _, by omega, by go_num, rfl, ?_, ?_, below_drewN HB2.out _⟩
            · simp only [ByteArray.size_append]; have : (⟨#[44]⟩ : ByteArray).size = 1 := rfl; have : (⟨#[58]⟩ : ByteArray).size = 1 := rfl; omega
            · show _ = txt _
              rw [e1, HT.out]; simp [txt_44, txt_58, txt_append]
          case measure => simp [intOf]; omega
        · have exy : ((x : Int) != (y : Int)) = true := by simp; omega
          have HXY := Lib.hid hxy
          clear hxy
          go_wp2_with fail
          go_quiet (fail)
          go_wp2_with fail
          refine (rone_c y hy _).mono ?_
          rintro e w3 ⟨rfl, hb3⟩
          have HB3 : Hid (Below w.heap.size w w3) := (below_drewN HB2.out _).trans (hb3.mono HB2.out.size)
          clear hb3
          go_wp2_with fail
          go_roundw
          case rel =>
            have e1 : setT (l.take (k + 1)) = setT (l.take k) ++ [44] ++ endT x ++ [58] ++ endT y := by rw [HT2.out, if_neg (by omega)]; simp [rangeT, HXY.out]
            refine ⟨k + 1, _, by omega, by go_num, rfl, ?_, ?_, HB3.out⟩
            · simp only [ByteArray.size_append]; have : (⟨#[44]⟩ : ByteArray).size = 1 := rfl; have : (⟨#[58]⟩ : ByteArray).size = 1 := rfl; omega
            · show _ = txt _
              rw [e1, HT.out]; simp [txt_44, txt_58, txt_append]
          case measure => simp [intOf]; omega
    · obtain rfl : k = N := by omega
      go_wp2_with fail
      go_ret
      refine ⟨ret_s ?_, HB.out⟩
      rw [HT.out, List.take_of_length_le (by rw [← HN.out]; exact Nat.le_refl _)]
end Go.Proofs.YtmfpfebnlflfiaaDoor

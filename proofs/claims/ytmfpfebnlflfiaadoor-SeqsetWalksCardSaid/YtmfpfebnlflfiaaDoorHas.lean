/-
  What a set means: the program's bounds and Has: contracts.
-/
import Derived.Test.YtmfpfebnlflfiaaDoorSame
set_option linter.unusedVariables false
set_option linter.unusedSimpArgs false
namespace Go.Proofs.YtmfpfebnlflfiaaDoor
open Go Go.RowKit

def ov (x last : Nat) : Nat := if x = 0 then last else x
def loB (r : Nat × Nat) (last : Nat) : Nat := min (ov r.1 last) (ov r.2 last)
def hiB (r : Nat × Nat) (last : Nat) : Nat := max (ov r.1 last) (ov r.2 last)
def inB (n last : Nat) (r : Nat × Nat) : Bool := decide (loB r last ≤ n) && decide (n ≤ hiB r last)
def hasB (l : List (Nat × Nat)) (n last : Nat) : Bool := decide (n ≠ 0) && l.any (inB n last)

theorem take_any {α : Type} {l : List α} {k : Nat} {r : α} {p : α → Bool} (h : l[k]? = some r) : (l.take (k + 1)).any p = ((l.take k).any p || p r) := by
  obtain ⟨hk, rfl⟩ := List.getElem?_eq_some_iff.1 h
  rw [List.take_succ_eq_append_getElem hk, List.any_append]; simp
theorem any_at {α : Type} {l : List α} {k : Nat} {r : α} {p : α → Bool} (h : l[k]? = some r) (hp : p r = true) : l.any p = true :=
  List.any_eq_true.2 ⟨r, List.mem_of_getElem? h, hp⟩
theorem ret_2 {a c b d : Int} (h1 : a = b) (h2 : c = d) : Ending.returned (.tuple #[.int .u32 a, .int .u32 c]) = .returned (.tuple #[.int .u32 b, .int .u32 d]) := by rw [h1, h2]

set_option maxRecDepth 100000 in
set_option maxHeartbeats 1000000 in
theorem bounds_c (x y last : Nat) (w : World) : Calls Tryd.prog 48 #[.agg #[.int .u32 x, .int .u32 y], .int .u32 last] w fun e w' => e = .returned (.tuple #[.int .u32 (loB (x, y) last), .int .u32 (hiB (x, y) last)]) ∧ Below w.heap.size w w' := by
  have key : ∀ a b : Nat, ov x last = a → ov y last = b → loB (x, y) last = min a b ∧ hiB (x, y) last = max a b := by rintro a b rfl rfl; exact ⟨rfl, rfl⟩
  by_cases hx : x = 0
  · by_cases hy : y = 0
    · obtain ⟨h1, h2⟩ := key last last (by simp [ov, hx]) (by simp [ov, hy])
      have H1 := Lib.hid h1
      have H2 := Lib.hid h2
      subst hx
      subst hy
      clear key h1 h2
      go_enter Tryd.func48, Tryd.ntmps48
      go_wp2_with fail
      go_quiet (fail)
      go_wp2_with fail
      go_ret2
      refine ⟨ret_2 ?_ ?_, below_drewN ((Below.refl _ w).alloc (Nat.le_refl _) _) _⟩
      · rw [H1.out]; omega
      · rw [H2.out]; omega
    · obtain ⟨h1, h2⟩ := key last y (by simp [ov, hx]) (by simp [ov, hy])
      have ey : ((y : Int) == 0) = false := by rw [beq_eq_false_iff_ne]; omega
      have H1 := Lib.hid h1
      have H2 := Lib.hid h2
      subst hx
      clear hy
      clear key h1 h2
      go_enter Tryd.func48, Tryd.ntmps48
      go_wp2_with fail
      go_quiet (fail)
      go_wp2_with fail
      go_ret2
      refine ⟨ret_2 ?_ ?_, below_drewN ((Below.refl _ w).alloc (Nat.le_refl _) _) _⟩
      · rw [H1.out]; omega
      · rw [H2.out]; omega
  · by_cases hy : y = 0
    · obtain ⟨h1, h2⟩ := key x last (by simp [ov, hx]) (by simp [ov, hy])
      have ex : ((x : Int) == 0) = false := by rw [beq_eq_false_iff_ne]; omega
      have H1 := Lib.hid h1
      have H2 := Lib.hid h2
      clear hx
      subst hy
      clear key h1 h2
      go_enter Tryd.func48, Tryd.ntmps48
      go_wp2_with fail
      go_quiet (fail)
      go_wp2_with fail
      go_ret2
      refine ⟨ret_2 ?_ ?_, below_drewN ((Below.refl _ w).alloc (Nat.le_refl _) _) _⟩
      · rw [H1.out]; omega
      · rw [H2.out]; omega
    · obtain ⟨h1, h2⟩ := key x y (by simp [ov, hx]) (by simp [ov, hy])
      have ex : ((x : Int) == 0) = false := by rw [beq_eq_false_iff_ne]; omega
      have ey : ((y : Int) == 0) = false := by rw [beq_eq_false_iff_ne]; omega
      have H1 := Lib.hid h1
      have H2 := Lib.hid h2
      clear hx
      clear hy
      clear key h1 h2
      go_enter Tryd.func48, Tryd.ntmps48
      go_wp2_with fail
      go_quiet (fail)
      go_wp2_with fail
      go_ret2
      refine ⟨ret_2 ?_ ?_, below_drewN ((Below.refl _ w).alloc (Nat.le_refl _) _) _⟩
      · rw [H1.out]; omega
      · rw [H2.out]; omega

set_option maxRecDepth 100000 in
set_option maxHeartbeats 2000000 in
theorem qhas_c (B : Nat) (v : Value) (l : List (Nat × Nat)) (hl : l.length ≤ 1000) (n last : Nat) (w : World) (ho : w.ownsRow B 83 2 v l.length (cellsP l)) :
    Calls Tryd.prog 31 #[v, .int .u32 n, .int .u32 last] w fun e w' => e = .returned (.bool (hasB l n last)) ∧ Below w.heap.size w w' := by
  by_cases hn0 : n = 0
  · subst hn0
    go_enter Tryd.func31, Tryd.ntmps31
    go_wp2_with fail
    go_ret
    exact ⟨by simp [hasB], Below.refl _ _⟩
  have en : ((n : Int) == 0) = false := by rw [beq_eq_false_iff_ne]; omega
  have HH : Hid (hasB l n last = l.any (inB n last)) := by show _ = _; simp [hasB, hn0]
  obtain ⟨ad, cp, rfl⟩ := own_form ho
  obtain ⟨N, hN⟩ : ∃ N, N = l.length := ⟨_, rfl⟩
  rw [← hN] at ho hl ⊢
  have HO := Lib.hid ho
  have HN := Lib.hid hN
  clear ho hN hn0
  go_enter Tryd.func31, Tryd.ntmps31
  go_wp2_with fail
  go_loopw [8, 9, 10, 15] (fun _ _ _ t15 wr => ∃ k : Nat, k ≤ N ∧ t15 = .int .i64 k ∧ Hid ((l.take k).any (inB n last) = false) ∧ Hid (Below w.heap.size w wr)) (fun _ _ _ i _ => N - (intOf i).toNat)
  case atStart => exact ⟨0, by omega, rfl, rfl, Below.refl _ _⟩
  case round =>
    obtain ⟨k, hk, rfl, HF, HB⟩ := hrel
    have hls := HB.out.size
    by_cases hlt : k < N
    · have hkl : k < l.length := by rw [← HN.out]; exact hlt
      obtain ⟨x, y, hxy⟩ : ∃ x y, l[k] = (x, y) := ⟨_, _, rfl⟩
      have hq1 : (k : Int) < N := by omega
      have o1 := own_below HO.out HB.out
      obtain ⟨g, rfl⟩ : ∃ g, ad = some ⟨g, 0, none⟩ := by
        rcases o1.2 with ⟨h, h2⟩ | ⟨g, cap, cur, h, _⟩
        · omega
        · cases h; exact ⟨g, rfl⟩
      have hc := cellsP_at hkl
      rw [hxy] at hc
      have k0 : wr.cell? ⟨g, k * 2, none⟩ = some (.int .u32 x) := by rw [o1.cellAt _ (by omega)]; exact hc.1
      have k1 : wr.cell? ⟨g, k * 2 + 1, none⟩ = some (.int .u32 y) := by rw [o1.cellAt _ (by omega)]; exact hc.2
      have HXY : Hid (l[k]? = some (x, y)) := by show _ = _; rw [List.getElem?_eq_getElem hkl, hxy]
      clear hc o1 hxy hkl
      go_wp2_with fail
      refine (bounds_c x y last _).mono ?_
      rintro e w2 ⟨rfl, hb2⟩
      have HB2 : Hid (Below w.heap.size w w2) := (HB.out.alloc hls _).trans (hb2.mono (by simp; omega))
      clear hb2 k0 k1
      by_cases h1 : loB (x, y) last ≤ n
      · have q1 : ((loB (x, y) last : Nat) : Int) ≤ n := by omega
        by_cases h2 : n ≤ hiB (x, y) last
        · have q2 : (n : Int) ≤ ((hiB (x, y) last : Nat) : Int) := by omega
          have hin : l.any (inB n last) = true := any_at HXY.out (by simp [inB, h1, h2])
          have HI := Lib.hid hin
          clear hin h1 h2
          go_wp2_with fail
          go_ret
          exact ⟨by rw [HH.out, HI.out]; rfl, HB2.out⟩
        · have q2 : ¬ (n : Int) ≤ ((hiB (x, y) last : Nat) : Int) := by omega
          have hin : (l.take (k + 1)).any (inB n last) = false := by rw [take_any HXY.out, HF.out]; simp [inB, h2]
          have HI := Lib.hid hin
          clear hin h1 h2
          go_wp2_with fail
          go_roundw
          case rel => exact ⟨k + 1, by omega, by go_num, HI.out, HB2.out⟩
          case measure => simp [intOf]; omega
      · have q1 : ¬ ((loB (x, y) last : Nat) : Int) ≤ n := by omega
        have hin : (l.take (k + 1)).any (inB n last) = false := by rw [take_any HXY.out, HF.out]; simp [inB, h1]
        have HI := Lib.hid hin
        clear hin h1
        go_wp2_with fail
        go_roundw
        case rel => exact ⟨k + 1, by omega, by go_num, HI.out, HB2.out⟩
        case measure => simp [intOf]; omega
    · obtain rfl : k = N := by omega
      go_wp2_with fail
      go_ret
      refine ⟨?_, HB.out⟩
      have h1 := HF.out
      rw [List.take_of_length_le (by rw [← HN.out]; exact Nat.le_refl _)] at h1
      rw [HH.out, h1]; rfl
end Go.Proofs.YtmfpfebnlflfiaaDoor

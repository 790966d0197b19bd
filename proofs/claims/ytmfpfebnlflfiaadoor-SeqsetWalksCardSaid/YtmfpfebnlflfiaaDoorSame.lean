/-
  A set is the document's: the law's Same: contract.
-/
import Derived.Test.YtmfpfebnlflfiaaDoorQText
set_option linter.unusedVariables false
set_option linter.unusedSimpArgs false
namespace Go.Proofs.YtmfpfebnlflfiaaDoor
open Go Go.RowKit

set_option maxRecDepth 100000 in
set_option maxHeartbeats 2000000 in
theorem same_c (B1 B2 : Nat) (v u : Value) (l : List (Nat × Nat)) (hl : l.length ≤ 1000) (w : World) (h1 : w.ownsRow B1 83 2 v l.length (cellsP l)) (h2 : w.ownsRow B2 89 2 u l.length (cellsP l)) :
    Calls Tryd.prog 22 #[v, u] w fun e w' => e = .returned (.bool true) ∧ ∃ n, w' = w.drewN n := by
  obtain ⟨ad, cp, rfl⟩ := own_form h1
  obtain ⟨au, cu, rfl⟩ := own_form h2
  obtain ⟨N, hN⟩ : ∃ N, N = l.length := ⟨_, rfl⟩
  rw [← hN] at h1 h2 hl ⊢
  have H1 := Lib.hid h1
  have H2 := Lib.hid h2
  have HN := Lib.hid hN
  clear h1 h2 hN
  go_enter Tryd.func22, Tryd.ntmps22
  go_wp2_with fail
  go_loopw [5] (fun t5 wr => ∃ k : Nat, k ≤ N ∧ t5 = .int .i64 k ∧ Hid (∃ n, wr = w.drewN n)) (fun i _ => N - (intOf i).toNat)
  case atStart => exact ⟨0, by omega, rfl, 0, rfl⟩
  case round =>
    obtain ⟨k, hk, rfl, HW⟩ := hrel
    by_cases hlt : k < N
    · have hkl : k < l.length := by rw [← HN.out]; exact hlt
      obtain ⟨x, y, hxy⟩ : ∃ x y, l[k] = (x, y) := ⟨_, _, rfl⟩
      have hq1 : (k : Int) < N := by omega
      have o1 : wr.ownsRow B1 83 2 (.slice ad N cp) N (cellsP l) := by obtain ⟨n, hn⟩ := HW.out; rw [hn]; exact H1.out
      have o2 : wr.ownsRow B2 89 2 (.slice au N cu) N (cellsP l) := by obtain ⟨n, hn⟩ := HW.out; rw [hn]; exact H2.out
      obtain ⟨g, rfl⟩ : ∃ g, ad = some ⟨g, 0, none⟩ := by
        rcases o1.2 with ⟨h, h2⟩ | ⟨g, cap, cur, h, _⟩
        · omega
        · cases h; exact ⟨g, rfl⟩
      obtain ⟨g2, rfl⟩ : ∃ g, au = some ⟨g, 0, none⟩ := by
        rcases o2.2 with ⟨h, h2⟩ | ⟨g, cap, cur, h, _⟩
        · omega
        · cases h; exact ⟨g, rfl⟩
      have hc := cellsP_at hkl
      rw [hxy] at hc
      have k0 : wr.cell? ⟨g, k * 2, none⟩ = some (.int .u32 x) := by rw [o1.cellAt _ (by omega)]; exact hc.1
      have k1 : wr.cell? ⟨g, k * 2 + 1, none⟩ = some (.int .u32 y) := by rw [o1.cellAt _ (by omega)]; exact hc.2
      have k2 : wr.cell? ⟨g2, k * 2, none⟩ = some (.int .u32 x) := by rw [o2.cellAt _ (by omega)]; exact hc.1
      have k3 : wr.cell? ⟨g2, k * 2 + 1, none⟩ = some (.int .u32 y) := by rw [o2.cellAt _ (by omega)]; exact hc.2
      clear hc o1 o2 hxy hkl
      go_wp2_with fail
      go_quiet (fail)
      go_wp2_with fail
      go_roundw
      case rel =>
        refine ⟨k + 1, by omega, by go_num, ?_⟩
        obtain ⟨n, hn⟩ := HW.out
        exact ⟨n + nq, by rw [hn, World.drewN_drewN]⟩
      case measure => simp [intOf]; omega
    · obtain rfl : k = N := by omega
      go_wp2_with fail
      go_ret
      exact ⟨rfl, HW.out⟩
end Go.Proofs.YtmfpfebnlflfiaaDoor

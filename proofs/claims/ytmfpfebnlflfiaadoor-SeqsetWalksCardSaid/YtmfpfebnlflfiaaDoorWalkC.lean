/-
  The walk of a set: contract.
-/
import Derived.Test.YtmfpfebnlflfiaaDoorWalkIt
set_option linter.unusedVariables false
set_option linter.unusedSimpArgs false
namespace Go.Proofs.YtmfpfebnlflfiaaDoor
open Go Go.RowKit

set_option maxHeartbeats 1000000 in
theorem qwalk_c (B : Nat) (v : Value) (l : List (Nat × Nat)) (hl : l.length ≤ 100) (last : Nat) (w : World) (ho : w.ownsRow B 83 2 v l.length (cellsP l)) :
    Calls Tryd.prog 27 #[v, .int .u32 last] w fun e w' => ∃ (Bq : Nat) (u : Value) (A : List (Nat × Nat)), e = .returned (.func (.func 47) #[] #[.pointer (some ⟨Bq, 0, none⟩)]) ∧ w.heap.size ≤ Bq ∧ (∀ k, u.ownBlock = some k → w.heap.size ≤ k) ∧
      Caps Bq w.heap.size u A w' ∧ A.length ≤ 100 ∧ (∀ r ∈ A, r.1 ≤ r.2 ∧ r.2 ≤ last) ∧ spread A = meant l last ∧ Below w.heap.size w w' := by
  have C1 := Lib.hid (rising_c B v l hl last w ho)
  obtain ⟨ad, cp, rfl⟩ := own_form ho
  clear ho
  go_enter Tryd.func27, Tryd.ntmps27
  go_wp2_with fail
  refine C1.out.mono ?_
  rintro e w1 ⟨u, A, rfl, ho1, hA, hasc, hsp, hb1⟩
  have hr : ∀ r ∈ A, r.1 ≤ r.2 ∧ r.2 ≤ last := by
    intro r hr
    have h1 := hasc.2 r hr
    have h2 : r.2 ∈ spread A := (mem_spread A r.2).2 ⟨r, hr, h1, Nat.le_refl _⟩
    rw [hsp] at h2
    exact ⟨h1, ((mem_meant l last r.2).1 h2).2.1⟩
  have hcap : Caps w1.heap.size w.heap.size u A (w1.alloc (.cells #[u] 43)) := ⟨heap_alloc_new w1 _, ho1.alloc _⟩
  have hbl : ∀ k, u.ownBlock = some k → w.heap.size ≤ k := fun k hk => (ho1.lt k hk).1
  obtain ⟨ad1, cp1, hu⟩ := own_form ho1
  subst hu
  have HCAP := Lib.hid hcap
  have HBL := Lib.hid hbl
  have HR := Lib.hid hr
  have HSP := Lib.hid hsp
  have HB1 := Lib.hid hb1
  have hs := hb1.size
  clear hcap hbl hr hsp hb1 ho1 hasc
  go_wp2_with fail
  go_ret
  exact ⟨w1.heap.size, _, A, rfl, hs, HBL.out, HCAP.out, hA, HR.out, HSP.out, HB1.out.alloc hs _⟩

set_option maxRecDepth 100000 in
set_option maxHeartbeats 2000000 in
theorem same_arg_c (B1 : Nat) (v : Value) (p : Option Addr) (cu : Nat) (l : List (Nat × Nat)) (hl : l.length ≤ 1000) (w : World) (h1 : w.ownsRow B1 83 2 v l.length (cellsP l)) (h2 : PairsAt w p l) :
    Calls Tryd.prog 22 #[v, .slice p l.length cu] w fun e w' => e = .returned (.bool true) ∧ ∃ n, w' = w.drewN n := by
  obtain ⟨ad, cp, rfl⟩ := own_form h1
  obtain ⟨N, hN⟩ : ∃ N, N = l.length := ⟨_, rfl⟩
  rw [← hN] at h1 hl ⊢
  have H1 := Lib.hid h1
  have H2 := Lib.hid h2
  have HN := Lib.hid hN
  clear h1 h2 hN
  go_enter Tryd.func22, Tryd.ntmps22
  go_wp2_with fail
  go_loopw [5] (fun t5 wr => ∃ k : Nat, k ≤ N ∧ t5 = .int .i64 k ∧ Hid (∃ n, wr = w.drewN n)) (fun i _ => N - (intOf i).toNat)
  case atStart => exact ⟨0, by omega, rfl, 0, rfl⟩
  case round =>
    obtain ⟨k, hk, rfl, HW⟩ := hrel
    by_cases hlt : k < N
    · have hkl : k < l.length := by rw [← HN.out]; exact hlt
      obtain ⟨x, y, hxy⟩ : ∃ x y, l[k] = (x, y) := ⟨_, _, rfl⟩
      have hq1 : (k : Int) < N := by omega
      have o1 : wr.ownsRow B1 83 2 (.slice ad N cp) N (cellsP l) := by obtain ⟨n, hn⟩ := HW.out; rw [hn]; exact H1.out
      have o2 : PairsAt wr p l := by obtain ⟨n, hn⟩ := HW.out; rw [hn]; exact H2.out
      obtain ⟨g, rfl⟩ : ∃ g, ad = some ⟨g, 0, none⟩ := by
        rcases o1.2 with ⟨h, h2⟩ | ⟨g, cap, cur, h, _⟩
        · omega
        · cases h; exact ⟨g, rfl⟩
      obtain ⟨b, off, rfl, _, k2, k3⟩ := o2 k (x, y) (by rw [List.getElem?_eq_getElem hkl, hxy])
      dsimp only at k2 k3
      have hc := cellsP_at hkl
      rw [hxy] at hc
      have k0 : wr.cell? ⟨g, k * 2, none⟩ = some (.int .u32 x) := by rw [o1.cellAt _ (by omega)]; exact hc.1
      have k1 : wr.cell? ⟨g, k * 2 + 1, none⟩ = some (.int .u32 y) := by rw [o1.cellAt _ (by omega)]; exact hc.2
      clear hc o1 o2 hxy hkl
      go_wp2_with fail
      go_quiet (fail)
      go_wp2_with fail
      go_roundw
      case rel =>
        refine ⟨k + 1, by omega, by go_num, ?_⟩
        obtain ⟨n, hn⟩ := HW.out
        exact ⟨n + nq, by rw [hn, World.drewN_drewN]⟩
      case measure => simp [intOf]; omega
    · obtain rfl : k = N := by omega
      go_wp2_with fail
      go_ret
      exact ⟨rfl, HW.out⟩
end Go.Proofs.YtmfpfebnlflfiaaDoor

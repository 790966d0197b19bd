/-
  A set of the document, as the program's: contract. What a set means, by the document: contract.
-/
import Derived.Test.YtmfpfebnlflfiaaDoorRiseP
import Derived.Deep.RegionHeld3
import Derived.Deep.AppendLies
import Derived.Deep.DrawnRows
import Derived.OwnWalk
set_option linter.unusedVariables false
set_option linter.unusedSimpArgs false
namespace Go.Proofs.YtmfpfebnlflfiaaDoor
open Go Go.RowKit
attribute [local go_sem ↓] Go.wp_at_zero Go.wp_at_succ

theorem infoR : (Tryd.prog.info? 83).map (fun i => (i.zero, i.size, i.bytes)) = some (some (.agg #[.int .u32 0, .int .u32 0]), 2, 8) := by kernel_rfl
/-- Pairs of numbers, as an argument lies. -/
def PairsAt (w : World) (p : Option Addr) (l : List (Nat × Nat)) : Prop :=
  ∀ i r, l[i]? = some r → ∃ b off, p = some ⟨b, off, none⟩ ∧ b < w.heap.size ∧ w.cell? ⟨b, off + i * 2, none⟩ = some (.int .u32 r.1) ∧ w.cell? ⟨b, off + i * 2 + 1, none⟩ = some (.int .u32 r.2)
theorem PairsAt.below {w w' : World} {p : Option Addr} {l : List (Nat × Nat)} (h : PairsAt w p l) (hb : Below w.heap.size w w') : PairsAt w' p l := by
  intro i r hr
  obtain ⟨b, off, e, hlt, h1, h2⟩ := h i r hr
  exact ⟨b, off, e, Nat.lt_of_lt_of_le hlt hb.size, by rw [hb.cell (p := ⟨b, _, none⟩) hlt]; exact h1, by rw [hb.cell (p := ⟨b, _, none⟩) hlt]; exact h2⟩
theorem take_at {α : Type} {l : List α} {k : Nat} {r : α} (h : l[k]? = some r) : l.take (k + 1) = l.take k ++ [r] := by
  obtain ⟨hk, rfl⟩ := List.getElem?_eq_some_iff.1 h
  exact List.take_succ_eq_append_getElem hk

set_option maxRecDepth 20000 in
set_option maxHeartbeats 2000000 in
theorem own2_c (p : Option Addr) (cap : Nat) (l : List (Nat × Nat)) (hl : l.length ≤ 1000) (w : World) (hp : PairsAt w p l) :
    Calls Tryd.prog 26 #[.slice p l.length cap] w fun e w' => ∃ v, e = .returned v ∧ w'.ownsRow w.heap.size 83 2 v l.length (cellsP l) ∧ Below w.heap.size w w' := by
  obtain ⟨i0, hi0, hz0, hz1, hz2⟩ := info_parts infoR
  obtain ⟨N, hN⟩ : ∃ N, N = l.length := ⟨_, rfl⟩
  rw [← hN] at hl ⊢
  have HN := Lib.hid hN
  have HP := Lib.hid hp
  clear hN hp
  go_enter Tryd.func26, Tryd.ntmps26
  go_wp2_with fail
  go_loopw [3, 4] (fun v i wr => ∃ (k : Nat), k ≤ N ∧ i = .int .i64 k ∧ Hid (wr.ownsRow w.heap.size 83 2 v k (cellsP (l.take k))) ∧ Hid (Below w.heap.size w wr)) (fun _ i _ => N - (intOf i).toNat)
  case atStart => exact ⟨0, by omega, rfl, World.ownsRow_nil _ _ _ _, Below.refl _ _⟩
  case round =>
    obtain ⟨k, hk, rfl, HO, HB⟩ := hrel
    by_cases hlt : k < N
    · have hkl : k < l.length := by rw [← HN.out]; exact hlt
      obtain ⟨r, hr⟩ : ∃ r, l[k]? = some r := ⟨_, List.getElem?_eq_getElem hkl⟩
      obtain ⟨b, off, rfl, hbw, kc0, kc1⟩ := HP.out k r hr
      obtain ⟨ad, cp, hv⟩ := own_form HO.out
      subst hv
      have hq : (k : Int) < N := by omega
      have hq0 : (0 : Int) ≤ k := by omega
      have PC : Hid (∀ w', Below w.heap.size w w' → w'.cell? ⟨b, off + k * 2, none⟩ = some (.int .u32 r.1) ∧ w'.cell? ⟨b, off + k * 2 + 1, none⟩ = some (.int .u32 r.2)) := fun w' hb =>
        ⟨by rw [hb.cell (p := ⟨b, _, none⟩) hbw]; exact kc0, by rw [hb.cell (p := ⟨b, _, none⟩) hbw]; exact kc1⟩
      have HR : Hid (l.take (k + 1) = l.take k ++ [r]) := take_at hr
      have hls := HB.out.size
      clear kc0 kc1 hr hkl
      go_wp2_with fail
      go_region_held3 (fun w' => w'.cell? ⟨b, off + k * 2, none⟩ = some (.int .u32 r.1) ∧ w'.cell? ⟨b, off + k * 2 + 1, none⟩ = some (.int .u32 r.2))
        (first | exact PC.out _ HB.out.drew | exact PC.out _ (HB.out.alloc hls _).drew | exact PC.out _ (HB.out.alloc hls _) | exact PC.out _ hb3)
        ((refine step_append_lies _ (by rfl) (.tmp 11) (.tmp 23) _ (by rfl) w.heap.size 83 i0 _ 2 8 Tryd.underlying44 hi0 hz0 hz1 hz2 rfl (by omega) (.slice ad k cp) k (cellsP (l.take k)) (by rfl) ((HO.out.alloc _).drew) ⟨wr.heap.size, 0, none⟩ 1 1 [.int .u32 r.1, .int .u32 r.2] (by rfl) (by rfl) (World.news_of_block (cs := #[.int .u32 r.1, .int .u32 r.2]) (t := 83) (fr := (0, 0)) (heap_alloc_new wr _)) (by simp [Value.oneCell']) (by omega) (by unfold maxLen; omega) (by omega) (by simp; omega) (wr.heap.size + 1) (by simp) ?_; intro g2 cap2 w3 hown3 hgrow hat hlt3; have hb3 : Below w.heap.size w w3 := (HB.out.alloc hls _).drew.grown hgrow (by simp; omega) (fun q hq => (HO.out.lt q hq).1)))
      have HO3 : Hid (w3.ownsRow w.heap.size 83 2 (.slice (some ⟨g2, 0, none⟩) (k + 1) cap2) (k + 1) (cellsP (l.take (k + 1)))) := by
        show World.ownsRow _ _ _ _ _ _ _
        rw [HR.out, cellsP_snoc]; exact hown3
      have HB3 := Lib.hid hb3
      clear hown3 hb3 hgrow hat hlt3
      go_wp2_with fail
      go_roundw
      case rel => exact ⟨k + 1, by omega, by go_num, HO3.out, HB3.out⟩
      case measure => simp [intOf]; omega
    · obtain rfl : k = N := by omega
      go_wp2_with fail
      go_ret
      refine ⟨_, rfl, ?_, HB.out⟩
      have h := HO.out
      rw [List.take_of_length_le (by rw [← HN.out]; exact Nat.le_refl _)] at h
      exact h
end Go.Proofs.YtmfpfebnlflfiaaDoor

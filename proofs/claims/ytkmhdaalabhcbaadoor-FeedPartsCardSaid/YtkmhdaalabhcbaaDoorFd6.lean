/-
  The law's pieces: of the program's as the document's; that two rows are the same: contracts.
-/
import Derived.Test.YtkmhdaalabhcbaaDoorFd4
import Derived.LoopTactic
import Derived.Deep.RegionHeld3
import Derived.Deep.AppendLies
import Derived.Deep.DrawnRows
import Derived.OwnWalk
import Derived.BigQuiet
import Derived.Laws.StructEq
set_option linter.unusedVariables false
set_option linter.unusedSimpArgs false
namespace Go.Proofs.YtkmhdaalabhcbaaDoor
open Go Go.RowKit

theorem infoRP : (Tryd.prog.info? 39).map (fun i => (i.zero, i.size, i.bytes)) = some (some (.agg #[.int .i64 0, .string ⟨#[]⟩]), 2, 24) := by kernel_rfl
theorem cellsP_len (a : List Pc) : (cellsK encP a).length = a.length * 2 := cellsK_len encP_len a
theorem encP_one (p : Pc) : ∀ u ∈ encP p, u.oneCell' = true := by intro u hu; simp [encP] at hu; rcases hu with rfl | rfl <;> rfl
set_option maxRecDepth 100000 in
set_option maxHeartbeats 2000000 in
theorem back16_c {v : Value} {l : List Pc} {W : World} (h : RowK 2 encP W v l) (hl : l.length ≤ 1000000) :
    Calls Tryd.prog 7 #[v] W fun e w' => ∃ u, e = .returned u ∧ w'.ownsRow W.heap.size 39 2 u l.length (cellsK encP l) ∧ Below W.heap.size W w' := by
  obtain ⟨i0, hi0, hz0, hz1, hz2⟩ := info_parts infoRP
  obtain ⟨la, lc, rfl⟩ := h.form
  obtain ⟨N, hN⟩ : ∃ N, l.length = N := ⟨_, rfl⟩
  rw [hN] at hl h ⊢
  have H := Lib.hid h
  have HN := Lib.hid hN
  clear h hN
  go_enter Tryd.func7, Tryd.ntmps7
  go_wp2_with fail
  go_loopw [3, 4] (fun ov iv wr => ∃ k : Nat, k ≤ N ∧ iv = .int .i64 k ∧ Hid (wr.ownsRow W.heap.size 39 2 ov k (cellsK encP (l.take k))) ∧ Hid (Below W.heap.size W wr)) (fun _ iv _ => N - (intOf iv).toNat)
  case atStart => exact ⟨0, Nat.zero_le _, rfl, World.ownsRow_nil _ _ _ _, Below.refl _ _⟩
  case round =>
    obtain ⟨k, hk, rfl, HO, HB⟩ := hrel
    obtain ⟨ad, cp, hv⟩ := own_form HO.out
    subst hv
    by_cases hlt : k < N
    · have hq : (k : Int) < N := by omega
      have hq0 : (0 : Int) ≤ k := by omega
      obtain ⟨r, hr⟩ : ∃ r, l[k]? = some r := ⟨_, List.getElem?_eq_getElem (by have := HN.out; omega)⟩
      obtain ⟨b, off, rfl, hbb, hc⟩ := RowK.at (H.out.below HB.out) hr
      have HT : Hid (cellsK encP (l.take (k + 1)) = cellsK encP (l.take k) ++ [.int .i64 (r.1 : Nat), .string (txt r.2)]) := by
        show _ = _
        rw [take_at' hr, cellsK_app, cellsK_one]; rfl
      have hls : W.heap.size ≤ wr.heap.size := HB.out.size
      obtain ⟨b', off', e9, hbw, hc9⟩ := RowK.at H.out hr
      obtain ⟨rfl, rfl⟩ : b = b' ∧ off = off' := by cases e9; exact ⟨rfl, rfl⟩
      obtain ⟨kd, hkd⟩ : ∃ x, r.1 = x := ⟨_, rfl⟩
      obtain ⟨X, hX⟩ : ∃ X, txt r.2 = X := ⟨_, rfl⟩
      have PC : Hid (∀ w', Below W.heap.size W w' → w'.cell? ⟨b, off + k * 2, none⟩ = some (.int .i64 kd) ∧ w'.cell? ⟨b, off + k * 2 + 1, none⟩ = some (.string X)) := fun w' hb => by
        rw [hb.cell (p := ⟨b, _, none⟩) hbw, hb.cell (p := ⟨b, _, none⟩) hbw, ← hkd, ← hX]
        exact ⟨by have := hc9 0 _ rfl; simpa using this, hc9 1 _ rfl⟩
      rw [hkd, hX] at HT
      clear hc hc9 hr hkd hX e9
      go_wp2_with fail
      go_region_held3 (fun w' => w'.cell? ⟨b, off + k * 2, none⟩ = some (.int .i64 kd) ∧ w'.cell? ⟨b, off + k * 2 + 1, none⟩ = some (.string X))
        (first | exact PC.out _ HB.out.drew | exact PC.out _ (HB.out.alloc hls _).drew | exact PC.out _ (HB.out.alloc hls _) | exact PC.out _ hb3)
        ((refine step_append_lies _ (by rfl) (.tmp 11) (.tmp 23) _ (by rfl) W.heap.size 39 i0 _ 2 24 Tryd.underlying30 hi0 hz0 hz1 hz2 rfl (by omega) (.slice ad k cp) k (cellsK encP (l.take k)) (by rfl) ((HO.out.alloc _).drew) ⟨wr.heap.size, 0, none⟩ 1 1 [.int .i64 kd, .string X] (by rfl) (by rfl) (World.news_of_block (cs := #[.int .i64 kd, .string X]) (t := 39) (fr := (0, 0)) (heap_alloc_new wr _)) (by simp [Value.oneCell']) (by omega) (by unfold maxLen; omega) (by omega) (by simp; omega) (wr.heap.size + 1) (by simp) ?_; intro g2 cap2 w3 hown3 hgrow hat hlt3; have hb3 : Below W.heap.size W w3 := (HB.out.alloc hls _).drew.grown hgrow (by simp; omega) (fun q hq => (HO.out.lt q hq).1)))
      have HO3 : Hid (w3.ownsRow W.heap.size 39 2 (.slice (some ⟨g2, 0, none⟩) (k + 1) cap2) (k + 1) (cellsK encP (l.take (k + 1)))) := by
        show World.ownsRow _ _ _ _ _ _ _
        rw [HT.out]; exact hown3
      have HB3 := Lib.hid hb3
      clear hown3 hb3 hgrow hat hlt3
      go_wp2_with fail
      go_roundw
      case rel => exact ⟨k + 1, by omega, by go_num, HO3.out, HB3.out⟩
      case measure => simp [intOf]; omega
    · obtain rfl : k = N := by omega
      have HK : Hid (wr.ownsRow W.heap.size 39 2 (.slice ad k cp) k (cellsK encP l)) := by
        have := HO.out
        rwa [← HN.out, List.take_length, HN.out] at this
      go_wp2_with fail
      go_ret
      exact ⟨_, rfl, HK.out, HB.out⟩

theorem neq_piece (k : Nat) (B : ByteArray) (w : World) : (binOp .neq 39 (.agg #[.int .i64 k, .string B]) (.agg #[.int .i64 k, .string B])).run Tryd.prog w = .ok (.bool false) w := by
  go_simp
theorem neq_pguard (x y : Operand) (xs ys : Array Value) (w : World) : (eqGuard .neq 39 x y (.agg xs) (.agg ys)).run Tryd.prog w = .ok () w := run_eqGuard_agg w _ _ _ _ _ _ (by kernel_rfl)
set_option maxRecDepth 100000 in
set_option maxHeartbeats 2000000 in
theorem rSame16_c {va vb : Value} {l : List Pc} {W : World} (h : RowK 2 encP W va l) (h' : RowK 2 encP W vb l) (hl : l.length ≤ 1000000) :
    Calls Tryd.prog 6 #[va, vb] W fun e w' => e = .returned (.bool true) ∧ ∃ n, w' = W.drewN n := by
  obtain ⟨la, lc, rfl⟩ := h.form
  obtain ⟨ma, mc, rfl⟩ := h'.form
  obtain ⟨N, hN⟩ : ∃ N, l.length = N := ⟨_, rfl⟩
  rw [hN] at hl h h' ⊢
  have H := Lib.hid h
  have H' := Lib.hid h'
  have HN := Lib.hid hN
  clear h h' hN
  go_enter Tryd.func6, Tryd.ntmps6
  go_wp2_with fail
  go_loopw [5] (fun iv wr => ∃ k : Nat, k ≤ N ∧ iv = .int .i64 k ∧ Hid (∃ n, wr = W.drewN n)) (fun iv _ => N - (intOf iv).toNat)
  case atStart => exact ⟨0, Nat.zero_le _, rfl, 0, rfl⟩
  case round =>
    obtain ⟨k, hk, rfl, ⟨n9, hwr⟩⟩ := hrel
    obtain ⟨w9, hw9⟩ : ∃ w9, wr = w9 := ⟨_, rfl⟩
    rw [hw9] at hwr ⊢
    clear hw9
    have HWR := Lib.hid hwr
    by_cases hlt : k < N
    · have hq : (k : Int) < N := by omega
      have hq0 : (0 : Int) ≤ k := by omega
      obtain ⟨r, hr⟩ : ∃ r, l[k]? = some r := ⟨_, List.getElem?_eq_getElem (by have := HN.out; omega)⟩
      obtain ⟨b, off, rfl, hbb, hc⟩ := RowK.at H.out hr
      obtain ⟨b', off', rfl, hbb', hc'⟩ := RowK.at H'.out hr
      have c0 : w9.cell? ⟨b, off + k * 2, none⟩ = some (.int .i64 (r.1 : Nat)) := by have := hc 0 _ rfl; rw [hwr]; simpa using this
      have c1 : w9.cell? ⟨b, off + k * 2 + 1, none⟩ = some (.string (txt r.2)) := by rw [hwr]; exact hc 1 _ rfl
      have c2 : w9.cell? ⟨b', off' + k * 2, none⟩ = some (.int .i64 (r.1 : Nat)) := by have := hc' 0 _ rfl; rw [hwr]; simpa using this
      have c3 : w9.cell? ⟨b', off' + k * 2 + 1, none⟩ = some (.string (txt r.2)) := by rw [hwr]; exact hc' 1 _ rfl
      obtain ⟨kd, hkd⟩ : ∃ x, r.1 = x := ⟨_, rfl⟩
      obtain ⟨X, hX⟩ : ∃ X, txt r.2 = X := ⟨_, rfl⟩
      rw [hkd] at c0 c2
      rw [hX] at c1 c3
      have E := neq_piece kd X
      have EG := neq_pguard
      clear hc hc' hr hkd hX hwr
      go_wp2_with fail
      go_quiet (fail)
      go_wp2_with fail
      go_roundw
      case rel => exact ⟨k + 1, by omega, by go_num, n9 + nq, by rw [HWR.out]; first | rfl | exact World.drewN_drewN _ _ _ | simp [World.drewN]⟩
      case measure => simp [intOf]; omega
    · obtain rfl : k = N := by omega
      clear hwr
      go_wp2_with fail
      go_ret
      exact ⟨rfl, n9, HWR.out⟩
end Go.Proofs.YtkmhdaalabhcbaaDoor

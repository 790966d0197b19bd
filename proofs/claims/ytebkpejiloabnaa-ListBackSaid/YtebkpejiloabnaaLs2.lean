/-
  A list of the document, as the program's; back; notes: contracts.
-/
import Derived.Test.YtebkpejiloabnaaLs1
import Derived.Deep.RegionHeld3
import Derived.Deep.AppendLies
import Derived.Deep.DrawnRows
import Derived.OwnWalk
set_option linter.unusedVariables false
set_option linter.unusedSimpArgs false
namespace Go.Proofs.Ytebkpejiloabnaa
open Go Go.RowKit
attribute [local go_sem ↓] Go.wp_at_zero Go.wp_at_succ

theorem infoE : (Try.prog.info? 35).map (fun i => (i.zero, i.size, i.bytes)) = some (some (.agg #[.int .u32 0, .int .u8 0]), 2, 8) := by kernel_rfl
theorem infoRE : (Try.prog.info? 40).map (fun i => (i.zero, i.size, i.bytes)) = some (some (.agg #[.int .u32 0, .int .u8 0]), 2, 8) := by kernel_rfl
theorem infoN : (Try.prog.info? 37).map (fun i => (i.zero, i.size, i.bytes)) = some (some (.agg #[.int .i64 0, .int .i64 0, .int .u32 0, .int .u8 0]), 4, 24) := by kernel_rfl
theorem infoRN1 : (Try.prog.info? 42).map (fun i => (i.zero, i.size, i.bytes)) = some (some (.agg #[.int .i64 0, .int .i64 0, .int .u32 0, .int .u8 0]), 4, 24) := by kernel_rfl

set_option maxRecDepth 20000 in
set_option maxHeartbeats 2000000 in
theorem own11_c {l : List EL} {w : World} {v : Value} (hl : l.length ≤ 10000000) (hp : EntRow w v l) :
    Calls Try.prog 7 #[v] w fun e w' => ∃ u, e = .returned u ∧ w'.ownsRow w.heap.size 35 2 u l.length (cellsK encE l) ∧ Below w.heap.size w w' := by
  obtain ⟨i0, hi0, hz0, hz1, hz2⟩ := info_parts infoE
  obtain ⟨ad0, cp0, rfl⟩ := hp.form
  obtain ⟨N, hN⟩ : ∃ N, N = l.length := ⟨_, rfl⟩
  rw [← hN] at hl hp ⊢
  have HN := Lib.hid hN
  have HP := Lib.hid hp
  clear hN hp
  go_enter Try.func7, Try.ntmps7
  go_wp2_with fail
  go_loopw [3, 4] (fun v i wr => ∃ (k : Nat), k ≤ N ∧ i = .int .i64 k ∧ Hid (wr.ownsRow w.heap.size 35 2 v k (cellsK encE (l.take k))) ∧ Hid (Below w.heap.size w wr)) (fun _ i _ => N - (intOf i).toNat)
  case atStart => exact ⟨0, by omega, rfl, World.ownsRow_nil _ _ _ _, Below.refl _ _⟩
  case round =>
    obtain ⟨k, hk, rfl, HO, HB⟩ := hrel
    by_cases hlt : k < N
    · have hkl : k < l.length := by rw [← HN.out]; exact hlt
      obtain ⟨r, hr⟩ : ∃ r, l[k]? = some r := ⟨_, List.getElem?_eq_getElem hkl⟩
      obtain ⟨b, off, rfl, hbw, kc0, kc1⟩ := EntRow.at HP.out hr
      obtain ⟨ad, cp, hv⟩ := own_form HO.out
      subst hv
      have hq : (k : Int) < N := by omega
      have hq0 : (0 : Int) ≤ k := by omega
      have PC : Hid (∀ w', Below w.heap.size w w' → w'.cell? ⟨b, off + k * 2, none⟩ = some (.int .u32 r.uid) ∧ w'.cell? ⟨b, off + k * 2 + 1, none⟩ = some (.int .u8 r.fl)) := fun w' hb =>
        ⟨by rw [hb.cell (p := ⟨b, _, none⟩) hbw]; exact kc0, by rw [hb.cell (p := ⟨b, _, none⟩) hbw]; exact kc1⟩
      have HR : Hid (l.take (k + 1) = l.take k ++ [r]) := take_at' hr
      have hls := HB.out.size
      clear kc0 kc1 hr hkl
      go_wp2_with fail
      go_region_held3 (fun w' => w'.cell? ⟨b, off + k * 2, none⟩ = some (.int .u32 r.uid) ∧ w'.cell? ⟨b, off + k * 2 + 1, none⟩ = some (.int .u8 r.fl))
        (first | exact PC.out _ HB.out.drew | exact PC.out _ (HB.out.alloc hls _).drew | exact PC.out _ (HB.out.alloc hls _) | exact PC.out _ hb3)
        ((refine step_append_lies _ (by rfl) (.tmp 11) (.tmp 23) _ (by rfl) w.heap.size 35 i0 _ 2 8 Try.underlying26 hi0 hz0 hz1 hz2 rfl (by omega) (.slice ad k cp) k (cellsK encE (l.take k)) (by rfl) ((HO.out.alloc _).drew) ⟨wr.heap.size, 0, none⟩ 1 1 [.int .u32 r.uid, .int .u8 r.fl] (by rfl) (by rfl) (World.news_of_block (cs := #[.int .u32 r.uid, .int .u8 r.fl]) (t := 35) (fr := (0, 0)) (heap_alloc_new wr _)) (by simp [Value.oneCell']) (by omega) (by unfold maxLen; omega) (by omega) (by simp; omega) (wr.heap.size + 1) (by simp) ?_; intro g2 cap2 w3 hown3 hgrow hat hlt3; have hb3 : Below w.heap.size w w3 := (HB.out.alloc hls _).drew.grown hgrow (by simp; omega) (fun q hq => (HO.out.lt q hq).1)))
      have HO3 : Hid (w3.ownsRow w.heap.size 35 2 (.slice (some ⟨g2, 0, none⟩) (k + 1) cap2) (k + 1) (cellsK encE (l.take (k + 1)))) := by
        show World.ownsRow _ _ _ _ _ _ _
        rw [HR.out, cellsK_app, cellsK_one]; exact hown3
      have HB3 := Lib.hid hb3
      clear hown3 hb3 hgrow hat hlt3
      go_wp2_with fail
      go_roundw
      case rel => exact ⟨k + 1, by omega, by go_num, HO3.out, HB3.out⟩
      case measure => simp [intOf]; omega
    · obtain rfl : k = N := by omega
      go_wp2_with fail
      go_ret
      refine ⟨_, rfl, ?_, HB.out⟩
      have h := HO.out
      rw [List.take_of_length_le (by rw [← HN.out]; exact Nat.le_refl _)] at h
      exact h
set_option maxRecDepth 20000 in
set_option maxHeartbeats 2000000 in
theorem back11_c {l : List EL} {w : World} {v : Value} (hl : l.length ≤ 10000000) (hp : EntRow w v l) :
    Calls Try.prog 15 #[v] w fun e w' => ∃ u, e = .returned u ∧ w'.ownsRow w.heap.size 40 2 u l.length (cellsK encE l) ∧ Below w.heap.size w w' := by
  obtain ⟨i0, hi0, hz0, hz1, hz2⟩ := info_parts infoRE
  obtain ⟨ad0, cp0, rfl⟩ := hp.form
  obtain ⟨N, hN⟩ : ∃ N, N = l.length := ⟨_, rfl⟩
  rw [← hN] at hl hp ⊢
  have HN := Lib.hid hN
  have HP := Lib.hid hp
  clear hN hp
  go_enter Try.func15, Try.ntmps15
  go_wp2_with fail
  go_loopw [3, 4] (fun v i wr => ∃ (k : Nat), k ≤ N ∧ i = .int .i64 k ∧ Hid (wr.ownsRow w.heap.size 40 2 v k (cellsK encE (l.take k))) ∧ Hid (Below w.heap.size w wr)) (fun _ i _ => N - (intOf i).toNat)
  case atStart => exact ⟨0, by omega, rfl, World.ownsRow_nil _ _ _ _, Below.refl _ _⟩
  case round =>
    obtain ⟨k, hk, rfl, HO, HB⟩ := hrel
    by_cases hlt : k < N
    · have hkl : k < l.length := by rw [← HN.out]; exact hlt
      obtain ⟨r, hr⟩ : ∃ r, l[k]? = some r := ⟨_, List.getElem?_eq_getElem hkl⟩
      obtain ⟨b, off, rfl, hbw, kc0, kc1⟩ := EntRow.at HP.out hr
      obtain ⟨ad, cp, hv⟩ := own_form HO.out
      subst hv
      have hq : (k : Int) < N := by omega
      have hq0 : (0 : Int) ≤ k := by omega
      have PC : Hid (∀ w', Below w.heap.size w w' → w'.cell? ⟨b, off + k * 2, none⟩ = some (.int .u32 r.uid) ∧ w'.cell? ⟨b, off + k * 2 + 1, none⟩ = some (.int .u8 r.fl)) := fun w' hb =>
        ⟨by rw [hb.cell (p := ⟨b, _, none⟩) hbw]; exact kc0, by rw [hb.cell (p := ⟨b, _, none⟩) hbw]; exact kc1⟩
      have HR : Hid (l.take (k + 1) = l.take k ++ [r]) := take_at' hr
      have hls := HB.out.size
      clear kc0 kc1 hr hkl
      go_wp2_with fail
      go_region_held3 (fun w' => w'.cell? ⟨b, off + k * 2, none⟩ = some (.int .u32 r.uid) ∧ w'.cell? ⟨b, off + k * 2 + 1, none⟩ = some (.int .u8 r.fl))
        (first | exact PC.out _ HB.out.drew | exact PC.out _ (HB.out.alloc hls _).drew | exact PC.out _ (HB.out.alloc hls _) | exact PC.out _ hb3)
        ((refine step_append_lies _ (by rfl) (.tmp 11) (.tmp 23) _ (by rfl) w.heap.size 40 i0 _ 2 8 Try.underlying22 hi0 hz0 hz1 hz2 rfl (by omega) (.slice ad k cp) k (cellsK encE (l.take k)) (by rfl) ((HO.out.alloc _).drew) ⟨wr.heap.size, 0, none⟩ 1 1 [.int .u32 r.uid, .int .u8 r.fl] (by rfl) (by rfl) (World.news_of_block (cs := #[.int .u32 r.uid, .int .u8 r.fl]) (t := 40) (fr := (0, 0)) (heap_alloc_new wr _)) (by simp [Value.oneCell']) (by omega) (by unfold maxLen; omega) (by omega) (by simp; omega) (wr.heap.size + 1) (by simp) ?_; intro g2 cap2 w3 hown3 hgrow hat hlt3; have hb3 : Below w.heap.size w w3 := (HB.out.alloc hls _).drew.grown hgrow (by simp; omega) (fun q hq => (HO.out.lt q hq).1)))
      have HO3 : Hid (w3.ownsRow w.heap.size 40 2 (.slice (some ⟨g2, 0, none⟩) (k + 1) cap2) (k + 1) (cellsK encE (l.take (k + 1)))) := by
        show World.ownsRow _ _ _ _ _ _ _
        rw [HR.out, cellsK_app, cellsK_one]; exact hown3
      have HB3 := Lib.hid hb3
      clear hown3 hb3 hgrow hat hlt3
      go_wp2_with fail
      go_roundw
      case rel => exact ⟨k + 1, by omega, by go_num, HO3.out, HB3.out⟩
      case measure => simp [intOf]; omega
    · obtain rfl : k = N := by omega
      go_wp2_with fail
      go_ret
      refine ⟨_, rfl, ?_, HB.out⟩
      have h := HO.out
      rw [List.take_of_length_le (by rw [← HN.out]; exact Nat.le_refl _)] at h
      exact h
set_option maxRecDepth 20000 in
set_option maxHeartbeats 2000000 in
theorem notes11_c {l : List NL} {w : World} {v : Value} (hl : l.length ≤ 10000000) (hp : NoteRow w v l) :
    Calls Try.prog 9 #[v] w fun e w' => ∃ u, e = .returned u ∧ w'.ownsRow w.heap.size 37 4 u l.length (cellsK encN l) ∧ Below w.heap.size w w' := by
  obtain ⟨i0, hi0, hz0, hz1, hz2⟩ := info_parts infoN
  obtain ⟨ad0, cp0, rfl⟩ := hp.form
  obtain ⟨N, hN⟩ : ∃ N, N = l.length := ⟨_, rfl⟩
  rw [← hN] at hl hp ⊢
  have HN := Lib.hid hN
  have HP := Lib.hid hp
  clear hN hp
  go_enter Try.func9, Try.ntmps9
  go_wp2_with fail
  go_loopw [3, 4] (fun v i wr => ∃ (k : Nat), k ≤ N ∧ i = .int .i64 k ∧ Hid (wr.ownsRow w.heap.size 37 4 v k (cellsK encN (l.take k))) ∧ Hid (Below w.heap.size w wr)) (fun _ i _ => N - (intOf i).toNat)
  case atStart => exact ⟨0, by omega, rfl, World.ownsRow_nil _ _ _ _, Below.refl _ _⟩
  case round =>
    obtain ⟨k, hk, rfl, HO, HB⟩ := hrel
    by_cases hlt : k < N
    · have hkl : k < l.length := by rw [← HN.out]; exact hlt
      obtain ⟨r, hr⟩ : ∃ r, l[k]? = some r := ⟨_, List.getElem?_eq_getElem hkl⟩
      obtain ⟨b, off, rfl, hbw, kc0, kc1, kc2, kc3⟩ := NoteRow.at HP.out hr
      obtain ⟨ad, cp, hv⟩ := own_form HO.out
      subst hv
      have hq : (k : Int) < N := by omega
      have hq0 : (0 : Int) ≤ k := by omega
      have PC : Hid (∀ w', Below w.heap.size w w' → w'.cell? ⟨b, off + k * 4, none⟩ = some (.int .i64 r.kind) ∧ w'.cell? ⟨b, off + k * 4 + 1, none⟩ = some (.int .i64 r.seq) ∧ w'.cell? ⟨b, off + k * 4 + 2, none⟩ = some (.int .u32 r.e.uid) ∧ w'.cell? ⟨b, off + k * 4 + 3, none⟩ = some (.int .u8 r.e.fl)) := fun w' hb =>
        ⟨by rw [hb.cell (p := ⟨b, _, none⟩) hbw]; exact kc0, by rw [hb.cell (p := ⟨b, _, none⟩) hbw]; exact kc1, by rw [hb.cell (p := ⟨b, _, none⟩) hbw]; exact kc2, by rw [hb.cell (p := ⟨b, _, none⟩) hbw]; exact kc3⟩
      have HR : Hid (l.take (k + 1) = l.take k ++ [r]) := take_at' hr
      have hls := HB.out.size
      clear kc0 kc1 kc2 kc3 hr hkl
      go_wp2_with fail
      go_region_held3 (fun w' => w'.cell? ⟨b, off + k * 4, none⟩ = some (.int .i64 r.kind) ∧ w'.cell? ⟨b, off + k * 4 + 1, none⟩ = some (.int .i64 r.seq) ∧ w'.cell? ⟨b, off + k * 4 + 2, none⟩ = some (.int .u32 r.e.uid) ∧ w'.cell? ⟨b, off + k * 4 + 3, none⟩ = some (.int .u8 r.e.fl))
        (first | exact PC.out _ HB.out.drew | exact PC.out _ (HB.out.alloc hls _).drew | exact PC.out _ (HB.out.alloc hls _) | exact PC.out _ hb3)
        ((refine step_append_lies _ (by rfl) (.tmp 11) (.tmp 36) _ (by rfl) w.heap.size 37 i0 _ 4 24 Try.underlying24 hi0 hz0 hz1 hz2 rfl (by omega) (.slice ad k cp) k (cellsK encN (l.take k)) (by rfl) ((HO.out.alloc _).drew) ⟨wr.heap.size, 0, none⟩ 1 1 [.int .i64 r.kind, .int .i64 r.seq, .int .u32 r.e.uid, .int .u8 r.e.fl] (by rfl) (by rfl) (World.news_of_block (cs := #[.int .i64 r.kind, .int .i64 r.seq, .int .u32 r.e.uid, .int .u8 r.e.fl]) (t := 37) (fr := (0, 0)) (heap_alloc_new wr _)) (by simp [Value.oneCell']) (by omega) (by unfold maxLen; omega) (by omega) (by simp; omega) (wr.heap.size + 1) (by simp) ?_; intro g2 cap2 w3 hown3 hgrow hat hlt3; have hb3 : Below w.heap.size w w3 := (HB.out.alloc hls _).drew.grown hgrow (by simp; omega) (fun q hq => (HO.out.lt q hq).1)))
      have HO3 : Hid (w3.ownsRow w.heap.size 37 4 (.slice (some ⟨g2, 0, none⟩) (k + 1) cap2) (k + 1) (cellsK encN (l.take (k + 1)))) := by
        show World.ownsRow _ _ _ _ _ _ _
        rw [HR.out, cellsK_app, cellsK_one]; exact hown3
      have HB3 := Lib.hid hb3
      clear hown3 hb3 hgrow hat hlt3
      go_wp2_with fail
      go_roundw
      case rel => exact ⟨k + 1, by omega, by go_num, HO3.out, HB3.out⟩
      case measure => simp [intOf]; omega
    · obtain rfl : k = N := by omega
      go_wp2_with fail
      go_ret
      refine ⟨_, rfl, ?_, HB.out⟩
      have h := HO.out
      rw [List.take_of_length_le (by rw [← HN.out]; exact Nat.le_refl _)] at h
      exact h
end Go.Proofs.Ytebkpejiloabnaa

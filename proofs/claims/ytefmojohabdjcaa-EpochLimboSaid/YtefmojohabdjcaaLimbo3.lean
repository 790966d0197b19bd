/-
  The document's Ready and Same.
-/
import Derived.Test.YtefmojohabdjcaaLimbo2
set_option linter.unusedVariables false
set_option linter.unusedSimpArgs false
namespace Go.Proofs.Ytefmojohabdjcaa
open Go Go.RowKit

theorem infoKept : (Try.prog.info? 47).map (fun i => (i.zero, i.size, i.bytes)) = some (some (.agg #[.int .u64 0, .int .i64 0]), 2, 16) := by kernel_rfl
variable {W W' : World} {v : Value} {l : List (Nat × Int)}
def ReadyR (l : List (Nat × Int)) (ep : Nat) (W : World) (e : Ending) (w' : World) : Prop :=
  ∃ rv kv, e = .returned (.tuple #[rv, kv]) ∧ w'.ownsRow W.heap.size 3 1 rv (readyOf ep l).length (intsV (readyOf ep l)) ∧ w'.ownsRow W.heap.size 47 2 kv (leftOf ep l).length (cellsL (leftOf ep l)) ∧ Below W.heap.size W w'

set_option maxRecDepth 20000 in
set_option maxHeartbeats 2000000 in
theorem rReady_c (N : Nat) (h : W.ownsRow 0 47 2 v N (cellsL l)) (hN : N = l.length) (ep : Nat) (hep : ep < 18446744073709551616) (hNN : N ≤ 10000) (hlu : ∀ r ∈ l, r.1 < 18446744073709551616) :
    Calls Try.prog 13 #[v, .int .u64 ep] W fun e w' => ReadyR l ep W e w' := by
  obtain ⟨i0, hi0, hz0, hz1, hz2⟩ := info_parts infoKept
  obtain ⟨i1, hi1, hy0, hy1, hy2⟩ := info_parts infoInt
  have HO := Lib.hid h
  obtain ⟨ad, cp, rfl⟩ := own_form HO.out
  have HN := Lib.hid hN
  have HU := Lib.hid hlu
  clear h hN hlu
  go_enter Try.func13, Try.ntmps13
  go_wp2_with fail
  go_loopw [6, 7, 8] (fun rv kv i wr => ∃ (k : Nat), k ≤ N ∧ i = .int .i64 k ∧ Hid (wr.ownsRow W.heap.size 3 1 rv (readyOf ep (l.take k)).length (intsV (readyOf ep (l.take k)))) ∧ Hid (wr.ownsRow W.heap.size 47 2 kv (leftOf ep (l.take k)).length (cellsL (leftOf ep (l.take k)))) ∧ Hid ((readyOf ep (l.take k)).length ≤ k ∧ (leftOf ep (l.take k)).length ≤ k) ∧ Hid (Below W.heap.size W wr)) (fun _ _ i _ => N - (intOf i).toNat)
  case atStart => exact ⟨0, Nat.zero_le _, rfl, World.ownsRow_nil _ _ _ _, World.ownsRow_nil _ _ _ _, ⟨Nat.le_refl _, Nat.le_refl _⟩, Below.refl _ _⟩
  case round =>
    obtain ⟨k, hk, rfl, HR, HK, HC, HB⟩ := hrel
    by_cases hlt : k < N
    · have hq : (k : Int) < N := by omega
      have hq0 : (0 : Int) ≤ k := by omega
      have hkx : k < l.length := by rw [← HN.out]; exact hlt
      obtain ⟨x, hx⟩ : ∃ x, l[k]? = some x := ⟨_, List.getElem?_eq_getElem hkx⟩
      obtain ⟨g1, g2⟩ := cellsL_at l k x hx
      have hxu := HU.out x (List.mem_of_getElem? hx)
      have HT : Hid (l.take (k + 1) = l.take k ++ [x]) := by
        show _ = _
        obtain ⟨hk2, hx2⟩ := List.getElem?_eq_some_iff.1 hx
        rw [List.take_succ_eq_append_getElem hk2, hx2]
      obtain ⟨lk, hlk⟩ : ∃ lk, l.take k = lk := ⟨_, rfl⟩
      rw [hlk] at HR HK HC HT
      rcases ad with _ | ⟨b, off, pth⟩
      · have := HO.out.2
        exfalso
        rcases this with ⟨e, e2⟩ | ⟨g, cap, cur, e, _⟩
        · have h8 := HO.out.1; rw [e2] at h8; simp at h8; omega
        · cases e
      have hform : off = 0 ∧ pth = none := by
        rcases HO.out.2 with ⟨e, _⟩ | ⟨g, cap, cur, e, _⟩
        · cases e
        · cases e; exact ⟨rfl, rfl⟩
      obtain ⟨rfl, rfl⟩ := hform
      have hbW : b < W.heap.size := (HO.out.lt b rfl).2
      have k0 : wr.cell? ⟨b, k * 2, none⟩ = some (.int .u64 x.1) := by
        rw [HB.out.cell (p := ⟨b, k * 2, none⟩) hbW, HO.out.cellAt _ (by omega)]; exact g1
      have k1 : wr.cell? ⟨b, k * 2 + 1, none⟩ = some (.int .i64 x.2) := by
        rw [HB.out.cell (p := ⟨b, k * 2 + 1, none⟩) hbW, HO.out.cellAt _ (by omega)]; exact g2
      have hbw : b < wr.heap.size := Nat.lt_of_lt_of_le hbW HB.out.size
      obtain ⟨x1, x2⟩ := x
      obtain ⟨nr, hnr⟩ : ∃ n, (readyOf ep lk).length = n := ⟨_, rfl⟩
      obtain ⟨nk, hnk⟩ : ∃ n, (leftOf ep lk).length = n := ⟨_, rfl⟩
      rw [hnr, hnk] at HC
      rw [hnr] at HR
      rw [hnk] at HK
      have hcc := HC.out
      have HNR := Lib.hid hnr
      have HNK := Lib.hid hnk
      obtain ⟨ra, rc, hrv⟩ := own_form HR.out
      obtain ⟨ka, kc, hkv⟩ := own_form HK.out
      subst hrv hkv
      clear hx g1 g2 hlk hnr hnk hkx
      dsimp only at hxu k0 k1
      have hsz := HB.out.size
      by_cases q1 : x1 ≤ ep
      · have p1 : (x1 : Int) ≤ ep := by omega
        by_cases q2 : x1 + 2 ≤ ep
        · have p2 : (2 : Int) ≤ (ep : Int) - x1 := by omega
          have HRB : Hid (readyB ep (x1, x2) = true) := decide_eq_true q2
          go_wp2_with (at_builtin; refine wpList_append_own _ rfl (.tmp 32) (.tmp 38) 23 rfl W.heap.size 3 i1 (.int .i64 0) 1 8 Try.underlying23 hi1 hy0 hy1 hy2 rfl (by decide) _ _ _ rfl (HR.out.alloc _) ⟨wr.heap.size, 0, none⟩ 1 1 [.int .i64 x2] rfl rfl (World.news_of_block (cs := #[.int .i64 x2]) (t := 3) (fr := (0, 0)) (heap_alloc_new wr _)) (fun u hu => by simp at hu; subst hu; rfl) (by unfold maxLen; omega) (by omega) (by simp; omega) ?_)
          intro v2 w2 hown hgrow hnil
          obtain ⟨ra2, rc2, hv2⟩ := own_form hown
          subst hv2
          have HB3 : Hid (Below W.heap.size W w2) := (HB.out.alloc hsz _).grown hgrow (by simp; omega) (fun q hq => (HR.out.lt q hq).1)
          have HK3 : Hid (w2.ownsRow W.heap.size 47 2 (.slice ka nk kc) nk (cellsL (leftOf ep lk))) := own_grown (HK.out.alloc _) (HR.out.alloc _) (by decide) hgrow
          have HR3 := Lib.hid hown
          clear hown hgrow hnil HR HK HB k0 k1
          go_wp2_with fail
          go_roundw
          case rel =>
            refine ⟨k + 1, by omega, by go_num, ?_, ?_, ?_, HB3.out⟩
            · show World.ownsRow _ _ _ _ _ _ _
              rw [HT.out, ready_snoc, if_pos HRB.out, List.length_append, HNR.out, intsV_app]; exact HR3.out
            · show World.ownsRow _ _ _ _ _ _ _
              rw [HT.out, left_snoc, if_pos HRB.out, HNK.out]; exact HK3.out
            · show _ ∧ _
              rw [HT.out, left_snoc, ready_snoc, if_pos HRB.out, if_pos HRB.out, List.length_append, HNR.out, HNK.out, List.length_singleton]; exact ⟨by omega, by omega⟩
          case measure => simp [intOf]; omega
        · have p2 : ¬ (2 : Int) ≤ (ep : Int) - x1 := by omega
          have HRB : Hid (¬ readyB ep (x1, x2) = true) := by show ¬ decide _ = true; rw [decide_eq_false q2]; exact Bool.false_ne_true
          go_wp2_with (at_builtin; refine wpList_append_own _ rfl (.tmp 40) (.tmp 45) 42 rfl W.heap.size 47 i0 (.agg #[.int .u64 0, .int .i64 0]) 2 16 Try.underlying42 hi0 hz0 hz1 hz2 rfl (by decide) _ _ _ rfl (HK.out.alloc _) ⟨wr.heap.size, 0, none⟩ 1 1 [.int .u64 x1, .int .i64 x2] rfl rfl (World.news_of_block (cs := #[.int .u64 x1, .int .i64 x2]) (t := 47) (fr := (0, 0)) (heap_alloc_new wr _)) (fun u hu => by simp at hu; rcases hu with rfl | rfl <;> rfl) (by unfold maxLen; omega) (by omega) (by simp; omega) ?_)
          intro v2 w2 hown hgrow hnil
          obtain ⟨ra2, rc2, hv2⟩ := own_form hown
          subst hv2
          have HB3 : Hid (Below W.heap.size W w2) := (HB.out.alloc hsz _).grown hgrow (by simp; omega) (fun q hq => (HK.out.lt q hq).1)
          have HR3 : Hid (w2.ownsRow W.heap.size 3 1 (.slice ra nr rc) nr (intsV (readyOf ep lk))) := own_grown (HR.out.alloc _) (HK.out.alloc _) (by decide) hgrow
          have HK3 := Lib.hid hown
          clear hown hgrow hnil HR HK HB k0 k1
          go_wp2_with fail
          go_roundw
          case rel =>
            refine ⟨k + 1, by omega, by go_num, ?_, ?_, ?_, HB3.out⟩
            · show World.ownsRow _ _ _ _ _ _ _
              rw [HT.out, ready_snoc, if_neg HRB.out, HNR.out]; exact HR3.out
            · show World.ownsRow _ _ _ _ _ _ _
              rw [HT.out, left_snoc, if_neg HRB.out, List.length_append, HNK.out, cellsL_snoc]; exact HK3.out
            · show _ ∧ _
              rw [HT.out, left_snoc, ready_snoc, if_neg HRB.out, if_neg HRB.out, List.length_append, HNR.out, HNK.out, List.length_singleton]; exact ⟨by omega, by omega⟩
          case measure => simp [intOf]; omega
      · have p1 : ¬ (x1 : Int) ≤ ep := by omega
        have HRB : Hid (¬ readyB ep (x1, x2) = true) := by show ¬ decide _ = true; rw [decide_eq_false (by dsimp only; omega)]; exact Bool.false_ne_true
        go_wp2_with (at_builtin; refine wpList_append_own _ rfl (.tmp 40) (.tmp 45) 42 rfl W.heap.size 47 i0 (.agg #[.int .u64 0, .int .i64 0]) 2 16 Try.underlying42 hi0 hz0 hz1 hz2 rfl (by decide) _ _ _ rfl (HK.out.alloc _) ⟨wr.heap.size, 0, none⟩ 1 1 [.int .u64 x1, .int .i64 x2] rfl rfl (World.news_of_block (cs := #[.int .u64 x1, .int .i64 x2]) (t := 47) (fr := (0, 0)) (heap_alloc_new wr _)) (fun u hu => by simp at hu; rcases hu with rfl | rfl <;> rfl) (by unfold maxLen; omega) (by omega) (by simp; omega) ?_)
        intro v2 w2 hown hgrow hnil
        obtain ⟨ra2, rc2, hv2⟩ := own_form hown
        subst hv2
        have HB3 : Hid (Below W.heap.size W w2) := (HB.out.alloc hsz _).grown hgrow (by simp; omega) (fun q hq => (HK.out.lt q hq).1)
        have HR3 : Hid (w2.ownsRow W.heap.size 3 1 (.slice ra nr rc) nr (intsV (readyOf ep lk))) := own_grown (HR.out.alloc _) (HK.out.alloc _) (by decide) hgrow
        have HK3 := Lib.hid hown
        clear hown hgrow hnil HR HK HB k0 k1
        go_wp2_with fail
        go_roundw
        case rel =>
          refine ⟨k + 1, by omega, by go_num, ?_, ?_, ?_, HB3.out⟩
          · show World.ownsRow _ _ _ _ _ _ _
            rw [HT.out, ready_snoc, if_neg HRB.out, HNR.out]; exact HR3.out
          · show World.ownsRow _ _ _ _ _ _ _
            rw [HT.out, left_snoc, if_neg HRB.out, List.length_append, HNK.out, cellsL_snoc]; exact HK3.out
          · show _ ∧ _
            rw [HT.out, left_snoc, ready_snoc, if_neg HRB.out, if_neg HRB.out, List.length_append, HNR.out, HNK.out, List.length_singleton]; exact ⟨by omega, by omega⟩
        case measure => simp [intOf]; omega
    · obtain rfl : k = N := by omega
      have hq : ¬ (k : Int) < k := by omega
      have htk : l.take k = l := List.take_of_length_le (by rw [← HN.out]; exact Nat.le_refl _)
      rw [htk] at HR HK HC
      clear htk
      go_wp2_with fail
      go_ret2
      exact ⟨_, _, rfl, HR.out, HK.out, HB.out⟩

theorem rSame_c (a : List Int) (u v : Value) (ha : a.length ≤ 10000) (hu : RowAt W u (intsV a)) (hv : RowAt W v (intsV a)) :
    Calls Try.prog 14 #[u, v] W fun e w' => e = .returned (.bool true) ∧ Below W.heap.size W w' := by
  obtain ⟨N, hN⟩ : ∃ N, N = a.length := ⟨_, rfl⟩
  obtain ⟨ua, uc, rfl⟩ := hu.form
  obtain ⟨va, vc, rfl⟩ := hv.form
  rw [intsV_len, ← hN] at hu hv ⊢
  have HU := Lib.hid hu
  have HV := Lib.hid hv
  have HN := Lib.hid hN
  have hb : N ≤ 10000 := by omega
  clear hu hv hN ha
  go_enter Try.func14, Try.ntmps14
  go_wp2_with fail
  go_loopw [5] (fun i wr => ∃ (k : Nat), k ≤ N ∧ i = .int .i64 k ∧ Hid (Below W.heap.size W wr)) (fun i _ => N - (intOf i).toNat)
  case atStart => exact ⟨0, Nat.zero_le _, rfl, Below.refl _ _⟩
  case round =>
    obtain ⟨k, hk, rfl, HB⟩ := hrel
    by_cases hlt : k < N
    · have hq : (k : Int) < N := by omega
      have hq0 : (0 : Int) ≤ k := by omega
      have hka : k < a.length := by rw [← HN.out]; exact hlt
      obtain ⟨x, hx⟩ : ∃ x, a[k]? = some x := ⟨_, List.getElem?_eq_getElem hka⟩
      have hxv : (intsV a)[k]? = some (.int .i64 x) := by unfold intsV; rw [List.getElem?_map, hx]; rfl
      obtain ⟨b1, o1, e1, l1, c1⟩ := (HU.out.below HB.out).at hxv
      obtain ⟨b2, o2, e2, l2, c2⟩ := (HV.out.below HB.out).at hxv
      cases e1
      cases e2
      have n1 : ((x : Int) != x) = false := by simp
      clear hx hxv hka
      go_wp2_with fail
      go_quiet (fail)
      have HB2 := Lib.hid (below_drewN HB.out nq)
      obtain ⟨W4, hW4⟩ : ∃ W4, wr.drewN nq = W4 := ⟨_, rfl⟩
      rw [hW4] at HB2 ⊢
      clear hW4 c1 c2
      go_wp2_with fail
      go_roundw
      case rel => exact ⟨k + 1, by omega, by go_num, HB2.out⟩
      case measure => simp [intOf]; omega
    · obtain rfl : k = N := by omega
      have hq : ¬ (k : Int) < k := by omega
      go_wp2_with fail
      go_ret
      exact ⟨rfl, HB.out⟩
end Go.Proofs.Ytefmojohabdjcaa

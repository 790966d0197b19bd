/-
  A Limbo: Ready.
-/
import Derived.Test.YtefmojohabdjcaaLimbo1
set_option linter.unusedVariables false
set_option linter.unusedSimpArgs false
namespace Go.Proofs.Ytefmojohabdjcaa
open Go Go.RowKit

def readyB (ep : Nat) (r : Nat × Int) : Bool := decide (r.1 + 2 ≤ ep)
def readyOf (ep : Nat) (l : List (Nat × Int)) : List Int := (l.filter (readyB ep)).map (·.2)
def leftOf (ep : Nat) (l : List (Nat × Int)) : List (Nat × Int) := l.filter fun r => !readyB ep r
theorem ready_snoc (ep : Nat) (l : List (Nat × Int)) (r : Nat × Int) : readyOf ep (l ++ [r]) = if readyB ep r then readyOf ep l ++ [r.2] else readyOf ep l := by
  unfold readyOf
  rw [List.filter_append]
  cases h : readyB ep r <;> simp [h]
theorem left_snoc (ep : Nat) (l : List (Nat × Int)) (r : Nat × Int) : leftOf ep (l ++ [r]) = if readyB ep r then leftOf ep l else leftOf ep l ++ [r] := by
  unfold leftOf
  rw [List.filter_append]
  cases h : readyB ep r <;> simp [h]
variable {W W' : World} {B : Nat} {v : Value} {l : List (Nat × Int)}
theorem intsV_app (a b : List Int) : intsV (a ++ b) = intsV a ++ intsV b := by simp [intsV]
theorem own_grown {w w2 : World} {B e size n : Nat} {v : Value} {xs : List Value} {B' e' size' n' : Nat} {v' : Value} {xs' : List Value} (h : w.ownsRow B e size v n xs) (h' : w.ownsRow B' e' size' v' n' xs') (hne : e ≠ e') (hg : w.grownBy w2 v'.ownBlock) : w2.ownsRow B e size v n xs :=
  own_same h fun k hk => by
    obtain ⟨c, hc⟩ := own_cells h hk
    refine hg.block k (Array.getElem?_eq_some_iff.1 hc).1 fun e => ?_
    obtain ⟨c', hc'⟩ := own_cells h' e.symm
    exact block_ne hc hc' hne rfl
theorem own_base0 {w : World} {B e size n : Nat} {v : Value} {xs : List Value} (h : w.ownsRow B e size v n xs) : w.ownsRow 0 e size v n xs := by
  refine ⟨h.1, ?_⟩
  rcases h.2 with hn | ⟨g, cap, cur, rfl, hg, hgg, rest⟩
  · exact .inl hn
  · exact .inr ⟨g, cap, cur, rfl, Nat.zero_le _, hgg, rest⟩
theorem new_second (w : World) (o o2 : Obj) : ((w.alloc o).alloc o2).heap[w.heap.size + 1]? = some o2 := by
  have h := heap_alloc_new (w.alloc o) o2
  rw [World.size_alloc] at h; exact h
def ReadyP (B : Nat) (v : Value) (l : List (Nat × Int)) (ep : Nat) (W : World) (e : Ending) (w' : World) : Prop :=
  ∃ rv v', e = .returned rv ∧ w'.ownsRow W.heap.size 3 1 rv (readyOf ep l).length (intsV (readyOf ep l)) ∧ LimAt w' B v' (leftOf ep l) ∧ (∀ k, v'.ownBlock = some k → W.heap.size ≤ k ∧ rv.ownBlock ≠ some k) ∧ Moved (fL B v) (fL B v') W w'

set_option maxRecDepth 20000 in
set_option maxHeartbeats 2000000 in
theorem lReady_c (h : LimAt W B v l) (ep : Nat) (hep : ep < 18446744073709551616) (hl : l.length ≤ 10000) (hlu : ∀ r ∈ l, r.1 < 18446744073709551616) :
    Calls Try.prog 15 #[pLm B, .int .u64 ep] W fun e w' => ReadyP B v l ep W e w' := by
  obtain ⟨i0, hi0, hz0, hz1, hz2⟩ := info_parts infoLv
  obtain ⟨i1, hi1, hy0, hy1, hy2⟩ := info_parts infoInt
  obtain ⟨N, hN⟩ : ∃ N, N = l.length := ⟨_, rfl⟩
  have HO : Hid (W.ownsRow 0 85 2 v N (cellsL l)) := by rw [hN]; exact h.ow
  obtain ⟨ad, cp, rfl⟩ := own_form HO.out
  have c0 := h.bx.cell
  have HL := Lib.hid h
  have HN := Lib.hid hN
  have HU := Lib.hid hlu
  have hNN : N ≤ 10000 := by omega
  clear h hN hl hlu
  unfold pLm
  go_enter Try.func15, Try.ntmps15
  go_wp2_with fail
  go_loopw [5, 6, 14] (fun rv kv i wr => ∃ (k : Nat), k ≤ N ∧ i = .int .i64 k ∧ Hid (wr.ownsRow W.heap.size 3 1 rv (readyOf ep (l.take k)).length (intsV (readyOf ep (l.take k)))) ∧ Hid (wr.ownsRow W.heap.size 85 2 kv (leftOf ep (l.take k)).length (cellsL (leftOf ep (l.take k)))) ∧ Hid ((readyOf ep (l.take k)).length ≤ k ∧ (leftOf ep (l.take k)).length ≤ k) ∧ Hid (Below W.heap.size W wr)) (fun _ _ i _ => N - (intOf i).toNat)
  case atStart => exact ⟨0, Nat.zero_le _, rfl, World.ownsRow_nil _ _ _ _, World.ownsRow_nil _ _ _ _, ⟨Nat.le_refl _, Nat.le_refl _⟩, Below.refl _ _⟩
  case round =>
    obtain ⟨k, hk, rfl, HR, HK, HC, HB⟩ := hrel
    by_cases hlt : k < N
    · have hq : (k : Int) < N := by omega
      have hq0 : (0 : Int) ≤ k := by omega
      have hkx : k < l.length := by rw [← HN.out]; exact hlt
      obtain ⟨x, hx⟩ : ∃ x, l[k]? = some x := ⟨_, List.getElem?_eq_getElem hkx⟩
      obtain ⟨g1, g2⟩ := cellsL_at l k x hx
      have hxu := HU.out x (List.mem_of_getElem? hx)
      have HT : Hid (l.take (k + 1) = l.take k ++ [x]) := by
        show _ = _
        obtain ⟨hk2, hx2⟩ := List.getElem?_eq_some_iff.1 hx
        rw [List.take_succ_eq_append_getElem hk2, hx2]
      obtain ⟨lk, hlk⟩ : ∃ lk, l.take k = lk := ⟨_, rfl⟩
      rw [hlk] at HR HK HC HT
      rcases ad with _ | ⟨b, off, pth⟩
      · have := HO.out.2
        exfalso
        rcases this with ⟨e, e2⟩ | ⟨g, cap, cur, e, _⟩
        · have h8 := HO.out.1; rw [e2] at h8; simp at h8; omega
        · cases e
      have hform : off = 0 ∧ pth = none := by
        rcases HO.out.2 with ⟨e, _⟩ | ⟨g, cap, cur, e, _⟩
        · cases e
        · cases e; exact ⟨rfl, rfl⟩
      obtain ⟨rfl, rfl⟩ := hform
      have hbW : b < W.heap.size := (HO.out.lt b rfl).2
      have k0 : wr.cell? ⟨b, k * 2, none⟩ = some (.int .u64 x.1) := by
        rw [HB.out.cell (p := ⟨b, k * 2, none⟩) hbW, HO.out.cellAt _ (by omega)]; exact g1
      have k1 : wr.cell? ⟨b, k * 2 + 1, none⟩ = some (.int .i64 x.2) := by
        rw [HB.out.cell (p := ⟨b, k * 2 + 1, none⟩) hbW, HO.out.cellAt _ (by omega)]; exact g2
      have hbw : b < wr.heap.size := Nat.lt_of_lt_of_le hbW HB.out.size
      obtain ⟨x1, x2⟩ := x
      obtain ⟨nr, hnr⟩ : ∃ n, (readyOf ep lk).length = n := ⟨_, rfl⟩
      obtain ⟨nk, hnk⟩ : ∃ n, (leftOf ep lk).length = n := ⟨_, rfl⟩
      rw [hnr, hnk] at HC
      rw [hnr] at HR
      rw [hnk] at HK
      have hcc := HC.out
      have HNR := Lib.hid hnr
      have HNK := Lib.hid hnk
      obtain ⟨ra, rc, hrv⟩ := own_form HR.out
      obtain ⟨ka, kc, hkv⟩ := own_form HK.out
      subst hrv hkv
      clear hx g1 g2 hlk hnr hnk hkx
      dsimp only at hxu k0 k1
      have hsz := HB.out.size
      by_cases q1 : x1 ≤ ep
      · have p1 : (x1 : Int) ≤ ep := by omega
        by_cases q2 : x1 + 2 ≤ ep
        · have p2 : (2 : Int) ≤ (ep : Int) - x1 := by omega
          have HRB : Hid (readyB ep (x1, x2) = true) := decide_eq_true q2
          go_wp2_with (at_builtin; refine wpList_append_own _ rfl (.tmp 29) (.tmp 32) 23 rfl W.heap.size 3 i1 (.int .i64 0) 1 8 Try.underlying23 hi1 hy0 hy1 hy2 rfl (by decide) _ _ _ rfl ((HR.out.alloc _).alloc _) ⟨wr.heap.size + 1, 0, none⟩ 1 1 [.int .i64 x2] rfl rfl (World.news_of_block (cs := #[.int .i64 x2]) (t := 3) (fr := (0, 0)) (new_second wr _ _)) (fun u hu => by simp at hu; subst hu; rfl) (by unfold maxLen; omega) (by omega) (by simp; omega) ?_)
          intro v2 w2 hown hgrow hnil
          obtain ⟨ra2, rc2, hv2⟩ := own_form hown
          subst hv2
          have HB3 : Hid (Below W.heap.size W w2) := ((HB.out.alloc hsz _).alloc (by simp; omega) _).grown hgrow (by simp; omega) (fun q hq => (HR.out.lt q hq).1)
          have HK3 : Hid (w2.ownsRow W.heap.size 85 2 (.slice ka nk kc) nk (cellsL (leftOf ep lk))) := own_grown ((HK.out.alloc _).alloc _) ((HR.out.alloc _).alloc _) (by decide) hgrow
          have HR3 := Lib.hid hown
          clear hown hgrow hnil HR HK HB k0 k1
          go_wp2_with fail
          go_roundw
          case rel =>
            refine ⟨k + 1, by omega, by go_num, ?_, ?_, ?_, HB3.out⟩
            · show World.ownsRow _ _ _ _ _ _ _
              rw [HT.out, ready_snoc, if_pos HRB.out, List.length_append, HNR.out, intsV_app]; exact HR3.out
            · show World.ownsRow _ _ _ _ _ _ _
              rw [HT.out, left_snoc, if_pos HRB.out, HNK.out]; exact HK3.out
            · show _ ∧ _
              rw [HT.out, left_snoc, ready_snoc, if_pos HRB.out, if_pos HRB.out, List.length_append, HNR.out, HNK.out, List.length_singleton]; exact ⟨by omega, by omega⟩
          case measure => simp [intOf]; omega
        · have p2 : ¬ (2 : Int) ≤ (ep : Int) - x1 := by omega
          have HRB : Hid (¬ readyB ep (x1, x2) = true) := by show ¬ decide _ = true; rw [decide_eq_false q2]; exact Bool.false_ne_true
          go_wp2_with (at_builtin; refine wpList_append_own _ rfl (.tmp 34) (.tmp 36) 39 rfl W.heap.size 85 i0 (.agg #[.int .u64 0, .int .i64 0]) 2 16 Try.underlying39 hi0 hz0 hz1 hz2 rfl (by decide) _ _ _ rfl ((HK.out.alloc _).alloc _) ⟨wr.heap.size + 1, 0, none⟩ 1 1 [.int .u64 x1, .int .i64 x2] rfl rfl (World.news_of_block (cs := #[.int .u64 x1, .int .i64 x2]) (t := 85) (fr := (0, 0)) (new_second wr _ _)) (fun u hu => by simp at hu; rcases hu with rfl | rfl <;> rfl) (by unfold maxLen; omega) (by omega) (by simp; omega) ?_)
          intro v2 w2 hown hgrow hnil
          obtain ⟨ra2, rc2, hv2⟩ := own_form hown
          subst hv2
          have HB3 : Hid (Below W.heap.size W w2) := ((HB.out.alloc hsz _).alloc (by simp; omega) _).grown hgrow (by simp; omega) (fun q hq => (HK.out.lt q hq).1)
          have HR3 : Hid (w2.ownsRow W.heap.size 3 1 (.slice ra nr rc) nr (intsV (readyOf ep lk))) := own_grown ((HR.out.alloc _).alloc _) ((HK.out.alloc _).alloc _) (by decide) hgrow
          have HK3 := Lib.hid hown
          clear hown hgrow hnil HR HK HB k0 k1
          go_wp2_with fail
          go_roundw
          case rel =>
            refine ⟨k + 1, by omega, by go_num, ?_, ?_, ?_, HB3.out⟩
            · show World.ownsRow _ _ _ _ _ _ _
              rw [HT.out, ready_snoc, if_neg HRB.out, HNR.out]; exact HR3.out
            · show World.ownsRow _ _ _ _ _ _ _
              rw [HT.out, left_snoc, if_neg HRB.out, List.length_append, HNK.out, cellsL_snoc]; exact HK3.out
            · show _ ∧ _
              rw [HT.out, left_snoc, ready_snoc, if_neg HRB.out, if_neg HRB.out, List.length_append, HNR.out, HNK.out, List.length_singleton]; exact ⟨by omega, by omega⟩
          case measure => simp [intOf]; omega
      · have p1 : ¬ (x1 : Int) ≤ ep := by omega
        have HRB : Hid (¬ readyB ep (x1, x2) = true) := by show ¬ decide _ = true; rw [decide_eq_false (by dsimp only; omega)]; exact Bool.false_ne_true
        go_wp2_with (at_builtin; refine wpList_append_own _ rfl (.tmp 34) (.tmp 36) 39 rfl W.heap.size 85 i0 (.agg #[.int .u64 0, .int .i64 0]) 2 16 Try.underlying39 hi0 hz0 hz1 hz2 rfl (by decide) _ _ _ rfl ((HK.out.alloc _).alloc _) ⟨wr.heap.size + 1, 0, none⟩ 1 1 [.int .u64 x1, .int .i64 x2] rfl rfl (World.news_of_block (cs := #[.int .u64 x1, .int .i64 x2]) (t := 85) (fr := (0, 0)) (new_second wr _ _)) (fun u hu => by simp at hu; rcases hu with rfl | rfl <;> rfl) (by unfold maxLen; omega) (by omega) (by simp; omega) ?_)
        intro v2 w2 hown hgrow hnil
        obtain ⟨ra2, rc2, hv2⟩ := own_form hown
        subst hv2
        have HB3 : Hid (Below W.heap.size W w2) := ((HB.out.alloc hsz _).alloc (by simp; omega) _).grown hgrow (by simp; omega) (fun q hq => (HK.out.lt q hq).1)
        have HR3 : Hid (w2.ownsRow W.heap.size 3 1 (.slice ra nr rc) nr (intsV (readyOf ep lk))) := own_grown ((HR.out.alloc _).alloc _) ((HK.out.alloc _).alloc _) (by decide) hgrow
        have HK3 := Lib.hid hown
        clear hown hgrow hnil HR HK HB k0 k1
        go_wp2_with fail
        go_roundw
        case rel =>
          refine ⟨k + 1, by omega, by go_num, ?_, ?_, ?_, HB3.out⟩
          · show World.ownsRow _ _ _ _ _ _ _
            rw [HT.out, ready_snoc, if_neg HRB.out, HNR.out]; exact HR3.out
          · show World.ownsRow _ _ _ _ _ _ _
            rw [HT.out, left_snoc, if_neg HRB.out, List.length_append, HNK.out, cellsL_snoc]; exact HK3.out
          · show _ ∧ _
            rw [HT.out, left_snoc, ready_snoc, if_neg HRB.out, if_neg HRB.out, List.length_append, HNR.out, HNK.out, List.length_singleton]; exact ⟨by omega, by omega⟩
        case measure => simp [intOf]; omega
    · obtain rfl : k = N := by omega
      have hq : ¬ (k : Int) < k := by omega
      have hBl := HL.out.bx.lt
      have hbx : Boxed wr B 41 (.slice ad k cp) := (HB.out.block B hBl).trans HL.out.bx
      have d0 := hbx.cell
      have d1 := hbx.lt
      have d2 := hbx.frozen
      have HX := Lib.hid hbx
      have htk : l.take k = l := List.take_of_length_le (by rw [← HN.out]; exact Nat.le_refl _)
      rw [htk] at HR HK HC
      obtain ⟨nk, hnk⟩ : ∃ n, (leftOf ep l).length = n := ⟨_, rfl⟩
      rw [hnk] at HK HC
      have HNK := Lib.hid hnk
      obtain ⟨ka, kc, hkv⟩ := own_form HK.out
      obtain ⟨nr, hnr⟩ : ∃ n, (readyOf ep l).length = n := ⟨_, rfl⟩
      rw [hnr] at HR
      have HNR := Lib.hid hnr
      obtain ⟨ra, rc, hrv⟩ := own_form HR.out
      subst hkv hrv
      clear hbx htk hnk hnr
      go_wp2_with fail
      go_ret
      have hkb : ∀ q, (Value.slice ka nk kc).ownBlock = some q → W.heap.size ≤ q := fun q hq => (HK.out.lt q hq).1
      have hrb : ∀ q, (Value.slice ra nr rc).ownBlock = some q → W.heap.size ≤ q := fun q hq => (HR.out.lt q hq).1
      refine ⟨_, _, rfl, by rw [HNR.out]; exact ownsRow_setCell_other HR.out (fun e => by have := hrb _ e; dsimp only at this; omega) _, ⟨HX.out.set _, ?_⟩, fun q hq => ⟨hkb q hq, fun e => ?_⟩, ⟨HB.out.os, HB.out.tape, HB.out.output, by rw [size_setCell]; exact HB.out.size, fun q hq hn => (Below.heap_setCell wr ⟨B, 0, none⟩ _ q (fun e => hn (.inl e))).trans (HB.out.block q hq), fun q hq hf => ?_⟩⟩
      · rw [HNK.out]
        exact ownsRow_setCell_other (own_base0 HK.out) (fun e => by have := hkb _ e; dsimp only at this; omega) _
      · obtain ⟨c1, h1⟩ := own_cells HK.out hq
        obtain ⟨c2, h2⟩ := own_cells HR.out e
        exact block_ne h1 h2 (by decide) rfl
      · rcases hf with rfl | hf
        · exact .inl rfl
        · have := hkb q hf; omega
end Go.Proofs.Ytefmojohabdjcaa

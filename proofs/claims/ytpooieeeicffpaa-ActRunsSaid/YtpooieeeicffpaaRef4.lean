/-
  The document's Turn and Rest.
-/
import Derived.Test.YtpooieeeicffpaaLogM
import Derived.Test.YtpooieeeicffpaaTurnC
import Derived.BigQuiet
import Derived.OwnWalk
set_option linter.unusedVariables false
set_option linter.unusedSimpArgs false
namespace Go.Proofs.Ytpooieeeicffpaa
open Go Go.RowKit

def rowD (N : Nat) (d : Nat → Nat) : List Value := (List.range N).map fun i => Value.int .i64 (d i)
theorem rowD_len (N : Nat) (d : Nat → Nat) : (rowD N d).length = N := by simp [rowD]
theorem rowD_at {N : Nat} (d : Nat → Nat) {i : Nat} (h : i < N) : (rowD N d)[i]? = some (.int .i64 (d i)) := by simp [rowD, h]
theorem rowD_one (N : Nat) (d : Nat → Nat) : ∀ u ∈ rowD N d, u.oneCell' = true := by
  intro u hu; simp only [rowD, List.mem_map] at hu; obtain ⟨n, _, rfl⟩ := hu; rfl
theorem rowD_set (N : Nat) (d : Nat → Nat) (k v : Nat) : (rowD N d).set k (.int .i64 v) = rowD N (put1 d k v) := by
  apply List.ext_getElem?
  intro i
  by_cases hi : i < N
  · rw [rowD_at _ hi]
    by_cases hk : k = i
    · subst hk
      rw [List.getElem?_set_self (by rw [rowD_len]; exact hi), put1_same]
    · rw [List.getElem?_set_ne hk, rowD_at _ hi, put1_other _ _ (Ne.symm hk)]
  · rw [List.getElem?_eq_none (by rw [List.length_set, rowD_len]; omega), List.getElem?_eq_none (by rw [rowD_len]; omega)]
theorem own_set {w : World} {B e g n cap : Nat} {xs : List Value} (h : w.ownsRow B e 1 (.slice (some ⟨g, 0, none⟩) n cap) n xs) {k : Nat} (hk : k < n) (u : Value) :
    (w.setCell ⟨g, k, none⟩ u).ownsRow B e 1 (.slice (some ⟨g, 0, none⟩) n cap) n (xs.set k u) := by
  obtain ⟨h1, h2⟩ := h
  refine ⟨by rw [List.length_set]; exact h1, ?_⟩
  rcases h2 with ⟨h2, _⟩ | ⟨g', cap', cur, h2, hg, hgg, h3, h4, h5, h6⟩
  · cases h2
  · cases h2
    refine .inr ⟨g, cap, cur.setIfInBounds k u, rfl, hg, ?_, h3, h4, by rw [Array.size_setIfInBounds]; exact h5, ?_⟩
    · exact Cells.set (t := e) (cur := cur) hgg k u
    · rw [← h6, Array.toList_setIfInBounds, List.take_set]

theorem idx_cases {N : Nat} (h : 0 < N) (p : Int) : (idx N p : Int) = if p.tmod N < 0 then p.tmod N + N else p.tmod N := by
  have h0 : (0 : Int) < N := by omega
  have h1 := Int.lt_tmod_of_pos p h0
  have h2 := Int.tmod_lt_of_pos p h0
  rw [← idx_int h]
  split
  · rename_i hneg
    rw [Int.tmod_eq_of_lt (by omega) (by omega)]
  · rename_i hpos
    rw [Int.tmod_eq_emod_of_nonneg (by omega), Int.add_emod_right, Int.emod_eq_of_lt (by omega) h2]

/-- The document's answer: a row that is its own. -/
def Ans (w : World) (N : Nat) (d : Nat → Nat) (c : Nat) (e : Ending) (w' : World) : Prop :=
  ∃ g cap, e = .returned (.tuple #[.slice (some ⟨g, 0, none⟩) N cap, .int .i64 c]) ∧ w'.ownsRow w.heap.size 3 1 (.slice (some ⟨g, 0, none⟩) N cap) N (rowD N d) ∧ Below w.heap.size w w'

theorem Ans.later {w w' w'' : World} {N : Nat} {d : Nat → Nat} {c : Nat} {e : Ending} (h : Ans w N d c e w') (hb : Below w'.heap.size w' w'') : Ans w N d c e w'' := by
  obtain ⟨g, cap, h1, h2, h3⟩ := h
  exact ⟨g, cap, h1, own_below h2 hb, h3.trans (hb.mono h3.size)⟩

/-- The state of the document's loop. -/
structure RefS (w : World) (N : Nat) (g cap : Nat) (d : Nat → Nat) (W : World) : Prop where
  own : W.ownsRow w.heap.size 3 1 (.slice (some ⟨g, 0, none⟩) N cap) N (rowD N d)
  below : Below w.heap.size w W
theorem RefS.cells {w : World} {N g cap : Nat} {d : Nat → Nat} {W : World} (h : RefS w N g cap d W) {i : Nat} (hi : i < N) :
    W.cell? ⟨g, i, none⟩ = some (.int .i64 (d i)) ∧ W.frozen? ⟨g, i, none⟩ = false ∧ g < W.heap.size := by
  obtain ⟨c, hc⟩ := own_cells h.own (k := g) rfl
  exact ⟨by rw [h.own.cellAt i (by omega)]; exact rowD_at _ hi, Cells.frozen hc i, Cells.lt hc⟩
theorem RefS.set {w : World} {N g cap : Nat} {d : Nat → Nat} {W : World} (h : RefS w N g cap d W) {i : Nat} (hi : i < N) (v : Nat) : RefS w N g cap (put1 d i v) (W.setCell ⟨g, i, none⟩ (.int .i64 v)) :=
  ⟨by rw [← rowD_set]; exact own_set h.own hi _, h.below.setCell (p := ⟨g, i, none⟩) (h.own.lt g rfl).1 _⟩
theorem RefS.drewN {w : World} {N g cap : Nat} {d : Nat → Nat} {W : World} (h : RefS w N g cap d W) (n : Nat) : RefS w N g cap d (W.drewN n) := ⟨h.own, below_drewN h.below n⟩

set_option maxRecDepth 20000 in
set_option maxHeartbeats 4000000 in
theorem raTurn_c (p : LP) (hN : p.N ≤ 100) (hn : ∀ i, p.n i ≤ 100) (s : LS) (picks : List Int) (hp : picks.length ≤ 1000) (lv dv pv : Value) (w : World)
    (hd : ∀ k, k ≤ picks.length → ∀ i, ((logMach p).turn s (picks.take k)).1.d i ≤ 2000) (hc : ∀ k, k ≤ picks.length → ((logMach p).turn s (picks.take k)).2 ≤ k)
    (h0 : RowAt w lv (rowD p.N p.n)) (h1 : RowAt w dv (rowD p.N s.d)) (h2 : RowAt w pv (intsV picks)) (hz : p.N = 0 → dv = .slice none 0 0) :
    Calls Try.prog 14 #[lv, dv, pv] w fun e w' => Ans w p.N ((logMach p).turn0 s picks).1.d ((logMach p).turn0 s picks).2 e w' := by
  obtain ⟨i0, hi0, hz0, hz1, hz2⟩ := info_parts infoInt
  obtain ⟨la, lc, rfl⟩ := h0.form
  obtain ⟨pa', pc, rfl⟩ := h2.form
  rw [rowD_len] at h0 ⊢
  rw [intsV_len] at h2 ⊢
  obtain ⟨Np, hNp⟩ : ∃ Np, picks.length = Np := ⟨_, rfl⟩
  rw [hNp] at h2 hp hd hc ⊢
  have HL0 := Lib.hid h0
  have HP0 := Lib.hid h2
  have HNp := Lib.hid hNp
  have HC := Lib.hid hc
  have HDD := Lib.hid hd
  by_cases hz3 : p.N = 0
  · obtain rfl := hz hz3
    have ho : (w.alloc (.cells #[] 3)).ownsRow w.heap.size 3 1 (.slice (some ⟨w.heap.size, 0, none⟩) 0 0) 0 [] :=
      ⟨rfl, .inr ⟨_, 0, #[], rfl, Nat.le_refl _, heap_alloc_new _ _, by simp, by simp, by simp⟩⟩
    have hb : Below w.heap.size w (w.alloc (.cells #[] 3)) := (Below.refl _ _).alloc (Nat.le_refl _) _
    have HO := Lib.hid ho
    have HB := Lib.hid hb
    have e1 : (logMach p).turn0 s picks = (s, 0) := by unfold Mach.turn0; rw [if_pos (show (logMach p).N = 0 from hz3)]
    rw [e1, hz3]
    clear h0 h1 h2 hNp hz ho hb hz3 hc hd e1
    go_enter Try.func14, Try.ntmps14
    go_wp2_with fail
    go_loopw [9, 10] (fun c i wr => c = .int .i64 0 ∧ i = .int .i64 0 ∧ wr = w.alloc (.cells #[] 3)) (fun _ i _ => 0)
    case atStart => exact ⟨rfl, rfl, rfl⟩
    case round =>
      obtain ⟨rfl, rfl, rfl⟩ := hrel
      by_cases hk : 0 < Np
      · have hk2 : (0 : Int) < Np := by omega
        go_wp2_with fail
        go_ret2
        exact ⟨_, _, rfl, HO.out, HB.out⟩
      · have hk2 : ¬ (0 : Int) < Np := by omega
        go_wp2_with fail
        go_ret2
        exact ⟨_, _, rfl, HO.out, HB.out⟩
  · have hN0 : 0 < p.N := by omega
    obtain ⟨da, dc, rfl⟩ : ∃ da dc, dv = .slice (some da) p.N dc := by
      rcases h1 with ⟨_, h⟩ | ⟨ad, cap, h, _⟩
      · have := congrArg List.length h; rw [rowD_len] at this; simp at this; omega
      · rw [rowD_len] at h; exact ⟨ad, cap, h⟩
    have hq1 : ¬ (p.N = 0) := hz3
    have e1 : (logMach p).turn0 s picks = (logMach p).turn s picks := by unfold Mach.turn0; rw [if_neg (show ¬ (logMach p).N = 0 from hz3)]
    rw [e1]
    have hpN : (logMach p).N = p.N := rfl
    obtain ⟨m, hm⟩ : ∃ m, m = logMach p := ⟨_, rfl⟩
    obtain ⟨N, hNN⟩ : ∃ N, N = p.N := ⟨_, rfl⟩
    have hnews : ∀ j u, (rowD p.N s.d)[j]? = some u → w.cell? (da.add j) = some u := h1.news
    have ho : (w.alloc (.cells #[] 3)).ownsRow w.heap.size 3 1 (.slice (some ⟨w.heap.size, 0, none⟩) 0 0) 0 [] :=
      ⟨rfl, .inr ⟨_, 0, #[], rfl, Nat.le_refl _, heap_alloc_new _ _, by simp, by simp, by simp⟩⟩
    have hn2 : ∀ j u, (rowD p.N s.d)[j]? = some u → (w.alloc (.cells #[] 3)).cell? (da.add j) = some u := fun j u hj => by
      obtain ⟨b, off, e2, hlt, hc⟩ := h1.at hj
      cases e2
      have := ((Below.refl w.heap.size w).alloc (Nat.le_refl _) (.cells #[] 3)).cell (p := ⟨b, off + j, none⟩) hlt
      rw [addr_add, this]; exact hc
    have hlen := rowD_len p.N s.d
    have hone := Lib.hid (rowD_one p.N s.d)
    have hnn := Lib.hid hn
    rw [← hm] at HC HDD e1 hpN ⊢
    rw [← hNN] at hN hN0 hq1 HL0 hpN hlen hn2 hone ⊢
    have HM := Lib.hid hm
    have HPN := Lib.hid hpN
    have HN := Lib.hid hNN
    clear h0 h1 h2 hNp hz hz3 hc hd e1 hnews hm hNN hpN hn
    have hzz : ((N : Int) == 0) = false := by rw [beq_eq_false_iff_ne]; omega
    have hz4 : ¬ ((N : Int) = 0) := by omega
    have hz5 : (0 : Int) < N := by omega
    go_enter Try.func14, Try.ntmps14
    go_wp2_with (at_builtin; refine wpList_append_own _ rfl (.tmp 12) (.tmp 13) 23 rfl w.heap.size 3 i0 (.int .i64 0) 1 8 Try.underlying23 hi0 hz0 hz1 hz2 rfl (by decide) _ _ _ rfl ho da N dc (rowD N s.d) rfl (by rw [hlen]; omega) hn2 hone.out (by unfold maxLen; omega) (by omega) (by simp) ?_)
    intro v' w1 hown hgrow _
    have hb1 : Below w.heap.size w w1 := ((Below.refl w.heap.size w).alloc (Nat.le_refl _) _).grown hgrow (by simp) (fun q hq => by cases hq; exact Nat.le_refl _)
    obtain ⟨g, cap, hv⟩ : ∃ g cap, v' = .slice (some ⟨g, 0, none⟩) N cap := by
      rcases hown.2 with ⟨_, h⟩ | ⟨g, cap, _, h, _⟩
      · omega
      · exact ⟨g, cap, h⟩
    subst hv
    have HS : Hid (RefS w N g cap s.d w1) := ⟨hown, hb1⟩
    clear hown hgrow hb1 ho hn2 hlen hone
    go_wp2_with fail
    go_loopw [9, 10] (fun c i wr => ∃ k : Nat, k ≤ Np ∧ c = .int .i64 (m.turn s (picks.take k)).2 ∧ i = .int .i64 k ∧ Hid (RefS w N g cap (m.turn s (picks.take k)).1.d wr)) (fun _ i _ => Np - (intOf i).toNat)
    case atStart => exact ⟨0, Nat.zero_le _, rfl, rfl, HS⟩
    case round =>
      obtain ⟨k, hk, rfl, rfl, HR⟩ := hrel
      have hck := HC.out k hk
      have hdk := HDD.out k hk
      obtain ⟨S, hS⟩ : ∃ S, m.turn s (picks.take k) = S := ⟨_, rfl⟩
      obtain ⟨s1, d1⟩ := S
      rw [hS] at HR hck hdk ⊢
      dsimp only at HR hck hdk ⊢
      have HSS := Lib.hid hS
      clear hS HS
      by_cases hlt : k < Np
      · have hkl : k < picks.length := by rw [HNp.out]; exact hlt
        obtain ⟨q, hq'⟩ : ∃ q, picks[k] = q := ⟨_, rfl⟩
        have hkv := intsV_at hkl
        rw [hq'] at hkv
        have HTK : Hid (m.turn s (picks.take (k + 1)) = m.pick1 (s1, d1) q) := by
          show _ = _
          rw [List.take_succ_eq_append_getElem hkl, hq', Mach.turn_snoc, HSS.out]
        have hix := idx_cases hN0 q
        have hi := idx_lt hN0 q
        have HPK : Hid (m.pick1 (s1, d1) q = if p.n (idx N q) ≤ s1.d (idx N q) then (s1, d1) else (m.nx s1 (idx N q), d1 + 1)) := by
          show _ = _
          unfold Mach.pick1
          rw [HPN.out, HM.out]
          show (if decide _ = true then _ else _) = _
          simp only [decide_eq_true_eq]
        have HNX : Hid ((m.nx s1 (idx N q)).d = put1 s1.d (idx N q) (s1.d (idx N q) + 1)) := by
          show _ = _
          rw [HM.out]; rfl
        obtain ⟨b1, o1, rfl, hbl, hc1⟩ := HP0.out.at hkv
        have hnI := hnn.out (idx N q)
        have hdI := hdk (idx N q)
        obtain ⟨b2, o2, rfl, hbl2, hc2⟩ := HL0.out.at (rowD_at p.n hi)
        have hl1 := Int.lt_tmod_of_pos q hz5
        have hl2 := Int.tmod_lt_of_pos q hz5
        obtain ⟨x0, x1, x2⟩ := HR.out.cells hi
        have hc1' : wr.cell? ⟨b1, o1 + k, none⟩ = some (.int .i64 q) := (HR.out.below.cell (p := ⟨b1, o1 + k, none⟩) hbl).trans hc1
        obtain ⟨I, hI⟩ : ∃ I, idx N q = I := ⟨_, rfl⟩
        rw [hI] at hi hix hc2 HPK HNX x0 x1 hnI hdI
        have hc2' : wr.cell? ⟨b2, o2 + I, none⟩ = some (.int .i64 (p.n I)) := (HR.out.below.cell (p := ⟨b2, o2 + I, none⟩) hbl2).trans hc2
        obtain ⟨dI, hdI'⟩ : ∃ dI, s1.d I = dI := ⟨_, rfl⟩
        obtain ⟨nI, hnI'⟩ : ∃ nI, p.n I = nI := ⟨_, rfl⟩
        rw [hdI'] at x0 HPK HNX hdI
        rw [hnI'] at hc2' HPK hnI
        have hkq : (k : Int) < Np := by omega
        clear hI hkv hq' hkl hc1 hc2 hnI' hdk
        have HDI := Lib.hid hdI'
        clear hdI'
        have hstep : ∀ (wr' : World), RefS w N g cap s1.d wr' → Hid (if nI ≤ dI then RefS w N g cap (m.turn s (picks.take (k + 1))).1.d wr' else RefS w N g cap (m.turn s (picks.take (k + 1))).1.d (wr'.setCell ⟨g, I, none⟩ (.int .i64 ((dI + 1 : Nat) : Int)))) := fun wr' h => by
          show (if nI ≤ dI then _ else _)
          rw [HTK.out, HPK.out]
          split
          · exact h
          · rw [show ((m.nx s1 I, d1 + 1) : LS × Nat).1 = m.nx s1 I from rfl, HNX.out]
            exact h.set hi _
        have HST := Lib.hid hstep
        have hcnt : Hid ((m.turn s (picks.take (k + 1))).2 = if nI ≤ dI then d1 else d1 + 1) := by
          show _ = _
          rw [HTK.out, HPK.out]; split <;> rfl
        clear hstep
        by_cases hneg : q.tmod N < 0
        · skip
          have hix2 : q.tmod N + N = (I : Int) := by rw [hix, if_pos hneg]
          clear hix
          by_cases hle : nI ≤ dI
          · have hg : decide ((dI : Int) < nI) = false := decide_eq_false (by omega)
            have hc3 := hcnt.out
            rw [if_pos hle] at hc3
            have H3 := Lib.hid hc3
            clear hcnt hc3
            go_wp2_with fail
            go_quiet (fail)
            obtain ⟨wq, hwq⟩ : ∃ wq, wr.drewN nq = wq := ⟨_, rfl⟩
            have HW := Lib.hid (HST.out wq (by rw [← hwq]; exact HR.out.drewN _))
            rw [hwq]
            clear hwq x0 x1 x2 hc1' hc2'
            go_wp2_with fail
            go_roundw
            case rel =>
              refine ⟨k + 1, by omega, by rw [H3.out], by go_num, ?_⟩
              have h := HW.out.out
              rw [if_pos hle] at h
              exact h
            case measure => simp [intOf]; omega
          · have hg : decide ((dI : Int) < nI) = true := decide_eq_true (by omega)
            have hc3 := hcnt.out
            rw [if_neg hle] at hc3
            have H3 := Lib.hid hc3
            clear hcnt hc3
            go_wp2_with fail
            go_quiet (fail)
            obtain ⟨wq, hwq⟩ : ∃ wq, wr.drewN nq = wq := ⟨_, rfl⟩
            have hrq : RefS w N g cap s1.d wq := by rw [← hwq]; exact HR.out.drewN _
            have HW := Lib.hid (HST.out wq hrq)
            obtain ⟨y0, y1, y2⟩ := hrq.cells hi
            rw [HDI.out] at y0
            rw [hwq]
            clear hwq x0 x1 x2 hc1' hc2' hrq
            go_wp2_with fail
            go_roundw
            case rel =>
              refine ⟨k + 1, by omega, by rw [H3.out]; go_num, by go_num, ?_⟩
              have h := HW.out.out
              rw [if_neg hle] at h
              exact h
            case measure => simp [intOf]; omega
        · skip
          have hix2 : q.tmod N = (I : Int) := by rw [hix, if_neg hneg]
          clear hix
          by_cases hle : nI ≤ dI
          · have hg : decide ((dI : Int) < nI) = false := decide_eq_false (by omega)
            have hc3 := hcnt.out
            rw [if_pos hle] at hc3
            have H3 := Lib.hid hc3
            clear hcnt hc3
            go_wp2_with fail
            go_quiet (fail)
            obtain ⟨wq, hwq⟩ : ∃ wq, wr.drewN nq = wq := ⟨_, rfl⟩
            have HW := Lib.hid (HST.out wq (by rw [← hwq]; exact HR.out.drewN _))
            rw [hwq]
            clear hwq x0 x1 x2 hc1' hc2'
            go_wp2_with fail
            go_roundw
            case rel =>
              refine ⟨k + 1, by omega, by rw [H3.out], by go_num, ?_⟩
              have h := HW.out.out
              rw [if_pos hle] at h
              exact h
            case measure => simp [intOf]; omega
          · have hg : decide ((dI : Int) < nI) = true := decide_eq_true (by omega)
            have hc3 := hcnt.out
            rw [if_neg hle] at hc3
            have H3 := Lib.hid hc3
            clear hcnt hc3
            go_wp2_with fail
            go_quiet (fail)
            obtain ⟨wq, hwq⟩ : ∃ wq, wr.drewN nq = wq := ⟨_, rfl⟩
            have hrq : RefS w N g cap s1.d wq := by rw [← hwq]; exact HR.out.drewN _
            have HW := Lib.hid (HST.out wq hrq)
            obtain ⟨y0, y1, y2⟩ := hrq.cells hi
            rw [HDI.out] at y0
            rw [hwq]
            clear hwq x0 x1 x2 hc1' hc2' hrq
            go_wp2_with fail
            go_roundw
            case rel =>
              refine ⟨k + 1, by omega, by rw [H3.out]; go_num, by go_num, ?_⟩
              have h := HW.out.out
              rw [if_neg hle] at h
              exact h
            case measure => simp [intOf]; omega
      · obtain rfl : k = Np := by omega
        have HT : Hid (m.turn s picks = (s1, d1)) := by
          show _ = _
          rw [← HSS.out, List.take_of_length_le (by rw [HNp.out]; exact Nat.le_refl _)]
        go_wp2_with fail
        go_ret2
        rw [HT.out]
        exact ⟨_, _, rfl, HR.out.own, HR.out.below⟩
end Go.Proofs.Ytpooieeeicffpaa

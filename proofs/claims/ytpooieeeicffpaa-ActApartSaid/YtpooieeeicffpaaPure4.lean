/-
  What turns and rounds come to: plain mathematics.
-/
import Derived.Test.YtpooieeeicffpaaRef4
set_option linter.unusedVariables false
set_option linter.unusedSimpArgs false
namespace Go.Proofs.Ytpooieeeicffpaa
open Go Go.RowKit

section
variable {σ : Type} (m : Mach σ)
theorem turn_le (s : σ) (l : List Int) : (m.turn s l).2 ≤ l.length := by
  have h : ∀ (l : List Int) (x : σ × Nat), (l.foldl m.pick1 x).2 ≤ x.2 + l.length := by
    intro l
    induction l with
    | nil => intro x; exact Nat.le_refl _
    | cons p l ih =>
      intro x
      have h1 := ih (m.pick1 x p)
      rw [List.foldl_cons, List.length_cons]
      have h2 : (m.pick1 x p).2 ≤ x.2 + 1 := by
        unfold Mach.pick1
        split
        · exact Nat.le_succ _
        · exact Nat.le_refl _
      omega
  have := h l (s, 0)
  unfold Mach.turn
  simpa using this
theorem turn_inv (I : σ → Prop) (hN : 0 < m.N) (h : ∀ s i, i < m.N → I s → m.over s i = false → I (m.nx s i)) (s : σ) (hs : I s) (l : List Int) : I (m.turn s l).1 := by
  have h : ∀ (l : List Int) (x : σ × Nat), I x.1 → I (l.foldl m.pick1 x).1 := by
    intro l
    induction l with
    | nil => intro x hx; exact hx
    | cons p l ih =>
      intro x hx
      rw [List.foldl_cons]
      refine ih _ ?_
      unfold Mach.pick1
      cases ho : m.over x.1 (idx m.N p) with
      | true => exact hx
      | false => exact h _ _ (idx_lt hN p) hx ho
  exact h l (s, 0) hs
theorem turn_inv' (I : σ → Prop) (h : ∀ s i, I s → m.over s i = false → I (m.nx s i)) (s : σ) (hs : I s) (l : List Int) : I (m.turn s l).1 := by
  have h : ∀ (l : List Int) (x : σ × Nat), I x.1 → I (l.foldl m.pick1 x).1 := by
    intro l
    induction l with
    | nil => intro x hx; exact hx
    | cons p l ih =>
      intro x hx
      rw [List.foldl_cons]
      refine ih _ ?_
      unfold Mach.pick1
      cases ho : m.over x.1 (idx m.N p) with
      | true => exact hx
      | false => exact h _ _ hx ho
  exact h l (s, 0) hs
theorem upto_inv (I : σ → Prop) (h : ∀ s i, i < m.N → I s → m.over s i = false → I (m.nx s i)) (s : σ) (hs : I s) (k : Nat) (hk : k ≤ m.N) : I (m.upto s k).1 := by
  induction k with
  | zero => exact hs
  | succ k ih =>
    rw [Mach.upto_succ]
    unfold Mach.go1
    cases ho : m.over (m.upto s k).1 k with
    | true => exact ih (by omega)
    | false => exact h _ _ (by omega) (ih (by omega)) ho
theorem rest_inv (I : σ → Prop) (h : ∀ s i, i < m.N → I s → m.over s i = false → I (m.nx s i)) (L : Nat) (s : σ) (hs : I s) : I (m.rest L s).1 := by
  induction L generalizing s with
  | zero => exact hs
  | succ L ih =>
    have h1 := upto_inv m I h s hs m.N (Nat.le_refl _)
    unfold Mach.rest
    split
    · exact ih _ h1
    · exact h1
theorem upto_false (s : σ) (k : Nat) (h : (m.upto s k).2 = false) : (m.upto s k).1 = s ∧ ∀ i, i < k → m.over s i = true := by
  induction k with
  | zero => exact ⟨rfl, fun i hi => by omega⟩
  | succ k ih =>
    rw [Mach.upto_succ] at h ⊢
    unfold Mach.go1 at h ⊢
    cases ho : m.over (m.upto s k).1 k with
    | true =>
      rw [ho] at h
      obtain ⟨h1, h2⟩ := ih h
      refine ⟨h1, fun i hi => ?_⟩
      by_cases hik : i = k
      · subst hik; rw [h1] at ho; exact ho
      · exact h2 i (by omega)
    | false =>
      rw [ho] at h
      cases h
end

/-- The log is as long as there were steps. -/
theorem turn_count (p : LP) (hsl : ∀ i, p.sl i = 0) (s : LS) (hs : (s.lg 0).length = 0) (l : List Int) : (((logMach p).turn s l).1.lg 0).length = ((logMach p).turn s l).2 := by
  have h : ∀ (l : List Int) (x : LS × Nat), (x.1.lg 0).length = x.2 → ((l.foldl (logMach p).pick1 x).1.lg 0).length = (l.foldl (logMach p).pick1 x).2 := by
    intro l
    induction l with
    | nil => intro x hx; exact hx
    | cons q l ih =>
      intro x hx
      rw [List.foldl_cons]
      refine ih _ ?_
      unfold Mach.pick1
      split
      · exact hx
      · show (put1 x.1.lg (p.sl _) (x.1.lg (p.sl _) ++ [_]) 0).length = x.2 + 1
        rw [hsl, put1_same, List.length_append, List.length_singleton, hx]
  exact h l (s, 0) hs

variable {p : LP}
/-- No act did more steps than it has. -/
def LeD (p : LP) (s : LS) : Prop := ∀ i, s.d i ≤ p.n i
theorem LeD.nx (s : LS) (i : Nat) (h : LeD p s) (ho : (logMach p).over s i = false) : LeD p ((logMach p).nx s i) := by
  intro j
  have hd : ¬ p.n i ≤ s.d i := of_decide_eq_false ho
  show put1 s.d i (s.d i + 1) j ≤ p.n j
  by_cases hj : j = i
  · subst hj; rw [put1_same]; omega
  · rw [put1_other _ _ hj]; exact h j
theorem upto_d (s : LS) (k i : Nat) : ((logMach p).upto s k).1.d i = if i < k ∧ s.d i < p.n i then s.d i + 1 else s.d i := by
  induction k with
  | zero => rw [if_neg (by omega)]; rfl
  | succ k ih =>
    rw [Mach.upto_succ]
    unfold Mach.go1
    by_cases ho : p.n k ≤ ((logMach p).upto s k).1.d k
    · rw [if_pos (show (logMach p).over _ k = true from decide_eq_true ho), ih]
      by_cases hik : i = k
      · subst hik
        rw [ih, if_neg (by omega)] at ho
        rw [if_neg (by omega), if_neg (by omega)]
      · by_cases h2 : i < k ∧ s.d i < p.n i
        · rw [if_pos h2, if_pos (by omega)]
        · rw [if_neg h2, if_neg (by omega)]
    · rw [if_neg (show ¬ (logMach p).over _ k = true from fun h => ho (of_decide_eq_true h))]
      show put1 _ k (_ + 1) i = _
      by_cases hik : i = k
      · subst hik
        rw [put1_same, ih, if_neg (by omega)]
        rw [ih, if_neg (by omega)] at ho
        rw [if_pos (by omega)]
      · rw [put1_other _ _ hik, ih]
        by_cases h2 : i < k ∧ s.d i < p.n i
        · rw [if_pos h2, if_pos (by omega)]
        · rw [if_neg h2, if_neg (by omega)]
theorem rest_full (L : Nat) (s : LS) (hle : LeD p s) (h : ∀ i, i < p.N → p.n i ≤ s.d i + L) : ∀ i, i < p.N → ((logMach p).rest L s).1.d i = p.n i := by
  induction L generalizing s with
  | zero => intro i hi; have := hle i; have := h i hi; show s.d i = _; omega
  | succ L ih =>
    intro i hi
    unfold Mach.rest
    split
    · refine ih _ (upto_inv _ (LeD p) (fun s i _ h ho => LeD.nx s i h ho) s hle _ (Nat.le_refl _)) (fun j hj => ?_) i hi
      show p.n j ≤ ((logMach p).upto s p.N).1.d j + L
      rw [upto_d]
      have := h j hj
      split <;> omega
    · rename_i hf
      have h9 : ((logMach p).round s).2 = false := by simpa using hf
      obtain ⟨h1, h2⟩ := upto_false (logMach p) s (logMach p).N h9
      show ((logMach p).upto s (logMach p).N).1.d i = _
      rw [h1]
      have h3 : p.n i ≤ s.d i := of_decide_eq_true (h2 i hi)
      have := hle i
      omega

set_option maxRecDepth 20000 in
set_option maxHeartbeats 4000000 in
theorem raRest_c (p : LP) (hN : p.N ≤ 100) (hn : ∀ i, p.n i ≤ 100) (s : LS) (limit : Int) (L : Nat) (hL : limit.toNat = L) (hLL : L ≤ 1000) (hle : LeD p s) (lv dv : Value) (w : World)
    (h0 : RowAt w lv (rowD p.N p.n)) (h1 : RowAt w dv (rowD p.N s.d)) (hz : p.N = 0 → ∃ g cp, dv = .slice (some g) 0 cp) :
    Calls Try.prog 18 #[lv, dv, .int .i64 limit] w fun e w' => Ans w p.N ((logMach p).rest L s).1.d ((logMach p).rest L s).2 e w' := by
  obtain ⟨i0, hi0, hz0, hz1, hz2⟩ := info_parts infoInt
  obtain ⟨la, lc, rfl⟩ := h0.form
  rw [rowD_len] at h0 ⊢
  obtain ⟨da, dc, rfl⟩ : ∃ da dc, dv = .slice (some da) p.N dc := by
    rcases h1 with ⟨h2, h⟩ | ⟨ad, cap, h, _⟩
    · have := congrArg List.length h; rw [rowD_len] at this
      obtain ⟨g, cp, h3⟩ := hz this
      exact ⟨g, cp, by rw [this]; exact h3⟩
    · rw [rowD_len] at h; exact ⟨ad, cap, h⟩
  obtain ⟨m, hm⟩ : ∃ m, m = logMach p := ⟨_, rfl⟩
  obtain ⟨N, hNN⟩ : ∃ N, N = p.N := ⟨_, rfl⟩
  have ho : (w.alloc (.cells #[] 3)).ownsRow w.heap.size 3 1 (.slice (some ⟨w.heap.size, 0, none⟩) 0 0) 0 [] :=
    ⟨rfl, .inr ⟨_, 0, #[], rfl, Nat.le_refl _, heap_alloc_new _ _, by simp, by simp, by simp⟩⟩
  have hn2 : ∀ j u, (rowD p.N s.d)[j]? = some u → (w.alloc (.cells #[] 3)).cell? (da.add j) = some u := fun j u hj => by
    obtain ⟨b, off, e2, hlt, hc⟩ := h1.at hj
    cases e2
    have := ((Below.refl w.heap.size w).alloc (Nat.le_refl _) (.cells #[] 3)).cell (p := ⟨b, off + j, none⟩) hlt
    rw [addr_add, this]; exact hc
  have hlen := rowD_len p.N s.d
  have hone := Lib.hid (rowD_one p.N s.d)
  have hnn := Lib.hid hn
  have HL0 := Lib.hid h0
  have HLE := Lib.hid hle
  obtain ⟨R, hR⟩ : ∃ R, m.rest L s = R := ⟨_, rfl⟩
  obtain ⟨sE, nE⟩ := R
  rw [← hm]
  rw [hR]
  dsimp only
  rw [← hNN] at hN HL0 hlen hn2 hone ⊢
  have HM := Lib.hid hm
  have HN := Lib.hid hNN
  have HR := Lib.hid hR
  clear h0 h1 hm hNN hn hle hR hz
  go_enter Try.func18, Try.ntmps18
  go_wp2_with (at_builtin; refine wpList_append_own _ rfl (.tmp 12) (.tmp 13) 23 rfl w.heap.size 3 i0 (.int .i64 0) 1 8 Try.underlying23 hi0 hz0 hz1 hz2 rfl (by decide) _ _ _ rfl ho da N dc (rowD N s.d) rfl (by rw [hlen]; omega) hn2 hone.out (by unfold maxLen; omega) (by omega) (by simp) ?_)
  intro v' w1 hown hgrow hnil
  have hb1 : Below w.heap.size w w1 := ((Below.refl w.heap.size w).alloc (Nat.le_refl _) _).grown hgrow (by simp) (fun q hq => by cases hq; exact Nat.le_refl _)
  obtain ⟨g, vc, hv⟩ : ∃ g vc, v' = .slice (some ⟨g, 0, none⟩) N vc := by
    rcases hown.2 with ⟨h, _⟩ | ⟨g, cap, _, h, _⟩
    · exact absurd h hnil
    · exact ⟨g, cap, h⟩
  subst hv
  have HS : Hid (w1.ownsRow w.heap.size 3 1 (.slice (some ⟨g, 0, none⟩) N vc) N (rowD N s.d) ∧ Below w.heap.size w w1) := ⟨hown, hb1⟩
  clear hown hgrow hb1 ho hn2 hlen hone hnil
  go_wp2_with fail
  go_loopw [9] (fun c wr => ∃ (k : Nat) (sk : LS), k ≤ L ∧ c = .int .i64 k ∧ Hid (LeD p sk) ∧ Hid ((sE, nE) = ((m.rest (L - k) sk).1, (m.rest (L - k) sk).2 + k)) ∧ Hid (wr.ownsRow w.heap.size 3 1 (.slice (some ⟨g, 0, none⟩) N vc) N (rowD N sk.d) ∧ Below w.heap.size w wr)) (fun c _ => L - (intOf c).toNat)
  case atStart => exact ⟨0, s, Nat.zero_le _, rfl, HLE.out, HR.out.symm, HS⟩
  case round =>
    obtain ⟨k, sk, hk, rfl, HLk, HEk, HSk⟩ := hrel
    clear HS HR HLE
    by_cases hlt : k < L
    · have hq : (k : Int) < limit := by omega
      have hstep : (sE, nE) = if (m.round sk).2 then ((m.rest (L - (k + 1)) (m.round sk).1).1, (m.rest (L - (k + 1)) (m.round sk).1).2 + (k + 1)) else ((m.round sk).1, k) := by
        rw [HEk.out, show L - k = (L - (k + 1)) + 1 by omega]
        rw [Mach.rest]
        split
        · simp only [Prod.mk.injEq, true_and]; omega
        · simp
      have hle2 : LeD p (m.round sk).1 := by
        rw [HM.out]
        exact upto_inv _ (LeD p) (fun s i _ h ho => LeD.nx s i h ho) sk HLk.out _ (Nat.le_refl _)
      have HST := Lib.hid hstep
      have HL2 := Lib.hid hle2
      clear hstep hle2 HEk
      go_wp2_with fail
      go_loopw [10, 11] (fun b i w2 => ∃ j : Nat, j ≤ N ∧ b = .bool (m.upto sk j).2 ∧ i = .int .i64 j ∧ Hid (w2.ownsRow w.heap.size 3 1 (.slice (some ⟨g, 0, none⟩) N vc) N (rowD N (m.upto sk j).1.d) ∧ Below w.heap.size w w2)) (fun _ i _ => N - (intOf i).toNat)
      case atStart => exact ⟨0, Nat.zero_le _, rfl, rfl, HSk⟩
      case round =>
        obtain ⟨j, hj, rfl, rfl, HSj⟩ := hrel
        clear HSk
        have hdj : (m.upto sk j).1.d j = sk.d j := by rw [HM.out, upto_d, if_neg (by omega)]
        have hup : m.upto sk (j + 1) = m.go1 (m.upto sk j) j := Mach.upto_succ m sk j
        have hgo : m.go1 (m.upto sk j) j = if p.n j ≤ (m.upto sk j).1.d j then m.upto sk j else (m.nx (m.upto sk j).1 j, true) := by
          unfold Mach.go1
          rw [HM.out]
          show (if decide _ = true then _ else _) = _
          simp only [decide_eq_true_eq]
        have hnx : (m.nx (m.upto sk j).1 j).d = put1 (m.upto sk j).1.d j ((m.upto sk j).1.d j + 1) := by rw [HM.out]; rfl
        have hdle := HLk.out j
        have hnle := hnn.out j
        rw [hdj] at hgo hnx
        obtain ⟨U, hU⟩ : ∃ U, m.upto sk j = U := ⟨_, rfl⟩
        obtain ⟨uj, bj⟩ := U
        rw [hU] at hup hgo hnx hdj HSj ⊢
        dsimp only at hnx hdj HSj ⊢
        by_cases hltj : j < N
        · have hq2 : (j : Int) < N := by omega
          obtain ⟨b2, o2, rfl, hbl2, hc2⟩ := HL0.out.at (rowD_at p.n hltj)
          have HR1 : Hid (RefS w N g vc uj.d wr) := ⟨HSj.out.1, HSj.out.2⟩
          obtain ⟨x0, x1, x2⟩ := HR1.out.cells hltj
          have hc2' : wr.cell? ⟨b2, o2 + j, none⟩ = some (.int .i64 (p.n j)) := (HR1.out.below.cell (p := ⟨b2, o2 + j, none⟩) hbl2).trans hc2
          rw [hdj] at x0
          obtain ⟨dj, hdj'⟩ : ∃ dj, sk.d j = dj := ⟨_, rfl⟩
          obtain ⟨nj, hnj'⟩ : ∃ nj, p.n j = nj := ⟨_, rfl⟩
          rw [hdj'] at x0 hgo hnx hdle hdj
          rw [hnj'] at hc2' hgo hnle hdle
          have HUP := Lib.hid hup
          have HGO := Lib.hid hgo
          have HNX := Lib.hid hnx
          have HDJ := Lib.hid hdj
          clear hup hgo hnx hdj hdj' hnj' hc2 HSj hU
          by_cases hle : nj ≤ dj
          · have hg : decide ((dj : Int) < nj) = false := decide_eq_false (by omega)
            go_wp2_with fail
            go_quiet (fail)
            obtain ⟨wq, hwq⟩ : ∃ wq, wr.drewN nq = wq := ⟨_, rfl⟩
            have HRQ : Hid (RefS w N g vc uj.d wq) := by show RefS _ _ _ _ _ _; rw [← hwq]; exact HR1.out.drewN _
            rw [hwq]
            clear hwq x0 x1 x2 hc2' HR1
            go_wp2_with fail
            go_roundw
            case rel =>
              have e1 : m.upto sk (j + 1) = (uj, bj) := by rw [HUP.out, HGO.out, if_pos hle]
              exact ⟨j + 1, by omega, by rw [e1], by go_num, by rw [e1]; exact ⟨HRQ.out.own, HRQ.out.below⟩⟩
            case measure => simp [intOf]; omega
          · have hg : decide ((dj : Int) < nj) = true := decide_eq_true (by omega)
            go_wp2_with fail
            go_quiet (fail)
            obtain ⟨wq, hwq⟩ : ∃ wq, wr.drewN nq = wq := ⟨_, rfl⟩
            have HRQ : Hid (RefS w N g vc uj.d wq) := by show RefS _ _ _ _ _ _; rw [← hwq]; exact HR1.out.drewN _
            obtain ⟨y0, y1, y2⟩ := HRQ.out.cells hltj
            rw [HDJ.out] at y0
            rw [hwq]
            clear hwq x0 x1 x2 hc2' HR1
            go_wp2_with fail
            go_roundw
            case rel =>
              have e1 : m.upto sk (j + 1) = (m.nx uj j, true) := by rw [HUP.out, HGO.out, if_neg hle]
              refine ⟨j + 1, by omega, by rw [e1], by go_num, ?_⟩
              rw [e1]
              show Hid (_ ∧ _)
              have h := HRQ.out.set hltj (dj + 1)
              rw [show ((m.nx uj j, true) : LS × Bool).1.d = put1 uj.d j (dj + 1) from HNX.out]
              exact ⟨h.own, h.below⟩
            case measure => simp [intOf]; omega
        · obtain rfl : j = N := by omega
          have hr : m.round sk = (uj, bj) := by
            rw [← hU, HM.out]
            show (logMach p).upto sk p.N = _
            rw [HN.out]
          have hst2 := HST.out
          have hl2 := HL2.out
          rw [hr] at hst2 hl2
          dsimp only at hst2 hl2
          have HST2 := Lib.hid hst2
          have HL3 := Lib.hid hl2
          clear hst2 hl2 hr hup hgo hnx hdj hU HST HL2
          cases bj with
          | true =>
            go_wp2_with fail
            go_roundw
            case rel => exact ⟨k + 1, uj, by omega, by go_num, HL3.out, HST2.out, HSj⟩
            case measure => simp [intOf]; omega
          | false =>
            have e1 : sE = uj ∧ nE = k := by
              have h := HST2.out
              simp only [Bool.false_eq_true, if_false, Prod.mk.injEq] at h
              exact h
            obtain ⟨rfl, rfl⟩ := e1
            go_wp2_with fail
            go_ret2
            exact ⟨_, _, rfl, HSj.out.1, HSj.out.2⟩
    · obtain rfl : k = L := by omega
      have hq : ¬ ((k : Int) < limit) := by omega
      have e1 : sE = sk ∧ nE = k := by
        have h := HEk.out
        rw [Nat.sub_self] at h
        simpa [Mach.rest] using h
      obtain ⟨rfl, rfl⟩ := e1
      go_wp2_with fail
      go_ret2
      exact ⟨_, _, rfl, HSk.out.1, HSk.out.2⟩
end Go.Proofs.Ytpooieeeicffpaa

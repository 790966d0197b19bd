/-
  Turn, over any machine of acts.
-/
import Derived.Test.YtefmojohabdjcaaMach
import Derived.OwnWalk
set_option linter.unusedVariables false
set_option linter.unusedSimpArgs false
namespace Go.Proofs.Ytefmojohabdjcaa
open Go Go.RowKit

variable {σ : Type} {m : Mach σ}
def Mach.turn0 (m : Mach σ) (s : σ) (picks : List Int) : σ × Nat := if m.N = 0 then (s, 0) else m.turn s picks
def ptrs (m : Mach σ) : List Value := (List.range m.N).map m.p
theorem ptrs_len (m : Mach σ) : (ptrs m).length = m.N := by simp [ptrs]
theorem ptrs_at (m : Mach σ) {i : Nat} (h : i < m.N) : (ptrs m)[i]? = some (m.p i) := by simp [ptrs, h]
def intsV (l : List Int) : List Value := l.map fun n => Value.int .i64 n
theorem intsV_len (l : List Int) : (intsV l).length = l.length := by simp [intsV]
theorem intsV_at {l : List Int} {k : Nat} (h : k < l.length) : (intsV l)[k]? = some (.int .i64 l[k]) := by simp [intsV, h]
theorem intsV_one (l : List Int) : ∀ u ∈ intsV l, u.oneCell' = true := by
  intro u hu; simp only [intsV, List.mem_map] at hu; obtain ⟨n, _, rfl⟩ := hu; rfl
theorem ptrs_one (hm : m.Ok) : ∀ u ∈ ptrs m, u.oneCell' = true := by
  intro u hu; simp only [ptrs, List.mem_map] at hu; obtain ⟨n, _, rfl⟩ := hu; exact hm.one n

/-- What stands in the round of a loop over a machine. -/
structure Run1 (m : Mach σ) (F : Nat → Prop) (w : World) (pv : Value) (np : Nat) (ps : List Value) (lv : Value) (s : σ) (W : World) : Prop where
  ex : ∃ F', m.M s F' W ∧ Moved F F' w W ∧ Apart F' pv ∧ Apart F' lv
  pr : W.ownsRow 0 3 1 pv np ps
  lr : W.ownsRow 0 56 1 lv m.N (ptrs m)
theorem own_zero {w : World} {B e size n : Nat} {v : Value} {xs : List Value} (h : w.ownsRow B e size v n xs) : w.ownsRow 0 e size v n xs := by
  refine ⟨h.1, ?_⟩
  rcases h.2 with hn | ⟨g, cap, cur, e1, hg, rest⟩
  · exact .inl hn
  · exact .inr ⟨g, cap, cur, e1, Nat.zero_le _, rest⟩

theorem Run1.over (hm : m.Ok) {F : Nat → Prop} {w W : World} {pv lv : Value} {np : Nat} {ps : List Value} {s : σ} (h : Run1 m F w pv np ps lv s W) {i : Nat} (hi : i < m.N) :
    Calls Try.prog 24 #[m.p i] W fun e w' => e = .returned (.bool (m.over s i)) ∧ w' = W := by
  obtain ⟨F', h1, _⟩ := h.ex
  exact hm.ov h1 hi
theorem Run1.step (hm : m.Ok) {F : Nat → Prop} {w W : World} {pv lv : Value} {np : Nat} {ps : List Value} {s : σ} (h : Run1 m F w pv np ps lv s W) {i : Nat} (hi : i < m.N) (ho : m.over s i = false) (hc : m.cost s < 1000000) :
    Calls Try.prog 29 #[m.p i] W fun e w' => e = .returned (.bool (m.over (m.nx s i) i)) ∧ Run1 m F w pv np ps lv (m.nx s i) w' := by
  obtain ⟨F', h1, h2, h3, h4⟩ := h.ex
  refine (hm.st h1 hi ho hc).mono ?_
  rintro e W' ⟨rfl, F2, k1, k2⟩
  obtain ⟨a1, a2⟩ := own_moved k2 h.pr h3
  obtain ⟨b1, b2⟩ := own_moved k2 h.lr h4
  exact ⟨rfl, ⟨F2, k1, h2.trans k2, a2, b2⟩, a1, b1⟩

set_option maxRecDepth 20000 in
set_option maxHeartbeats 2000000 in
theorem turn_c (hm : m.Ok) (hN : m.N ≤ 1000) (pv lv : Value) (picks : List Int) (hp : picks.length ≤ 1000) (s : σ) (F : Nat → Prop) (w : World) (hM : m.M s F w) (hcost : m.cost s + picks.length < 1000000)
    (h0 : RowAt w pv (intsV picks)) (h1 : RowAt w lv (ptrs m)) :
    Calls Try.prog 22 #[pv, lv] w fun e w' => e = .returned (.int .i64 (m.turn0 s picks).2) ∧ ∃ F', m.M (m.turn0 s picks).1 F' w' ∧ Moved F F' w w' := by
  obtain ⟨la, lc, hlv⟩ := h1.form
  rw [ptrs_len] at hlv
  have C0 := Lib.hid (cloneI_c pv (intsV picks) (intsV_one _) (by rw [intsV_len]; exact hp) w h0)
  have C1 := Lib.hid (fun W hW => cloneA_c lv (ptrs m) (ptrs_one hm) (by rw [ptrs_len]; exact hN) W (h1.below hW))
  rw [ptrs_len] at C1
  rw [intsV_len] at C0
  subst hlv
  obtain ⟨N, hNN⟩ : ∃ N, N = m.N := ⟨_, rfl⟩
  rw [← hNN] at C1 hN ⊢
  have HNN := Lib.hid hNN
  have HM := Lib.hid hM
  have Hm := Lib.hid hm
  clear h0 h1 hNN hM hm
  unfold Mach.turn0
  rw [← HNN.out]
  by_cases hz : N = 0
  · subst hz
    go_enter Try.func22, Try.ntmps22
    go_wp2_with fail
    go_step3
    go_wp2_with fail
    rw [Exit.noGoto_ret]
    go_ret
    exact ⟨rfl, F, HM.out, Moved.refl _ _⟩
  · rw [if_neg hz]
    have hz2 : ((N : Int) == 0) = false := by rw [beq_eq_false_iff_ne]; omega
    have hz3 : ¬ ((N : Int) = 0) := by omega
    obtain ⟨Np, hNp⟩ : ∃ Np, picks.length = Np := ⟨_, rfl⟩
    rw [hNp] at C0 hp hcost
    have HNp := Lib.hid hNp
    clear hNp
    go_enter Try.func22, Try.ntmps22
    go_wp2_with fail
    go_step3
    go_wp2_with fail
    refine C0.out.mono ?_
    rintro e w1 ⟨v1, rfl, ho1, hb1⟩
    have HO1 := Lib.hid ho1
    have HB1 := Lib.hid hb1
    clear ho1 hb1 C0
    go_wp2_with fail
    refine (C1.out _ HB1.out).mono ?_
    rintro e w2 ⟨v2, rfl, ho2, hb2⟩
    have hF1 : Apart F v1 := Hm.out.fresh HM.out (fun k hk => (HO1.out.lt k hk).1)
    have hF2 : Apart F v2 := Hm.out.fresh HM.out (fun k hk => Nat.le_trans HB1.out.size (ho2.lt k hk).1)
    have hbb := HB1.out.trans (hb2.mono HB1.out.size)
    have HR : Hid (Run1 m F w v1 Np (intsV picks) v2 s w2) :=
      ⟨⟨F, Hm.out.below HM.out hbb, Moved.of_below hbb, hF1, hF2⟩, own_zero (own_below HO1.out hb2), by rw [← HNN.out]; exact own_zero ho2⟩
    obtain ⟨a1, c1, hv1⟩ := own_form HR.out.pr
    have hlr := HR.out.lr
    rw [← HNN.out] at hlr
    obtain ⟨a2, c2, hv2⟩ := own_form hlr
    subst hv1
    subst hv2
    clear ho2 hb2 hF1 hF2 hbb HO1 HB1 C1 hlr HM
    go_wp2_with fail
    go_step3
    go_wp2_with fail
    go_loopw [6, 20] (fun d i wr => ∃ k : Nat, k ≤ Np ∧ d = .int .i64 (m.turn s (picks.take k)).2 ∧ i = .int .i64 k ∧ Hid (Run1 m F w (.slice a1 Np c1) Np (intsV picks) (.slice a2 N c2) (m.turn s (picks.take k)).1 wr)) (fun _ i _ => Np - (intOf i).toNat)
    case atStart => exact ⟨0, Nat.zero_le _, rfl, rfl, HR⟩
    case round =>
      obtain ⟨k, hk, rfl, rfl, HRk⟩ := hrel
      have hcs := Hm.out.turn_cost s (picks.take k)
      rw [List.length_take, HNp.out, Nat.min_eq_left hk] at hcs
      obtain ⟨S, hS⟩ : ∃ S, m.turn s (picks.take k) = S := ⟨_, rfl⟩
      obtain ⟨s1, d1⟩ := S
      rw [hS] at HRk hcs ⊢
      dsimp only at HRk hcs ⊢
      have HS := Lib.hid hS
      clear hS HR
      by_cases hlt : k < Np
      · have hkl : k < picks.length := by rw [HNp.out]; exact hlt
        obtain ⟨p, hp'⟩ : ∃ p, picks[k] = p := ⟨_, rfl⟩
        have hkv := intsV_at hkl
        rw [hp'] at hkv
        have HTK : Hid (m.turn s (picks.take (k + 1)) = m.pick1 (s1, d1) p) := by
          show _ = _
          rw [List.take_succ_eq_append_getElem hkl, hp', Mach.turn_snoc, HS.out]
        obtain ⟨b1, o1, rfl, hbl, hc1⟩ := (RowAt.of_own HRk.out.pr (by rw [intsV_len, HNp.out])).at hkv
        have hN0 : 0 < N := by omega
        have hi := idx_lt hN0 p
        have he := idx_int hN0 p
        have hpt := ptrs_at m (i := idx N p) (by rw [← HNN.out]; exact hi)
        have hlr := HRk.out.lr
        rw [← HNN.out] at hlr
        obtain ⟨b2, o2, rfl, hbl2, hc2⟩ := (RowAt.of_own hlr (by rw [ptrs_len, HNN.out])).at hpt
        have hl1 := Int.lt_tmod_of_pos p (show (0 : Int) < N by omega)
        have hl2 := Int.tmod_lt_of_pos p (show (0 : Int) < N by omega)
        have C2 := Lib.hid (Run1.over Hm.out HRk.out (i := idx N p) (by rw [← HNN.out]; exact hi))
        have hq : (k : Int) < Np := by omega
        have HPK : Hid (m.pick1 (s1, d1) p = if m.over s1 (idx N p) then (s1, d1) else (m.nx s1 (idx N p), d1 + 1)) := by
          show _ = _
          unfold Mach.pick1
          rw [← HNN.out]
        have C3 := Lib.hid (fun h => Run1.step Hm.out HRk.out (i := idx N p) (by rw [← HNN.out]; exact hi) h (by omega))
        obtain ⟨I, hI⟩ : ∃ I, idx N p = I := ⟨_, rfl⟩
        rw [hI] at hi he hc2 C2 C3 HPK hpt
        generalize m.p I = pI at hc2 C2 C3 hpt
        clear hI hkv hp' hkl hlr hpt
        by_cases hov : m.over s1 I = true
        · have HT : Hid (m.turn s (picks.take (k + 1)) = (s1, d1)) := by show _ = _; rw [HTK.out, HPK.out, if_pos hov]
          rw [hov] at C2
          clear C3 HPK HTK hov
          go_wp2_with fail
          refine C2.out.mono ?_
          rintro e w3 ⟨rfl, rfl⟩
          go_wp2_with fail
          go_roundw
          case rel => exact ⟨k + 1, by omega, by rw [HT.out], by go_num, by rw [HT.out]; exact HRk⟩
          case measure => simp [intOf]; omega
        · have hov' : m.over s1 I = false := by simpa using hov
          have HT : Hid (m.turn s (picks.take (k + 1)) = (m.nx s1 I, d1 + 1)) := by show _ = _; rw [HTK.out, HPK.out, if_neg hov]
          have C4 := Lib.hid (C3.out hov')
          rw [hov'] at C2
          clear C3 HPK HTK hov hov'
          go_wp2_with fail
          refine C2.out.mono ?_
          rintro e w3 ⟨rfl, rfl⟩
          go_wp2_with fail
          refine C4.out.mono ?_
          rintro e w4 ⟨rfl, hr4⟩
          go_wp2_with fail
          go_roundw
          case rel => exact ⟨k + 1, by omega, by rw [HT.out]; go_num, by go_num, by rw [HT.out]; exact hr4⟩
          case measure => simp [intOf]; omega
      · obtain rfl : k = Np := by omega
        have HT : Hid (m.turn s picks = (s1, d1)) := by
          show _ = _
          rw [← HS.out, List.take_of_length_le (by rw [HNp.out]; exact Nat.le_refl _)]
        go_wp2_with fail
        rw [Exit.noGoto_ret]
        go_ret
        obtain ⟨F', h1, h2, _, _⟩ := HRk.out.ex
        rw [HT.out]
        exact ⟨rfl, F', h1, h2⟩
end Go.Proofs.Ytefmojohabdjcaa

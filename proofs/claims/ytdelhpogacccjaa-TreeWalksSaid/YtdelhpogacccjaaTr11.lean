/-
  Rank of a tree.
-/
import Derived.Test.YtdelhpogacccjaaTr10
set_option linter.unusedVariables false
set_option linter.unusedSimpArgs false
namespace Go.Proofs.Ytdelhpogacccjaa
open Go Go.RowKit

variable {W W' : World} {v : Value} {ns : List TN}
theorem less_digit {x u k : Nat} (h : x / 16 ^ (k + 1) = u / 16 ^ (k + 1)) : (x < u ↔ dig x k < dig u k ∨ (dig x k = dig u k ∧ x < u)) := by
  unfold dig
  rw [div_pow_succ, div_pow_succ] at h
  have h1 : x / 16 ^ k < u / 16 ^ k → x < u := fun h => Nat.lt_of_div_lt_div h
  have h2 : u / 16 ^ k < x / 16 ^ k → u < x := fun h => Nat.lt_of_div_lt_div h
  constructor
  · intro h3
    by_cases h4 : x / 16 ^ k % 16 < u / 16 ^ k % 16
    · exact .inl h4
    · by_cases h5 : x / 16 ^ k % 16 = u / 16 ^ k % 16
      · exact .inr ⟨h5, h3⟩
      · have := h2 (by omega); omega
  · rintro (h3 | ⟨_, h3⟩)
    · exact h1 (by omega)
    · exact h3
theorem rank_step {S : List R7} {u k : Nat} (h : ∀ r, r ∈ S → r.uid / 16 ^ (k + 1) = u / 16 ^ (k + 1)) : rankOf S u = (upto k (dig u k) S).length + rankOf (part k (dig u k) S) u := by
  induction S with
  | nil => rfl
  | cons a t ih =>
    have iht := ih (fun r hr => h r (List.mem_cons_of_mem _ hr))
    have ha := less_digit (h a List.mem_cons_self)
    unfold rankOf upto part at iht ⊢
    by_cases h1 : dig a.uid k < dig u k
    · rw [List.filter_cons_of_pos (by simpa using ha.2 (.inl h1)), List.filter_cons_of_pos (by simpa using h1), List.filter_cons_of_neg (a := a) (l := t) (by simp; omega), List.length_cons, List.length_cons, iht]; omega
    · by_cases h2 : dig a.uid k = dig u k
      · by_cases h3 : a.uid < u
        · rw [List.filter_cons_of_pos (by simpa using h3), List.filter_cons_of_neg (a := a) (l := t) (by simpa using h1), List.filter_cons_of_pos (a := a) (l := t) (by simpa using h2), List.filter_cons_of_pos (by simpa using h3), List.length_cons, List.length_cons, iht]; omega
        · rw [List.filter_cons_of_neg (by simpa using h3), List.filter_cons_of_neg (a := a) (l := t) (by simpa using h1), List.filter_cons_of_pos (a := a) (l := t) (by simpa using h2), List.filter_cons_of_neg (by simpa using h3), iht]
      · have h3 : ¬ a.uid < u := fun h3 => by rcases ha.1 h3 with h4 | h4 <;> omega
        rw [List.filter_cons_of_neg (by simpa using h3), List.filter_cons_of_neg (a := a) (l := t) (by simpa using h1), List.filter_cons_of_neg (a := a) (l := t) (by simpa using h2), iht]
theorem rank_same_zero (l : List R7) (u : Nat) : rankOf (same l u 0) u = 0 := by
  unfold rankOf
  rw [same_zero, List.filter_eq_nil_iff.2]
  · rfl
  · intro r hr h2
    have := (List.mem_filter.1 hr).2
    simp at this h2
    omega
theorem rankOf_le (l : List R7) (u : Nat) : rankOf l u ≤ l.length := List.length_filter_le _ _
theorem TreeOf.rank_far {r : Int} {H : Nat} {l : List R7} (h : TreeOf ns r H l) {u : Nat} (hn : H < nd u) : rankOf l u = l.length := by
  unfold rankOf
  rw [List.filter_eq_self.2]
  intro x hx
  have h3 := h.small x hx
  have h4 : 16 ^ H ≤ u := great_of_nd (by rcases h with ⟨rfl, _⟩ | ⟨h, _⟩; { simp at hx }; exact h) hn
  simp
  omega
theorem rank_upto {m k d g : Nat} {S T : List R7} {u : Nat} (h : rankOf S u = (upto k d S).length + rankOf T u) (h2 : m + rankOf S u = g) : m + (upto k d S).length ≤ g := by omega
theorem upto_mono (k i d : Nat) (S : List R7) (h : i ≤ d) : (upto k i S).length ≤ (upto k d S).length := by
  unfold upto
  induction S with
  | nil => simp
  | cons a t ih =>
    rw [List.filter_cons, List.filter_cons]
    by_cases h1 : dig a.uid k < i
    · rw [if_pos (by simpa using h1), if_pos (by simp; omega), List.length_cons, List.length_cons]; omega
    · rw [if_neg (by simpa using h1)]
      split
      · rw [List.length_cons]; omega
      · exact ih
set_option maxRecDepth 20000 in
set_option maxHeartbeats 2000000 in
theorem tRank_c (h : ShelfRow W v ns) {r : Int} {H : Nat} {l : List R7} (hT : TreeOf ns r H l) (hU : Up l) (hm : l.length ≤ 1000000) (u : Nat) (hu : u < 4294967296) :
    Calls Try.prog 33 #[.agg #[.int .i64 r, .int .i64 H], iS v, .int .u32 u] W fun e w' => e = .returned (.int .i64 (rankOf l u : Nat)) ∧ Below W.heap.size W w' := by
  have CN := Lib.hid (fun w => tNeed_c u hu w)
  obtain ⟨V, hV⟩ : ∃ V, iS v = V := ⟨_, rfl⟩
  have CO := Lib.hid (fun w (hb : Below W.heap.size W w) (s rk : Int) => tNode_c (h.below hb) s rk)
  have CC := Lib.hid (fun w (hb : Below W.heap.size W w) (s rk : Int) => tCount_c (h.below hb) s rk)
  have CL := Lib.hid (fun w (hb : Below W.heap.size W w) => tLen_c (h.below hb) hT)
  rw [hV] at CO CC CL ⊢
  unfold NodeP at CO
  have CT := Lib.hid (fun w => tTop_c r H w)
  rw [hT.top] at CT
  have CD := Lib.hid (fun rk (hr : rk < 8) w => tDigit_c u rk hu hr w)
  have hb1 := TB.new W r H
  have HB := Lib.hid ((Below.refl W.heap.size W).alloc (Nat.le_refl _) (.cells #[.int .i64 r, .int .i64 H] 27))
  have HTB := Lib.hid hb1
  have HT := Lib.hid hT
  have HU := Lib.hid hU
  have hd := nd_pos u
  have hd8 := nd_u32 hu
  have hH8 := hT.le
  obtain ⟨Nd, hNd⟩ : ∃ Nd, nd u = Nd := ⟨_, rfl⟩
  rw [hNd] at hd hd8 CN
  have HND := Lib.hid hNd
  obtain ⟨g, hg⟩ : ∃ g, rankOf l u = g := ⟨_, rfl⟩
  have hgN := rankOf_le l u
  rw [hg] at hgN ⊢
  have HG := Lib.hid hg
  obtain ⟨N, hN⟩ : ∃ N, l.length = N := ⟨_, rfl⟩
  rw [hN] at hgN hm CL
  have HN := Lib.hid hN
  clear h hV hb1 hT hNd hg hU hN
  by_cases hfar : H < Nd
  · have q : (H : Int) < Nd := by omega
    have hg2 : g = N := by rw [← HG.out, ← HN.out]; exact HT.out.rank_far (by rw [HND.out]; exact hfar)
    have HG2 := Lib.hid hg2
    clear HG hg2 HN
    go_enter Try.func33, Try.ntmps33
    go_wp2_with fail
    obtain ⟨W1, hW1⟩ : ∃ W1, W.alloc (.cells #[.int .i64 r, .int .i64 H] 27) = W1 := ⟨_, rfl⟩
    rw [hW1] at HTB HB ⊢
    clear hW1
    obtain ⟨c0, c1⟩ := HTB.out.cell
    go_quiet ((go_at_call 60; exact Calls.quiet_of_same (CN.out _)))
    have HTB2 := Lib.hid (HTB.out.below (below_drewN (Below.refl W1.heap.size W1) nq) HTB.out.lt)
    have HB2 := Lib.hid (below_drewN HB.out nq)
    obtain ⟨W2, hW2⟩ : ∃ W2, W1.drewN nq = W2 := ⟨_, rfl⟩
    rw [hW2] at HTB2 HB2 ⊢
    clear hW2 HB HTB c0 c1
    obtain ⟨c0, c1⟩ := HTB2.out.cell
    go_wp2_with ((go_at_call 19; refine (CL.out _ HB2.out).mono ?_; rintro e w3 ⟨rfl, hb3⟩; have HB3 := Lib.hid (HB2.out.trans (hb3.mono HB2.out.size)); clear hb3))
    go_ret
    exact ⟨by rw [HG2.out]; rfl, HB3.out⟩
  · have q : ¬ (H : Int) < Nd := by omega
    go_enter Try.func33, Try.ntmps33
    go_wp2_with fail
    obtain ⟨W1, hW1⟩ : ∃ W1, W.alloc (.cells #[.int .i64 r, .int .i64 H] 27) = W1 := ⟨_, rfl⟩
    rw [hW1] at HTB HB ⊢
    clear hW1
    obtain ⟨c0, c1⟩ := HTB.out.cell
    go_quiet ((go_at_call 60; exact Calls.quiet_of_same (CN.out _)))
    have HTB2 := Lib.hid (HTB.out.below (below_drewN (Below.refl W1.heap.size W1) nq) HTB.out.lt)
    have HB2 := Lib.hid (below_drewN HB.out nq)
    obtain ⟨W2, hW2⟩ : ∃ W2, W1.drewN nq = W2 := ⟨_, rfl⟩
    rw [hW2] at HTB2 HB2 ⊢
    clear hW2 HB HTB c0 c1 CL
    obtain ⟨c0, c1⟩ := HTB2.out.cell
    have hlt0 := HTB2.out.lt
    go_wp2_with ((go_at_call 30; refine (CT.out _).mono ?_; rintro e w3 ⟨rfl, hb3⟩; have e1 := (HTB2.out.below hb3 hlt0).cell.2; have hlt3 : W.heap.size < w3.heap.size := Nat.lt_of_lt_of_le hlt0 hb3.size; have HB3 := Lib.hid hb3; clear hb3))
    have HB4 := Lib.hid (HB2.out.trans (HB3.out.mono (by omega)))
    clear HTB2 HB2 c0 c1 CT e1 HB3 hlt0
    go_loopw [7, 8, 9] (fun mv sv rk wr => ∃ (k : Nat) (s R : Int) (m : Nat), k ≤ H ∧ mv = .int .i64 m ∧ sv = .int .i64 s ∧ rk = .int .i64 R ∧ m ≤ N ∧ Hid (R = (k : Int) - 1) ∧ Hid (m + rankOf (same l u k) u = g) ∧ Hid (SubO ns k s (same l u k)) ∧ Hid (Below W.heap.size W wr)) (fun _ _ rk _ => (intOf rk + 1).toNat)
    case atStart =>
      refine ⟨H, r, (H : Int) - 1, 0, Nat.le_refl _, rfl, rfl, by go_num, Nat.zero_le _, rfl, ?_, HT.out.sub u (by rw [HND.out]; omega), HB4.out⟩
      obtain ⟨h1, h2⟩ := small_of_nd (u := u) (H := H) (by rw [HND.out]; omega)
      show 0 + _ = _
      rw [same_all l u H h2 HT.out.small, Nat.zero_add]
      exact HG.out
    case round =>
      obtain ⟨k, s, R, m, hk, rfl, rfl, rfl, hmN, HR, HM, HS, HBr⟩ := hrel
      cases k with
      | zero =>
        obtain rfl : R = -1 := HR.out
        have hmg : m = g := by have := HM.out; rw [rank_same_zero] at this; exact this
        have HMG := Lib.hid hmg
        clear hmg HM HS HR CO CC CD HB4
        go_wp2_with fail
        go_ret
        exact ⟨by rw [← HMG.out]; rfl, HBr.out⟩
      | succ k =>
        obtain rfl : R = (k : Int) := by have := HR.out; omega
        have q1 : (-1 : Int) < (k : Int) := by omega
        have C1 := Lib.hid (CO.out wr HBr.out s k)
        rcases HS.out with ⟨h1, rfl⟩ | h1
        · rw [nodeOf_no] at C1
          dsimp only at C1
          have hmg : m = g := by have := HM.out; rw [h1] at this; exact this
          have HMG := Lib.hid hmg
          clear hmg HG CO CC HS HR HB4 CD h1 HM
          go_upto_region 9 with (first | (go_at_call 59; refine C1.out.mono ?_; rintro e w2 ⟨rfl, hb2⟩; obtain ⟨w4, hw4, h4a, h4b, h4c, h4d⟩ := node_box noTN hb2 hb2.size; have HW4 := Lib.hid hw4; have H4B := Lib.hid h4b; have H4C := Lib.hid h4c; have hge : wr.heap.size ≤ w2.heap.size := hb2.size; clear hw4 h4a h4b h4c h4d hb2) | (refine wpList_store_row rfl 45 (.tmp 10) (.tmp 37) rfl w2.heap.size (nodeA noTN) rfl rfl 45 (nodeA noTN) (heap_alloc_new _ _) sizeNode rfl (nodeA_one _) ?_))
          refine (show Code.wp _ _ _ _ ((w2.alloc (.cells (nodeA noTN) 45)).setRow w2.heap.size (nodeA noTN)) from ?_)
          rw [HW4.out]
          have HB5 := Lib.hid (HBr.out.trans (H4C.out.mono HBr.out.size))
          clear C1 HW4
          go_wp2_with fail
          go_ret
          exact ⟨by rw [← HMG.out]; rfl, HB5.out⟩
        · obtain ⟨n1, hn, _, hkids⟩ := h1.node
          rw [hn] at C1
          dsimp only at C1
          have HS2 := Lib.hid (hkids (dig u k) (dig_lt u k))
          rw [part_same] at HS2
          have hst := rank_step (S := same l u (k + 1)) (u := u) (k := k) (fun r hr => by simpa using (List.mem_filter.1 hr).2)
          rw [part_same] at hst
          have HAg := Lib.hid (agree_same l u (k + 1))
          have HUp := Lib.hid (HU.out.filter (fun r => decide (r.uid / 16 ^ (k + 1) = u / 16 ^ (k + 1))))
          have HKC : Hid (∀ i, i < 16 → countOf ns (n1.kids i) ((k : Int) - 1) = (part k i (same l u (k + 1))).length) := fun i hi => (hkids i hi).count
          obtain ⟨S, hS⟩ : ∃ S, same l u (k + 1) = S := ⟨_, rfl⟩
          have hUp2 : Up (same l u (k + 1)) := HUp.out
          rw [hS] at hUp2 HAg HKC hst
          have HUp2 := Lib.hid hUp2
          have hSN : S.length ≤ N := by rw [← hS, ← HN.out]; exact List.length_filter_le _ _
          have HMS : Hid (m + rankOf S u = g) := by rw [← hS]; exact HM.out
          have CD1 := Lib.hid (fun w => CD.out k (by omega) w)
          have hdl := dig_lt u k
          obtain ⟨d, hd2⟩ : ∃ d, dig u k = d := ⟨_, rfl⟩
          rw [hd2] at HS2 CD1 hdl hst
          have HST := Lib.hid hst
          clear hn hkids h1 HS HR CO CD hd2 hS hst hUp2 HUp HM hSN
          go_upto_region 9 with (first | (go_at_call 59; refine C1.out.mono ?_; rintro e w2 ⟨rfl, hb2⟩; obtain ⟨w4, hw4, h4a, h4b, h4c, h4d⟩ := node_box n1 hb2 hb2.size; have HW4 := Lib.hid hw4; have H4A := Lib.hid h4a; have H4B := Lib.hid h4b; have H4C := Lib.hid h4c; have hge : wr.heap.size ≤ w2.heap.size := hb2.size; clear hw4 h4a h4b h4c h4d hb2) | (refine wpList_store_row rfl 45 (.tmp 10) (.tmp 37) rfl w2.heap.size (nodeA n1) rfl rfl 45 (nodeA noTN) (heap_alloc_new _ _) sizeNode rfl (nodeA_one _) ?_))
          refine (show Code.wp _ _ _ _ ((w2.alloc (.cells (nodeA noTN) 45)).setRow w2.heap.size (nodeA n1)) from ?_)
          rw [HW4.out]
          have hs : w2.heap.size < w4.heap.size := by have h := H4B.out; omega
          have q2 : (d : Int) ≤ 16 := by omega
          have q3 : (0 : Int) ≤ d := by omega
          have HB5 := Lib.hid (HBr.out.trans (H4C.out.mono HBr.out.size))
          have HBr0 : Hid (W.heap.size ≤ w2.heap.size) := Nat.le_trans HBr.out.size hge
          clear C1 HW4 HBr
          obtain ⟨B, hB⟩ : ∃ B, w2.heap.size = B := ⟨_, rfl⟩
          rw [hB] at H4A H4B hge hs HBr0 ⊢
          clear hB
          go_wp2_with (go_at_call 61; refine (CD1.out _).mono ?_; rintro e w' ⟨rfl, hw⟩; rw [hw]; clear hw w')
          have HBD : Hid (Below (B + 1) w4 w4) := Below.refl _ _
          go_loopw [7, 49] (fun mv iv wi => ∃ (i m2 : Nat), i ≤ d ∧ mv = .int .i64 m2 ∧ iv = .int .i64 i ∧ m2 ≤ N ∧ Hid (m2 = m + (upto k i S).length) ∧ Hid (Below (B + 1) w4 wi)) (fun _ iv _ => d - (intOf iv).toNat)
          case atStart => exact ⟨0, m, Nat.zero_le _, rfl, rfl, hmN, by show _ = _; rw [upto_zero]; rfl, HBD.out⟩
          case round =>
            obtain ⟨i, m2, hi, rfl, rfl, hm2, HM2, HBi⟩ := hrel
            have HB6 := Lib.hid (HB5.out.trans (HBi.out.mono (by have := HBr0.out; omega)))
            have hBi : B < wr.heap.size := Nat.lt_of_lt_of_le hs HBi.out.size
            by_cases hlt : i < d
            · have g1 : (i : Int) < d := by omega
              have g2 : (0 : Int) ≤ i := by omega
              have h4 := (HBi.out.block B (by omega)).trans H4A.out
              have kc := kid_cell h4 i (by omega)
              have CC1 := Lib.hid (CC.out wr HB6.out (n1.kids i) ((k : Int) - 1))
              rw [HKC.out i (by omega)] at CC1
              have hus := upto_succ HAg.out HUp2.out i
              have hl2 : m2 + (part k i S).length ≤ N := by
                obtain ⟨t, ht⟩ := upto_take HAg.out HUp2.out (i + 1) (by omega)
                have h5 := rank_upto HST.out HMS.out
                have h6 := upto_mono k (i + 1) d S (by omega)
                have h7 := congrArg List.length hus
                rw [List.length_append] at h7
                have h8 := HM2.out
                omega
              have HM3 : Hid (m2 + (part k i S).length = m + (upto k (i + 1) S).length) := by
                show _ = _
                rw [hus, List.length_append, HM2.out]
                omega
              obtain ⟨c, hc⟩ : ∃ c, (part k i S).length = c := ⟨_, rfl⟩
              rw [hc] at CC1 HM3 hl2
              obtain ⟨kd, hkd⟩ : ∃ kd, n1.kids i = kd := ⟨_, rfl⟩
              rw [hkd] at kc CC1
              clear h4 hus hc hkd
              go_wp2_with ((go_at_call 51; refine CC1.out.mono ?_; rintro e w5 ⟨rfl, hb5⟩; have HB7 := Lib.hid hb5; clear hb5))
              go_roundw
              case rel => exact ⟨i + 1, m2 + c, by omega, by go_num, by go_num, hl2, HM3.out, HBi.out.trans (HB7.out.mono (by omega))⟩
              case measure => simp [intOf]; omega
            · obtain rfl : i = d := by omega
              have g1 : ¬ (i : Int) < i := by omega
              have h4 := (HBi.out.block B (by omega)).trans H4A.out
              have kc := kid_cell h4 i (by omega)
              have q4 : (i : Int) < 16 := by omega
              have HMS2 : Hid (m2 + rankOf (same l u k) u = g) := by
                show _ = _
                have h1 := HM2.out; have h2 := HST.out; have h3 := HMS.out
                omega
              obtain ⟨kd, hkd⟩ : ∃ kd, n1.kids i = kd := ⟨_, rfl⟩
              rw [hkd] at kc HS2
              clear h4 hkd CC HKC HMS HST HM2
              go_wp2_with fail
              go_roundw
              case rel => exact ⟨k, kd, (k : Int) - 1, m2, by omega, by first | rfl | go_num, by first | rfl | go_num, by first | rfl | go_num, hm2, rfl, HMS2, HS2, HB6⟩
              case measure => first | (simp [intOf]; done) | (simp [intOf]; omega)
end Go.Proofs.Ytdelhpogacccjaa

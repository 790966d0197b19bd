/-
  The law ActRuns: its walk.
-/
import Derived.Test.YtpooieeeicffpaaRunsL
set_option linter.unusedVariables false
set_option linter.unusedSimpArgs false
namespace Go.Proofs.Ytpooieeeicffpaa
open Go Go.RowKit

set_option maxRecDepth 20000 in
set_option maxHeartbeats 1000000 in
theorem runs_easy (la : Option Addr) (N lc : Nat) (h : 10 < N) (w : World) : Calls Try.prog 4 #[.slice la N lc] w fun e w' => e = .returned (.bool true) ∧ Below w.heap.size w w' := by
  have q1 : (10 : Int) < N := by omega
  go_enter Try.func4, Try.ntmps4
  go_wp2_with fail
  go_ret
  exact ⟨rfl, Below.refl _ _⟩

set_option maxRecDepth 100000 in
set_option maxHeartbeats 1000000 in
theorem runs_yes (l : List Nat) (hl : l.length ≤ 10) (hb8 : ∀ x ∈ l, x < 256) (lv : Value) (w : World) (hlv : RowAt w lv (l.map fun n : Nat => Value.int .u8 n)) :
    Calls Try.prog 4 #[lv] w fun e w' => e = .returned (.bool true) ∧ Below w.heap.size w w' := by
  obtain ⟨la, lc, hlvf⟩ := hlv.form
  rw [show (l.map fun n : Nat => Value.int .u8 n).length = l.length by simp] at hlvf
  have CL := Lib.hid (lengths_c l (by omega) hb8 lv w hlv)
  obtain ⟨n, hnn⟩ : ∃ n : Nat → Nat, (fun i => l.getD i 0 % 20) = n := ⟨_, rfl⟩
  have hn20 : ∀ i, n i < 20 := fun i => by rw [← hnn]; exact Nat.mod_lt _ (by omega)
  have HN20 := Lib.hid hn20
  have hrow : namesV (l.map (· % 20)) = rowD l.length n := by
    unfold namesV rowD
    apply List.ext_getElem?
    intro i
    by_cases hi : i < l.length
    · simp [hi, ← hnn]
    · simp [hi]
  rw [hrow] at CL
  obtain ⟨N, hN⟩ : ∃ N, N = l.length := ⟨_, rfl⟩
  rw [← hN] at hl hlvf CL
  subst hlvf
  have q1 : ¬ (10 : Int) < N := by omega
  clear hlv hrow hnn hn20 hb8 hN
  go_enter Try.func4, Try.ntmps4
  go_wp2_with fail
  refine CL.out.mono ?_
  rintro e w1 ⟨nv, rfl, ho1, hb1⟩
  obtain ⟨na, nc, hnv⟩ := own_form ho1
  subst hnv
  obtain ⟨Nb, hNb⟩ : ∃ Nb, w1.heap.size = Nb := ⟨_, rfl⟩
  have hW2 : Hid (∃ W2, ((w1.alloc (.cells #[.slice na N nc] 23)).alloc (.cells #[.slice none 0 0] 23)) = W2 ∧ Below w.heap.size w W2 ∧ Boxed W2 Nb 23 (.slice na N nc) ∧ W2.ownsRow 0 3 1 (.slice na N nc) N (rowD N n) ∧ (∀ k, (Value.slice na N nc).ownBlock = some k → k < Nb) ∧ Boxed W2 (Nb + 1) 23 (.slice none 0 0) ∧ w.heap.size ≤ Nb ∧ W2.heap.size = Nb + 2) := by
    refine ⟨_, rfl, (hb1.alloc hb1.size _).alloc (by have := hb1.size; simp; omega) _, ?_, own_zero ((ho1.alloc _).alloc _), fun k hk => by have := (ho1.lt k hk).2; omega, ?_, by rw [← hNb]; exact hb1.size, by simp; omega⟩
    · have := (Boxed.new w1 23 (.slice na N nc)).alloc (.cells #[.slice none 0 0] 23)
      rw [hNb] at this; exact this
    · have := Boxed.new (w1.alloc (.cells #[.slice na N nc] 23)) 23 (.slice none 0 0)
      rw [World.size_alloc, hNb] at this; exact this
  clear CL ho1 hb1
  go_wp2_with fail
  clear hNb
  obtain ⟨W2, hW2e, hBW2, hNB2, hNR2, hVD2, hLB2, hwN, hsz2⟩ := hW2.out
  rw [hW2e]
  clear hW2 hW2e
  have HB2 := Lib.hid hBW2
  have HN2 := Lib.hid hNB2
  have HR2 := Lib.hid hNR2
  have HV2 := Lib.hid hVD2
  have HL2 := Lib.hid hLB2
  have HZ2 := Lib.hid hsz2
  have HWN := Lib.hid hwN
  obtain ⟨p, hp⟩ : ∃ p : RP, p = { N := N, n := n, na := na, nc := nc, Nb := Nb, Lb := Nb + 1, Cb := Nb + 2, Hb := Nb + 2 + 1 } := ⟨_, rfl⟩
  have HP := Lib.hid hp
  have hpre : ∀ k, p.pre k ≤ 20 * k := fun k => by
    induction k with
    | zero => exact Nat.le_refl _
    | succ k ih =>
      show p.pre k + p.n k ≤ _
      have h1 := HN20.out k
      have h2 : p.n k = n k := by rw [hp]
      omega
  have HPRE := Lib.hid hpre
  clear hBW2 hNB2 hNR2 hVD2 hLB2 hwN hsz2 hp hpre
  go_loopw [5, 6] (fun s i wr => ∃ k : Nat, k ≤ N ∧ s = .int .i64 (p.pre k) ∧ i = .int .i64 k ∧ wr = W2) (fun _ i _ => N - (intOf i).toNat)
  case atStart => exact ⟨0, by omega, rfl, rfl, rfl⟩
  case round =>
    obtain ⟨k, hk, rfl, rfl, rfl⟩ := hrel
    have x0 := HN2.out.cell
    by_cases hlt : k < N
    · have hq : (k : Int) < N := by omega
      obtain ⟨g, rfl⟩ : ∃ g, na = some ⟨g, 0, none⟩ := by
        rcases HR2.out.2 with ⟨h, h2⟩ | ⟨g, cap, cur, h, _⟩
        · omega
        · cases h; exact ⟨g, rfl⟩
      have x1 : wr.cell? ⟨g, k, none⟩ = some (.int .i64 (n k)) := by rw [HR2.out.cellAt k (by omega)]; exact rowD_at _ hlt
      have HPK : Hid (p.pre (k + 1) = p.pre k + n k) := by
        show p.pre k + p.n k = _
        rw [HP.out]
      have h1 := HPRE.out k
      have h2 := HN20.out k
      generalize p.pre k = s at HPK h1 ⊢
      generalize n k = nk at HPK h2 x1
      go_wp2_with fail
      go_roundw
      case rel => exact ⟨k + 1, by omega, by rw [HPK.out]; go_num, by go_num, trivial⟩
      case measure => simp [intOf]; omega
    · obtain rfl : k = N := by omega
      have hq : ¬ (k : Int) < k := by omega
      -- the four boxes
      have hb3 : Below w.heap.size w ((wr.alloc (.cells #[.int .i64 0] 3)).alloc (.cells #[fv 21 p.cap] 40)) := (HB2.out.alloc HB2.out.size _).alloc (by have := HB2.out.size; simp; omega) _
      have hcb : Boxed ((wr.alloc (.cells #[.int .i64 0] 3)).alloc (.cells #[fv 21 p.cap] 40)) p.Cb 3 (.int .i64 (0 : Nat)) := by
        have := (Boxed.new wr 3 (.int .i64 0)).alloc (.cells #[fv 21 p.cap] 40)
        rw [HZ2.out] at this
        rw [show p.Cb = Nb + 2 by rw [HP.out]]
        exact this
      have hhb : Boxed ((wr.alloc (.cells #[.int .i64 0] 3)).alloc (.cells #[fv 21 p.cap] 40)) p.Hb 40 (fv 21 p.cap) := by
        have := Boxed.new (wr.alloc (.cells #[.int .i64 0] 3)) 40 (fv 21 p.cap)
        rw [World.size_alloc, HZ2.out] at this
        rw [show p.Hb = Nb + 2 + 1 by rw [HP.out]]
        exact this
      have hlb : Boxed ((wr.alloc (.cells #[.int .i64 0] 3)).alloc (.cells #[fv 21 p.cap] 40)) p.Lb 23 (.slice none 0 0) := by
        rw [show p.Lb = Nb + 1 by rw [HP.out]]
        exact (HL2.out.alloc _).alloc _
      have henv : Env p ((wr.alloc (.cells #[.int .i64 0] 3)).alloc (.cells #[fv 21 p.cap] 40)) := by
        refine ⟨?_, ?_, hhb, ?_⟩
        · have := (HN2.out.alloc (.cells #[.int .i64 0] 3)).alloc (.cells #[fv 21 p.cap] 40)
          rw [HP.out] at this ⊢
          exact this
        · have := (HR2.out.alloc (.cells #[.int .i64 0] 3)).alloc (.cells #[fv 21 p.cap] 40)
          rw [HP.out] at this ⊢
          exact this
        · rw [HP.out]
          exact ⟨HV2.out, by show Nb < Nb + 1; omega, by show Nb + 1 < Nb + 2; omega, by show Nb + 2 < Nb + 2 + 1; omega⟩
      have hpN : p.N = k := by rw [HP.out]
      have hp20 : ∀ i, p.n i < 20 := fun i => by
        have h1 := HN20.out i
        have h2 : p.n i = n i := by rw [HP.out]
        omega
      have CC := chain_c p (fun i => by have := hp20 i; omega) (by omega) p.N 0 (by omega) _ henv hcb
      have hcap : p.cap = #[.pointer (some ⟨Nb, 0, none⟩), .pointer (some ⟨Nb + 1, 0, none⟩), .pointer (some ⟨Nb + 2, 0, none⟩), .pointer (some ⟨Nb + 2 + 1, 0, none⟩)] := by rw [HP.out]; rfl
      have hzz : (wr.alloc (.cells #[.int .i64 0] 3)).heap.size = Nb + 2 + 1 := by rw [World.size_alloc, HZ2.out]
      have HZZ := Lib.hid hzz
      have e00 : ((0 : Nat) : Int) = 0 := rfl
      rw [e00] at CC
      have HCC := Lib.hid CC
      clear e00
      have HENV := Lib.hid henv
      have HLB := Lib.hid hlb
      have HB3 := Lib.hid hb3
      have hz2 := HZ2.out
      clear CC henv hlb hb3 hcb hhb hzz
      unfold fv at HCC HENV HLB HB3
      rw [hcap] at HCC HENV HLB HB3
      obtain ⟨sum, hsum⟩ : ∃ sum, p.pre k = sum := ⟨_, rfl⟩
      have hsle : sum ≤ 200 := by have := HPRE.out k; omega
      have HSUM : Hid (p.pre p.N = sum) := by show _ = _; rw [hpN]; exact hsum
      rw [hsum]
      have HPN := Lib.hid hpN
      have HP20 := Lib.hid hp20
      clear hcap hsum hpN hp20
      have hN20 := HP20.out
      have hcl : p.Cb < p.Hb ∧ p.Lb < p.Cb ∧ p.Nb < p.Lb := by rw [HP.out]; exact ⟨by show Nb + 2 < Nb + 2 + 1; omega, by show Nb + 1 < Nb + 2; omega, by show Nb < Nb + 1; omega⟩
      have HCL := Lib.hid hcl
      clear hN20 hcl
      go_wp2_with fail
      refine HCC.out.mono ?_
      rintro e w5 ⟨v, i', rfl, h1, h2, h3, h4, h5, h6⟩
      have CA := Lib.hid (aNew_any v (stepV_of h6) w5)
      have hba : Below w5.heap.size w5 (w5.alloc (.cells #[v, .int .i64 0] 97)) := (Below.refl _ _).alloc (Nat.le_refl _) _
      have henv5 := HENV.out.only h5
      have hHl := HENV.out.lt
      have hRS : Hid (RS p w5.heap.size (w5.alloc (.cells #[v, .int .i64 0] 97)) v i' 0 [] (.slice none 0 0)) := by
        refine ⟨henv5.only (OnlyC.of_below hba), h4.alloc _, ?_, ?_, World.ownsRow_nil _ _ _ _, (fun g hg => by cases hg), ?_, List.Pairwise.nil, fun x hx => by cases hx⟩
        · rcases h6 with ⟨e1, e2⟩ | ⟨e1, e2, Kb, Ks, Ka, Kt, Ib, S, Bx, e3, e4, e5⟩
          · exact .inl ⟨e1, rfl, e2⟩
          · refine .inr ⟨e1, e2, Kb, Ks, Ka, Kt, Ib, S, Bx, e3, ⟨e4.bk.alloc _, e4.bs.alloc _, e4.ba.alloc _, e4.bt.alloc _, e4.bi.alloc _, e4.sa.below hba e4.sa.lt, e4.sc.later fun k hk => hba.block k (by rcases hk with rfl | rfl | rfl; exact e4.sc.b0.lt; exact e4.sc.b1.lt; exact e4.sc.b2.lt)⟩, (by have := e4.sa.lt; omega), (fun g hg => by cases hg), ?_⟩
            omega
        · exact Boxed.alloc (show Boxed w5 p.Lb 23 (.slice none 0 0) from (h5.same _ HLB.out.lt (by have := HCL.out; omega)).trans HLB.out) _
        · rw [p.pre_zero (Nat.zero_le i') (fun j _ hj => h3 j (by omega) hj)]; rfl
      have hAA : Hid (ActAt (w5.alloc (.cells #[v, .int .i64 0] 97)) w5.heap.size v (0 : Nat)) := heap_alloc_new w5 _
      have hNA : Hid (p.Nb ≤ w5.heap.size) := by show _ ≤ _; have := h5.size; have := HCL.out; omega
      have hBN : Hid (Below w.heap.size w (w5.alloc (.cells #[v, .int .i64 0] 97))) := (HB3.out.trans ⟨h5.os, h5.tape, h5.output, h5.size, fun k hk => h5.same k (by have := HB3.out.size; omega) (by have := HWN.out; have : p.Nb = Nb := by rw [HP.out]
                                                                                                                                                                                                      have := HCL.out; omega)⟩).alloc (by have := HB3.out.size; have := h5.size; omega) _
      clear hba henv5 hHl h3 h4 h5 h6 HCC
      go_wp2_with fail
      refine CA.out.mono ?_
      rintro e w6 ⟨rfl, rfl⟩
      unfold pa
      clear CA
      go_wp2_with fail
      generalize w5.alloc (.cells #[v, .int .i64 0] 97) = W6 at hRS hAA hBN ⊢
      generalize w5.heap.size = A at hRS hAA hNA ⊢
      go_loopw [10] (fun i wx => ∃ (j : Nat) (v : Value) (ci d : Nat) (log : List Nat) (lv : Value), i = .int .i64 j ∧ j = log.length ∧ j ≤ sum ∧ Hid (RS p A wx v ci d log lv) ∧ Hid (ActAt wx A v log.length) ∧ Hid (Below w.heap.size w wx)) (fun i _ => sum - (intOf i).toNat)
      case atStart => exact ⟨0, v, i', 0, [], _, rfl, rfl, Nat.zero_le _, hRS, hAA, hBN⟩
      case round =>
        obtain ⟨j, v, ci, d, log, lv, rfl, hjl, hjs, HR, HA, HB⟩ := hrel
        clear hRS hAA hBN
        obtain ⟨en1, en2, en3, en4⟩ := HR.out.ends
        have hlen := HR.out.len
        rw [HSUM.out, ← hlen, ← hjl] at en1 en2 en3 en4
        obtain ⟨lad, lcp, hlvf⟩ := own_form HR.out.lr
        rw [← hjl] at hlvf
        subst hlvf
        have x0 := HR.out.lb.cell
        have x00 := HR.out.lb.lt
        rw [show p.Lb = Nb + 1 by rw [HP.out]] at x0 x00
        by_cases hj : j < sum
        · have hji : (j : Int) < sum := by omega
          have hci := en4 (by omega)
          have hov : Hid (Calls Try.prog 16 #[pa A] wr fun e w' => e = .returned (.bool false) ∧ w' = wr) := by
            rcases HR.out.stepV with e | ⟨g, lb, e⟩
            · rw [e] at en1
              have : decide (j = sum) = true := en1.symm
              have := of_decide_eq_true this
              omega
            · have h := HA.out
              rw [e] at h
              exact over_some A _ g lb wr h
          have CS := Lib.hid (rs_step p (fun i => by have := HP20.out i; omega) (by have := HPN.out; omega) HR.out HA.out hci (by omega) hNA.out)
          unfold pa at hov CS
          have HJL := Lib.hid hjl
          have HRL := Lib.hid hlen
          clear en1 en2 en3 en4 hlen hjl HR HA
          go_wp2_with fail
          refine hov.out.mono ?_
          rintro e w7 ⟨rfl, rfl⟩
          go_wp2_with fail
          refine CS.out.mono ?_
          rintro e w8 ⟨v', ci', d', lv', rfl, a1, r1, r2, r3⟩
          obtain ⟨f1, f2, f3, f4⟩ := r1.ends
          rw [HSUM.out] at f1
          have hpos : p.pre ci' + d' = j + 1 := by have := HJL.out; have := HRL.out; omega
          rw [hpos] at f1
          rw [f1]
          have HA8 : Hid (ActAt w8 A v' (log ++ [ci]).length) := by show ActAt _ _ _ _; rw [List.length_append, List.length_singleton]; exact a1
          have HR8 := Lib.hid r1
          have HB8 : Hid (Below w.heap.size w w8) := HB.out.trans (r3.mono (by have := HWN.out; have e : p.Nb = Nb := (by rw [HP.out]); omega))
          clear a1 r1 r2 r3 f1 f2 f3 f4 hpos CS hov HB x0 x00
          by_cases hl9 : j + 1 = sum
          · have g1 : ((j : Int) == (sum : Int) - 1) = true := by rw [beq_iff_eq]; omega
            have g2 : decide (j + 1 = sum) = true := decide_eq_true hl9
            rw [g2]
            have HL9 := Lib.hid hl9
            clear hl9 g2
            go_wp2_with fail
            go_roundw
            case rel => exact ⟨j + 1, v', ci', d', log ++ [ci], lv', by go_num, by rw [List.length_append, List.length_singleton, ← HJL.out], by omega, HR8, HA8, HB8.out⟩
            case measure => simp [intOf]; omega
          · have g1 : ((j : Int) == (sum : Int) - 1) = false := by rw [beq_eq_false_iff_ne]; omega
            have g2 : decide (j + 1 = sum) = false := decide_eq_false hl9
            rw [g2]
            clear g2
            go_wp2_with fail
            go_roundw
            case rel => exact ⟨j + 1, v', ci', d', log ++ [ci], lv', by go_num, by rw [List.length_append, List.length_singleton, ← HJL.out], by omega, HR8, HA8, HB8.out⟩
            case measure => simp [intOf]; omega
        · obtain rfl : j = sum := by omega
          have hji : ¬ (j : Int) < j := by omega
          obtain ⟨hci, hv⟩ := en3 rfl
          subst hv
          have HJL := Lib.hid hjl
          have HCI := Lib.hid hci
          clear en1 en2 en3 en4 hlen hjl hci
          obtain ⟨W8, hW8⟩ : ∃ W8, W8 = wr := ⟨_, rfl⟩
          have HW8 := Lib.hid hW8
          go_wp2_with fail
          clear x0 x00 hW8
          go_loopw [11] (fun i wy => ∃ q : Nat, i = .int .i64 ((q : Int) + 1) ∧ q ≤ j ∧ Hid (Below W8.heap.size W8 wy)) (fun i _ => j + 2 - (intOf i).toNat)
          case atStart => exact ⟨0, rfl, Nat.zero_le _, (by show Below _ _ _; rw [HW8.out]; exact Below.refl _ _)⟩
          case round =>
            obtain ⟨q, rfl, hqj, HBq⟩ := hrel
            have hbq := HBq.out
            rw [HW8.out] at hbq
            have hLB : Boxed wr p.Lb 23 (.slice lad j lcp) := (hbq.block _ HR.out.lb.lt).trans HR.out.lb
            have hLR := own_below HR.out.lr hbq
            have x0 := hLB.cell
            have x00 := hLB.lt
            rw [show p.Lb = Nb + 1 by rw [HP.out]] at x0 x00
            by_cases hq : q + 1 < j
            · have hqi : (q : Int) + 1 < j := by omega
              have hq1 : q + 1 < log.length := by rw [← HJL.out]; exact hq
              obtain ⟨gl, rfl⟩ : ∃ g, lad = some ⟨g, 0, none⟩ := by
                rcases hLR.2 with ⟨h, h2⟩ | ⟨g, cap, cur, h, _⟩
                · have := HJL.out; omega
                · cases h; exact ⟨g, rfl⟩
              rw [← HJL.out] at hLR
              have hnv : ∀ m, (h : m < log.length) → wr.cell? ⟨gl, m, none⟩ = some (.int .i64 (log[m] : Nat)) := fun m h => by
                rw [hLR.cellAt m (by rw [HJL.out]; omega)]
                simp [namesV, h]
              have x1 := hnv (q + 1) hq1
              have x2 := hnv q (by omega)
              have hle : log[q] ≤ log[q + 1] := List.pairwise_iff_getElem.1 HR.out.so.1 q (q + 1) (by omega) hq1 (by omega)
              have hgd : decide (log[q + 1] < log[q]) = false := decide_eq_false (by omega)
              obtain ⟨y1, hy1⟩ : ∃ y, log[q + 1] = y := ⟨_, rfl⟩
              obtain ⟨y2, hy2⟩ : ∃ y, log[q] = y := ⟨_, rfl⟩
              rw [hy1] at x1 hgd
              rw [hy2] at x2 hgd
              clear hLB hLR hnv hle hy1 hy2 hbq hq1
              go_wp2_with fail
              go_quiet (fail)
              have HB9 : Hid (Below W8.heap.size W8 (wr.drewN nq)) := below_drewN HBq.out _
              obtain ⟨W9, hW9⟩ : ∃ W9, wr.drewN nq = W9 := ⟨_, rfl⟩
              rw [hW9] at HB9 ⊢
              clear hW9 x0 x00 x1 x2 hgd HBq
              go_wp2_with fail
              go_roundw
              case rel => exact ⟨q + 1, by go_num, by omega, HB9.out⟩
              case measure => simp [intOf]; omega
            · have hqi : ¬ ((q : Int) + 1 < j) := by omega
              have hA9 : ActAt wr A .nilFunc j := by
                have h := HA.out.later (hbq.block _ HA.out.lt)
                rw [← HJL.out] at h; exact h
              have x1 : wr.cell? ⟨Nb + 2, 0, none⟩ = some (.int .i64 k) := by
                have h : Boxed wr p.Cb 3 (.int .i64 ci) := (hbq.block _ HR.out.cb.lt).trans HR.out.cb
                rw [HCI.out, HPN.out, show p.Cb = Nb + 2 by rw [HP.out]] at h
                exact h.cell
              have x2 : wr.cell? ⟨Nb, 0, none⟩ = some (.slice na k nc) := by
                have h := (hbq.block _ HR.out.env.nb.lt).trans HR.out.env.nb
                have e : p.Nb = Nb ∧ p.na = na ∧ p.nc = nc := by rw [HP.out]; exact ⟨rfl, rfl, rfl⟩
                rw [e.1, e.2.1, e.2.2, HPN.out] at h
                exact (show Boxed wr Nb 23 _ from h).cell
              have C1 := Lib.hid (over_none A j wr hA9)
              have C2 := Lib.hid (aStep_over A j wr hA9)
              have C3 := Lib.hid (count_some A j _ wr hA9)
              have HBW : Hid (Below w.heap.size w wr) := HB.out.trans (hbq.mono HB.out.size)
              unfold pa at C1 C2 C3
              clear hA9 hLB hLR hbq HBq
              go_wp2_with (first | (go_at_call 16; refine C1.out.mono ?_; rintro e w' ⟨rfl, rfl⟩) | (go_at_call 25; refine C2.out.mono ?_; rintro e w' ⟨rfl, rfl⟩) | (go_at_call 19; refine C3.out.mono ?_; rintro e w' ⟨rfl, rfl⟩))
              refine (awake4_c _).mono ?_
              rintro e w9 ⟨rfl, hb9⟩
              have HB9 : Hid (Below w.heap.size w w9) := HBW.out.trans (hb9.mono HBW.out.size)
              clear hb9
              go_wp2_with fail
              go_ret
              exact ⟨rfl, HB9.out⟩
end Go.Proofs.Ytpooieeeicffpaa

/-
  By which notes a list becomes another one, by the document: contract.
-/
import Derived.Test.YtebkpejiloabnaaLsD
import Derived.Test.YtebkpejiloabnaaLs8
import Derived.BigQuiet
set_option linter.unusedVariables false
set_option linter.unusedSimpArgs false
namespace Go.Proofs.Ytebkpejiloabnaa
open Go Go.RowKit
variable {W W' : World} {v va vb : Value} {l now : List EL}

theorem cellsN_app' (a b : List NL) : cellsK encN (a ++ b) = cellsK encN a ++ cellsK encN b := cellsK_app a b
theorem cellsN_len' (a : List NL) : (cellsK encN a).length = a.length * 4 := cellsK_len encN_len a

set_option maxRecDepth 100000 in
set_option maxHeartbeats 16000000 in
theorem rDiff_c (hl : EntRow W va l) (hn : EntRow W vb now) (hm : l.length ≤ 1000000) (hm2 : now.length ≤ 1000000) : Calls Try.prog 10 #[va, vb] W fun e w' => ∃ u, e = .returned u ∧ w'.ownsRow W.heap.size 42 4 u (diffL l now).length (cellsK encN (diffL l now)) ∧ Below W.heap.size W w' := by
  obtain ⟨i0, hi0, hz0, hz1, hz2⟩ := info_parts infoRN1
  obtain ⟨la, lc, rfl⟩ := hl.form
  obtain ⟨na, nc, rfl⟩ := hn.form
  obtain ⟨N, hN⟩ : ∃ N, l.length = N := ⟨_, rfl⟩
  obtain ⟨M, hM⟩ : ∃ M, now.length = M := ⟨_, rfl⟩
  have CL : Hid (∀ u W', Below W.heap.size W W' → Calls Try.prog 17 #[.slice la l.length lc, .int .u32 (u : Nat)] W' fun e w' => e = .returned (.int .i64 (findI l u)) ∧ w' = W') := fun u W' hb => rFind11_c (hl.below hb) u (by omega)
  have CN : Hid (∀ u W', Below W.heap.size W W' → Calls Try.prog 17 #[.slice na now.length nc, .int .u32 (u : Nat)] W' fun e w' => e = .returned (.int .i64 (findI now u)) ∧ w' = W') := fun u W' hb => rFind11_c (hn.below hb) u (by omega)
  rw [hN] at hl hm CL ⊢
  rw [hM] at hn hm2 CN ⊢
  have HL := Lib.hid hl
  have HW := Lib.hid hn
  have HN := Lib.hid hN
  have HM := Lib.hid hM
  clear hl hn hN hM
  go_enter Try.func10, Try.ntmps10
  go_wp2_with fail
  go_loopw [5, 6] (fun ov iv wr => ∃ (j q : Nat), j ≤ N ∧ iv = .int .i64 ((j : Int) - 1) ∧ q ≤ N - j ∧ Hid ((goneN l now (N - j)).length = q) ∧ Hid (wr.ownsRow W.heap.size 42 4 ov q (cellsK encN (goneN l now (N - j)))) ∧ Hid (Below W.heap.size W wr)) (fun _ iv _ => (intOf iv + 1).toNat)
  case atStart => exact ⟨N, 0, Nat.le_refl _, rfl, by omega, by show _ = _; rw [Nat.sub_self]; rfl, by show World.ownsRow _ _ _ _ _ _ _; rw [Nat.sub_self]; exact World.ownsRow_nil _ _ _ _, Below.refl _ _⟩
  case round =>
    obtain ⟨j, q, hj, rfl, hq, HQ, HO, HB⟩ := hrel
    obtain ⟨ad, cp, hv⟩ := own_form HO.out
    subst hv
    by_cases hj0 : 0 < j
    · obtain ⟨i, rfl⟩ : ∃ i, j = i + 1 := ⟨j - 1, by omega⟩
      have he1 : ((i + 1 : Nat) : Int) - 1 = i := by omega
      rw [he1]
      have hq1 : (0 : Int) ≤ i := by omega
      have hq2 : (i : Int) < N := by omega
      obtain ⟨r, hr⟩ : ∃ r, l[i]? = some r := ⟨_, List.getElem?_eq_getElem (by have := HN.out; omega)⟩
      obtain ⟨b, off, rfl, hbb, c0, c1⟩ := EntRow.at (HL.out.below HB.out) hr
      have hG := goneN_at (now := now) hr
      rw [HN.out] at hG
      have CF := CN.out r.uid wr HB.out
      obtain ⟨u, hu⟩ : ∃ u, r.uid = u := ⟨_, rfl⟩
      obtain ⟨x, hx⟩ : ∃ x, findI now r.uid = x := ⟨_, rfl⟩
      rw [hx, hu] at CF
      rw [hu] at c0
      have CF := Lib.hid CF
      have hneg := findI_neg (l := now) (u := r.uid)
      rw [hx] at hneg
      by_cases hx0 : x < 0
      · rw [hneg.1 hx0, if_neg (by simp)] at hG
        have HG := Lib.hid hG
        have hW2 : W.heap.size ≤ wr.heap.size := HB.out.size
        have hq9 : q + 1 ≤ N - i := by omega
        clear hr hu hx hneg hG he1 c1
        go_wp2_with fail
        refine CF.out.mono ?_
        rintro e w3 ⟨rfl, hw3⟩
        rw [hw3]
        clear hw3 w3
        go_wp2_with (at_builtin; refine wpList_append_own_at _ rfl (.tmp 26) (.tmp 30) 30 rfl W.heap.size 42 i0 (.agg #[.int .i64 0, .int .i64 0, .int .u32 0, .int .u8 0]) 4 24 Try.underlying30 hi0 hz0 hz1 hz2 rfl (by decide) _ q (cellsK encN (goneN l now (N - (i + 1)))) rfl (HO.out.alloc _) ⟨wr.heap.size, 0, none⟩ 1 1 [.int .i64 0, .int .i64 ((i : Int) + 1), .int .u32 0, .int .u8 0] rfl rfl (World.news_of_block (cs := #[.int .i64 0, .int .i64 ((i : Int) + 1), .int .u32 0, .int .u8 0]) (t := 42) (fr := (0, 0)) (heap_alloc_new wr _)) (by simp [Value.oneCell']) (by unfold maxLen; omega) (by omega) (by simp; omega) ?_)
        intro v6 w6 ho6 hg6 _ _
        have HQ6 : Hid ((goneN l now (N - i)).length = q + 1) := by show _ = _; rw [HG.out, List.length_append, HQ.out]; rfl
        have HO6 : Hid (w6.ownsRow W.heap.size 42 4 v6 (q + 1) (cellsK encN (goneN l now (N - i)))) := by
          show World.ownsRow _ _ _ _ _ _ _
          rw [HG.out, cellsN_app', cellsK_one]; exact ho6
        have HB6 := Lib.hid ((HB.out.alloc hW2 (.cells #[.int .i64 0, .int .i64 ((i : Int) + 1), .int .u32 0, .int .u8 0] 42)).grown hg6 (by simp; omega) (fun q hq => (HO.out.lt q hq).1))
        clear ho6 hg6 c0
        go_wp2_with fail
        go_roundw
        case rel => exact ⟨i, q + 1, by omega, by first | rfl | go_num, hq9, HQ6.out, HO6.out, HB6.out⟩
        case measure => simp [intOf] <;> omega
      · have hpos : isIn now r.uid = true := by
          cases h : isIn now r.uid with
          | true => rfl
          | false => exact absurd (hneg.2 h) hx0
        rw [hpos, if_pos rfl, List.append_nil] at hG
        have HQ6 : Hid ((goneN l now (N - i)).length = q) := by show _ = _; rw [hG]; exact HQ.out
        have HO6 : Hid (wr.ownsRow W.heap.size 42 4 (.slice ad q cp) q (cellsK encN (goneN l now (N - i)))) := by show World.ownsRow _ _ _ _ _ _ _; rw [hG]; exact HO.out
        have hx1 : ¬ x < 0 := hx0
        clear hr hu hx hneg hG he1 c1 hpos
        go_wp2_with fail
        refine CF.out.mono ?_
        rintro e w3 ⟨rfl, hw3⟩
        rw [hw3]
        clear hw3 w3
        go_wp2_with fail
        go_roundw
        case rel => exact ⟨i, q, by omega, by first | rfl | go_num, by omega, HQ6.out, HO6.out, HB.out⟩
        case measure => simp [intOf] <;> omega
    · obtain rfl : j = 0 := by omega
      have hneg : ((0 : Nat) : Int) - 1 = -1 := by omega
      rw [hneg]
      clear hneg
      rw [Nat.sub_zero] at hq HQ HO
      obtain ⟨G, hG⟩ : ∃ G, goneN l now N = G := ⟨_, rfl⟩
      rw [hG] at HQ HO
      have HGN := Lib.hid hG
      clear hG hj hj0
      go_wp2_with fail
      obtain ⟨w2, hw2⟩ : ∃ w2, wr = w2 := ⟨_, rfl⟩
      rw [hw2] at HO HB ⊢
      clear hw2
      go_loopw [7, 8] (fun fv kv wr2 => ∃ k : Nat, k ≤ M ∧ kv = .int .i64 k ∧ fv = .bool (freshN l now k) ∧ wr2 = w2) (fun _ kv _ => M - (intOf kv).toNat)
      case atStart => exact ⟨0, Nat.zero_le _, rfl, by simp [freshN], rfl⟩
      case round =>
        obtain ⟨k, hk, rfl, rfl, hwr⟩ := hrel
        rw [hwr]
        clear hwr
        by_cases hlt : k < M
        · have hq5 : (k : Int) < M := by omega
          have hq6 : (0 : Int) ≤ k := by omega
          obtain ⟨r, hr⟩ : ∃ r, now[k]? = some r := ⟨_, List.getElem?_eq_getElem (by have := HM.out; omega)⟩
          obtain ⟨b, off, rfl, hbb, c0, c1⟩ := EntRow.at (HW.out.below HB.out) hr
          have hF := freshN_at (l := l) hr
          cases hfk : freshN l now k with
          | true =>
            have HF : Hid (freshN l now (k + 1) = true) := by show _ = _; rw [hF, hfk]; rfl
            clear hr hF hfk c0 c1
            go_wp2_with fail
            go_roundw
            case rel => exact ⟨k + 1, by omega, by go_num, by rw [HF.out], by first | rfl | trivial⟩
            case measure => simp [intOf]; omega
          | false =>
            rw [hfk, Bool.false_or] at hF
            have CF := CL.out r.uid w2 HB.out
            have hneg := findI_neg (l := l) (u := r.uid)
            obtain ⟨u, hu⟩ : ∃ u, r.uid = u := ⟨_, rfl⟩
            rw [hu] at c0 CF hneg hF
            obtain ⟨x, hx⟩ : ∃ x, findI l u = x := ⟨_, rfl⟩
            rw [hx] at CF hneg
            have CF := Lib.hid CF
            by_cases hx0 : x < 0
            · have e0 : decide (x < 0) = true := decide_eq_true hx0
              have HF : Hid (freshN l now (k + 1) = true) := by show _ = _; rw [hF, hneg.1 hx0]; rfl
              clear hr hF hfk c1 hu hx hneg
              go_wp2_with fail
              refine CF.out.mono ?_
              rintro e w3 ⟨rfl, hw3⟩
              rw [hw3]
              clear hw3 w3
              go_wp2_with fail
              go_roundw
              case rel => exact ⟨k + 1, by omega, by go_num, by rw [HF.out], by first | rfl | trivial⟩
              case measure => simp [intOf]; omega
            · have e0 : decide (x < 0) = false := decide_eq_false hx0
              have HF : Hid (freshN l now (k + 1) = false) := by
                show _ = _
                rw [hF]
                cases h : isIn l u with
                | true => rfl
                | false => exact absurd (hneg.2 h) hx0
              clear hr hF hfk c1 hu hx hneg
              go_wp2_with fail
              refine CF.out.mono ?_
              rintro e w3 ⟨rfl, hw3⟩
              rw [hw3]
              clear hw3 w3
              go_wp2_with fail
              go_roundw
              case rel => exact ⟨k + 1, by omega, by go_num, by rw [HF.out], by first | rfl | trivial⟩
              case measure => simp [intOf]; omega
        · obtain rfl : k = M := by omega
          have hq5 : ¬ (k : Int) < k := by omega
          have hex : existsN l now = if freshN l now k then [⟨1, (k : Nat), noE⟩] else [] := by unfold existsN; rw [HM.out]
          have hEX := Lib.hid hex
          clear hex
          cases hfk : freshN l now k with
          | true =>
            have hex := hEX.out
            rw [hfk, if_pos rfl] at hex
            have HEX := Lib.hid hex
            have hW2 : W.heap.size ≤ w2.heap.size := HB.out.size
            clear hfk hex hEX
            go_wp2_with (at_builtin; refine wpList_append_own_at _ rfl (.tmp 50) (.tmp 54) 30 rfl W.heap.size 42 i0 (.agg #[.int .i64 0, .int .i64 0, .int .u32 0, .int .u8 0]) 4 24 Try.underlying30 hi0 hz0 hz1 hz2 rfl (by decide) _ q (cellsK encN G) rfl (HO.out.alloc _) ⟨w2.heap.size, 0, none⟩ 1 1 [.int .i64 1, .int .i64 (k : Int), .int .u32 0, .int .u8 0] rfl rfl (World.news_of_block (cs := #[.int .i64 1, .int .i64 (k : Int), .int .u32 0, .int .u8 0]) (t := 42) (fr := (0, 0)) (heap_alloc_new w2 _)) (by simp [Value.oneCell']) (by unfold maxLen; omega) (by omega) (by simp; omega) ?_)
            intro v6 w6 ho6 hg6 _ _
            obtain ⟨q6, hq6⟩ : ∃ q6, q + 1 = q6 := ⟨_, rfl⟩
            obtain ⟨F, hF⟩ : ∃ F, G ++ existsN l now = F := ⟨_, rfl⟩
            have HQ6 : Hid (F.length = q6) := by show _ = _; rw [← hF, HEX.out, List.length_append, HQ.out, ← hq6]; rfl
            have HO6 : Hid (w6.ownsRow W.heap.size 42 4 v6 q6 (cellsK encN F)) := by
              show World.ownsRow _ _ _ _ _ _ _
              rw [← hF, HEX.out, cellsN_app', cellsK_one, ← hq6]; exact ho6
            have HB6 := Lib.hid ((HB.out.alloc hW2 (.cells #[.int .i64 1, .int .i64 (k : Int), .int .u32 0, .int .u8 0] 42)).grown hg6 (by simp; omega) (fun q hq => (HO.out.lt q hq).1))
            have hq6N : q6 ≤ N + 1 := by omega
            have HF := Lib.hid hF
            clear ho6 hg6 hF hq6 HO HB HQ HEX
            go_wp2_with fail
            go_loopw [5, 9] (fun ov kv wr2 => ∃ k2 q : Nat, k2 ≤ k ∧ kv = .int .i64 k2 ∧ q ≤ N + 1 + k2 ∧ Hid ((F ++ fetchN l now k2).length = q) ∧ Hid (wr2.ownsRow W.heap.size 42 4 ov q (cellsK encN (F ++ fetchN l now k2))) ∧ Hid (Below W.heap.size W wr2)) (fun _ kv _ => k - (intOf kv).toNat)
            case atStart => exact ⟨0, q6, Nat.zero_le _, rfl, by omega, by show (F ++ []).length = _; rw [List.append_nil]; exact HQ6.out, by show World.ownsRow _ _ _ _ _ _ (cellsK encN (F ++ [])); rw [List.append_nil]; exact HO6.out, HB6.out⟩
            case round =>
              clear HO6 HB6 HQ6
              obtain ⟨M, hM9⟩ : ∃ M, k = M := ⟨_, rfl⟩
              rw [hM9] at hq5 HM HW CN hm2 ⊢
              obtain ⟨k2, q, hk2, rfl, hqq, HQ, HO, HB⟩ := hrel
              rw [hM9] at hk2
              clear hq5 hM9
              obtain ⟨k, hkk⟩ : ∃ k, k2 = k := ⟨_, rfl⟩
              rw [hkk] at hk2 hqq HQ HO ⊢
              clear hkk
              obtain ⟨ad, cp, hv⟩ := own_form HO.out
              subst hv
              by_cases hlt : k < M
              · have hq5 : (k : Int) < M := by omega
                have hq6 : (0 : Int) ≤ k := by omega
                obtain ⟨r, hr⟩ : ∃ r, now[k]? = some r := ⟨_, List.getElem?_eq_getElem (by have := HM.out; omega)⟩
                obtain ⟨b, off, hna, hbb, c0, c1⟩ := EntRow.at (HW.out.below HB.out) hr
                subst hna
                have hG := fetchN_at (l := l) hr
                have CF := CL.out r.uid wr HB.out
                by_cases hx0 : findI l r.uid < 0
                · have hk0 := keepB_none (e := r) (findI_neg.1 hx0)
                  rw [hk0, if_neg (by simp)] at hG
                  have HG := Lib.hid hG
                  obtain ⟨x, hx⟩ : ∃ x, findI l r.uid = x := ⟨_, rfl⟩
                  rw [hx] at CF hx0
                  have e0' : decide (x < 0) = true := decide_eq_true hx0
                  have CF := Lib.hid CF
                  clear hr hG hk0 hx
                  go_wp2_with fail
                  refine CF.out.mono ?_
                  rintro e w3 ⟨rfl, hw3⟩
                  rw [hw3]
                  clear hw3 w3
                  go_wp2_with fail
                  go_quiet (fail)
                  obtain ⟨W4, hW4⟩ : ∃ W4, wr.drewN nq = W4 := ⟨_, rfl⟩
                  have HB4 : Hid (Below W.heap.size W W4) := by rw [← hW4]; exact below_drewN HB.out nq
                  have HO4 : Hid (W4.ownsRow W.heap.size 42 4 (.slice ad q cp) q (cellsK encN (F ++ fetchN l now k))) := by rw [← hW4]; exact HO.out
                  have hW4s : W.heap.size ≤ W4.heap.size := HB4.out.size
                  have e0 : W4.cell? ⟨b, off + k * 2, none⟩ = some (.int .u32 r.uid) := by rw [← hW4]; exact c0
                  have e1 : W4.cell? ⟨b, off + k * 2 + 1, none⟩ = some (.int .u8 r.fl) := by rw [← hW4]; exact c1
                  rw [hW4]
                  clear hW4 c0 c1 HB HO
                  go_wp2_with (at_builtin; refine wpList_append_own_at _ rfl (.tmp 84) (.tmp 92) 30 rfl W.heap.size 42 i0 (.agg #[.int .i64 0, .int .i64 0, .int .u32 0, .int .u8 0]) 4 24 Try.underlying30 hi0 hz0 hz1 hz2 rfl (by decide) _ q (cellsK encN (F ++ fetchN l now k)) rfl (HO4.out.alloc _) ⟨W4.heap.size, 0, none⟩ 1 1 [.int .i64 2, .int .i64 ((k : Int) + 1), .int .u32 r.uid, .int .u8 r.fl] rfl rfl (World.news_of_block (cs := #[.int .i64 2, .int .i64 ((k : Int) + 1), .int .u32 r.uid, .int .u8 r.fl]) (t := 42) (fr := (0, 0)) (heap_alloc_new W4 _)) (by simp [Value.oneCell']) (by unfold maxLen; omega) (by omega) (by simp; omega) ?_)
                  intro v6 w6 ho6 hg6 _ _
                  have HQ6 : Hid ((F ++ fetchN l now (k + 1)).length = q + 1) := by show _ = _; rw [HG.out, ← List.append_assoc, List.length_append, HQ.out]; rfl
                  have HO6 : Hid (w6.ownsRow W.heap.size 42 4 v6 (q + 1) (cellsK encN (F ++ fetchN l now (k + 1)))) := by
                    show World.ownsRow _ _ _ _ _ _ _
                    rw [HG.out, ← List.append_assoc, cellsN_app' (F ++ fetchN l now k), cellsK_one]; exact ho6
                  have HB6 := Lib.hid ((HB4.out.alloc hW4s (.cells #[.int .i64 2, .int .i64 ((k : Int) + 1), .int .u32 r.uid, .int .u8 r.fl] 42)).grown hg6 (by simp; omega) (fun q hq => (HO4.out.lt q hq).1))
                  clear ho6 hg6
                  go_wp2_with fail
                  go_roundw
                  case rel => exact ⟨k + 1, q + 1, by omega, by go_num, by omega, HQ6.out, HO6.out, HB6.out⟩
                  case measure => simp [intOf]; omega
                · obtain ⟨kk, z, hkk, hz, hzu, hzf⟩ := findI_some hx0
                  have hkp := keepB_some hzf
                  rw [hkk] at CF hx0
                  have CF := Lib.hid CF
                  obtain ⟨b2, off2, hla, hbb2, d0, d1⟩ := EntRow.at (HL.out.below HB.out) hz
                  subst hla
                  have e0' : decide ((kk : Int) < 0) = false := decide_eq_false (by omega)
                  have k0 : (0 : Int) ≤ kk := by omega
                  have k1 : (kk : Int) < N := by have := (List.getElem?_eq_some_iff.1 hz).1; have := HN.out; omega
                  obtain ⟨fz, hfz⟩ : ∃ fz, z.fl = fz := ⟨_, rfl⟩
                  rw [hfz] at d1 hkp
                  by_cases hff : fz = r.fl
                  · have g1 : ((fz : Int) == (r.fl : Int)) = true := by rw [beq_iff_eq]; omega
                    have g2 : ((fz : Int) != (r.fl : Int)) = false := by rw [bne_eq_false_iff_eq]; omega
                    rw [hkp, decide_eq_true hff, if_pos rfl, List.append_nil] at hG
                    have HG := Lib.hid hG
                    clear hr hG hkk hz hzu hzf hkp hfz hff d0 hx0
                    go_wp2_with fail
                    refine CF.out.mono ?_
                    rintro e w3 ⟨rfl, hw3⟩
                    rw [hw3]
                    clear hw3 w3
                    go_wp2_with fail
                    go_quiet (fail)
                    obtain ⟨W4, hW4⟩ : ∃ W4, wr.drewN nq = W4 := ⟨_, rfl⟩
                    have HB4 : Hid (Below W.heap.size W W4) := by rw [← hW4]; exact below_drewN HB.out nq
                    have HO4 : Hid (W4.ownsRow W.heap.size 42 4 (.slice ad q cp) q (cellsK encN (F ++ fetchN l now k))) := by rw [← hW4]; exact HO.out
                    have hW4s : W.heap.size ≤ W4.heap.size := HB4.out.size
                    rw [hW4]
                    clear hW4 c0 c1 d1 HB HO
                    have HQ6 : Hid ((F ++ fetchN l now (k + 1)).length = q) := by show _ = _; rw [HG.out]; exact HQ.out
                    have HO6 : Hid (W4.ownsRow W.heap.size 42 4 (.slice ad q cp) q (cellsK encN (F ++ fetchN l now (k + 1)))) := by show World.ownsRow _ _ _ _ _ _ _; rw [HG.out]; exact HO4.out
                    go_wp2_with fail
                    go_roundw
                    case rel => exact ⟨k + 1, q, by omega, by go_num, by omega, HQ6.out, HO6.out, HB4.out⟩
                    case measure => simp [intOf]; omega
                  · have g1 : ((fz : Int) == (r.fl : Int)) = false := by rw [beq_eq_false_iff_ne]; omega
                    have g2 : ((fz : Int) != (r.fl : Int)) = true := by rw [bne_iff_ne]; omega
                    rw [hkp, decide_eq_false hff, if_neg (by simp)] at hG
                    have HG := Lib.hid hG
                    clear hr hG hkk hz hzu hzf hkp hfz hff d0 hx0
                    go_wp2_with fail
                    refine CF.out.mono ?_
                    rintro e w3 ⟨rfl, hw3⟩
                    rw [hw3]
                    clear hw3 w3
                    go_wp2_with fail
                    go_quiet (fail)
                    obtain ⟨W4, hW4⟩ : ∃ W4, wr.drewN nq = W4 := ⟨_, rfl⟩
                    have HB4 : Hid (Below W.heap.size W W4) := by rw [← hW4]; exact below_drewN HB.out nq
                    have HO4 : Hid (W4.ownsRow W.heap.size 42 4 (.slice ad q cp) q (cellsK encN (F ++ fetchN l now k))) := by rw [← hW4]; exact HO.out
                    have hW4s : W.heap.size ≤ W4.heap.size := HB4.out.size
                    have e0 : W4.cell? ⟨b, off + k * 2, none⟩ = some (.int .u32 r.uid) := by rw [← hW4]; exact c0
                    have e1 : W4.cell? ⟨b, off + k * 2 + 1, none⟩ = some (.int .u8 r.fl) := by rw [← hW4]; exact c1
                    rw [hW4]
                    clear hW4 c0 c1 d1 HB HO
                    go_wp2_with (at_builtin; refine wpList_append_own_at _ rfl (.tmp 84) (.tmp 92) 30 rfl W.heap.size 42 i0 (.agg #[.int .i64 0, .int .i64 0, .int .u32 0, .int .u8 0]) 4 24 Try.underlying30 hi0 hz0 hz1 hz2 rfl (by decide) _ q (cellsK encN (F ++ fetchN l now k)) rfl (HO4.out.alloc _) ⟨W4.heap.size, 0, none⟩ 1 1 [.int .i64 2, .int .i64 ((k : Int) + 1), .int .u32 r.uid, .int .u8 r.fl] rfl rfl (World.news_of_block (cs := #[.int .i64 2, .int .i64 ((k : Int) + 1), .int .u32 r.uid, .int .u8 r.fl]) (t := 42) (fr := (0, 0)) (heap_alloc_new W4 _)) (by simp [Value.oneCell']) (by unfold maxLen; omega) (by omega) (by simp; omega) ?_)
                    intro v6 w6 ho6 hg6 _ _
                    have HQ6 : Hid ((F ++ fetchN l now (k + 1)).length = q + 1) := by show _ = _; rw [HG.out, ← List.append_assoc, List.length_append, HQ.out]; rfl
                    have HO6 : Hid (w6.ownsRow W.heap.size 42 4 v6 (q + 1) (cellsK encN (F ++ fetchN l now (k + 1)))) := by
                      show World.ownsRow _ _ _ _ _ _ _
                      rw [HG.out, ← List.append_assoc, cellsN_app' (F ++ fetchN l now k), cellsK_one]; exact ho6
                    have HB6 := Lib.hid ((HB4.out.alloc hW4s (.cells #[.int .i64 2, .int .i64 ((k : Int) + 1), .int .u32 r.uid, .int .u8 r.fl] 42)).grown hg6 (by simp; omega) (fun q hq => (HO4.out.lt q hq).1))
                    clear ho6 hg6
                    go_wp2_with fail
                    go_roundw
                    case rel => exact ⟨k + 1, q + 1, by omega, by go_num, by omega, HQ6.out, HO6.out, HB6.out⟩
                    case measure => simp [intOf]; omega
              · obtain rfl : k = M := by omega
                have hq5 : ¬ (k : Int) < k := by omega
                have hfin : F ++ fetchN l now k = diffL l now := by unfold diffL; rw [HN.out, HM.out, HGN.out, HF.out]
                have HFIN := Lib.hid hfin
                clear hfin
                go_wp2_with fail
                go_ret
                refine ⟨_, rfl, ?_, HB.out⟩
                have h := HO.out
                have h2 := HQ.out
                rw [HFIN.out] at h h2
                rw [h2]
                exact h
          | false =>
            have hex := hEX.out
            rw [hfk] at hex
            have hex2 : existsN l now = [] := by rw [hex]; rfl
            obtain ⟨F, hF⟩ : ∃ F, G ++ existsN l now = F := ⟨_, rfl⟩
            obtain ⟨q6, hq6⟩ : ∃ q6, q = q6 := ⟨_, rfl⟩
            obtain ⟨w6, hw6⟩ : ∃ w6, w2 = w6 := ⟨_, rfl⟩
            have hFG : F = G := by rw [← hF, hex2, List.append_nil]
            rw [hq6, hw6, ← hFG] at HO
            rw [hw6] at HB ⊢
            rw [hq6, ← hFG] at HQ
            rw [hq6] at hq ⊢
            have HO6 := HO
            have HB6 := HB
            have HQ6 := HQ
            have hq6N : q6 ≤ N + 1 := by omega
            have HF := Lib.hid hF
            clear hF hq6 hw6 hFG HO HB HQ hex hex2 hEX hfk
            go_wp2_with fail
            go_loopw [5, 9] (fun ov kv wr2 => ∃ k2 q : Nat, k2 ≤ k ∧ kv = .int .i64 k2 ∧ q ≤ N + 1 + k2 ∧ Hid ((F ++ fetchN l now k2).length = q) ∧ Hid (wr2.ownsRow W.heap.size 42 4 ov q (cellsK encN (F ++ fetchN l now k2))) ∧ Hid (Below W.heap.size W wr2)) (fun _ kv _ => k - (intOf kv).toNat)
            case atStart => exact ⟨0, q6, Nat.zero_le _, rfl, by omega, by show (F ++ []).length = _; rw [List.append_nil]; exact HQ6.out, by show World.ownsRow _ _ _ _ _ _ (cellsK encN (F ++ [])); rw [List.append_nil]; exact HO6.out, HB6.out⟩
            case round =>
              clear HO6 HB6 HQ6
              obtain ⟨M, hM9⟩ : ∃ M, k = M := ⟨_, rfl⟩
              rw [hM9] at hq5 HM HW CN hm2 ⊢
              obtain ⟨k2, q, hk2, rfl, hqq, HQ, HO, HB⟩ := hrel
              rw [hM9] at hk2
              clear hq5 hM9
              obtain ⟨k, hkk⟩ : ∃ k, k2 = k := ⟨_, rfl⟩
              rw [hkk] at hk2 hqq HQ HO ⊢
              clear hkk
              obtain ⟨ad, cp, hv⟩ := own_form HO.out
              subst hv
              by_cases hlt : k < M
              · have hq5 : (k : Int) < M := by omega
                have hq6 : (0 : Int) ≤ k := by omega
                obtain ⟨r, hr⟩ : ∃ r, now[k]? = some r := ⟨_, List.getElem?_eq_getElem (by have := HM.out; omega)⟩
                obtain ⟨b, off, hna, hbb, c0, c1⟩ := EntRow.at (HW.out.below HB.out) hr
                subst hna
                have hG := fetchN_at (l := l) hr
                have CF := CL.out r.uid wr HB.out
                by_cases hx0 : findI l r.uid < 0
                · have hk0 := keepB_none (e := r) (findI_neg.1 hx0)
                  rw [hk0, if_neg (by simp)] at hG
                  have HG := Lib.hid hG
                  obtain ⟨x, hx⟩ : ∃ x, findI l r.uid = x := ⟨_, rfl⟩
                  rw [hx] at CF hx0
                  have e0' : decide (x < 0) = true := decide_eq_true hx0
                  have CF := Lib.hid CF
                  clear hr hG hk0 hx
                  go_wp2_with fail
                  refine CF.out.mono ?_
                  rintro e w3 ⟨rfl, hw3⟩
                  rw [hw3]
                  clear hw3 w3
                  go_wp2_with fail
                  go_quiet (fail)
                  obtain ⟨W4, hW4⟩ : ∃ W4, wr.drewN nq = W4 := ⟨_, rfl⟩
                  have HB4 : Hid (Below W.heap.size W W4) := by rw [← hW4]; exact below_drewN HB.out nq
                  have HO4 : Hid (W4.ownsRow W.heap.size 42 4 (.slice ad q cp) q (cellsK encN (F ++ fetchN l now k))) := by rw [← hW4]; exact HO.out
                  have hW4s : W.heap.size ≤ W4.heap.size := HB4.out.size
                  have e0 : W4.cell? ⟨b, off + k * 2, none⟩ = some (.int .u32 r.uid) := by rw [← hW4]; exact c0
                  have e1 : W4.cell? ⟨b, off + k * 2 + 1, none⟩ = some (.int .u8 r.fl) := by rw [← hW4]; exact c1
                  rw [hW4]
                  clear hW4 c0 c1 HB HO
                  go_wp2_with (at_builtin; refine wpList_append_own_at _ rfl (.tmp 84) (.tmp 92) 30 rfl W.heap.size 42 i0 (.agg #[.int .i64 0, .int .i64 0, .int .u32 0, .int .u8 0]) 4 24 Try.underlying30 hi0 hz0 hz1 hz2 rfl (by decide) _ q (cellsK encN (F ++ fetchN l now k)) rfl (HO4.out.alloc _) ⟨W4.heap.size, 0, none⟩ 1 1 [.int .i64 2, .int .i64 ((k : Int) + 1), .int .u32 r.uid, .int .u8 r.fl] rfl rfl (World.news_of_block (cs := #[.int .i64 2, .int .i64 ((k : Int) + 1), .int .u32 r.uid, .int .u8 r.fl]) (t := 42) (fr := (0, 0)) (heap_alloc_new W4 _)) (by simp [Value.oneCell']) (by unfold maxLen; omega) (by omega) (by simp; omega) ?_)
                  intro v6 w6 ho6 hg6 _ _
                  have HQ6 : Hid ((F ++ fetchN l now (k + 1)).length = q + 1) := by show _ = _; rw [HG.out, ← List.append_assoc, List.length_append, HQ.out]; rfl
                  have HO6 : Hid (w6.ownsRow W.heap.size 42 4 v6 (q + 1) (cellsK encN (F ++ fetchN l now (k + 1)))) := by
                    show World.ownsRow _ _ _ _ _ _ _
                    rw [HG.out, ← List.append_assoc, cellsN_app' (F ++ fetchN l now k), cellsK_one]; exact ho6
                  have HB6 := Lib.hid ((HB4.out.alloc hW4s (.cells #[.int .i64 2, .int .i64 ((k : Int) + 1), .int .u32 r.uid, .int .u8 r.fl] 42)).grown hg6 (by simp; omega) (fun q hq => (HO4.out.lt q hq).1))
                  clear ho6 hg6
                  go_wp2_with fail
                  go_roundw
                  case rel => exact ⟨k + 1, q + 1, by omega, by go_num, by omega, HQ6.out, HO6.out, HB6.out⟩
                  case measure => simp [intOf]; omega
                · obtain ⟨kk, z, hkk, hz, hzu, hzf⟩ := findI_some hx0
                  have hkp := keepB_some hzf
                  rw [hkk] at CF hx0
                  have CF := Lib.hid CF
                  obtain ⟨b2, off2, hla, hbb2, d0, d1⟩ := EntRow.at (HL.out.below HB.out) hz
                  subst hla
                  have e0' : decide ((kk : Int) < 0) = false := decide_eq_false (by omega)
                  have k0 : (0 : Int) ≤ kk := by omega
                  have k1 : (kk : Int) < N := by have := (List.getElem?_eq_some_iff.1 hz).1; have := HN.out; omega
                  obtain ⟨fz, hfz⟩ : ∃ fz, z.fl = fz := ⟨_, rfl⟩
                  rw [hfz] at d1 hkp
                  by_cases hff : fz = r.fl
                  · have g1 : ((fz : Int) == (r.fl : Int)) = true := by rw [beq_iff_eq]; omega
                    have g2 : ((fz : Int) != (r.fl : Int)) = false := by rw [bne_eq_false_iff_eq]; omega
                    rw [hkp, decide_eq_true hff, if_pos rfl, List.append_nil] at hG
                    have HG := Lib.hid hG
                    clear hr hG hkk hz hzu hzf hkp hfz hff d0 hx0
                    go_wp2_with fail
                    refine CF.out.mono ?_
                    rintro e w3 ⟨rfl, hw3⟩
                    rw [hw3]
                    clear hw3 w3
                    go_wp2_with fail
                    go_quiet (fail)
                    obtain ⟨W4, hW4⟩ : ∃ W4, wr.drewN nq = W4 := ⟨_, rfl⟩
                    have HB4 : Hid (Below W.heap.size W W4) := by rw [← hW4]; exact below_drewN HB.out nq
                    have HO4 : Hid (W4.ownsRow W.heap.size 42 4 (.slice ad q cp) q (cellsK encN (F ++ fetchN l now k))) := by rw [← hW4]; exact HO.out
                    have hW4s : W.heap.size ≤ W4.heap.size := HB4.out.size
                    rw [hW4]
                    clear hW4 c0 c1 d1 HB HO
                    have HQ6 : Hid ((F ++ fetchN l now (k + 1)).length = q) := by show _ = _; rw [HG.out]; exact HQ.out
                    have HO6 : Hid (W4.ownsRow W.heap.size 42 4 (.slice ad q cp) q (cellsK encN (F ++ fetchN l now (k + 1)))) := by show World.ownsRow _ _ _ _ _ _ _; rw [HG.out]; exact HO4.out
                    go_wp2_with fail
                    go_roundw
                    case rel => exact ⟨k + 1, q, by omega, by go_num, by omega, HQ6.out, HO6.out, HB4.out⟩
                    case measure => simp [intOf]; omega
                  · have g1 : ((fz : Int) == (r.fl : Int)) = false := by rw [beq_eq_false_iff_ne]; omega
                    have g2 : ((fz : Int) != (r.fl : Int)) = true := by rw [bne_iff_ne]; omega
                    rw [hkp, decide_eq_false hff, if_neg (by simp)] at hG
                    have HG := Lib.hid hG
                    clear hr hG hkk hz hzu hzf hkp hfz hff d0 hx0
                    go_wp2_with fail
                    refine CF.out.mono ?_
                    rintro e w3 ⟨rfl, hw3⟩
                    rw [hw3]
                    clear hw3 w3
                    go_wp2_with fail
                    go_quiet (fail)
                    obtain ⟨W4, hW4⟩ : ∃ W4, wr.drewN nq = W4 := ⟨_, rfl⟩
                    have HB4 : Hid (Below W.heap.size W W4) := by rw [← hW4]; exact below_drewN HB.out nq
                    have HO4 : Hid (W4.ownsRow W.heap.size 42 4 (.slice ad q cp) q (cellsK encN (F ++ fetchN l now k))) := by rw [← hW4]; exact HO.out
                    have hW4s : W.heap.size ≤ W4.heap.size := HB4.out.size
                    have e0 : W4.cell? ⟨b, off + k * 2, none⟩ = some (.int .u32 r.uid) := by rw [← hW4]; exact c0
                    have e1 : W4.cell? ⟨b, off + k * 2 + 1, none⟩ = some (.int .u8 r.fl) := by rw [← hW4]; exact c1
                    rw [hW4]
                    clear hW4 c0 c1 d1 HB HO
                    go_wp2_with (at_builtin; refine wpList_append_own_at _ rfl (.tmp 84) (.tmp 92) 30 rfl W.heap.size 42 i0 (.agg #[.int .i64 0, .int .i64 0, .int .u32 0, .int .u8 0]) 4 24 Try.underlying30 hi0 hz0 hz1 hz2 rfl (by decide) _ q (cellsK encN (F ++ fetchN l now k)) rfl (HO4.out.alloc _) ⟨W4.heap.size, 0, none⟩ 1 1 [.int .i64 2, .int .i64 ((k : Int) + 1), .int .u32 r.uid, .int .u8 r.fl] rfl rfl (World.news_of_block (cs := #[.int .i64 2, .int .i64 ((k : Int) + 1), .int .u32 r.uid, .int .u8 r.fl]) (t := 42) (fr := (0, 0)) (heap_alloc_new W4 _)) (by simp [Value.oneCell']) (by unfold maxLen; omega) (by omega) (by simp; omega) ?_)
                    intro v6 w6 ho6 hg6 _ _
                    have HQ6 : Hid ((F ++ fetchN l now (k + 1)).length = q + 1) := by show _ = _; rw [HG.out, ← List.append_assoc, List.length_append, HQ.out]; rfl
                    have HO6 : Hid (w6.ownsRow W.heap.size 42 4 v6 (q + 1) (cellsK encN (F ++ fetchN l now (k + 1)))) := by
                      show World.ownsRow _ _ _ _ _ _ _
                      rw [HG.out, ← List.append_assoc, cellsN_app' (F ++ fetchN l now k), cellsK_one]; exact ho6
                    have HB6 := Lib.hid ((HB4.out.alloc hW4s (.cells #[.int .i64 2, .int .i64 ((k : Int) + 1), .int .u32 r.uid, .int .u8 r.fl] 42)).grown hg6 (by simp; omega) (fun q hq => (HO4.out.lt q hq).1))
                    clear ho6 hg6
                    go_wp2_with fail
                    go_roundw
                    case rel => exact ⟨k + 1, q + 1, by omega, by go_num, by omega, HQ6.out, HO6.out, HB6.out⟩
                    case measure => simp [intOf]; omega
              · obtain rfl : k = M := by omega
                have hq5 : ¬ (k : Int) < k := by omega
                have hfin : F ++ fetchN l now k = diffL l now := by unfold diffL; rw [HN.out, HM.out, HGN.out, HF.out]
                have HFIN := Lib.hid hfin
                clear hfin
                go_wp2_with fail
                go_ret
                refine ⟨_, rfl, ?_, HB.out⟩
                have h := HO.out
                have h2 := HQ.out
                rw [HFIN.out] at h h2
                rw [h2]
                exact h
end Go.Proofs.Ytebkpejiloabnaa

/-
  The ranges of a set that rise and have nothing in common: contract.
-/
import Derived.Test.YtmfpfebnlflfiaaDoorSortC
import Derived.WalkMore
import Derived.ScopeJumps
import Derived.Deep.LoopGhost
import Derived.WalkSmall
import Derived.Outline
set_option linter.unusedVariables false
set_option linter.unusedSimpArgs false
namespace Go.Proofs.YtmfpfebnlflfiaaDoor
open Go Go.RowKit
attribute [local go_sem ↓] Go.wp_at_zero Go.wp_at_succ

theorem own_mono2 {w : World} {B B' e size n : Nat} {v : Value} {xs : List Value} (h : w.ownsRow B e size v n xs) (hB : B' ≤ B) : w.ownsRow B' e size v n xs := by
  refine ⟨h.1, ?_⟩
  rcases h.2 with hn | ⟨g, cap, cur, rfl, hg, rest⟩
  · exact .inl hn
  · exact .inr ⟨g, cap, cur, rfl, by omega, rest⟩
theorem sort_any (B D : Nat) (v : Value) (l : List (Nat × Nat)) (hn : l.length ≤ 1000) (w : World) (ho : w.ownsRow B 83 2 v l.length (cellsP l)) (hD : D ≤ B) (hs : D ≤ w.heap.size) :
    Calls Tryd.prog 57 #[v, .func (.func 58) #[] #[]] w fun e w' => (∃ u, e = .returned u) ∧ Below D w w' ∧
      ∃ S : List (Nat × Nat), S.Perm l ∧ S.Pairwise (fun a b => a.1 ≤ b.1) ∧ w'.ownsRow B 83 2 v l.length (cellsP S) := by
  obtain ⟨ad, cp, rfl⟩ := own_form ho
  cases l with
  | nil =>
    have hcon := AnyF.slices_SortFunc_none Tryd.sortL ad cp (.func (.func 58) #[] #[]) w
    change Calls Tryd.prog 57 _ _ _ at hcon
    refine hcon.mono ?_
    rintro e w' ⟨rfl, rfl⟩
    exact ⟨⟨_, rfl⟩, Below.refl _ _, [], List.Perm.refl _, List.Pairwise.nil, ho⟩
  | cons r t =>
    obtain ⟨g, rfl⟩ : ∃ g, ad = some ⟨g, 0, none⟩ := by
      rcases ho.2 with ⟨h, h2⟩ | ⟨g, cap, cur, h, _⟩
      · simp at h2
      · cases h; exact ⟨g, rfl⟩
    refine (sortR_c B cp g (r :: t) hn w ho).mono ?_
    rintro e w' ⟨hu, hb, S, h1, h2, h3⟩
    exact ⟨hu, hb.below (Nat.le_trans hD (ho.lt g rfl).1) hs, S, h1, h2, h3⟩

theorem cellsP_set (I : List (Nat × Nat)) (z : Nat × Nat) (m : Nat) : (cellsP (I ++ [z])).set (I.length * 2 + 1) (.int .u32 m) = cellsP (I ++ [(z.1, m)]) := by
  obtain ⟨a, b⟩ := z
  rw [cellsP_snoc, cellsP_snoc, List.set_append_right _ _ (by rw [cellsP_len]; omega), cellsP_len]
  rw [show I.length * 2 + 1 - I.length * 2 = 1 by omega]
  rfl

set_option maxRecDepth 20000 in
set_option maxHeartbeats 4000000 in
theorem rising_c (B : Nat) (v : Value) (l : List (Nat × Nat)) (hl : l.length ≤ 100) (last : Nat) (w : World) (ho : w.ownsRow B 83 2 v l.length (cellsP l)) :
    Calls Tryd.prog 46 #[v, .int .u32 last] w fun e w' => ∃ (u : Value) (A : List (Nat × Nat)), e = .returned u ∧ w'.ownsRow w.heap.size 83 2 u A.length (cellsP A) ∧ A.length ≤ 100 ∧ Asc A ∧ spread A = meant l last ∧ Below w.heap.size w w' := by
  obtain ⟨i0, hi0, hz0, hz1, hz2⟩ := info_parts infoR
  obtain ⟨ad, cp, rfl⟩ := own_form ho
  obtain ⟨N, hN⟩ : ∃ N, N = l.length := ⟨_, rfl⟩
  rw [← hN] at ho hl ⊢
  have HO := Lib.hid ho
  have HN := Lib.hid hN
  clear ho hN
  go_enter Tryd.func46, Tryd.ntmps46
  go_wp2_with fail
  go_step3
  go_wp2_with fail
  go_loopw [5, 16] (fun t5 t16 wr => ∃ k : Nat, k ≤ N ∧ t16 = .int .i64 k ∧ Hid (wr.ownsRow w.heap.size 83 2 t5 (partsOf (l.take k) last).length (cellsP (partsOf (l.take k) last))) ∧ Hid (Below w.heap.size w wr)) (fun _ t16 _ => N - (intOf t16).toNat)
  case atStart => exact ⟨0, by omega, rfl, World.ownsRow_nil _ _ _ _, Below.refl _ _⟩
  case round =>
    obtain ⟨k, hk, rfl, HP, HB⟩ := hrel
    have hls := HB.out.size
    by_cases hlt : k < N
    · have hkl : k < l.length := by rw [← HN.out]; exact hlt
      obtain ⟨x, y, hxy⟩ : ∃ x y, l[k] = (x, y) := ⟨_, _, rfl⟩
      have hq1 : (k : Int) < N := by omega
      have o1 := own_below HO.out HB.out
      obtain ⟨g, rfl⟩ : ∃ g, ad = some ⟨g, 0, none⟩ := by
        rcases o1.2 with ⟨h, h2⟩ | ⟨g, cap, cur, h, _⟩
        · omega
        · cases h; exact ⟨g, rfl⟩
      have hc := cellsP_at hkl
      rw [hxy] at hc
      have k0 : wr.cell? ⟨g, k * 2, none⟩ = some (.int .u32 x) := by rw [o1.cellAt _ (by omega)]; exact hc.1
      have k1 : wr.cell? ⟨g, k * 2 + 1, none⟩ = some (.int .u32 y) := by rw [o1.cellAt _ (by omega)]; exact hc.2
      have hkk : l[k]? = some (x, y) := by rw [List.getElem?_eq_getElem hkl, hxy]
      have hpn := partsOf_snoc (l.take k) last (x, y)
      rw [← take_at hkk] at hpn
      have hpl := Nat.le_trans (partsOf_len (l.take k) last) (List.length_take_le k l)
      obtain ⟨ad2, cp2, hv⟩ := own_form HP.out
      subst hv
      obtain ⟨P, hP⟩ : ∃ P, partsOf (l.take k) last = P := ⟨_, rfl⟩
      rw [hP] at HP hpn hpl
      obtain ⟨M, hM⟩ : ∃ M, P.length = M := ⟨_, rfl⟩
      rw [hM] at HP hpl
      rw [hP, hM]
      obtain ⟨cl, hcl⟩ : ∃ cl, (cut1 last (x, y)).1 = cl := ⟨_, rfl⟩
      obtain ⟨ch, hch⟩ : ∃ ch, (cut1 last (x, y)).2 = ch := ⟨_, rfl⟩
      rw [show cut1 last (x, y) = (cl, ch) from by rw [← hcl, ← hch]] at hpn
      have m1 : max ((loB (x, y) last : Nat) : Int) 1 = (cl : Int) := by rw [← hcl]; unfold cut1; simp only; omega
      have m2 : min ((hiB (x, y) last : Nat) : Int) (last : Int) = (ch : Int) := by rw [← hch]; unfold cut1; simp only; omega
      have HPN := Lib.hid hpn
      have HM := Lib.hid hM
      clear hc o1 hxy hkl hkk hpn hP hM hcl hch
      go_wp2_with fail
      refine (bounds_c x y last _).mono ?_
      rintro e w2 ⟨rfl, hb2⟩
      have HB2 : Hid (Below w.heap.size w w2) := (HB.out.alloc hls _).trans (hb2.mono (by simp; omega))
      have HP2 := Lib.hid (own_below (HP.out.alloc (.cells #[.int .u32 x, .int .u32 y] 83)) hb2)
      have hls2 := HB2.out.size
      clear hb2 k0 k1
      by_cases hcc : cl ≤ ch
      · have hq3 : (cl : Int) ≤ ch := by omega
        have HC2 : Hid (∀ j u, [Value.int .u32 cl, Value.int .u32 ch][j]? = some u → (w2.alloc (.cells #[.int .u32 cl, .int .u32 ch] 83)).cell? ((⟨w2.heap.size, 0, none⟩ : Addr).add j) = some u) :=
          World.news_of_block (cs := #[.int .u32 cl, .int .u32 ch]) (t := 83) (fr := (0, 0)) (heap_alloc_new w2 _)
        rw [if_pos hcc] at HPN
        go_wp2_with (at_builtin; refine wpList_append_own _ rfl (.tmp 34) (.tmp 38) 43 rfl w.heap.size 83 i0 (.agg #[.int .u32 0, .int .u32 0]) 2 8 Tryd.underlying43 hi0 hz0 hz1 hz2 rfl (by decide) _ _ _ rfl (HP2.out.alloc _) ⟨w2.heap.size, 0, none⟩ 1 1 [.int .u32 cl, .int .u32 ch] rfl rfl HC2.out (fun x hx => by simp at hx; rcases hx with rfl | rfl <;> rfl) (by unfold maxLen; omega) (by omega) (by simp; omega) ?_)
        intro v' w4 hown4 hgrow4 _
        have hb4 : Below w.heap.size w w4 := Below.grown (HB2.out.alloc hls2 _) hgrow4 (by simp; omega) (fun j hj => (HP2.out.lt _ hj).1)
        have HO4 := Lib.hid hown4
        have HB4 := Lib.hid hb4
        clear hown4 hgrow4 hb4
        go_wp2_with fail
        go_roundw
        case rel =>
          refine ⟨k + 1, by omega, by go_num, ?_, HB4.out⟩
          show World.ownsRow _ _ _ _ _ _ _
          have h4 := HO4.out
          rw [HPN.out, cellsP_snoc]
          rw [List.length_append, HM.out]
          exact h4
        case measure => simp [intOf]; omega
      · have hq3 : ¬ (cl : Int) ≤ ch := by omega
        rw [if_neg hcc, List.append_nil] at HPN
        go_wp2_with fail
        go_roundw
        case rel =>
          refine ⟨k + 1, by omega, by go_num, ?_, HB2.out⟩
          show World.ownsRow _ _ _ _ _ _ _
          rw [HPN.out, HM.out]
          exact HP2.out
        case measure => simp [intOf]; omega
    · obtain rfl : k = N := by omega
      have hp := HP.out
      rw [List.take_of_length_le (by rw [← HN.out]; exact Nat.le_refl _)] at hp
      have hpl := partsOf_len l last
      rw [← HN.out] at hpl
      obtain ⟨P0, hP0⟩ : ∃ P, partsOf l last = P := ⟨_, rfl⟩
      have hple := partsOf_le l last
      rw [hP0] at hp hpl hple
      obtain ⟨ad2, cp2, hv⟩ := own_form hp
      subst hv
      have C1 := Lib.hid (sort_any w.heap.size w.heap.size _ P0 (by omega) wr hp (Nat.le_refl _) hls)
      obtain ⟨M, hM⟩ : ∃ M, P0.length = M := ⟨_, rfl⟩
      rw [hM] at C1 hpl
      have HM := Lib.hid hM
      have HP0 := Lib.hid hP0
      have HPL := Lib.hid hple
      clear HP hp hP0 hple
      rw [hM]
      clear hM
      go_wp2_with fail
      refine C1.out.mono ?_
      rintro e w2 ⟨⟨u, rfl⟩, hb2, S, hperm, hsort, ho2⟩
      have HB2 : Hid (Below w.heap.size w w2) := HB.out.trans hb2
      have HS2 := Lib.hid ho2
      have HPM := Lib.hid hperm
      have HST := Lib.hid hsort
      have HSL : Hid (M = S.length) := by show _ = _; rw [hperm.length_eq]; exact HM.out.symm
      have hls2 := HB2.out.size
      clear hb2 ho2 hperm hsort C1 HB hls
      go_wp2_with fail
      go_step3
      go_wp2_with fail
      go_loopw [10, 45] (fun t10 t45 wr => ∃ (j : Nat) (A : List (Nat × Nat)), j ≤ M ∧ t45 = .int .i64 j ∧ A.length ≤ j ∧ Hid (Merged (S.take j) A) ∧ Hid (wr.ownsRow w2.heap.size 83 2 t10 A.length (cellsP A)) ∧ Hid (Below w2.heap.size w2 wr)) (fun _ t45 _ => M - (intOf t45).toNat)
      case atStart => exact ⟨0, [], by omega, rfl, Nat.le_refl _, merged_nil, World.ownsRow_nil _ _ _ _, Below.refl _ _⟩
      case round =>
        obtain ⟨j, A, hj, rfl, hAl, HMG, HA, HBr⟩ := hrel
        have hlr := HBr.out.size
        by_cases hlt2 : j < M
        · have hjS : j < S.length := by rw [← HSL.out]; exact hlt2
          obtain ⟨x, y, hxy⟩ : ∃ x y, S[j] = (x, y) := ⟨_, _, rfl⟩
          have hq2 : (j : Int) < M := by omega
          have o1 := own_below HS2.out HBr.out
          obtain ⟨g, rfl⟩ : ∃ g, ad2 = some ⟨g, 0, none⟩ := by
            rcases o1.2 with ⟨h, h2⟩ | ⟨g, cap, cur, h, _⟩
            · omega
            · cases h; exact ⟨g, rfl⟩
          have hc := cellsP_at hjS
          rw [hxy] at hc
          have k0 : wr.cell? ⟨g, j * 2, none⟩ = some (.int .u32 x) := by rw [o1.cellAt _ (by omega)]; exact hc.1
          have k1 : wr.cell? ⟨g, j * 2 + 1, none⟩ = some (.int .u32 y) := by rw [o1.cellAt _ (by omega)]; exact hc.2
          have hgl : g < wr.heap.size := (o1.lt g rfl).2
          have hjj : S[j]? = some (x, y) := by rw [List.getElem?_eq_getElem hjS, hxy]
          have htk : Hid (S.take (j + 1) = S.take j ++ [(x, y)]) := take_at hjj
          have hmem : (x, y) ∈ P0 := HPM.out.mem_iff.1 (List.mem_of_getElem? hjj)
          have hxy1 : x ≤ y := (HPL.out _ hmem).2.1
          have HX : Hid (∀ s ∈ S.take j, s.1 ≤ x) := by
            intro s hs
            obtain ⟨i, hi, rfl⟩ := List.getElem_of_mem hs
            have hi' : i < j := by simp at hi; omega
            have h := (List.pairwise_iff_getElem.1 HST.out) i j (by omega) hjS hi'
            rw [hxy] at h
            simpa using h
          clear hc o1 hxy hjS hjj hmem
          have HBW : Hid (∀ q, Below w2.heap.size w2 ((((wr.alloc (.cells #[.int .u32 x, .int .u32 y] 83)).drewN q).alloc (.cells #[.int .u32 x, .int .u32 y] 83)))) := fun q =>
            (below_drewN (HBr.out.alloc hlr _) q).alloc (by simp; omega) _
          have HC2 : Hid (∀ q, ∀ j u, [Value.int .u32 x, Value.int .u32 y][j]? = some u → ((((wr.alloc (.cells #[.int .u32 x, .int .u32 y] 83)).drewN q).alloc (.cells #[.int .u32 x, .int .u32 y] 83))).cell? ((⟨wr.heap.size + 1, 0, none⟩ : Addr).add j) = some u) := fun q => by
            have h := heap_alloc_new ((wr.alloc (.cells #[.int .u32 x, .int .u32 y] 83)).drewN q) (.cells #[.int .u32 x, .int .u32 y] 83)
            have e : ((wr.alloc (.cells #[.int .u32 x, .int .u32 y] 83)).drewN q).heap.size = wr.heap.size + 1 := by simp
            rw [e] at h
            exact World.news_of_block (cs := #[.int .u32 x, .int .u32 y]) (t := 83) (fr := (0, 0)) h
          have HA2 : Hid (∀ v n xs, wr.ownsRow w2.heap.size 83 2 v n xs → ∀ q, ((((wr.alloc (.cells #[.int .u32 x, .int .u32 y] 83)).drewN q).alloc (.cells #[.int .u32 x, .int .u32 y] 83))).ownsRow w2.heap.size 83 2 v n xs) := fun v n xs h q =>
            World.ownsRow.alloc (w := (wr.alloc (.cells #[.int .u32 x, .int .u32 y] 83)).drewN q) (h.alloc _) _
          rcases List.eq_nil_or_concat A with rfl | ⟨I, z, hAz⟩
          · obtain ⟨ad3, cp3, hv⟩ := own_form HA.out
            rw [List.length_nil] at hv
            subst hv
            have hd0 : decide ((0 : Int) ≤ -1) = false := by decide
            go_wp2_with fail
            go_quiet (fail)
            go_wp2_with (at_builtin; refine wpList_append_own _ rfl (.tmp 76) (.tmp 78) 43 rfl w2.heap.size 83 i0 (.agg #[.int .u32 0, .int .u32 0]) 2 8 Tryd.underlying43 hi0 hz0 hz1 hz2 rfl (by decide) _ _ _ rfl (HA2.out _ _ _ HA.out nq) ⟨wr.heap.size + 1, 0, none⟩ 1 1 [.int .u32 x, .int .u32 y] rfl rfl (HC2.out nq) (fun x hx => by simp at hx; rcases hx with rfl | rfl <;> rfl) (by unfold maxLen; omega) (by omega) (by simp; omega) ?_)
            intro v' w4 hown4 hgrow4 _
            have hb4 : Below w2.heap.size w2 w4 := Below.grown (HBW.out nq) hgrow4 (by simp; omega) (fun i hi => ((HA2.out _ _ _ HA.out nq).lt _ hi).1)
            have HO4 := Lib.hid hown4
            have HB4 := Lib.hid hb4
            clear hown4 hgrow4 hb4
            go_wp2_with fail
            go_roundw
            case rel =>
              refine ⟨j + 1, [(x, y)], by omega, by go_num, by simp, ?_, ?_, HB4.out⟩
              · show Merged _ _
                rw [htk.out]
                exact HMG.out.new (x, y) hxy1 (fun z hz => by simp at hz)
              · exact HO4.out
            case measure => simp [intOf]; omega
          · rw [List.concat_eq_append] at hAz
            subst hAz
            obtain ⟨ad3, cp3, hv⟩ := own_form HA.out
            have hIl : (I ++ [z]).length = I.length + 1 := by simp
            rw [hIl] at hv HA hAl
            subst hv
            clear hIl
            obtain ⟨g3, rfl⟩ : ∃ g, ad3 = some ⟨g, 0, none⟩ := by
              rcases HA.out.2 with ⟨h, h2⟩ | ⟨g, cap, cur, h, _⟩
              · omega
              · cases h; exact ⟨g, rfl⟩
            have hg3 : g3 < wr.heap.size := (HA.out.lt g3 rfl).2
            have hz := (cellsP_at (l := I ++ [z]) (k := I.length) (by simp)).2
            rw [List.getElem_append_right (Nat.le_refl _)] at hz
            simp only [Nat.sub_self, List.getElem_cons_zero] at hz
            have kz : wr.cell? ⟨g3, I.length * 2 + 1, none⟩ = some (.int .u32 z.2) := by rw [HA.out.cellAt _ (by omega)]; exact hz
            have fz : wr.frozen? ⟨g3, I.length * 2 + 1, none⟩ = false := HA.out.frozenAt _
            have hiI : (0 : Int) ≤ I.length := by omega
            clear hz
            by_cases hxz : x ≤ z.2
            · have hq5 : (x : Int) ≤ z.2 := by omega
              obtain ⟨mm, hmm⟩ : ∃ mm, max z.2 y = mm := ⟨_, rfl⟩
              have hm5 : max ((z.2 : Nat) : Int) (y : Int) = (mm : Int) := by omega
              go_wp2_with fail
              go_quiet (fail)
              go_wp2_with fail
              go_region
              go_wp2_with fail
              go_roundw
              case rel =>
                refine ⟨j + 1, I ++ [(z.1, mm)], by omega, by go_num, by simp; omega, ?_, ?_, ?_⟩
                · show Merged _ _
                  rw [htk.out, ← hmm]
                  exact HMG.out.join (x, y) hxy1 hxz HX.out
                · show World.ownsRow _ _ _ _ _ _ _
                  have h := ((HA.out.alloc (.cells #[.int .u32 x, .int .u32 y] 83)).stored (I.length * 2 + 1) (.int .u32 mm)).1
                  rw [cellsP_set] at h
                  rw [show (I ++ [(z.1, mm)]).length = I.length + 1 by simp]
                  exact h
                · show Below _ _ _
                  have hbg : w2.heap.size ≤ g3 := (HA.out.lt g3 rfl).1
                  first
                    | exact ((below_drewN (HBr.out.alloc hlr _) _).setCell (p := ⟨g3, _, none⟩) hbg _).drew
                    | exact (below_drewN (HBr.out.alloc hlr _) _).drew.setCell (p := ⟨g3, _, none⟩) hbg _
                    | exact (below_drewN (HBr.out.alloc hlr _) _).setCell (p := ⟨g3, _, none⟩) hbg _
              case measure => simp [intOf]; omega
            · have hq5 : ¬ (x : Int) ≤ z.2 := by omega
              go_wp2_with fail
              go_quiet (fail)
              go_wp2_with (at_builtin; refine wpList_append_own _ rfl (.tmp 76) (.tmp 78) 43 rfl w2.heap.size 83 i0 (.agg #[.int .u32 0, .int .u32 0]) 2 8 Tryd.underlying43 hi0 hz0 hz1 hz2 rfl (by decide) _ _ _ rfl (HA2.out _ _ _ HA.out nq) ⟨wr.heap.size + 1, 0, none⟩ 1 1 [.int .u32 x, .int .u32 y] rfl rfl (HC2.out nq) (fun x hx => by simp at hx; rcases hx with rfl | rfl <;> rfl) (by unfold maxLen; omega) (by omega) (by simp; omega) ?_)
              intro v' w4 hown4 hgrow4 _
              have hb4 : Below w2.heap.size w2 w4 := Below.grown (HBW.out nq) hgrow4 (by simp; omega) (fun i hi => ((HA2.out _ _ _ HA.out nq).lt _ hi).1)
              have HO4 := Lib.hid hown4
              have HB4 := Lib.hid hb4
              clear hown4 hgrow4 hb4
              go_wp2_with fail
              go_roundw
              case rel =>
                refine ⟨j + 1, I ++ [z] ++ [(x, y)], by omega, by go_num, by simp; omega, ?_, ?_, HB4.out⟩
                · show Merged _ _
                  rw [htk.out]
                  exact HMG.out.new (x, y) hxy1 (HMG.out.apart (x, y) hxz)
                · show World.ownsRow _ _ _ _ _ _ _
                  rw [cellsP_snoc (I ++ [z])]
                  have e : (I ++ [z] ++ [(x, y)]).length = I.length + 1 + 1 := by simp
                  rw [e]
                  exact HO4.out
              case measure => simp [intOf]; omega
        · obtain rfl : j = M := by omega
          have h1 := HMG.out
          rw [List.take_of_length_le (by rw [← HSL.out]; exact Nat.le_refl _)] at h1
          have HB9 : Hid (Below w.heap.size w wr) := HB2.out.trans (HBr.out.mono hls2)
          have HO9 := Lib.hid (own_mono2 HA.out hls2)
          have HSP : Hid (spread A = meant l last) := spread_meant (by rw [HP0.out]; exact HPM.out) h1
          have HAS : Hid (Asc A) := h1.asc
          clear h1
          go_wp2_with fail
          rw [Exit.noGoto_ret]
          go_ret
          exact ⟨_, A, rfl, HO9.out, by omega, HAS.out, HSP.out, HB9.out⟩
end Go.Proofs.YtmfpfebnlflfiaaDoor

/-
  The law EpochLimbo, walked.
-/
import Derived.Test.YtefmojohabdjcaaLimbo3
import Derived.Test.YtefmojohabdjcaaAwake6
set_option linter.unusedVariables false
set_option linter.unusedSimpArgs false
namespace Go.Proofs.Ytefmojohabdjcaa
open Go Go.RowKit
attribute [local go_sem ↓] Go.wp_at_zero Go.wp_at_succ

/-- The law's argument: slots with an epoch, and at which epoch it is asked. -/
def Adds (W : World) (p : Option Addr) (N : Nat) (ep ask : Nat → Nat) (sv : Nat → Value) (xs : Nat → List Int) : Prop :=
  ∀ i, i < N → ∃ b off, p = some ⟨b, off, none⟩ ∧ b < W.heap.size ∧ W.cell? ⟨b, off + i * 3, none⟩ = some (.int .u64 (ep i)) ∧ W.cell? ⟨b, off + i * 3 + 1, none⟩ = some (sv i) ∧ W.cell? ⟨b, off + i * 3 + 2, none⟩ = some (.int .u64 (ask i)) ∧
    ep i < 18446744073709551616 ∧ ask i < 18446744073709551616 ∧ RowAt W (sv i) (intsV (xs i))

variable {W W' : World} {B : Nat} {v kv : Value} {l : List (Nat × Int)}
theorem LimAt.drew (h : LimAt W B v l) : LimAt W.drew B v l := h.later fun _ _ => rfl
theorem LimAt.grown {n : Nat} {xs : List Value} (h : LimAt W B v l) (ho : W.ownsRow 0 47 2 kv n xs) (hg : W.grownBy W' kv.ownBlock) : LimAt W' B v l :=
  h.later fun k hk => hg.block k (h.lt hk) fun e => by
    obtain ⟨c', hc'⟩ := own_cells ho e.symm
    rcases hk with rfl | hk
    · exact block_ne h.bx hc' (by decide) rfl
    · obtain ⟨c, hc⟩ := own_cells h.ow hk
      exact block_ne hc hc' (by decide) rfl
theorem own_moved' {n : Nat} {xs : List Value} {e size D : Nat} {F' : Nat → Prop} (ho : W.ownsRow D e size kv n xs) (h : LimAt W B v l) (hv : Moved (fL B v) F' W W') (h1 : (41 : Nat) ≠ e) (h2 : (85 : Nat) ≠ e) : W'.ownsRow D e size kv n xs :=
  (own_moved hv ho fun k hk hf => by
    obtain ⟨c', hc'⟩ := own_cells ho hk
    rcases hf with rfl | hf
    · exact block_ne h.bx hc' h1 rfl
    · obtain ⟨c, hc⟩ := own_cells h.ow hf
      exact block_ne hc hc' h2 rfl).1

theorem own_base {w : World} {B D e size n : Nat} {v : Value} {xs : List Value} (h : w.ownsRow B e size v n xs) (hD : D ≤ B) : w.ownsRow D e size v n xs := by
  refine ⟨h.1, ?_⟩
  rcases h.2 with hn | ⟨g, cap, cur, rfl, hg, hgg, rest⟩
  · exact .inl hn
  · exact .inr ⟨g, cap, cur, rfl, Nat.le_trans hD hg, hgg, rest⟩
theorem own_later {w w' : World} {B e size n : Nat} {v : Value} {xs : List Value} (h : w.ownsRow B e size v n xs) (hb : Below w.heap.size w w') : w'.ownsRow B e size v n xs := own_same h fun k hk => hb.block k (h.lt k hk).2
def LimInv (W : World) (B : Nat) (v kv : Value) (l : List (Nat × Int)) (m : Nat) (wr : World) : Prop :=
  LimAt wr B v l ∧ wr.ownsRow W.heap.size 47 2 kv l.length (cellsL l) ∧ l.length ≤ m ∧ (∀ r ∈ l, r.1 < 18446744073709551616) ∧ (∀ q, fL B v q → W.heap.size ≤ q) ∧ Below W.heap.size W wr

set_option maxRecDepth 20000 in
set_option maxHeartbeats 4000000 in
theorem limbo_walk (p : Option Addr) (N cap : Nat) (hN : N ≤ 40) (ep ask : Nat → Nat) (sv : Nat → Value) (xs : Nat → List Int) (W : World) (hA : Adds W p N ep ask sv xs) :
    Calls Try.prog 4 #[.slice p N cap] W fun e w' => e = .returned (.bool true) ∧ Below W.heap.size W w' := by
  obtain ⟨i0, hi0, hz0, hz1, hz2⟩ := info_parts infoKept
  have q40 : ¬ (40 : Int) < N := by omega
  have HA := Lib.hid hA
  have hl0 := LimAt.new W
  have HI0 : Hid (LimInv W W.heap.size (.slice none 0 0) (.slice none 0 0) [] 0 (W.alloc (.cells #[.slice none 0 0] 41))) :=
    ⟨hl0, World.ownsRow_nil _ _ _ _, Nat.le_refl _, fun r hr => by simp at hr, fun q hq => (by
      rcases hq with rfl | hq
      · omega
      · cases hq), (Below.refl _ _).alloc (Nat.le_refl _) _⟩
  clear hA hl0
  go_enter Try.func4, Try.ntmps4
  go_wp2_with fail
  go_loopw [4, 5] (fun kv i wr => ∃ (k : Nat) (v : Value) (l : List (Nat × Int)), k ≤ N ∧ i = .int .i64 k ∧ Hid (LimInv W W.heap.size v kv l (20 * k) wr)) (fun _ i _ => N - (intOf i).toNat)
  case atStart => exact ⟨0, _, [], Nat.zero_le _, rfl, HI0⟩
  case round =>
    obtain ⟨k, v, l, hk, rfl, HI⟩ := hrel
    by_cases hlt : k < N
    · have hq : (k : Int) < N := by omega
      have hq0 : (0 : Int) ≤ k := by omega
      obtain ⟨b, off, rfl, hbW, c0, c1, c2, hep, hask, hrow⟩ := HA.out k hlt
      obtain ⟨sa, scp, hsv⟩ := hrow.form
      rw [intsV_len] at hsv
      rw [hsv] at c1 hrow
      obtain ⟨epk, hepk⟩ : ∃ e, ep k = e := ⟨_, rfl⟩
      obtain ⟨ask', hask'⟩ : ∃ e, ask k = e := ⟨_, rfl⟩
      obtain ⟨ys, hys⟩ : ∃ ys, xs k = ys := ⟨_, rfl⟩
      rw [hepk] at c0 hep
      rw [hask'] at c2 hask
      rw [hys] at c1 hrow
      obtain ⟨m, hm⟩ : ∃ m, ys.length = m := ⟨_, rfl⟩
      rw [hm] at c1 hrow
      have PC : Hid (∀ w', Below W.heap.size W w' → w'.cell? ⟨b, off + k * 3, none⟩ = some (.int .u64 epk) ∧ w'.cell? ⟨b, off + k * 3 + 1, none⟩ = some (.slice sa m scp) ∧ w'.cell? ⟨b, off + k * 3 + 2, none⟩ = some (.int .u64 ask')) := fun w' hb => by
        rw [hb.cell (p := ⟨b, _, none⟩) hbW, hb.cell (p := ⟨b, _, none⟩) hbW, hb.cell (p := ⟨b, _, none⟩) hbW]; exact ⟨c0, c1, c2⟩
      have PR : Hid (∀ w', Below W.heap.size W w' → RowAt w' (.slice sa m scp) (intsV ys)) := fun w' hb => hrow.below hb
      have HE := Lib.hid hep
      have HK := Lib.hid hask
      have HM := Lib.hid hm
      clear hep hask hrow hsv hepk hask' hys c0 c1 c2 hm HA
      have hB := HI.out.2.2.2.2.2
      have HB := Lib.hid hB
      obtain ⟨c0, c1, c2⟩ := PC.out _ hB
      have hbr : b < wr.heap.size := Nat.lt_of_lt_of_le hbW hB.size
      clear hB
      by_cases h20 : 20 < m
      · have g20 : (20 : Int) < m := by omega
        go_wp2_with fail
        go_ret
        exact ⟨rfl, HB.out⟩
      · have g20 : ¬ (20 : Int) < m := by omega
        have CA := Lib.hid (fun w' (hL : LimAt w' W.heap.size v l) (hb : Below W.heap.size W w') => lAdd_c hL epk ys (.slice sa m scp) (by rw [HM.out]; have := HI.out.2.2.1; omega) (fun w'' v'' hv => PR.out w'' (hb.trans (hv.toBelow hb.size HI.out.2.2.2.2.1))))
        unfold pLm at CA
        go_wp2_with fail
        go_region_held3 (fun w' => w'.cell? ⟨b, off + k * 3, none⟩ = some (.int .u64 epk) ∧ w'.cell? ⟨b, off + k * 3 + 1, none⟩ = some (.slice sa m scp))
          (first | exact ⟨c0, c1⟩ | exact hs2)
          ((go_at_call 11; refine (CA.out _ (by first | exact HI.out.1.drew | exact HI.out.1) (by first | exact HB.out.drew | exact HB.out)).mono ?_; rintro e w2 ⟨⟨u, rfl⟩, v2, hL2, hm2⟩; have hB2 : Below W.heap.size W w2 := (by first | exact HB.out.drew.trans (hm2.toBelow HB.out.drew.size HI.out.2.2.2.2.1) | exact HB.out.trans (hm2.toBelow HB.out.size HI.out.2.2.2.2.1)); have hs2 : w2.cell? ⟨b, off + k * 3, none⟩ = some (.int .u64 epk) ∧ w2.cell? ⟨b, off + k * 3 + 1, none⟩ = some (.slice sa m scp) := ⟨(PC.out _ hB2).1, (PC.out _ hB2).2.1⟩))
        all_goals
          have HL2 := Lib.hid hL2
          have HO2 := Lib.hid (own_moved' (by first | exact HI.out.2.1.drew | exact HI.out.2.1) (by first | exact HI.out.1.drew | exact HI.out.1) hm2 (by decide) (by decide))
          have HB2 := Lib.hid hB2
          have HV2 := Lib.hid (moved_ge hm2 HI.out.2.2.2.2.1 (by first | exact HB.out.drew.size | exact HB.out.size))
          clear hL2 hm2 hB2 hs2 c0 c1 c2 CA
          obtain ⟨l2, hl2⟩ : ∃ l2, l ++ ys.map (fun x => (epk, x)) = l2 := ⟨_, rfl⟩
          have HL2e := Lib.hid hl2
          have HLL : Hid (l2.length = l.length + m) := by show _ = _; rw [← hl2, List.length_append, List.length_map, HM.out]
          rw [hl2] at HL2
          clear hl2
          go_wp2_with fail
          go_loopw [4, 6] (fun kv2 i wr => ∃ (j : Nat), j ≤ m ∧ i = .int .i64 j ∧ Hid (LimAt wr W.heap.size v2 l2) ∧ Hid (wr.ownsRow W.heap.size 47 2 kv2 (l ++ (ys.take j).map fun x => (epk, x)).length (cellsL (l ++ (ys.take j).map fun x => (epk, x)))) ∧ Hid (Below W.heap.size W wr)) (fun _ i _ => m - (intOf i).toNat)
          case atStart => exact ⟨0, Nat.zero_le _, rfl, HL2, by show World.ownsRow _ _ _ _ _ _ _; rw [List.take_zero, List.map_nil, List.append_nil]; exact HO2.out, HB2⟩
          case round =>
            obtain ⟨j, hj, rfl, HLj, HOj, HBj⟩ := hrel
            obtain ⟨c0, c1, c2⟩ := PC.out _ HBj.out
            have hbr2 : b < wr.heap.size := Nat.lt_of_lt_of_le hbW HBj.out.size
            clear HL2 HO2 HB2
            by_cases hlt2 : j < m
            · have hq2 : (j : Int) < m := by omega
              have hq3 : (0 : Int) ≤ j := by omega
              have hjy : j < ys.length := by rw [HM.out]; exact hlt2
              obtain ⟨x, hx⟩ : ∃ x, ys[j]? = some x := ⟨_, List.getElem?_eq_getElem hjy⟩
              have hxv : (intsV ys)[j]? = some (.int .i64 x) := by unfold intsV; rw [List.getElem?_map, hx]; rfl
              obtain ⟨b2, off2, hsa, hb2, c3⟩ := (PR.out wr HBj.out).at hxv
              have hb2W : b2 < W.heap.size := by
                obtain ⟨b3, off3, hsa3, hb3, _⟩ := (PR.out W (Below.refl _ _)).at hxv
                rw [hsa] at hsa3; cases hsa3; exact hb3
              subst hsa
              have PX : Hid (∀ w', Below W.heap.size W w' → w'.cell? ⟨b2, off2 + j, none⟩ = some (.int .i64 x)) := fun w' hb => by
                obtain ⟨b3, off3, hsa3, hb3, c4⟩ := (PR.out w' hb).at hxv
                cases hsa3; exact c4
              have HT : Hid (l ++ (ys.take (j + 1)).map (fun x => (epk, x)) = (l ++ (ys.take j).map fun x => (epk, x)) ++ [(epk, x)]) := by
                show _ = _
                obtain ⟨hk2, hx2⟩ := List.getElem?_eq_some_iff.1 hx
                rw [List.take_succ_eq_append_getElem hk2, hx2, List.map_append, List.append_assoc]; rfl
              obtain ⟨lk, hlk⟩ : ∃ lk, l ++ (ys.take j).map (fun x => (epk, x)) = lk := ⟨_, rfl⟩
              have hlen : lk.length = l.length + j := by rw [← hlk, List.length_append, List.length_map, List.length_take]; omega
              rw [hlk] at HOj HT
              have hll := HI.out.2.2.1
              obtain ⟨n, hn⟩ : ∃ n, lk.length = n := ⟨_, rfl⟩
              have hn2 : n ≤ 10000 := by omega
              rw [hn] at HOj
              have HNn := Lib.hid hn
              obtain ⟨ad, cp, hkv⟩ := own_form HOj.out
              subst hkv
              have hls := HBj.out.size
              clear hx hxv hlk hlen hn hjy hll
              go_wp2_with fail
              go_region_held3 (fun w' => w'.cell? ⟨b, off + k * 3, none⟩ = some (.int .u64 epk) ∧ w'.cell? ⟨b, off + k * 3 + 1, none⟩ = some (.slice (some ⟨b2, off2, none⟩) m scp) ∧ w'.cell? ⟨b2, off2 + j, none⟩ = some (.int .i64 x))
                (first | exact ⟨c0, c1, c3⟩ | exact ⟨(PC.out _ HBj.out.drew).1, (PC.out _ HBj.out.drew).2.1, PX.out _ HBj.out.drew⟩ | exact hs3 | (have hbA := HBj.out.alloc hls (.cells #[.int .u64 epk, .int .i64 x] 47); first | exact ⟨(PC.out _ hbA).1, (PC.out _ hbA).2.1, PX.out _ hbA⟩ | exact ⟨(PC.out _ hbA.drew).1, (PC.out _ hbA.drew).2.1, PX.out _ hbA.drew⟩))
                ((refine step_append_lies _ (by rfl) (.tmp 46) (.tmp 61) _ (by rfl) W.heap.size 47 i0 _ 2 16 Try.underlying42 hi0 hz0 hz1 hz2 rfl (by omega) (.slice ad n cp) n (cellsL lk) (by rfl) (by first | exact (HOj.out.alloc _).drew | exact HOj.out.alloc _) ⟨wr.heap.size, 0, none⟩ 1 1 [.int .u64 epk, .int .i64 x] (by rfl) (by rfl) (World.news_of_block (cs := #[.int .u64 epk, .int .i64 x]) (t := 47) (fr := (0, 0)) (heap_alloc_new wr _)) (by simp [Value.oneCell']) (by omega) (by unfold maxLen; omega) (by omega) (by simp; omega) (wr.heap.size + 1) (by simp) ?_; intro g2 cap2 w3 hown3 hgrow hat hlt3; have hb3 : Below W.heap.size W w3 := (by first | exact (HBj.out.alloc hls _).drew.grown hgrow (by simp; omega) (fun q hq => (HOj.out.lt q hq).1) | exact (HBj.out.alloc hls _).grown hgrow (by simp; omega) (fun q hq => (HOj.out.lt q hq).1)); have hs3 : w3.cell? ⟨b, off + k * 3, none⟩ = some (.int .u64 epk) ∧ w3.cell? ⟨b, off + k * 3 + 1, none⟩ = some (.slice (some ⟨b2, off2, none⟩) m scp) ∧ w3.cell? ⟨b2, off2 + j, none⟩ = some (.int .i64 x) := ⟨(PC.out _ hb3).1, (PC.out _ hb3).2.1, PX.out _ hb3⟩))
              all_goals
                have HL3 : Hid (LimAt w3 W.heap.size v2 l2) := by
                  have hbA := (Below.refl wr.heap.size wr).alloc (Nat.le_refl _) (.cells #[.int .u64 epk, .int .i64 x] 47)
                  first
                  | exact LimAt.grown ((HLj.out.below hbA).drew) (own_base0 (HOj.out.alloc _).drew) hgrow
                  | exact LimAt.grown (HLj.out.below hbA) (own_base0 (HOj.out.alloc _)) hgrow
                have HO3 := Lib.hid hown3
                have HB3 := Lib.hid hb3
                clear hown3 hb3 hgrow hat hlt3 hs3 c0 c1 c2 c3
                go_wp2_with fail
                go_roundw
                case rel =>
                  refine ⟨j + 1, by omega, by go_num, HL3.out, ?_, HB3.out⟩
                  show World.ownsRow _ _ _ _ _ _ _
                  rw [HT.out, List.length_append, HNn.out, cellsL_snoc]; exact HO3.out
                case measure => simp [intOf]; omega
            · obtain rfl : j = m := by omega
              have hq2 : ¬ (j : Int) < j := by omega
              have hOj := HOj.out
              rw [List.take_of_length_le (by rw [HM.out]; exact Nat.le_refl _), HL2e.out] at hOj
              have HO4 := Lib.hid hOj
              have hu2 : ∀ r ∈ l2, r.1 < 18446744073709551616 := by
                intro r hr
                rw [← HL2e.out, List.mem_append, List.mem_map] at hr
                rcases hr with hr | ⟨x, _, rfl⟩
                · exact HI.out.2.2.2.1 r hr
                · exact HE.out
              have hl2 : l2.length ≤ 20 * k + 20 := by have := HLL.out; have := HI.out.2.2.1; omega
              obtain ⟨n2, hn2⟩ : ∃ n, l2.length = n := ⟨_, rfl⟩
              have CL1 := lLen_c HLj.out
              rw [hn2] at CL1 HO4 hl2
              have C3 := Lib.hid (rReady_c n2 (own_base0 HO4.out) hn2.symm ask' HK.out (by omega) hu2)
              obtain ⟨ad, cp, hkv⟩ := own_form HO4.out
              have HCL1 := Lib.hid CL1
              have HU2 := Lib.hid hu2
              have HN2 := Lib.hid hn2
              have g63 : ((n2 : Int) != (n2 : Int)) = false := by simp
              subst hkv
              have hls := HBj.out.size
              unfold pLm at HCL1
              clear hOj HOj CL1 hu2 hn2
              go_wp2_with (go_at_call 12; refine HCL1.out.mono ?_; rintro e w' ⟨rfl, hw⟩; rw [hw]; clear hw w')
              refine C3.out.mono ?_
              rintro e w4 ⟨rv, kv3, rfl, hrv, hkv, hb4⟩
              have HL4 := Lib.hid (HLj.out.below hb4)
              have hB4 : Below W.heap.size W w4 := HBj.out.trans (hb4.mono hls)
              obtain ⟨nr, hnr⟩ : ∃ n, (readyOf ask' l2).length = n := ⟨_, rfl⟩
              obtain ⟨nk, hnk⟩ : ∃ n, (leftOf ask' l2).length = n := ⟨_, rfl⟩
              rw [hnr] at hrv
              rw [hnk] at hkv
              obtain ⟨ra, rc, hrf⟩ := own_form hrv
              obtain ⟨ka, kc, hkf⟩ := own_form hkv
              subst hrf hkf
              obtain ⟨c0, c1, c2⟩ := PC.out _ hB4
              have hbr4 : b < w4.heap.size := Nat.lt_of_lt_of_le hbW hB4.size
              have HB4 := Lib.hid hB4
              have HR4 := Lib.hid (own_base hrv hls)
              have HK4 := Lib.hid (own_base hkv hls)
              have HNR := Lib.hid hnr
              have HNK := Lib.hid hnk
              have C4 := Lib.hid (lReady_c HL4.out ask' HK.out (by have := HN2.out; omega) HU2.out)
              unfold pLm at C4
              clear hrv hkv hb4 hB4 hnr hnk C3 HLj HO4 HBj
              go_wp2_with fail
              refine C4.out.mono ?_
              rintro e w5 ⟨rv5, v5, rfl, ho5, hL5, hv5, hm5⟩
              have hR5 := own_moved' HR4.out HL4.out hm5 (by decide) (by decide)
              have hK5 := own_moved' HK4.out HL4.out hm5 (by decide) (by decide)
              have hB5 : Below W.heap.size W w5 := HB4.out.trans (hm5.toBelow HB4.out.size HV2.out)
              have hV5 := moved_ge hm5 HV2.out HB4.out.size
              have hlen5 : (readyOf ask' l2).length ≤ 10000 := by
                have h1 : (readyOf ask' l2).length ≤ l2.length := by unfold readyOf; rw [List.length_map]; exact List.length_filter_le _ _
                have := HN2.out; omega
              have C5 := rSame_c (readyOf ask' l2) rv5 (.slice ra nr rc) hlen5 (RowAt.of_own ho5 (by rw [intsV_len])) (RowAt.of_own hR5 (by rw [intsV_len, HNR.out]))
              obtain ⟨ra5, rc5, hrf5⟩ := own_form ho5
              rw [hrf5] at C5 ⊢
              rw [HNR.out] at C5 ⊢
              have HC5 := Lib.hid C5
              have HL5 := Lib.hid hL5
              have HK5 := Lib.hid hK5
              have HB5 := Lib.hid hB5
              have HV5 := Lib.hid hV5
              clear ho5 hL5 hv5 hm5 hR5 hK5 hB5 hV5 hlen5 C5 hrf5 C4 HL4 HR4 HK4 HB4 c0 c1 c2 hbr4
              go_wp2_with fail
              refine HC5.out.mono ?_
              rintro e w6 ⟨rfl, hb6⟩
              have HL6 := Lib.hid (HL5.out.below hb6)
              have HK6 := Lib.hid (own_later HK5.out hb6)
              have HB6 : Hid (Below W.heap.size W w6) := HB5.out.trans (hb6.mono HB5.out.size)
              have CL6 := lLen_c HL6.out
              rw [HNK.out] at CL6
              have HCL6 := Lib.hid CL6
              unfold pLm at HCL6
              have g63' : ((nk : Int) != (nk : Int)) = false := by simp
              clear hb6 CL6 HL5 HK5 HB5 HC5
              go_wp2_with (go_at_call 12; refine HCL6.out.mono ?_; rintro e w' ⟨rfl, hw⟩; rw [hw]; clear hw w')
              go_roundw
              case rel =>
                refine ⟨k + 1, v5, leftOf ask' l2, by omega, by go_num, HL6.out, by rw [HNK.out]; exact HK6.out, ?_, fun r hr => HU2.out r ((List.mem_filter.1 hr).1), HV5.out, HB6.out⟩
                have h1 : (leftOf ask' l2).length ≤ l2.length := by unfold leftOf; exact List.length_filter_le _ _
                have := HN2.out; omega
              case measure => simp [intOf]; omega
    · obtain rfl : k = N := by omega
      have hq : ¬ (k : Int) < k := by omega
      go_wp2_with fail
      refine (awake6_c _).mono ?_
      rintro e w3 ⟨rfl, hb3⟩
      have HB3 : Hid (Below W.heap.size W w3) := HI.out.2.2.2.2.2.trans (hb3.mono HI.out.2.2.2.2.2.size)
      clear hb3
      go_wp2_with fail
      go_ret
      exact ⟨rfl, HB3.out⟩
theorem limbo_great (p : Option Addr) (N cap : Nat) (hN : 40 < N) (W : World) :
    Calls Try.prog 4 #[.slice p N cap] W fun e w' => e = .returned (.bool true) ∧ Below W.heap.size W w' := by
  have q40 : (40 : Int) < N := by omega
  go_enter Try.func4, Try.ntmps4
  go_wp2_with fail
  go_ret
  exact ⟨rfl, Below.refl _ _⟩
end Go.Proofs.Ytefmojohabdjcaa

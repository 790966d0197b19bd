/-
  The law EpochQuick, walked.
-/
import Derived.Test.YtefmojohabdjcaaQkG
set_option linter.unusedVariables false
set_option linter.unusedSimpArgs false
namespace Go.Proofs.Ytefmojohabdjcaa
open Go Go.RowKit
attribute [local go_sem ↓] Go.wp_at_zero Go.wp_at_succ

set_option maxRecDepth 20000 in
set_option maxHeartbeats 4000000 in
theorem quick_walk (r : Nat) (hr : r < 256) (lv : Value) (picks : List Int) (hls : picks.length ≤ 200) (W : World) (hlv : RowAt W lv (intsV picks)) :
    Calls Try.prog 6 #[.int .u8 r, lv] W fun e w' => e = .returned (.bool true) ∧ Below W.heap.size W w' := by
  obtain ⟨i0, hi0, hz0, hz1, hz2⟩ := info_parts infoPA
  obtain ⟨N, hN⟩ : ∃ N, picks.length = N := ⟨_, rfl⟩
  obtain ⟨la, lc, rfl⟩ := hlv.form
  rw [intsV_len, hN] at hlv ⊢
  have q200 : ¬ (200 : Int) < N := by omega
  obtain ⟨R, hR⟩ : ∃ R, R = 1 + r % 8 := ⟨_, rfl⟩
  have eR : (1 : Int) + (r : Int) % 8 = (R : Int) := by omega
  have hR1 : 1 ≤ R := by omega
  have hR8 : R ≤ 8 := by omega
  have CM := Lib.hid (fun w => made_c R hR1 hR8 w)
  have HLV := Lib.hid hlv
  have HN := Lib.hid hN
  have hNN : N ≤ 200 := by omega
  have ER := Lib.hid eR
  clear hlv hN hR hls eR
  go_enter Try.func6, Try.ntmps6
  go_wp2_with fail
  rw [ER.out]
  refine (CM.out _).mono ?_
  rintro e w1 ⟨p, s, rfl, hpR, hE, hF, hB, hge⟩
  have HF := Lib.hid hF
  have HPR := Lib.hid hpR
  have HGE := Lib.hid hge
  have HE1 := Lib.hid hE
  have HB1 := Lib.hid hB
  clear CM hpR hE hF hB hge
  unfold pE
  go_wp2_with fail
  go_loopw [7, 9] (fun pv i wr => ∃ (k : Nat) (pb b : Nat → Nat), k ≤ R ∧ i = .int .i64 k ∧ Hid (Gath w1 p 33 k pb b pv wr)) (fun _ i _ => R - (intOf i).toNat)
  case atStart => exact ⟨0, _, _, Nat.zero_le _, rfl, Gath.nil w1 p _⟩
  case round =>
    obtain ⟨k, pb, b, hk, rfl, HG⟩ := hrel
    by_cases hlt : k < R
    · have hq : (k : Int) < R := by omega
      have CP := Lib.hid (pin_c (HE1.out.below HG.out.bel) k (by rw [HPR.out]; exact hlt))
      obtain ⟨pa0, pc0, hpv⟩ := own_form HG.out.row
      subst hpv
      unfold pE at CP
      go_wp2_with fail
      refine CP.out.mono ?_
      rintro e w2 ⟨A2, b2, rfl, hA0, hb0, hA, hpb, hb2⟩
      have H2 : Hid (w1.heap.size ≤ A2 ∧ wr.heap.size ≤ A2 ∧ wr.heap.size ≤ b2 ∧ ActAt w2 A2 (fv 33 (capP b2)) 0 ∧ PB p w2 b2 k ∧ Below wr.heap.size wr w2) := ⟨Nat.le_trans HG.out.bel.size hA0, hA0, hb0, hA, hpb, hb2⟩
      have HO2 := Lib.hid (HG.out.below hb2).row
      have hsz : w1.heap.size ≤ w2.heap.size := Nat.le_trans HG.out.bel.size hb2.size
      clear hA0 hb0 hA hpb hb2 CP
      unfold pa
      go_wp2_with (at_builtin; refine wpList_append_own _ rfl (.tmp 32) (.tmp 36) 63 rfl w1.heap.size 56 i0 (.pointer none) 1 8 Try.underlying63 hi0 hz0 hz1 hz2 rfl (by decide) _ _ _ rfl (HO2.out.alloc _) ⟨w2.heap.size, 0, none⟩ 1 1 [.pointer (some ⟨A2, 0, none⟩)] rfl rfl (World.news_of_block (cs := #[.pointer (some ⟨A2, 0, none⟩)]) (t := 56) (fr := (0, 0)) (heap_alloc_new w2 _)) (fun u hu => by simp at hu; subst hu; rfl) (by unfold maxLen; omega) (by omega) (by simp; omega) ?_)
      intro v3 w3 hown hgrow hnil
      have HG3 := Lib.hid (HG.out.add H2.out.2.1 H2.out.2.2.1 H2.out.2.2.2.1 H2.out.2.2.2.2.1 H2.out.2.2.2.2.2 _ hown hgrow)
      obtain ⟨va, vc, hv3⟩ := own_form hown
      subst hv3
      clear hown hgrow hnil HG H2 HO2
      go_wp2_with fail
      go_roundw
      case rel => exact ⟨k + 1, _, _, by omega, by go_num, HG3.out⟩
      case measure => simp [intOf]; omega
    · obtain rfl : k = R := by omega
      have hq : ¬ (k : Int) < k := by omega
      have HPk := HPR.out
      subst HPk
      have CT := Lib.hid (quick_pins HE1.out HF.out HG.out hR1 hR8 HB1.out HGE.out (by rw [HN.out]; exact hNN) HLV.out)
      obtain ⟨pa0, pc0, hpv⟩ := own_form HG.out.row
      subst hpv
      clear HG HE1 HF
      go_wp2_with fail
      refine CT.out.mono ?_
      rintro e w2 ⟨⟨n2, rfl⟩, hR2⟩
      have HR2 := Lib.hid hR2
      clear hR2 CT
      go_wp2_with fail
      refine HR2.out.mono ?_
      rintro e w3 ⟨⟨n3, rfl⟩, s3, hQ⟩
      have HQ := Lib.hid hQ
      clear hQ HR2
      go_wp2_with fail
      go_loopw [8, 10] (fun uv i wr => ∃ (j : Nat) (pb2 b2 : Nat → Nat), j ≤ p.R ∧ i = .int .i64 j ∧ Hid (Gath w3 p 37 j pb2 b2 uv wr)) (fun _ i _ => p.R - (intOf i).toNat)
      case atStart => exact ⟨0, _, _, Nat.zero_le _, rfl, Gath.nil w3 p _⟩
      case round =>
        obtain ⟨j, pb2, b2, hj, rfl, HG⟩ := hrel
        by_cases hlt2 : j < p.R
        · have hq2 : (j : Int) < p.R := by omega
          have hq3 : (0 : Int) ≤ j := by omega
          have CP := pinned_c (HQ.out.below HG.out.bel).ep j hlt2
          rw [(HQ.out.pins j hlt2).1, (HQ.out.pins j hlt2).2] at CP
          have HCP := Lib.hid CP
          obtain ⟨ua0, uc0, huv⟩ := own_form HG.out.row
          subst huv
          obtain ⟨g0, hg0⟩ : ∃ g0, pa0 = some ⟨g0, 0, none⟩ := by
            rcases HQ.out.row.2 with ⟨e, _⟩ | ⟨g, cap, cur, e, _⟩
            · injection e with e1 e2 e3; omega
            · cases e; exact ⟨g, rfl⟩
          subst hg0
          unfold pE at HCP
          have e00 : ((0 : Nat) : Int) = 0 := rfl
          rw [e00] at HCP
          clear CP e00
          go_wp2_with fail
          refine HCP.out.mono ?_
          rintro e w4 ⟨rfl, q4, hq4⟩
          have hbd : Below wr.heap.size wr w4 := by rw [hq4]; exact below_drewN (Below.refl _ _) _
          have HQ4 := Lib.hid ((HQ.out.below HG.out.bel).below hbd)
          have HG4 := Lib.hid (HG.out.below hbd)
          have d0 : w4.cell? ⟨g0, j, none⟩ = some (pa (pb j)) := by
            rw [HQ4.out.row.cellAt j (by omega)]; exact paRow_at pb hlt2
          have d1 : g0 < w4.heap.size := (HQ4.out.row.lt g0 rfl).2
          have CO := Lib.hid (over_none (pb j) 3 w4 (HQ4.out.act j hlt2))
          have CC := Lib.hid (count_some (pb j) 3 .nilFunc w4 (HQ4.out.act j hlt2))
          have CU := Lib.hid (unpin_c HQ4.out.ep j hlt2)
          clear hq4 hbd HCP HG
          unfold pa at d0 CO CC
          unfold pE at CU
          have e03 : ((3 : Nat) : Int) = 3 := rfl
          rw [e03] at CC
          clear e03
          go_wp2_with (first | (go_at_call 24; refine CO.out.mono ?_; rintro e w' ⟨rfl, hw⟩; rw [hw]; clear hw w') | (go_at_call 25; refine CC.out.mono ?_; rintro e w' ⟨rfl, hw⟩; rw [hw]; clear hw w'))
          refine CU.out.mono ?_
          rintro e w5 ⟨A2, b5, rfl, hA0, hb0, hA, hpb, hb5⟩
          have H2 : Hid (w3.heap.size ≤ A2 ∧ w4.heap.size ≤ A2 ∧ w4.heap.size ≤ b5 ∧ ActAt w5 A2 (fv 37 (capP b5)) 0 ∧ PB p w5 b5 j ∧ Below w4.heap.size w4 w5) := ⟨Nat.le_trans HG4.out.bel.size hA0, hA0, hb0, hA, hpb, hb5⟩
          have HO2 := Lib.hid (HG4.out.below hb5).row
          have hsz : w3.heap.size ≤ w5.heap.size := Nat.le_trans HG4.out.bel.size hb5.size
          clear hA0 hb0 hA hpb hb5 CU CO CC d0 d1
          unfold pa
          go_wp2_with (at_builtin; refine wpList_append_own _ rfl (.tmp 83) (.tmp 87) 63 rfl w3.heap.size 56 i0 (.pointer none) 1 8 Try.underlying63 hi0 hz0 hz1 hz2 rfl (by decide) _ _ _ rfl (HO2.out.alloc _) ⟨w5.heap.size, 0, none⟩ 1 1 [.pointer (some ⟨A2, 0, none⟩)] rfl rfl (World.news_of_block (cs := #[.pointer (some ⟨A2, 0, none⟩)]) (t := 56) (fr := (0, 0)) (heap_alloc_new w5 _)) (fun u hu => by simp at hu; subst hu; rfl) (by unfold maxLen; omega) (by omega) (by simp; omega) ?_)
          intro v6 w6 hown hgrow hnil
          have HG6 := Lib.hid (HG4.out.add H2.out.2.1 H2.out.2.2.1 H2.out.2.2.2.1 H2.out.2.2.2.2.1 H2.out.2.2.2.2.2 _ hown hgrow)
          obtain ⟨va, vc, hv6⟩ := own_form hown
          subst hv6
          clear hown hgrow hnil HG4 H2 HO2 HQ4
          go_wp2_with fail
          go_roundw
          case rel => exact ⟨j + 1, _, _, by omega, by go_num, HG6.out⟩
          case measure => simp [intOf]; omega
        · obtain rfl : j = p.R := by omega
          have hq2 : ¬ (p.R : Int) < p.R := by omega
          have CR := Lib.hid (quick_unpins HQ.out HG.out hR1 hR8)
          obtain ⟨ua0, uc0, huv⟩ := own_form HG.out.row
          subst huv
          clear HG HQ
          go_wp2_with fail
          refine CR.out.mono ?_
          rintro e w4 ⟨⟨n4, rfl⟩, s4, hE4, hS4, ht4, hB4⟩
          have HK4 : Hid (EpAt p s4 w4 ∧ Below W.heap.size W w4) := ⟨hE4, hB4⟩
          have HS4 := Lib.hid hS4
          have HT4 := Lib.hid ht4
          clear hE4 hS4 ht4 hB4 CR
          go_wp2_with fail
          go_loopw [13] (fun i wr => ∃ (j : Nat), j ≤ p.R ∧ i = .int .i64 j ∧ Hid (EpAt p s4 wr ∧ Below W.heap.size W wr)) (fun i _ => p.R - (intOf i).toNat)
          case atStart => exact ⟨0, Nat.zero_le _, rfl, HK4⟩
          case round =>
            obtain ⟨j, hj, rfl, HK⟩ := hrel
            clear HK4
            by_cases hlt3 : j < p.R
            · have hq3 : (j : Int) < p.R := by omega
              have CP := pinned_c HK.out.1 j hlt3
              rw [(HS4.out.off j hlt3 rfl).1] at CP
              have HCP := Lib.hid CP
              unfold pE at HCP
              clear CP
              go_wp2_with fail
              refine HCP.out.mono ?_
              rintro e w5 ⟨rfl, q5, hq5⟩
              have HK5 : Hid (EpAt p s4 w5 ∧ Below W.heap.size W w5) := by
                show _ ∧ _
                rw [hq5]; exact ⟨HK.out.1.later fun _ _ => rfl, below_drewN HK.out.2 _⟩
              clear HK HCP hq5
              go_wp2_with fail
              go_roundw
              case rel => exact ⟨j + 1, by omega, by go_num, HK5⟩
              case measure => simp [intOf]; omega
            · obtain rfl : j = p.R := by omega
              have hq3 : ¬ (p.R : Int) < p.R := by omega
              have CM := Lib.hid (moved_yes HK.out.1 HS4.out (by have := HT4.out; omega) (fun i hi => .inl rfl))
              unfold pE at CM
              go_wp2_with fail
              refine CM.out.mono ?_
              rintro e w6 ⟨rfl, s6, hE6, hS6, ht6, hm6⟩
              have hB6 : Below W.heap.size W w6 := HK.out.2.trans (hm6.toBelow HK.out.2.size HGE.out)
              have CM2 := Lib.hid (moved_yes hE6 hS6 (by have := HT4.out; omega) (fun i hi => .inl rfl))
              have HB6 := Lib.hid hB6
              unfold pE at CM2
              clear hE6 hS6 ht6 hm6 hB6 CM
              go_wp2_with fail
              refine CM2.out.mono ?_
              rintro e w7 ⟨rfl, s7, hE7, hS7, ht7, hm7⟩
              have HB7 : Hid (Below W.heap.size W w7) := HB6.out.trans (hm7.toBelow HB6.out.size HGE.out)
              have CN := now_c hE7
              rw [hS7.nw] at CN
              have e2 : ((0 + 1 + 1 : Nat) : Int) = 2 := rfl
              rw [e2] at CN
              have HCN := Lib.hid CN
              unfold pE at HCN
              clear hE7 hS7 ht7 hm7 CN e2 CM2
              go_wp2_with (go_at_call 21; refine HCN.out.mono ?_; rintro e w' ⟨rfl, hw⟩; rw [hw]; clear hw w')
              refine (awake6_c _).mono ?_
              rintro e w8 ⟨rfl, hb8⟩
              have HB8 : Hid (Below W.heap.size W w8) := HB7.out.trans (hb8.mono HB7.out.size)
              clear hb8
              go_wp2_with fail
              go_ret
              exact ⟨rfl, HB8.out⟩
theorem quick_great (r : Nat) (hr : r < 256) (p : Option Addr) (N cap : Nat) (hN : 200 < N) (W : World) :
    Calls Try.prog 6 #[.int .u8 r, .slice p N cap] W fun e w' => e = .returned (.bool true) ∧ Below W.heap.size W w' := by
  have q60 : (200 : Int) < N := by omega
  go_enter Try.func6, Try.ntmps6
  go_wp2_with fail
  go_ret
  exact ⟨rfl, Below.refl _ _⟩
end Go.Proofs.Ytefmojohabdjcaa

/-
  The law ActTurns: its walk.
-/
import Derived.Test.YtpooieeeicffpaaTurnsP
set_option linter.unusedVariables false
set_option linter.unusedSimpArgs false
namespace Go.Proofs.Ytpooieeeicffpaa
open Go Go.RowKit
attribute [local go_sem] Oper.semAt_some wide_fnG wide_depthG

set_option maxRecDepth 100000 in
set_option maxHeartbeats 1000000 in
theorem turns_yes (l : List Nat) (hl : l.length ≤ 10) (hb8 : ∀ x ∈ l, x < 256) (picks : List Int) (hp : picks.length ≤ 200) (limit : Int) (hlim : limit ≤ 60) (lv pv : Value) (w : World)
    (hlv : RowAt w lv (l.map fun n : Nat => Value.int .u8 n)) (hpv : RowAt w pv (intsV picks)) :
    Calls Try.prog 3 #[lv, pv, .int .i64 limit] w fun e w' => e = .returned (.bool true) ∧ Below w.heap.size w w' := by
  obtain ⟨i0, hi0, hz0, hz1, hz2⟩ := info_parts infoInt
  obtain ⟨i1, hi1, hy0, hy1, hy2⟩ := info_parts infoPA
  obtain ⟨la, lc, hlvf⟩ := hlv.form
  obtain ⟨pa', pc, hpvf⟩ := hpv.form
  rw [show (l.map fun n : Nat => Value.int .u8 n).length = l.length by simp] at hlvf
  rw [intsV_len] at hpvf
  have hbw : Below w.heap.size w (w.alloc (.cells #[.bool false] 4)) := (Below.refl _ _).alloc (Nat.le_refl _) _
  have CL := Lib.hid (lengths_c l (by omega) hb8 lv (w.alloc (.cells #[.bool false] 4)) (hlv.below hbw))
  have hPV := Lib.hid (fun W' (hb : Below w.heap.size w W') => hpv.below hb)
  have HRB := Lib.hid (Boxed.new w 4 (.bool false))
  have HBW := Lib.hid hbw
  obtain ⟨n, hnn⟩ : ∃ n : Nat → Nat, (fun i => l.getD i 0 % 20) = n := ⟨_, rfl⟩
  have hn20 : ∀ i, n i < 20 := fun i => by rw [← hnn]; exact Nat.mod_lt _ (by omega)
  have HN20 := Lib.hid hn20
  have hrow : namesV (l.map (· % 20)) = rowD l.length n := by
    unfold namesV rowD
    apply List.ext_getElem?
    intro i
    by_cases hi : i < l.length
    · simp [hi, ← hnn]
    · simp [hi]
  rw [hrow] at CL
  obtain ⟨N, hN⟩ : ∃ N, N = l.length := ⟨_, rfl⟩
  obtain ⟨Np, hNp⟩ : ∃ Np, Np = picks.length := ⟨_, rfl⟩
  rw [← hN] at hl hlvf CL
  rw [← hNp] at hp hpvf
  have HNp := Lib.hid hNp
  subst hlvf
  subst hpvf
  have q1 : ¬ (10 : Int) < N := by omega
  have q2 : ¬ (200 : Int) < Np := by omega
  have q3 : ¬ (60 : Int) < limit := by omega
  clear hlv hpv hbw hrow hnn hn20 hb8 hN hNp
  refine (callsIn_wide (n := 3)).1 ?_
  refine callsIn_of_wp_marks Try.func3 rfl trivial ?_
  simp only [Try.ntmps3, List.size_toArray, List.length_cons, List.length_nil, Nat.reduceAdd, Nat.reduceSub, Array.replicate_succ, Array.replicate_zero, List.push_toArray, List.append_toArray, List.nil_append, List.cons_append]
  refine wpIn_wide.2 ?_
  go_wp2_with fail
  refine CL.out.mono ?_
  rintro e w1 ⟨nv, rfl, ho1, hb1⟩
  have hs1 : w.heap.size < w1.heap.size := by have := hb1.size; simp at this; omega
  have hB1 : Below w.heap.size w w1 := HBW.out.trans (hb1.mono (by simp))
  have hR1 : Boxed w1 w.heap.size 4 (.bool false) := (hb1.block _ (by simp)).trans HRB.out
  obtain ⟨Nb, hNb⟩ : ∃ Nb, w1.heap.size = Nb := ⟨_, rfl⟩
  have hW2 : Hid (∃ W2, ((w1.alloc (.cells #[nv] 23)).alloc (.cells #[.slice none 0 0] 23)) = W2 ∧ Below w.heap.size w W2 ∧ Boxed W2 w.heap.size 4 (.bool false) ∧ Boxed W2 Nb 23 nv ∧ W2.ownsRow 0 3 1 nv N (rowD N n) ∧ (∀ k, nv.ownBlock = some k → k < Nb + 1) ∧ Boxed W2 (Nb + 1) 23 (.slice none 0 0) ∧ w.heap.size < Nb + 1 ∧ W2.heap.size = Nb + 2) := by
    refine ⟨_, rfl, (hB1.alloc (by omega) _).alloc (by simp; omega) _, (hR1.alloc _).alloc _, ?_, own_zero ((ho1.alloc _).alloc _), fun k hk => by have := (ho1.lt k hk).2; omega, ?_, by omega, by simp; omega⟩
    · have := (Boxed.new w1 23 nv).alloc (.cells #[.slice none 0 0] 23)
      rw [hNb] at this; exact this
    · have := Boxed.new (w1.alloc (.cells #[nv] 23)) 23 (.slice none 0 0)
      rw [World.size_alloc, hNb] at this; exact this
  obtain ⟨na, nc, hnv⟩ := own_form ho1
  subst hnv
  clear CL HRB HBW ho1 hb1 hs1 hB1 hR1
  go_wp2_with fail
  clear hNb
  obtain ⟨W2, hW2e, hBW2, hRB2, hNB2, hNR2, hVD2, hLB2, hrD2, hsz2⟩ := hW2.out
  rw [hW2e]
  clear hW2 hW2e
  obtain ⟨D, hD⟩ : ∃ D, D = Nb + 1 := ⟨_, rfl⟩
  rw [← hD] at hVD2 hLB2 hrD2 ⊢
  have HB2 := Lib.hid hBW2
  have HR2 := Lib.hid hRB2
  have HN2 := Lib.hid hNB2
  have HO2 := Lib.hid hNR2
  have HV2 := Lib.hid hVD2
  have HD0 := Lib.hid hD
  have HZ2 := Lib.hid hsz2
  have hst := LM.start (lpk n (fun _ => 0) id D 1 0 (fun _ => 0)) rfl (cur := #[.slice none 0 0]) hLB2 rfl (fun j hj => by have : j < 1 := hj; obtain rfl : j = 0 := (by omega); rfl)
  have HBLD : Hid (Bld D n (fun _ => 0) id D 1 0 0 0 (fun _ => 0) (footOf (lpk n (fun _ => 0) id D 1 0 (fun _ => 0)) s0 (fun _ => .slice none 0 0) (fun _ => 0)) (.slice none 0 0) (.slice none 0 0) W2) := by
    refine ⟨⟨_, _, _, hst⟩, fun i j hi => by omega, ?_, World.ownsRow_nil _ _ _ _, World.ownsRow_nil _ _ _ _, fun k hk => by (cases hk), by omega⟩
    rintro k (rfl | ⟨i, hi, _⟩ | ⟨j, hj, hk⟩ | ⟨i, hi, _⟩)
    · exact Nat.le_refl _
    · have : i < 0 := hi; omega
    · cases hk
    · have : i < 0 := hi; omega
  have hND : Nb < D := by omega
  clear hBW2 hRB2 hNB2 hNR2 hVD2 hLB2 hst hsz2 hD
  go_loopw [9, 10, 11] (fun av dv i wr => ∃ (k : Nat) (pb : Nat → Nat) (F : Nat → Prop), k ≤ N ∧ i = .int .i64 k ∧ Hid (k = 0 → dv = .slice none 0 0) ∧ Hid (Bld D n (fun _ => 0) id D 1 k k k pb F av dv wr) ∧ Hid (Below D W2 wr)) (fun _ _ i _ => N - (intOf i).toNat)
  case atStart => exact ⟨0, _, _, Nat.zero_le _, rfl, (fun _ => rfl), HBLD, Below.refl _ _⟩
  case round =>
    obtain ⟨k, pb, F, hk, rfl, HZk, HBk, HBB⟩ := hrel
    clear HBLD
    have hnb : Boxed wr Nb 23 (.slice na N nc) := (HBB.out.block _ (by omega)).trans HN2.out
    have hnr : wr.ownsRow 0 3 1 (.slice na N nc) N (rowD N n) := own_same HO2.out fun j hj => HBB.out.block _ (HV2.out j hj)
    have hcb := hnb.cell
    have hcl := hnb.lt
    by_cases hlt : k < N
    · have hq : (k : Int) < N := by omega
      obtain ⟨g, rfl⟩ : ∃ g, na = some ⟨g, 0, none⟩ := by
        rcases hnr.2 with ⟨h, h2⟩ | ⟨g, cap, cur, h, _⟩
        · omega
        · cases h; exact ⟨g, rfl⟩
      have hck : wr.cell? ⟨g, k, none⟩ = some (.int .i64 (n k)) := by rw [hnr.cellAt k (by omega)]; exact rowD_at _ hlt
      have hgl := (hnr.lt g rfl).2
      have CS := Lib.hid (steps_c (n k) k D 0 (by have := HN20.out k; omega) wr)
      have HNK : Hid (n k ≤ 1000) := by have := HN20.out k; show _ ≤ _; omega
      unfold ptrV at CS
      obtain ⟨aa, ac, hav⟩ := own_form HBk.out.ar
      obtain ⟨da, dc, hdv⟩ := own_form HBk.out.dr
      subst hav
      subst hdv
      clear hnb hnr
      go_wp2_with fail
      refine CS.out.mono ?_
      rintro e w3 ⟨B, Bx, rfl, hB, hBx, hna, hb3⟩
      obtain ⟨F', hbl⟩ := HBk.out.act hB hBx hb3 hna
      have HBA := Lib.hid (hbl.alloc (.cells #[pa B] 26))
      have HB3 := Lib.hid (HBB.out.trans (hb3.mono (by have := HBB.out.size; have := HZ2.out; have := HD0.out; omega)))
      have hD3 := hbl.size
      clear hbl hna hb3 HBk
      unfold pa at HBA ⊢
      go_wp2_with (at_builtin; refine wpList_append_lies _ rfl (.tmp 45) (.tmp 52) 25 rfl D 26 i1 (.pointer none) 1 8 Try.underlying25 hi1 hy0 hy1 hy2 rfl (by decide) (.slice aa k ac) k _ rfl HBA.out.ar ⟨w3.heap.size, 0, none⟩ 1 1 [.pointer (some ⟨B, 0, none⟩)] rfl rfl (World.news_of_block (cs := #[.pointer (some ⟨B, 0, none⟩)]) (t := 26) (fr := (0, 0)) (heap_alloc_new w3 _)) (fun u hu => by simp at hu; subst hu; rfl) (by omega) (by unfold maxLen; omega) (by omega) (by simp; omega) _ rfl ?_)
      intro g3 c3 w4 hown4 hgrow4 hat4 hlt4
      have HB4 : Hid (Below D W2 w4) := (HB3.out.alloc (by have := HB3.out.size; have := HZ2.out; have := HD0.out; omega) _).grown hgrow4 (by simp; omega) (fun q hq => (HBA.out.ar.lt q hq).1)
      rw [actsV_put _ _ _ _ (Nat.le_refl _)] at hown4
      have hb4 := HBA.out.acts hown4 hgrow4
      have hbz := Lib.hid (hb4.alloc (.cells #[.int .i64 0] 3))
      have hD4 := hb4.size
      clear hown4 hgrow4 hat4 hlt4 HBA HB3 hb4
      go_wp2_with (at_builtin; refine wpList_append_lies _ rfl (.tmp 54) (.tmp 55) 23 rfl D 3 i0 (.int .i64 0) 1 8 Try.underlying23 hi0 hz0 hz1 hz2 rfl (by decide) (.slice da k dc) k _ rfl hbz.out.dr ⟨w4.heap.size, 0, none⟩ 1 1 [.int .i64 0] rfl rfl (World.news_of_block (cs := #[.int .i64 0]) (t := 3) (fr := (0, 0)) (heap_alloc_new w4 _)) (fun u hu => by simp at hu; subst hu; rfl) (by omega) (by unfold maxLen; omega) (by omega) (by simp; omega) _ rfl ?_)
      intro g5 c5 w6 hown6 hgrow6 hat6 hlt6
      have HB6 : Hid (Below D W2 w6) := (HB4.out.alloc (by have := HB4.out.size; have := HZ2.out; have := HD0.out; omega) _).grown hgrow6 (by simp; omega) (fun q hq => (hbz.out.dr.lt q hq).1)
      have HB7 := Lib.hid (hbz.out.zero hown6 hgrow6 (by rcases hat6 with h | h; exact .inl h; exact .inr (by simp at h ⊢; omega)))
      clear hown6 hgrow6 hat6 hlt6 hbz HB4
      go_wp2_with fail
      go_roundw
      case rel => exact ⟨k + 1, _, _, by omega, by go_num, (fun h => by omega), HB7.out, HB6.out⟩
      case measure => simp [intOf]; omega
    · obtain rfl : k = N := by omega
      have hq : ¬ (k : Int) < k := by omega
      obtain ⟨aa, ac, hav⟩ := own_form HBk.out.ar
      obtain ⟨da, dc, hdv⟩ := own_form HBk.out.dr
      subst hav
      subst hdv
      obtain ⟨p, hpp⟩ : ∃ p, p = lpk n (fun _ => 0) id D 1 k pb := ⟨_, rfl⟩
      have hN20 := HN20.out
      have hfit : p.Fit := by rw [hpp]; exact HBk.out.fit (fun i => by have := hN20 i; omega) (fun i _ => Nat.zero_lt_one)
      have hpN : p.N = k := by rw [hpp]; rfl
      have hpn : p.n = n := by rw [hpp]; rfl
      have hps : ∀ i, p.sl i = 0 := fun i => by rw [hpp]; rfl
      have hpL : p.Lb = D ∧ p.K = 1 := by rw [hpp]; exact ⟨rfl, rfl⟩
      have hbse : Bse w p D Nb (.slice na k nc) (.slice aa k ac) (.slice da k dc) s0 F wr := by
        have e1 : rowD p.N p.n = rowD k n := by rw [hpN, hpn]
        refine ⟨HB2.out.trans (HBB.out.mono (by omega)), ?_, (HBB.out.block _ hrD2).trans HR2.out, hnb, ?_, ?_, ?_, HBk.out.lo, hrD2, hND, HV2.out, HBk.out.da, ?_, HBk.out.size⟩
        · rw [hpp]; exact HBk.out.mm
        · rw [hpN, hpn]; exact hnr
        · rw [hpN, hpp, actsV_ptrs]; exact own_zero HBk.out.ar
        · rw [hpN]; exact own_zero HBk.out.dr
        · obtain ⟨vs, bx, cur, hm⟩ := HBk.out.mm
          intro j hj
          obtain ⟨c, hc⟩ := own_cells HBk.out.ar hj
          exact hm.noPA hc
      have hz0 := HZk.out
      clear hnb hnr HBk HBB HB2 HR2 HN2 HO2 HV2 HZk
      have hpk : picks.length = Np := HNp.out.symm
      have hm := logMach_ok hfit
      have CT := turn_c hm (by show p.N ≤ 1000; omega) (.slice pa' Np pc) (.slice aa k ac) picks (by omega) s0 F wr hbse.mm (by show 0 + _ < _; omega) (hPV.out wr hbse.below) (RowAt.of_own hbse.ar (by rw [ptrs_len]; rfl))
      obtain ⟨T, hT⟩ : ∃ T, (logMach p).turn0 s0 picks = T := ⟨_, rfl⟩
      obtain ⟨s1, c1⟩ := T
      have hle0 : LeD p s0 := fun i => Nat.zero_le _
      have hT0 : p.N = 0 ∧ s1 = s0 ∧ c1 = 0 ∨ (logMach p).turn s0 picks = (s1, c1) := by
        unfold Mach.turn0 at hT
        split at hT
        · rename_i h; cases hT; exact .inl ⟨h, rfl, rfl⟩
        · exact .inr hT
      have hle1 : LeD p s1 := by
        rcases hT0 with ⟨_, rfl, _⟩ | h
        · exact hle0
        · have := turn_inv' (logMach p) (LeD p) (fun s i h ho => LeD.nx s i h ho) s0 hle0 picks
          rw [h] at this; exact this
      have hc1 : c1 ≤ 200 := by
        rcases hT0 with ⟨_, _, rfl⟩ | h
        · omega
        · have := turn_le (logMach p) s0 picks
          rw [h] at this
          have h2 : c1 ≤ picks.length := this
          omega
      have hcost1 : (logMach p).cost s1 ≤ 200 := by
        rcases hT0 with ⟨_, rfl, _⟩ | h
        · exact Nat.zero_le _
        · have := (hm.turn_cost s0 picks).1
          rw [h] at this
          have h2 : (logMach p).cost s1 ≤ 0 + picks.length := this
          omega
      have hlog1 : (s1.lg 0).length = c1 := by
        rcases hT0 with ⟨_, rfl, rfl⟩ | h
        · rfl
        · have := turn_count p hps s0 rfl picks
          rw [h] at this; exact this
      have CR := Lib.hid (fun W hW h0 h1 => raTurn_c p (by omega) (fun i => by rw [hpn]; have := hN20 i; omega) s0 picks (by omega) (.slice na k nc) (.slice da k dc) (.slice pa' Np pc) W
        (fun j _ i => by
          have h1 := turn_inv' (logMach p) (LeD p) (fun s i h ho => LeD.nx s i h ho) s0 hle0 (picks.take j) i
          have h2 := hN20 i
          rw [← hpn] at h2
          omega)
        (fun j hj => by have := turn_le (logMach p) s0 (picks.take j); rw [List.length_take] at this; omega) h0 h1 (hPV.out W hW) (fun h => hz0 (by omega)))
      rw [hT] at CT CR
      dsimp only at CT CR
      have HCT := Lib.hid CT
      have HBS := Lib.hid hbse
      have HFT := Lib.hid hfit
      have HPF := Lib.hid (And.intro hpN (And.intro hpn (And.intro hps hpL)))
      have HLE1 := Lib.hid hle1
      have HC1 := Lib.hid hcost1
      have HLG1 := Lib.hid hlog1
      have HZ0 := Lib.hid hz0
      clear CT hbse hfit hpN hpn hps hpL hpp hT hT0 hle0 hle1 hcost1 hlog1 hm hz0 hN20 hpk
      go_wp2_with fail
      refine HCT.out.mono ?_
      rintro e w5 ⟨rfl, F1, hM1, hv1⟩
      have HB5 := Lib.hid (HBS.out.moved hM1 hv1)
      clear hM1 hv1 HCT HBS
      obtain ⟨hpN, hpn, hps, hpL, hpK⟩ := HPF.out
      have hcn := HB5.out.nb.cell
      have hln := HB5.out.nb.lt
      have CR5 := Lib.hid (CR.out w5 HB5.out.below (by have h := HB5.out.nr; exact RowAt.of_own h (by rw [rowD_len])) (by have h := HB5.out.dr; exact RowAt.of_own h (by rw [rowD_len])))
      rw [hpN] at CR5
      clear CR hpN hpn hps hpL hpK
      go_wp2_with fail
      refine CR5.out.mono ?_
      rintro e w6 ⟨g6, cap6, rfl, ho6, hb6⟩
      have hm := logMach_ok HFT.out
      have hB6 := HB5.out.below' HFT.out hb6
      obtain ⟨lad, lcp, hlog6⟩ := hB6.logLen HPF.out.2.2.2.1 HPF.out.2.2.2.2
      rw [HLG1.out] at hlog6
      have hcd := hlog6.cell
      have hcl2 := hlog6.lt
      have hP7 : Ph w p k D Nb (.slice na k nc) (.slice aa k ac) (.slice da k dc) s1 F1 w6.heap.size g6 cap6 s1.d (w6.alloc (.cells #[.slice (some ⟨g6, 0, none⟩) k cap6] 23)) := by
        have hba : Below w6.heap.size w6 (w6.alloc (.cells #[.slice (some ⟨g6, 0, none⟩) k cap6] 23)) := (Below.refl _ _).alloc (Nat.le_refl _) _
        refine ⟨hB6.below' HFT.out hba, HPF.out.1, Boxed.new _ _ _, own_zero (ho6.alloc _), fun hf => ?_, fun hf => ?_, ?_⟩
        · have := hm.lt hB6.mm hf; omega
        · have := hm.lt HB5.out.mm hf
          have := (ho6.lt g6 rfl).1
          omega
        · have := hB6.size; have := hB6.rD; omega
      have HP7 := Lib.hid hP7
      have HOG : Hid (w5.heap.size ≤ g6 ∧ g6 < w6.heap.size ∧ w5.heap.size ≤ w6.heap.size) := ⟨(ho6.lt g6 rfl).1, (ho6.lt g6 rfl).2, hb6.size⟩
      have Hm := Lib.hid hm
      clear hm hB6 hlog6 hP7 ho6 hb6 HB5 CR5 hcn hln hcb hcl
      go_wp2_with fail
      obtain ⟨W7, hW7⟩ : ∃ W7, w6.alloc (.cells #[.slice (some ⟨g6, 0, none⟩) k cap6] 23) = W7 := ⟨_, rfl⟩
      rw [hW7] at HP7 ⊢
      obtain ⟨Ab, hAb⟩ : ∃ Ab, w6.heap.size = Ab := ⟨_, rfl⟩
      rw [hAb] at HP7 HOG hcl2 ⊢
      clear hcd hcl2 hW7 hAb
      have CG := Lib.hid (going_c Hm.out (by show p.N ≤ _; have := HPF.out.1; omega) (.slice aa k ac) W7 (RowAt.of_own HP7.out.b.ar (by rw [ptrs_len]; rfl)))
      have hnf : ∀ (b : Nat) w, (binOp .eql 33 (.func (.func 47) #[] #[.pointer (some ⟨b, 0, none⟩)]) Value.nilFunc).run Try.prog w = .ok (.bool false) w := fun b w => by kernel_rfl
      refine CG.out.mono ?_
      rintro e w8 ⟨Bq, u, rfl, hcaps, hcfr, hb8⟩
      have HP8 := Lib.hid (HP7.out.below HFT.out hb8)
      have HCA := Lib.hid hcaps
      have HCF := Lib.hid hcfr
      have HZ8 : Hid (W7.heap.size ≤ w8.heap.size) := hb8.size
      clear hcaps hcfr hb8 CG
      go_wp2_with fail
      clear hnf
      have hbA : Below w8.heap.size w8 (w8.alloc (.cells #[.int .i64 (-1)] 3)) := (Below.refl _ _).alloc (Nat.le_refl _) _
      have hP9 := HP8.out.below HFT.out hbA
      have hsb := Boxed.new w8 3 (.int .i64 (-1))
      have hcl9 : ∀ j, capA Bq u j → j < w8.heap.size := fun j hj => HCA.out.lt hj
      have hC9 : CapsA (logMach p) Bq u (w8.alloc (.cells #[.int .i64 (-1)] 3)) := HCA.out.heap fun j hj => hbA.block j (hcl9 j hj)
      have hnS : ¬ F1 w8.heap.size := fun hf => by have := Hm.out.lt HP8.out.b.mm hf; omega
      have hDS : D ≤ w8.heap.size := HP8.out.b.size
      have hgS : w8.heap.size ≠ g6 := by have := (HP8.out.ag.lt g6 rfl).2; omega
      have hdS : ∀ j, (Value.slice da k dc).ownBlock = some j → w8.heap.size ≠ j := fun j hj => by have := (HP8.out.b.dr.lt j hj).2; omega
      have hszS : (w8.alloc (.cells #[.int .i64 (-1)] 3)).heap.size = w8.heap.size + 1 := by simp
      have hw8 : w.heap.size < w8.heap.size := by have := HP8.out.b.rD; omega
      obtain ⟨Sb, hSb⟩ : ∃ Sb, w8.heap.size = Sb := ⟨_, rfl⟩
      rw [hSb] at hsb hcl9 hnS hDS hgS hdS hszS hw8 ⊢
      obtain ⟨W9, hW9⟩ : ∃ W9, w8.alloc (.cells #[.int .i64 (-1)] 3) = W9 := ⟨_, rfl⟩
      rw [hW9] at hP9 hsb hC9 hszS ⊢
      clear hbA hSb hW9 HP7 HP8 HCA HZ8
      have hmN : (logMach p).N = k := HPF.out.1
      refine (wpIn_wide (n := 3)).1 ?_
      refine wpIn_rangeWalk (gf := 47) (lb := #[.pointer (some ⟨Bq, 0, none⟩)]) rfl (enters_of Try.func47 (by kernel_rfl) rfl) (going1_walk (m := logMach p) (by omega) Bq u) AllT (fun _ _ h => h) (fun _ => rfl)
        (fun j hj => by have := hcl9 j hj; omega) (fun W' hW' => hC9.heap fun j hj => hW'.block j (by have := hcl9 j hj; omega))
        (fun j W' => Ph w p k D Nb (.slice na k nc) (.slice aa k ac) (.slice da k dc) s1 F1 Ab g6 cap6 s1.d W' ∧ ∃ v : Int, Boxed W' Sb 3 (.int .i64 v) ∧ -1 ≤ v ∧ v < j ∧ ∀ i : Nat, v < (i : Int) → i < j → p.n i ≤ s1.d i)
        (fun j W' => (Ph w p k D Nb (.slice na k nc) (.slice aa k ac) (.slice da k dc) s1 F1 Ab g6 cap6 s1.d W' ∧ ∃ v : Int, Boxed W' Sb 3 (.int .i64 v) ∧ -1 ≤ v ∧ v < j ∧ ∀ i : Nat, v < (i : Int) → i < j → p.n i ≤ s1.d i) ∧ s1.d j < p.n j)
        (fun c j W' => False)
        (fun s' A B h hAB => by
          obtain ⟨h1, v, h2, h3⟩ := h
          exact ⟨h1.itself HFT.out hAB (by omega), v, hAB.boxed h2 (.inr fun h => h), h3⟩)
        (fun s' A B h hAB => by
          obtain ⟨⟨h1, v, h2, h3⟩, h4⟩ := h
          exact ⟨⟨h1.itself HFT.out hAB (by omega), v, hAB.boxed h2 (.inr fun h => h), h3⟩, h4⟩)
        (fun c s' A B h hAB => h)
        ⟨hP9, -1, hsb, Int.le_refl _, by omega, fun i hi hi2 => by omega⟩ ?pick ?round ?done ?stop
      case pick =>
        rintro j W hj ⟨h1, v, h2, h3, h4, h5⟩
        have hov := Hm.out.ov h1.b.mm hj
        by_cases hd : s1.d j < p.n j
        · refine .inr ⟨?_, ⟨h1, v, h2, h3, h4, h5⟩, hd⟩
          unfold isOver
          rw [show (logMach p).over s1 j = false from decide_eq_false (by omega)] at hov
          exact hov
        · refine .inl ⟨?_, h1, v, h2, h3, by omega, fun i hi hi2 => ?_⟩
          · unfold isOver
            rw [show (logMach p).over s1 j = true from decide_eq_true (by omega)] at hov
            exact hov
          · by_cases hij : i = j
            · subst hij; omega
            · exact h5 i hi (by omega)
      case round =>
        rintro l' j W1 hl' hj ⟨⟨h1, v, h2, h3, h4, h5⟩, hd⟩
        gi_wp2
        refine ⟨Keeps.refl _ _ _ _, fun W2 hits hsz2 hrec hoth => ?_⟩
        have hjk : j < k := by omega
        have HP := Lib.hid (h1.itself HFT.out hits (by omega))
        have HSb := Lib.hid (hits.boxed h2 (.inr fun h => h))
        have H5 := Lib.hid h5
        have HDJ := Lib.hid hd
        obtain ⟨gn, nc', hnv, x0, x1, x2, x3⟩ := HP.out.cells hjk
        cases hnv
        have x4 := HSb.out.cell
        have hj1 : decide ((j : Int) ≤ v) = false := decide_eq_false (by omega)
        have hj2 : decide (k ≤ j) = false := decide_eq_false (by omega)
        have hj3 : decide (p.n j ≤ s1.d j) = false := decide_eq_false (by omega)
        have HOV : Hid (∀ n, Calls Try.prog 16 #[pa (p.pb j)] (W2.drewN n) fun e w' => e = .returned (.bool false) ∧ w' = W2.drewN n) := fun n => by
          have hov := Hm.out.ov (W := W2.drewN n) (Hm.out.stab HP.out.b.mm (fun _ _ => rfl) (Nat.le_refl _)) hj
          rw [show (logMach p).over s1 j = false from decide_eq_false (by omega)] at hov
          exact hov
        have hpj : (logMach p).p j = pa (p.pb j) := rfl
        rw [hpj]
        unfold pa at HOV ⊢
        obtain ⟨nj, hnj⟩ : ∃ nj, p.n j = nj := ⟨_, rfl⟩
        obtain ⟨dj, hdj⟩ : ∃ dj, s1.d j = dj := ⟨_, rfl⟩
        rw [hnj] at x3 hj3
        rw [hdj] at x2 hj3
        clear h1 h2 h5 hd hits hsz2 hrec hoth hnj hdj hpj
        gi_wp2_with fail
        refine wpIn_region_quiet_lit (by kernel_rfl) (by kernel_rfl) (by kernel_rfl) ?_
        repeat (go_big_quiet_step ((go_at_call 16; exact Calls.quiet_of_same (HOV.out _))))
        refine wpQuiet_nil ?_
        intro _ hw'
        obtain ⟨nq, hw''⟩ := hw'
        subst hw''
        obtain ⟨W3, hW3⟩ : ∃ W3, W2.drewN nq = W3 := ⟨_, rfl⟩
        have hbd : Below W2.heap.size W2 W3 := by rw [← hW3]; exact below_drewN (Below.refl _ _) _
        have HKD : Hid (Keeps AllT (capA Bq u) W9.heap.size W2 W3) := by show Keeps _ _ _ _ _; rw [← hW3]; exact Keeps.drewN _ _ _ _ _
        have HP3 := Lib.hid (HP.out.below HFT.out hbd)
        have HSb3 : Hid (Boxed W3 Sb 3 (.int .i64 v)) := (hbd.block _ HSb.out.lt).trans HSb.out
        rw [hW3]
        clear hW3 hbd HP HSb x0 x1 x2 x3 x4 hj1 hj2 hj3 HOV
        have x4 := HSb3.out.cell
        have hv9 : v + 1 < 9223372036854775808 := by omega
        gi_wp2_with fail
        clear x4
        gi_loopw [19] (fun i wr => ∃ q : Nat, v + 1 ≤ q ∧ q ≤ j ∧ i = .int .i64 q ∧ Hid (Ph w p k D Nb (.slice (some ⟨gn, 0, none⟩) k nc) (.slice aa k ac) (.slice da k dc) s1 F1 Ab g6 cap6 s1.d wr) ∧ Hid (Boxed wr Sb 3 (.int .i64 v)) ∧ Hid (Keeps AllT (capA Bq u) W9.heap.size W2 wr)) (fun i _ => j - (intOf i).toNat)
        case atStart => exact ⟨(v + 1).toNat, by omega, by omega, (by rw [show (((v + 1).toNat : Nat) : Int) = v + 1 by omega]), HP3, HSb3, HKD⟩
        case round =>
          obtain ⟨q, hq1, hq2, rfl, HPq, HSq, HKq⟩ := hrel
          clear HP3 HSb3 HKD
          by_cases hqj : q < j
          · have hqi : (q : Int) < j := by omega
            obtain ⟨gn', nc'', hnv', x0, x1, x2, x3⟩ := HPq.out.cells (i := q) (by omega)
            cases hnv'
            have hg := H5.out q (by omega) hqj
            have hgd : decide (s1.d q < p.n q) = false := decide_eq_false (by omega)
            obtain ⟨nj, hnj⟩ : ∃ nj, p.n q = nj := ⟨_, rfl⟩
            obtain ⟨dj, hdj⟩ : ∃ dj, s1.d q = dj := ⟨_, rfl⟩
            rw [hnj] at x3 hgd
            rw [hdj] at x2 hgd
            have hqk : q < k := by omega
            clear hnj hdj hg
            gi_wp2_with fail
            refine wpIn_region_quiet_lit (by kernel_rfl) (by kernel_rfl) (by kernel_rfl) ?_
            repeat (go_big_quiet_step (fail))
            refine wpQuiet_nil ?_
            intro _ hw'
            obtain ⟨nq, hw''⟩ := hw'
            subst hw''
            obtain ⟨W4, hW4⟩ : ∃ W4, wr.drewN nq = W4 := ⟨_, rfl⟩
            have hbd : Below wr.heap.size wr W4 := by rw [← hW4]; exact below_drewN (Below.refl _ _) _
            have HK4 : Hid (Keeps AllT (capA Bq u) W9.heap.size W2 W4) := by show Keeps _ _ _ _ _; rw [← hW4]; exact HKq.out.trans (Keeps.drewN _ _ _ _ _)
            have HP4 := Lib.hid (HPq.out.below HFT.out hbd)
            have HS4 : Hid (Boxed W4 Sb 3 (.int .i64 v)) := (hbd.block _ HSq.out.lt).trans HSq.out
            rw [hW4]
            clear hW4 hbd HPq HSq HKq x0 x1 x2 x3 hgd
            gi_wp2_with fail
            go_roundw
            case rel => exact ⟨q + 1, by omega, by omega, by go_num, HP4.out, HS4.out, HK4.out⟩
            case measure => simp [intOf]; omega
          · have hqi : ¬ (q : Int) < j := by omega
            have x4 := HSq.out.cell
            have x5 := HSq.out.lt
            have x6 := HSq.out.frozen
            have hk9 := HKq.out
            rw [hszS] at hk9
            have HK9 := Lib.hid hk9
            clear hk9
            gi_wp2_with fail
            refine ⟨HK9.out.trans (Keeps.setCell _ _ ⟨Sb, 0, none⟩ _ (fun h => by have := hcl9 Sb h; omega) (by show Sb < Sb + 1; omega)), HPq.out.set HFT.out HSq.out hnS hDS hgS hdS _, (j : Int), HSq.out.set _, by omega, by omega, fun i hi hi2 => by omega⟩
      case done =>
        rintro D' W hD' ⟨h1, v, h2, h3, h4, h5⟩ hK
        rw [hmN] at h4 h5
        have HP := Lib.hid h1
        have HSb := Lib.hid h2
        have HK := Lib.hid hK
        have H5 := Lib.hid h5
        have x4 := h2.cell
        have hv9 : v + 1 < 9223372036854775808 := by omega
        clear h1 h2 h5 hK
        go_wp2_with fail
        clear x4
        go_loopw [20] (fun i wr => ∃ q : Nat, v + 1 ≤ q ∧ q ≤ k ∧ i = .int .i64 q ∧ Hid (Ph w p k D Nb (.slice na k nc) (.slice aa k ac) (.slice da k dc) s1 F1 Ab g6 cap6 s1.d wr) ∧ Hid (wr.heap[D']? = some (.deferred (some [])))) (fun i _ => k - (intOf i).toNat)
        case atStart => exact ⟨(v + 1).toNat, by omega, by omega, (by rw [show (((v + 1).toNat : Nat) : Int) = v + 1 by omega]), HP, HK⟩
        case round =>
          obtain ⟨q, hq1, hq2, rfl, HPq, HKq⟩ := hrel
          clear HP HK HSb
          have y0 := HPq.out.b.nb.cell
          by_cases hqj : q < k
          · have hqi : (q : Int) < k := by omega
            obtain ⟨gn, nc', hnv, x0, x1, x2, x3⟩ := HPq.out.cells (i := q) (by omega)
            cases hnv
            have hg := H5.out q (by omega) hqj
            have hgd : decide (s1.d q < p.n q) = false := decide_eq_false (by omega)
            obtain ⟨nj, hnj⟩ : ∃ nj, p.n q = nj := ⟨_, rfl⟩
            obtain ⟨dj, hdj⟩ : ∃ dj, s1.d q = dj := ⟨_, rfl⟩
            rw [hnj] at x3 hgd
            rw [hdj] at x2 hgd
            clear hnj hdj hg
            go_wp2_with fail
            go_quiet (fail)
            obtain ⟨W4, hW4⟩ : ∃ W4, wr.drewN nq = W4 := ⟨_, rfl⟩
            have hbd : Below wr.heap.size wr W4 := by rw [← hW4]; exact below_drewN (Below.refl _ _) _
            have HP4 := Lib.hid (HPq.out.below HFT.out hbd)
            have HK4 : Hid (W4.heap[D']? = some (.deferred (some []))) := (hbd.block _ (lt_of_block HKq.out)).trans HKq.out
            rw [hW4]
            clear hW4 hbd HPq HKq x0 x1 x2 x3 hgd y0
            go_wp2_with fail
            go_roundw
            case rel => exact ⟨q + 1, by omega, by omega, by go_num, HP4.out, HK4.out⟩
            case measure => simp [intOf]; omega
          · obtain rfl : q = k := by omega
            have hqi : ¬ (q : Int) < q := by omega
            obtain ⟨L, hL⟩ : ∃ L, limit.toNat = L := ⟨_, rfl⟩
            have CE := rest_c Hm.out (by omega) (.slice aa q ac) limit L hL (by omega) s1 F1 wr HPq.out.b.mm (by have := HC1.out; omega) (RowAt.of_own HPq.out.b.ar (by rw [ptrs_len]; rfl))
            obtain ⟨pN, pn, psl, pLb, pK⟩ := HPF.out
            have CF := Lib.hid (fun W (h0 : RowAt W (.slice na q nc) (rowD q p.n)) (h1 : RowAt W (.slice (some ⟨g6, 0, none⟩) q cap6) (rowD q s1.d)) => raRest_c p (by omega) (fun i => by rw [pn]; have := HN20.out i; omega) s1 limit L hL (by omega) HLE1.out (.slice na q nc) (.slice (some ⟨g6, 0, none⟩) q cap6) W (by rw [pN]; exact h0) (by rw [pN]; exact h1) (fun h => ⟨⟨g6, 0, none⟩, cap6, by rw [← pN, h]⟩))
            obtain ⟨R, hR⟩ : ∃ R, (logMach p).rest L s1 = R := ⟨_, rfl⟩
            obtain ⟨s2, n2⟩ := R
            rw [hR, pN] at CF
            rw [hR] at CE
            dsimp only at CE CF
            have HCE := Lib.hid CE
            clear CE hR pN pn psl pLb pK hL
            go_wp2_with fail
            clear y0
            refine HCE.out.mono ?_
            rintro e w10 ⟨rfl, F2, hM2, hv2⟩
            have HP10 := Lib.hid (HPq.out.moved hM2 hv2)
            have HK10 : Hid (w10.heap[D']? = some (.deferred (some []))) := (hv2.keep HKq.out (fun hf => by
              obtain ⟨c, e, fz, hc⟩ := Hm.out.inn HPq.out.b.mm hf
              rw [HKq.out] at hc
              cases hc)).1
            clear hM2 hv2 HCE HPq HKq
            have y0 := HP10.out.b.nb.cell
            have y1 := HP10.out.ab.cell
            have CF10 := Lib.hid (CF.out w10 (by have h := HP10.out.b.nr; rw [HP10.out.pn] at h; exact RowAt.of_own h (by rw [rowD_len])) (RowAt.of_own HP10.out.ag (by rw [rowD_len])))
            clear CF
            go_wp2_with fail
            clear y0 y1
            refine CF10.out.mono ?_
            rintro e w11 ⟨g11, cap11, rfl, ho11, hb11⟩
            have HP11 := Lib.hid (HP10.out.below HFT.out hb11)
            have HK11 : Hid (w11.heap[D']? = some (.deferred (some []))) := (hb11.block _ (lt_of_block HK10.out)).trans HK10.out
            have HO11 := Lib.hid ho11
            have HWZ : Hid (w.heap.size < w11.heap.size) := by have := HP10.out.b.rD; have := HP10.out.b.size; have := hb11.size; show _ < _; omega
            clear ho11 hb11 HP10 HK10 CF10
            go_wp2_with fail
            obtain ⟨B11, hB11⟩ : ∃ B11, w10.heap.size = B11 := ⟨_, rfl⟩
            rw [hB11] at HO11
            clear hB11
            go_loopw [24] (fun i wr => ∃ j : Nat, j ≤ q ∧ i = .int .i64 j ∧ Hid (Ph w p q D Nb (.slice na q nc) (.slice aa q ac) (.slice da q dc) s2 F2 Ab g6 cap6 s1.d wr) ∧ Hid (wr.ownsRow B11 3 1 (.slice (some ⟨g11, 0, none⟩) q cap11) q (rowD q s2.d)) ∧ Hid (wr.heap[D']? = some (.deferred (some [])))) (fun i _ => q - (intOf i).toNat)
            case atStart => exact ⟨0, by omega, rfl, HP11, HO11, HK11⟩
            case round =>
              obtain ⟨j, hj, rfl, HPj, HOj, HKj⟩ := hrel
              clear HP11 HO11 HK11
              have y0 := HPj.out.b.nb.cell
              by_cases hjq : j < q
              · have hji : (j : Int) < q := by omega
                obtain ⟨gn, nc', hnv, x0, x1, x2, x3⟩ := HPj.out.cells hjq
                cases hnv
                have har := HPj.out.b.ar
                rw [HPj.out.pn] at har
                obtain ⟨ga, rfl⟩ : ∃ ga, aa = some ⟨ga, 0, none⟩ := by
                  rcases har.2 with ⟨_, h⟩ | ⟨ga, cap, cur, h, _⟩
                  · omega
                  · cases h; exact ⟨ga, rfl⟩
                have x5 : wr.cell? ⟨ga, j, none⟩ = some (pa (p.pb j)) := by
                  rw [har.cellAt j (by omega)]
                  exact ptrs_at (logMach p) (by show j < p.N; rw [HPj.out.pn]; exact hjq)
                have x6 : wr.cell? ⟨g11, j, none⟩ = some (.int .i64 (s2.d j)) := by rw [HOj.out.cellAt j (by omega)]; exact rowD_at _ hjq
                have hact : ∃ nx, ActAt wr (p.pb j) nx (s2.d j) := by
                  obtain ⟨vs, bx, cur, hm⟩ := HPj.out.b.mm
                  exact hm.act (by rw [HPj.out.pn]; exact hjq)
                obtain ⟨nx, hact⟩ := hact
                have HA := Lib.hid (fun n => count_some (p.pb j) (s2.d j) nx (wr.drewN n) hact)
                obtain ⟨bv, hbv⟩ : ∃ bv, decide (p.n j ≤ s2.d j) = bv := ⟨_, rfl⟩
                have HOV : Hid (∀ n, Calls Try.prog 16 #[pa (p.pb j)] (wr.drewN n) fun e w' => e = .returned (.bool bv) ∧ w' = wr.drewN n) := fun n => by
                  have hov := Hm.out.ov (W := wr.drewN n) (i := j) (Hm.out.stab HPj.out.b.mm (fun _ _ => rfl) (Nat.le_refl _)) (by omega)
                  rw [show (logMach p).over s2 j = bv from hbv] at hov
                  exact hov
                unfold pa at HOV HA x5
                obtain ⟨nj, hnj⟩ : ∃ nj, p.n j = nj := ⟨_, rfl⟩
                obtain ⟨dj, hdj⟩ : ∃ dj, s2.d j = dj := ⟨_, rfl⟩
                rw [hnj] at x3 hbv
                rw [hdj] at x6 hbv HA
                clear hnj hdj hact har x1 x2
                go_wp2_with fail
                go_quiet (first | (go_at_call 19; exact Calls.quiet_of_same (HA.out _)) | (go_at_call 16; exact Calls.quiet_of_same (HOV.out _)))
                obtain ⟨W4, hW4⟩ : ∃ W4, wr.drewN nq = W4 := ⟨_, rfl⟩
                have hbd : Below wr.heap.size wr W4 := by rw [← hW4]; exact below_drewN (Below.refl _ _) _
                have HP4 := Lib.hid (HPj.out.below HFT.out hbd)
                have HO4 := Lib.hid (own_below HOj.out hbd)
                have HK4 : Hid (W4.heap[D']? = some (.deferred (some []))) := (hbd.block _ (lt_of_block HKj.out)).trans HKj.out
                rw [hW4]
                clear hW4 hbd HPj HOj HKj x0 x3 x5 x6 y0 HA HOV hbv
                go_wp2_with fail
                go_roundw
                case rel => exact ⟨j + 1, by omega, by go_num, HP4.out, HO4.out, HK4.out⟩
                case measure => simp [intOf]; omega
              · obtain rfl : j = q := by omega
                have hji : ¬ (j : Int) < j := by omega
                have C10 := Lib.hid (awake4_c wr)
                have hbw : Hid (Below w.heap.size w wr) := HPj.out.b.below
                have hrb : Hid (Boxed wr w.heap.size 4 (.bool false)) := HPj.out.b.rb
                have hDw : Hid (D' ≠ w.heap.size) := by show _ ≠ _; omega
                clear HPj HOj
                go_wp2_with fail
                clear y0
                refine C10.out.mono ?_
                rintro e w12 ⟨rfl, hb12⟩
                have hrb12 : Boxed w12 w.heap.size 4 (.bool false) := (hb12.block _ hrb.out.lt).trans hrb.out
                have HRB12 := Lib.hid hrb12
                have HK12 : Hid (w12.heap[D']? = some (.deferred (some []))) := (hb12.block _ (lt_of_block HKj.out)).trans HKj.out
                have HB12 : Hid (Below w.heap.size w w12) := hbw.out.trans (hb12.mono hbw.out.size)
                have c10 := hrb12.cell
                have f10 := hrb12.frozen
                have b10 := hrb12.lt
                clear hb12 hrb12 hbw hrb HKj C10
                go_wp2_with fail
                have hK' : (w12.setCell ⟨w.heap.size, 0, none⟩ (.bool true)).heap[D']? = some (.deferred (some [])) := (Below.heap_setCell w12 ⟨w.heap.size, 0, none⟩ _ D' hDw.out).trans HK12.out
                refine ⟨by simp, .inl ⟨_, _, rfl, run_takeDeferred hK', ?_⟩⟩
                have hc11 := cell_kept (HRB12.out.set (.bool true)).cell (grownBy_putObj' _ D' (.deferred none)) (fun r e => by cases e; exact ⟨_, hK', rfl⟩)
                refine ⟨.bool true, ?_, rfl, (HB12.out.setCell (p := ⟨w.heap.size, 0, none⟩) (Nat.le_refl _) _).trans (belowK_b (w := w) (Nat.le_refl _) _ D' _ _ (by omega) hK' rfl rfl)⟩
                simp [results, Try.f3, go_sem, hc11]
      case stop =>
        rintro D' c j W1 hD hj h hK
        exact h.elim
end Go.Proofs.Ytpooieeeicffpaa

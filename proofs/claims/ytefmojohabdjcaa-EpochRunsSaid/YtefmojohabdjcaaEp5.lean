/-
  The last steps by which a reader is pinned, or is not: contracts.
-/
import Derived.Test.YtefmojohabdjcaaEp4
set_option linter.unusedVariables false
set_option linter.unusedSimpArgs false
namespace Go.Proofs.Ytefmojohabdjcaa
open Go Go.RowKit
attribute [local go_sem ↓] Go.wp_at_zero Go.wp_at_succ

variable {p : EP} {s : ES} {W W' : World}
/-- What the looking step of Pin comes to. -/
def P2 (p : EP) (s : ES) (W : World) (who ep : Nat) (e : Ending) (w' : World) : Prop :=
  ∃ v B, e = .returned v ∧ Moved (fE p) (fE p) W w' ∧ W.heap.size ≤ B ∧ ((s.ws p.word ≠ ep ∧ v = fv 49 (capA3 B) ∧ PB3 p w' B who (s.ws p.word) ∧ EpAt p s.tick w') ∨
    (s.ws p.word = ep ∧ v = .nilFunc ∧ EpAt p (s.tick.setPin who ep true) w'))

set_option maxRecDepth 20000 in
set_option maxHeartbeats 1000000 in
theorem pinAt11_c (h : EpAt p s W) (b who ep : Nat) (hb : PB3 p W b who ep) (hw : who < p.R) (ht : s.t < 1000000) : Calls Try.prog 50 (capB3 b) W fun e w' => P2 p s W who ep e w' := by
  obtain ⟨c0, c1, c2, c3⟩ := h.q.cell
  have e0 := hb.b0.cell
  have HE := Lib.hid h
  have HB := Lib.hid hb
  have CL := Lib.hid (fun W' hM => mLoad_yes p.M p.n s.t s.ws s.cs p.word (by have := h.fit; omega) h.fit.2.1 (by omega) W' hM)
  unfold pE at *
  clear h hb
  unfold capB3
  go_enter Try.func50, Try.ntmps50
  go_wp2_with fail
  go_region_held3 (fun w' => w'.cell? ⟨b, 0, none⟩ = some (.pointer (some ⟨p.E, 0, none⟩)) ∧ w'.cell? ⟨p.E, 0, none⟩ = some (pm p.M) ∧ w'.cell? ⟨p.E, 1, none⟩ = some (.int .i64 p.word))
    (first | exact ⟨e0, c0, c1⟩ | exact hs2)
    ((go_at_call 34; refine (CL.out _ (by first | exact HE.out.memDrew | exact HE.out.m)).mono ?_; rintro e w2 ⟨rfl, ho, hm⟩; have ho2 : Only p.M W w2 := (by first | exact Only.ofDrew ho | exact ho); have hs2 : w2.cell? ⟨b, 0, none⟩ = some (.pointer (some ⟨p.E, 0, none⟩)) ∧ w2.cell? ⟨p.E, 0, none⟩ = some (pm p.M) ∧ w2.cell? ⟨p.E, 1, none⟩ = some (.int .i64 p.word) := ⟨(HB.out.moved HE.out (Moved.of_only ho2)).b0.cell, (HE.out.ticked ho2 hm).q.cell.1, (HE.out.ticked ho2 hm).q.cell.2.1⟩))
  all_goals
    have he2 := HE.out.ticked ho2 hm
    have hv2 := Moved.of_only ho2
    have hb2 := HB.out.moved HE.out hv2
    have g0 := hb2.b0.cell
    have g1 := hb2.b1.cell
    have g2 := hb2.b2.cell
    have HE2 := Lib.hid he2
    have HV2 := Lib.hid hv2
    have HB2 := Lib.hid hb2
    unfold pE at g0
    clear ho hm ho2 hs2 c0 c1 c2 c3 e0
    by_cases hne : s.ws p.word = ep
    · have q1 : (((s.ws p.word : Nat) : Int) != (ep : Int)) = false := by rw [hne]; simp
      obtain ⟨d0, d1, d2, d3⟩ := he2.q.cell
      obtain ⟨f0, f1, f2, f3⟩ := he2.pcell hw
      have hq : (who : Int) < p.R := by omega
      have hpn := he2.pinned hw ep true
      have hvp : Moved (fE p) (fE p) w2 _ := Moved.pinned w2 (who * 2) (who * 2 + 1) (.int .u64 ep) (.bool true)
      have hb9 := hb2.moved he2 hvp
      have hs9 := And.intro hb9.b0.cell (And.intro hb9.b1.cell (And.intro hb9.b2.cell hpn.q.cell.2.2.2))
      unfold pE at hs9
      have HPN := Lib.hid hpn
      have HVP := Lib.hid hvp
      have HNE := Lib.hid hne
      have HNE0 := Lib.hid hne
      have f2a := f2 (who * 2)
      have f2b := f2 (who * 2 + 1)
      generalize s.ws p.word = nw at q1 HNE
      clear he2 hv2 hb2 hpn hvp hne f2 hb9
      go_wp2_with fail
      go_region_held3 (fun w' => w'.cell? ⟨b, 0, none⟩ = some (.pointer (some ⟨p.E, 0, none⟩)) ∧ w'.cell? ⟨b + 1, 0, none⟩ = some (.int .i64 who) ∧ w'.cell? ⟨b + 2, 0, none⟩ = some (.int .u64 ep) ∧ w'.cell? ⟨p.E, 3, none⟩ = some (.slice (some ⟨p.Pb, 0, none⟩) p.R p.R))
        (first | exact ⟨g0, g1, g2, d3⟩ | exact hs9)
        (fail)
      all_goals
        clear g0 g1 g2 d0 d1 d2 d3 f0 f1 f3 f2a f2b hs9
        go_wp2_with fail
        go_ret
        refine ⟨_, w2.heap.size, rfl, ?_, HV2.out.size, .inr ⟨HNE0.out, rfl, ?_⟩⟩
        · exact HV2.out.trans (HVP.out.trans (Moved.of_below ⟨rfl, rfl, rfl, Nat.le_refl _, fun _ _ => rfl⟩))
        · exact HPN.out.later fun _ _ => rfl
    · have q1 : (((s.ws p.word : Nat) : Int) != (ep : Int)) = true := by rw [bne_iff_ne]; omega
      have HNE := Lib.hid hne
      have CP := Lib.hid (pinAt_c (p := p) who (s.ws p.word) w2)
      unfold pE at CP
      clear he2 hv2 hb2 hne
      go_wp2_with fail
      refine CP.out.mono ?_
      rintro e w4 ⟨rfl, hp4, hb4⟩
      go_wp2_with fail
      go_ret
      exact ⟨_, w2.heap.size, rfl, HV2.out.later hb4, HV2.out.size, .inl ⟨HNE.out, rfl, hp4, HE2.out.below hb4⟩⟩

set_option maxRecDepth 20000 in
set_option maxHeartbeats 1000000 in
theorem pinAnew1_c (h : EpAt p s W) (b who ep : Nat) (hb : PB3 p W b who ep) (hw : who < p.R) (hep : ep < 1000000000) (ht : s.t < 1000000) : Calls Try.prog 51 (capA3 b) W fun e w' =>
    e = .returned .nilFunc ∧ EpAt p ((s.store (p.word + 1 + who) (ep + 1)).setPin who ep true) w' ∧ Moved (fE p) (fE p) W w' := by
  have hs := sc_of h hb
  have HE := Lib.hid h
  have HB := Lib.hid hb
  have CP := Lib.hid (fun W' (h' : EpAt p s W') => place_c h' who hw)
  have CS := Lib.hid (fun W' hM => mStore_yes p.M p.n s.t s.ws s.cs (p.word + 1 + who) (ep + 1) (place_lt h hw) h.fit.2.1 (by omega) W' hM)
  have e1 : ((ep + 1 : Nat) : Int) = IntKind.u64.wrap ((ep : Int) + 1) := wrap_succ ep hep
  rw [e1] at CS
  unfold pE at CP
  obtain ⟨s0, s1, s2, s3, s4, s5⟩ := hs
  obtain ⟨P, hP⟩ : ∃ P, p.word + 1 + who = P := ⟨_, rfl⟩
  rw [hP] at CP CS
  have HP := Lib.hid hP
  clear h hb e1 hP
  unfold capA3
  go_enter Try.func51, Try.ntmps51
  go_wp2_with fail
  go_region_held3 (fun w' => w'.cell? ⟨b, 0, none⟩ = some (.pointer (some ⟨p.E, 0, none⟩)) ∧ w'.cell? ⟨b + 1, 0, none⟩ = some (.int .i64 who) ∧ w'.cell? ⟨b + 2, 0, none⟩ = some (.int .u64 ep) ∧ w'.cell? ⟨p.E, 0, none⟩ = some (pm p.M) ∧ w'.cell? ⟨p.E, 1, none⟩ = some (.int .i64 p.word) ∧ w'.cell? ⟨p.E, 3, none⟩ = some (.slice (some ⟨p.Pb, 0, none⟩) p.R p.R))
    (first | exact ⟨s0, s1, s2, s3, s4, s5⟩ | exact hs2)
    (first
      | (go_at_call 39; refine (CP.out _ (by first | exact HE.out.drew | exact HE.out)).mono ?_; rintro e w' ⟨rfl, rfl⟩)
      | (go_at_call 38; refine (CS.out _ (by first | exact HE.out.memDrew | exact HE.out.m)).mono ?_; rintro e w2 ⟨⟨u, rfl⟩, ho, hm⟩; have ho2 : Only p.M W w2 := (by first | exact Only.ofDrew ho | exact ho); have hs2 : SC p b who ep w2 := sc_of (HE.out.stored ho2 hm) (HB.out.moved HE.out (Moved.of_only ho2))))
  all_goals
    have he2 := HE.out.stored ho2 hm
    have hv2 := Moved.of_only ho2
    have hb2 := HB.out.moved HE.out hv2
    obtain ⟨g0, g1, g2, d0, d1, d3⟩ := sc_of he2 hb2
    obtain ⟨f0, f1, f2, f3⟩ := he2.pcell hw
    have hq : (who : Int) < p.R := by omega
    have hpn := he2.pinned hw ep true
    have hvp : Moved (fE p) (fE p) w2 _ := Moved.pinned w2 (who * 2) (who * 2 + 1) (.int .u64 ep) (.bool true)
    have hb9 := hb2.moved he2 hvp
    have hs9 := And.intro hb9.b0.cell (And.intro hb9.b1.cell (And.intro hb9.b2.cell hpn.q.cell.2.2.2))
    unfold pE at hs9
    have HPN := Lib.hid hpn
    have HVP := Lib.hid hvp
    have HV2 := Lib.hid hv2
    have f2a := f2 (who * 2)
    have f2b := f2 (who * 2 + 1)
    clear he2 hv2 hb2 hpn hvp f2 hb9 ho hm ho2 hs2 s0 s1 s2 s3 s4 s5
    go_wp2_with fail
    go_region_held3 (fun w' => w'.cell? ⟨b, 0, none⟩ = some (.pointer (some ⟨p.E, 0, none⟩)) ∧ w'.cell? ⟨b + 1, 0, none⟩ = some (.int .i64 who) ∧ w'.cell? ⟨b + 2, 0, none⟩ = some (.int .u64 ep) ∧ w'.cell? ⟨p.E, 3, none⟩ = some (.slice (some ⟨p.Pb, 0, none⟩) p.R p.R))
      (first | exact ⟨g0, g1, g2, d3⟩ | exact hs9)
      (fail)
    all_goals
      clear g0 g1 g2 d0 d1 d3 f0 f1 f3 f2a f2b hs9
      go_wp2_with fail
      go_ret
      refine ⟨rfl, ?_, ?_⟩
      · rw [HP.out]
        exact HPN.out.later fun _ _ => rfl
      · exact HV2.out.trans (HVP.out.trans (Moved.of_below ⟨rfl, rfl, rfl, Nat.le_refl _, fun _ _ => rfl⟩))

set_option maxRecDepth 20000 in
set_option maxHeartbeats 1000000 in
theorem unpin1_c (h : EpAt p s W) (b who : Nat) (hb : PB p W b who) (hw : who < p.R) (ht : s.t < 1000000) : Calls Try.prog 37 (capP b) W fun e w' =>
    e = .returned .nilFunc ∧ EpAt p ((s.store (p.word + 1 + who) 0).setPin who 0 false) w' ∧ Moved (fE p) (fE p) W w' := by
  obtain ⟨c0, c1, c2, c3⟩ := h.q.cell
  have e0 := hb.b0.cell
  have e1 := hb.b1.cell
  have HE := Lib.hid h
  have HB := Lib.hid hb
  have CP := Lib.hid (fun W' (h' : EpAt p s W') => place_c h' who hw)
  have CS := Lib.hid (fun W' hM => mStore_yes p.M p.n s.t s.ws s.cs (p.word + 1 + who) 0 (place_lt h hw) h.fit.2.1 (by omega) W' hM)
  have e00 : ((0 : Nat) : Int) = 0 := rfl
  rw [e00] at CS
  unfold pE at CP e0
  obtain ⟨P, hP⟩ : ∃ P, p.word + 1 + who = P := ⟨_, rfl⟩
  rw [hP] at CP CS
  have HP := Lib.hid hP
  clear h hb hP e00
  unfold capP
  go_enter Try.func37, Try.ntmps37
  go_wp2_with fail
  go_region_held3 (fun w' => w'.cell? ⟨b, 0, none⟩ = some (.pointer (some ⟨p.E, 0, none⟩)) ∧ w'.cell? ⟨b + 1, 0, none⟩ = some (.int .i64 who) ∧ w'.cell? ⟨p.E, 0, none⟩ = some (pm p.M))
    (first | exact ⟨e0, e1, c0⟩ | exact hs2)
    (first
      | (go_at_call 39; refine (CP.out _ (by first | exact HE.out.drew | exact HE.out)).mono ?_; rintro e w' ⟨rfl, rfl⟩)
      | (go_at_call 38; refine (CS.out _ (by first | exact HE.out.memDrew | exact HE.out.m)).mono ?_; rintro e w2 ⟨⟨u, rfl⟩, ho, hm⟩; have ho2 : Only p.M W w2 := (by first | exact Only.ofDrew ho | exact ho); have hs2 : w2.cell? ⟨b, 0, none⟩ = some (.pointer (some ⟨p.E, 0, none⟩)) ∧ w2.cell? ⟨b + 1, 0, none⟩ = some (.int .i64 who) ∧ w2.cell? ⟨p.E, 0, none⟩ = some (pm p.M) := ⟨(HB.out.moved HE.out (Moved.of_only ho2)).b0.cell, (HB.out.moved HE.out (Moved.of_only ho2)).b1.cell, (HE.out.stored ho2 hm).q.cell.1⟩))
  all_goals
    have he2 := HE.out.stored ho2 hm
    have hv2 := Moved.of_only ho2
    have hb2 := HB.out.moved HE.out hv2
    obtain ⟨d0, d1, d2, d3⟩ := he2.q.cell
    have g0 := hb2.b0.cell
    have g1 := hb2.b1.cell
    unfold pE at g0
    obtain ⟨f0, f1, f2, f3⟩ := he2.pcell hw
    have hq : (who : Int) < p.R := by omega
    have hpn := he2.pinned hw 0 false
    have hvp : Moved (fE p) (fE p) w2 _ := Moved.pinned w2 (who * 2) (who * 2 + 1) (.int .u64 (0 : Nat)) (.bool false)
    have hb9 := hb2.moved he2 hvp
    have hs9 := And.intro hb9.b0.cell (And.intro hb9.b1.cell hpn.q.cell.2.2.2)
    unfold pE at hs9
    have HPN := Lib.hid hpn
    have HVP := Lib.hid hvp
    have HV2 := Lib.hid hv2
    have f2a := f2 (who * 2)
    have f2b := f2 (who * 2 + 1)
    clear he2 hv2 hb2 hpn hvp f2 hb9 ho hm ho2 hs2 e0 e1 c0 c1 c2 c3
    go_wp2_with fail
    go_region_held3 (fun w' => w'.cell? ⟨b, 0, none⟩ = some (.pointer (some ⟨p.E, 0, none⟩)) ∧ w'.cell? ⟨b + 1, 0, none⟩ = some (.int .i64 who) ∧ w'.cell? ⟨p.E, 3, none⟩ = some (.slice (some ⟨p.Pb, 0, none⟩) p.R p.R))
      (first | exact ⟨g0, g1, d3⟩ | exact hs9)
      (fail)
    all_goals
      clear g0 g1 d0 d1 d2 d3 f0 f1 f3 f2a f2b hs9
      go_wp2_with fail
      go_ret
      refine ⟨rfl, ?_, ?_⟩
      · rw [HP.out]
        exact HPN.out.later fun _ _ => rfl
      · exact HV2.out.trans (HVP.out.trans (Moved.of_below ⟨rfl, rfl, rfl, Nat.le_refl _, fun _ _ => rfl⟩))
end Go.Proofs.Ytefmojohabdjcaa

/-
  The steps by which a reader is pinned, or is not: contracts.
-/
import Derived.Test.YtefmojohabdjcaaEp2
set_option linter.unusedVariables false
set_option linter.unusedSimpArgs false
namespace Go.Proofs.Ytefmojohabdjcaa
open Go Go.RowKit
attribute [local go_sem ↓] Go.wp_at_zero Go.wp_at_succ

variable {p : EP} {s : ES} {W W' : World}
/-- What a step of Pin comes to, at first. -/
def P1 (p : EP) (s : ES) (W : World) (who : Nat) (e : Ending) (w' : World) : Prop :=
  ∃ v B, e = .returned v ∧ EpAt p s.tick w' ∧ Moved (fE p) (fE p) W w' ∧ W.heap.size ≤ B ∧ ((s.po who = false ∧ v = fv 49 (capA3 B) ∧ PB3 p w' B who (s.ws p.word)) ∨
    (s.po who = true ∧ s.ws p.word = s.pe who ∧ v = .nilFunc) ∨ (s.po who = true ∧ s.ws p.word ≠ s.pe who ∧ v = fv 51 (capA3 B) ∧ PB3 p w' B who (s.ws p.word)))
theorem EpAt.memDrew (h : EpAt p s W) : MemAt W.drew p.M p.n s.t s.ws s.cs := h.drew.m
theorem Only.ofDrew {B : Nat} (h : Only B W.drew W') : Only B W W' := ⟨h.os, h.tape, h.output, h.size, h.block⟩

set_option maxRecDepth 20000 in
set_option maxHeartbeats 2000000 in
theorem pin1_c (h : EpAt p s W) (b who : Nat) (hb : PB p W b who) (hw : who < p.R) (ht : s.t < 1000000) : Calls Try.prog 33 (capP b) W fun e w' => P1 p s W who e w' := by
  obtain ⟨c0, c1, c2, c3⟩ := h.q.cell
  have e0 := hb.b0.cell
  have HE := Lib.hid h
  have HB := Lib.hid hb
  have CL := Lib.hid (fun W' hM => mLoad_yes p.M p.n s.t s.ws s.cs p.word (by have := h.fit; omega) h.fit.2.1 (by omega) W' hM)
  have lE := h.q.lt
  have lb := hb.b0.lt
  unfold pE at *
  clear h hb
  unfold capP
  go_enter Try.func33, Try.ntmps33
  go_wp2_with fail
  go_region_held3 (fun w' => w'.cell? ⟨b, 0, none⟩ = some (.pointer (some ⟨p.E, 0, none⟩)) ∧ w'.cell? ⟨p.E, 0, none⟩ = some (pm p.M) ∧ w'.cell? ⟨p.E, 1, none⟩ = some (.int .i64 p.word))
    (first | exact ⟨e0, c0, c1⟩ | exact hs2)
    ((go_at_call 34; refine (CL.out _ (by first | exact HE.out.memDrew | exact HE.out.m)).mono ?_; rintro e w2 ⟨rfl, ho, hm⟩; have ho2 : Only p.M W w2 := (by first | exact Only.ofDrew ho | exact ho); have hs2 : w2.cell? ⟨b, 0, none⟩ = some (.pointer (some ⟨p.E, 0, none⟩)) ∧ w2.cell? ⟨p.E, 0, none⟩ = some (pm p.M) ∧ w2.cell? ⟨p.E, 1, none⟩ = some (.int .i64 p.word) := ⟨(HB.out.moved HE.out (Moved.of_only ho2)).b0.cell, (HE.out.ticked ho2 hm).q.cell.1, (HE.out.ticked ho2 hm).q.cell.2.1⟩))
  all_goals
    have he2 := HE.out.ticked ho2 hm
    have hv2 := Moved.of_only ho2
    have hb2 := HB.out.moved HE.out hv2
    obtain ⟨d0, d1, d2, d3⟩ := he2.q.cell
    obtain ⟨f0, f1, f2, f3⟩ := he2.pcell hw
    have g0 := hb2.b0.cell
    have g1 := hb2.b1.cell
    have q : (who : Int) < p.R := by omega
    have HE2 := Lib.hid he2
    have HV2 := Lib.hid hv2
    have HB2 := Lib.hid hb2
    change w2.cell? ⟨p.Pb, who * 2 + 1, none⟩ = some (.bool (s.po who)) at f1
    unfold pE at g0
    clear he2 hv2 hb2 ho hm ho2 hs2 c0 c1 c2 c3 e0 d0 d1 d2 f0
    cases hpo : s.po who with
    | false =>
      rw [hpo] at f1
      go_wp2_with fail
      go_quiet (fail)
      obtain ⟨w3, hw3⟩ : ∃ w3, w2.drewN nq = w3 := ⟨_, rfl⟩
      have hbd : Below w2.heap.size w2 w3 := by rw [← hw3]; exact below_drewN (Below.refl _ _) _
      rw [hw3]
      have he3 := HE2.out.below hbd
      have hb3 := HB2.out.later (fun k hk => hbd.block k (by rcases hk with rfl | rfl; exact HB2.out.b0.lt; exact HB2.out.b1.lt))
      have HE3 := Lib.hid he3
      have HV3 := Lib.hid (HV2.out.later hbd)
      have k0 := hb3.b0.cell
      have k1 := hb3.b1.cell
      have CP := Lib.hid (pinAt_c (p := p) who (s.ws p.word) w3)
      unfold pE at k0 CP
      clear hw3 hbd he3 hb3 f1 f2 f3 g0 g1 d3
      go_wp2_with fail
      refine CP.out.mono ?_
      rintro e w4 ⟨rfl, hp4, hb4⟩
      go_wp2_with fail
      go_ret
      exact ⟨_, w3.heap.size, rfl, HE3.out.below hb4, HV3.out.later hb4, HV3.out.size, .inl ⟨hpo, rfl, hp4⟩⟩
    | true =>
      rw [hpo] at f1
      go_wp2_with fail
      go_quiet (fail)
      obtain ⟨w3, hw3⟩ : ∃ w3, w2.drewN nq = w3 := ⟨_, rfl⟩
      have hbd : Below w2.heap.size w2 w3 := by rw [← hw3]; exact below_drewN (Below.refl _ _) _
      rw [hw3]
      have he3 := HE2.out.below hbd
      have hb3 := HB2.out.later (fun k hk => hbd.block k (by rcases hk with rfl | rfl; exact HB2.out.b0.lt; exact HB2.out.b1.lt))
      have HE3 := Lib.hid he3
      have HV3 := Lib.hid (HV2.out.later hbd)
      have k0 := hb3.b0.cell
      have k1 := hb3.b1.cell
      have CP := Lib.hid (pinAnew_c he3 who (s.ws p.word) hw)
      unfold pE at k0 CP
      clear hw3 hbd he3 hb3 f1 f2 f3 g0 g1 d3
      go_wp2_with fail
      refine CP.out.mono ?_
      rintro e w4 ⟨v, rfl, hv, hp4, hb4⟩
      go_wp2_with fail
      go_ret
      refine ⟨v, w3.heap.size, rfl, HE3.out.below hb4, HV3.out.later hb4, HV3.out.size, .inr ?_⟩
      rcases hv with ⟨h1, h2⟩ | ⟨h1, h2⟩
      · exact .inl ⟨hpo, h1, h2⟩
      · exact .inr ⟨hpo, h1, h2, hp4⟩
end Go.Proofs.Ytefmojohabdjcaa

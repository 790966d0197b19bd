/-
  The further steps by which a reader is pinned, or is not: contracts.
-/
import Derived.Test.YtefmojohabdjcaaEp3
set_option linter.unusedVariables false
set_option linter.unusedSimpArgs false
namespace Go.Proofs.Ytefmojohabdjcaa
open Go Go.RowKit
attribute [local go_sem ↓] Go.wp_at_zero Go.wp_at_succ

variable {p : EP} {s : ES} {W W' : World}
/-- The cells that a step of a reader loads. -/
def SC (p : EP) (b who ep : Nat) (w' : World) : Prop :=
  w'.cell? ⟨b, 0, none⟩ = some (.pointer (some ⟨p.E, 0, none⟩)) ∧ w'.cell? ⟨b + 1, 0, none⟩ = some (.int .i64 who) ∧ w'.cell? ⟨b + 2, 0, none⟩ = some (.int .u64 ep) ∧
  w'.cell? ⟨p.E, 0, none⟩ = some (pm p.M) ∧ w'.cell? ⟨p.E, 1, none⟩ = some (.int .i64 p.word) ∧ w'.cell? ⟨p.E, 3, none⟩ = some (.slice (some ⟨p.Pb, 0, none⟩) p.R p.R)
theorem sc_of (h : EpAt p s W) {b who ep : Nat} (hb : PB3 p W b who ep) : SC p b who ep W := by
  obtain ⟨c0, c1, c2, c3⟩ := h.q.cell
  exact ⟨hb.b0.cell, hb.b1.cell, hb.b2.cell, c0, c1, c3⟩
theorem place_lt (h : EpAt p s W) {who : Nat} (hw : who < p.R) : p.word + 1 + who < p.n := by have := h.fit; omega

theorem wrap_succ (ep : Nat) (h : ep < 1000000000) : ((ep + 1 : Nat) : Int) = IntKind.u64.wrap ((ep : Int) + 1) := by
  rw [IntKind.wrap_u64]; omega

set_option maxRecDepth 20000 in
set_option maxHeartbeats 800000 in
theorem pinAt1_c (h : EpAt p s W) (b who ep : Nat) (hb : PB3 p W b who ep) (hw : who < p.R) (hep : ep < 1000000000) (ht : s.t < 1000000) : Calls Try.prog 49 (capA3 b) W fun e w' =>
    e = .returned (fv 50 (capB3 b)) ∧ EpAt p (s.store (p.word + 1 + who) (ep + 1)) w' ∧ Moved (fE p) (fE p) W w' ∧ PB3 p w' b who ep := by
  have hs := sc_of h hb
  have HE := Lib.hid h
  have HB := Lib.hid hb
  have CP := Lib.hid (fun W' (h' : EpAt p s W') => place_c h' who hw)
  have CS := Lib.hid (fun W' hM => mStore_yes p.M p.n s.t s.ws s.cs (p.word + 1 + who) (ep + 1) (place_lt h hw) h.fit.2.1 (by omega) W' hM)
  have e1 : ((ep + 1 : Nat) : Int) = IntKind.u64.wrap ((ep : Int) + 1) := wrap_succ ep hep
  rw [e1] at CS
  unfold pE at CP
  obtain ⟨s0, s1, s2, s3, s4, s5⟩ := hs
  obtain ⟨P, hP⟩ : ∃ P, p.word + 1 + who = P := ⟨_, rfl⟩
  rw [hP] at CP CS
  have HP := Lib.hid hP
  clear h hb e1 hP
  unfold capA3 fv capB3
  go_enter Try.func49, Try.ntmps49
  go_wp2_with fail
  go_region_held3 (fun w' => w'.cell? ⟨b, 0, none⟩ = some (.pointer (some ⟨p.E, 0, none⟩)) ∧ w'.cell? ⟨b + 1, 0, none⟩ = some (.int .i64 who) ∧ w'.cell? ⟨b + 2, 0, none⟩ = some (.int .u64 ep) ∧ w'.cell? ⟨p.E, 0, none⟩ = some (pm p.M) ∧ w'.cell? ⟨p.E, 1, none⟩ = some (.int .i64 p.word) ∧ w'.cell? ⟨p.E, 3, none⟩ = some (.slice (some ⟨p.Pb, 0, none⟩) p.R p.R))
    (first | exact ⟨s0, s1, s2, s3, s4, s5⟩ | exact hs2)
    (first
      | (go_at_call 39; refine (CP.out _ (by first | exact HE.out.drew | exact HE.out)).mono ?_; rintro e w' ⟨rfl, rfl⟩)
      | (go_at_call 38; refine (CS.out _ (by first | exact HE.out.memDrew | exact HE.out.m)).mono ?_; rintro e w2 ⟨⟨u, rfl⟩, ho, hm⟩; have ho2 : Only p.M W w2 := (by first | exact Only.ofDrew ho | exact ho); have hs2 : SC p b who ep w2 := sc_of (HE.out.stored ho2 hm) (HB.out.moved HE.out (Moved.of_only ho2))))
  all_goals
    have he2 := HE.out.stored ho2 hm
    have hv2 := Moved.of_only ho2
    have hb2 := HB.out.moved HE.out hv2
    have HE2 := Lib.hid he2
    have HV2 := Lib.hid hv2
    have HB2 := Lib.hid hb2
    clear he2 hv2 hb2 ho hm ho2 hs2
    go_wp2_with fail
    go_ret
    refine ⟨rfl, ?_, HV2.out, HB2.out⟩
    rw [HP.out]; exact HE2.out
end Go.Proofs.Ytefmojohabdjcaa

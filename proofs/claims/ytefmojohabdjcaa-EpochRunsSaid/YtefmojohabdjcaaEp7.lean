/-
  The steps of Advance: contracts.
-/
import Derived.Test.YtefmojohabdjcaaEp6
set_option linter.unusedVariables false
set_option linter.unusedSimpArgs false
namespace Go.Proofs.Ytefmojohabdjcaa
open Go Go.RowKit
attribute [local go_sem ↓] Go.wp_at_zero Go.wp_at_succ

variable {p : EP} {s : ES} {W W' : World}
theorem PB4.moved {b V ep who : Nat} (h : PB4 p W b V ep who) (he : EpAt p s W) {F' : Nat → Prop} (hv : Moved (fE p) F' W W') : PB4 p W' b V ep who :=
  ⟨(hv.keep h.b0 (he.notE h.b0 (by decide) (by decide) (by decide))).1, (hv.keep h.b1 (he.notE h.b1 (by decide) (by decide) (by decide))).1, (hv.keep h.b2 (he.notE h.b2 (by decide) (by decide) (by decide))).1, (hv.keep h.b3 (he.notE h.b3 (by decide) (by decide) (by decide))).1⟩
/-- What a look at a reader comes to. -/
def P3 (p : EP) (s : ES) (W : World) (V ep who : Nat) (e : Ending) (w' : World) : Prop :=
  ∃ v B, e = .returned v ∧ EpAt p s.tick w' ∧ Moved (fE p) (fE p) W w' ∧ W.heap.size ≤ B ∧ ((holdsB (s.ws (p.word + 1 + who)) ep = true ∧ v = .nilFunc) ∨ (holdsB (s.ws (p.word + 1 + who)) ep = false ∧ v = passV p.R (who + 1) B ∧ PB4 p w' B V ep (who + 1)))

set_option maxRecDepth 20000 in
set_option maxHeartbeats 1000000 in
theorem pass2_c (h : EpAt p s W) (b V ep who : Nat) (hb : PB4 p W b V ep who) (hw : who < p.R) (ht : s.t < 1000000) : Calls Try.prog 56 (cap2 b) W fun e w' => P3 p s W V ep who e w' := by
  obtain ⟨c0, c1, c2, c3⟩ := h.q.cell
  have e0 := hb.b0.cell
  have e2 := hb.b2.cell
  have e3 := hb.b3.cell
  have HE := Lib.hid h
  have HB := Lib.hid hb
  have CP := Lib.hid (fun W' (h' : EpAt p s W') => place_c h' who hw)
  have CL := Lib.hid (fun W' hM => mLoad_yes p.M p.n s.t s.ws s.cs (p.word + 1 + who) (place_lt h hw) h.fit.2.1 (by omega) W' hM)
  obtain ⟨x, hx⟩ : ∃ x, s.ws (p.word + 1 + who) = x := ⟨_, rfl⟩
  rw [hx] at CL
  have CH := Lib.hid (fun W' => holds_c x ep W')
  have HX := Lib.hid hx
  have hfit := h.fit
  unfold pE at CP e0
  obtain ⟨P, hP⟩ : ∃ P, p.word + 1 + who = P := ⟨_, rfl⟩
  rw [hP] at CP CL
  obtain ⟨bv, hbv⟩ : ∃ bv, holdsB x ep = bv := ⟨_, rfl⟩
  rw [hbv] at CH
  have HBV := Lib.hid hbv
  clear h hb hP hx hbv
  unfold cap2
  go_enter Try.func56, Try.ntmps56
  go_wp2_with fail
  go_region_held3 (fun w' => w'.cell? ⟨b, 0, none⟩ = some (.pointer (some ⟨p.E, 0, none⟩)) ∧ w'.cell? ⟨b + 3, 0, none⟩ = some (.int .i64 who) ∧ w'.cell? ⟨b + 2, 0, none⟩ = some (.int .u64 ep) ∧ w'.cell? ⟨p.E, 0, none⟩ = some (pm p.M))
    (first | exact ⟨e0, e3, e2, c0⟩ | exact hs2)
    (first
      | (go_at_call 39; refine (CP.out _ (by first | exact HE.out.drew | exact HE.out)).mono ?_; rintro e w' ⟨rfl, rfl⟩)
      | (go_at_call 34; refine (CL.out _ (by first | exact HE.out.memDrew | exact HE.out.m)).mono ?_; rintro e w2 ⟨rfl, ho, hm⟩; have ho2 : Only p.M W w2 := (by first | exact Only.ofDrew ho | exact ho); have hs2 : w2.cell? ⟨b, 0, none⟩ = some (.pointer (some ⟨p.E, 0, none⟩)) ∧ w2.cell? ⟨b + 3, 0, none⟩ = some (.int .i64 who) ∧ w2.cell? ⟨b + 2, 0, none⟩ = some (.int .u64 ep) ∧ w2.cell? ⟨p.E, 0, none⟩ = some (pm p.M) := ⟨(HB.out.moved HE.out (Moved.of_only ho2)).b0.cell, (HB.out.moved HE.out (Moved.of_only ho2)).b3.cell, (HB.out.moved HE.out (Moved.of_only ho2)).b2.cell, (HE.out.ticked ho2 hm).q.cell.1⟩)
      | (go_at_call 57; refine (CH.out _).mono ?_; rintro e w9 ⟨rfl, hw9⟩; have hw8 := hw9.symm; clear hw9; subst hw8))
  all_goals
    have he2 := HE.out.ticked ho2 hm
    have hv2 := Moved.of_only ho2
    have hb2 := HB.out.moved HE.out hv2
    have g0 := hb2.b0.cell
    have g1 := hb2.b1.cell
    have g2 := hb2.b2.cell
    have g3 := hb2.b3.cell
    have HE2 := Lib.hid he2
    have HV2 := Lib.hid hv2
    have CN := Lib.hid (pass_c he2 V ep (who + 1) (by omega))
    have e9 : ((who + 1 : Nat) : Int) = (who : Int) + 1 := by omega
    rw [e9] at CN
    unfold pE at g0 CN
    have hq : (who : Int) < 8 := by omega
    clear he2 hv2 hb2 ho hm ho2 hs2 c0 c1 c2 c3 e0 e2 e3 e9
    cases bv with
    | true =>
      go_wp2_with fail
      go_ret
      refine ⟨_, W.heap.size, rfl, HE2.out, HV2.out, Nat.le_refl _, .inl ⟨?_, rfl⟩⟩
      rw [HX.out]; exact HBV.out
    | false =>
      go_wp2_with fail
      refine CN.out.mono ?_
      rintro e w4 ⟨rfl, hp4, hb4⟩
      go_wp2_with fail
      go_ret
      refine ⟨_, w2.heap.size, rfl, HE2.out.below hb4, HV2.out.later hb4, HV2.out.size, .inr ⟨?_, rfl, hp4⟩⟩
      rw [HX.out]; exact HBV.out

set_option maxRecDepth 20000 in
set_option maxHeartbeats 1000000 in
theorem pass1_c (h : EpAt p s W) (b V ep who : Nat) (hb : PB4 p W b V ep who) (a : Value) (mv : Bool) (hV : MvAt W V a mv) (hep : ep < 1000000000) (ht : s.t < 1000000) : Calls Try.prog 54 (cap1 b) W fun e w' =>
    e = .returned .nilFunc ∧ EpAt p (s.after p ep) w' ∧ MvAt w' V a (s.moves p ep) ∧ Moved (fV p V) (fV p V) W w' := by
  have e0 := hb.b0.cell
  have e1 := hb.b1.cell
  have e2 := hb.b2.cell
  have HE := Lib.hid h
  have HB := Lib.hid hb
  have HMV := Lib.hid hV
  have nV := h.notE hV (by decide) (by decide) (by decide)
  have HNV := Lib.hid nV
  have CM := Lib.hid (fun W' (h' : EpAt p s W') => move_c h' ep hep ht)
  obtain ⟨bv, hbv⟩ : ∃ bv, s.moves p ep = bv := ⟨_, rfl⟩
  rw [hbv] at CM
  have HBV := Lib.hid hbv
  unfold pE at CM e0
  clear h hb hV nV hbv
  unfold cap1
  go_enter Try.func54, Try.ntmps54
  go_wp2_with fail
  go_region_held3 (fun w' => w'.cell? ⟨b, 0, none⟩ = some (.pointer (some ⟨p.E, 0, none⟩)) ∧ w'.cell? ⟨b + 1, 0, none⟩ = some (.pointer (some ⟨V, 0, none⟩)) ∧ w'.cell? ⟨b + 2, 0, none⟩ = some (.int .u64 ep))
    (first | exact ⟨e0, e1, e2⟩ | exact hs2 | exact hs3)
    ((go_at_call 55; refine (CM.out _ (by first | exact HE.out.drew | exact HE.out)).mono ?_; rintro e w2 ⟨rfl, he2, hv2⟩; have hv3 : Moved (fE p) (fE p) W w2 := (by first | exact hv2 | exact ⟨hv2.os, hv2.tape, hv2.output, hv2.size, hv2.same, hv2.old⟩); have hb2 := HB.out.moved HE.out hv3; have hs2 : w2.cell? ⟨b, 0, none⟩ = some (.pointer (some ⟨p.E, 0, none⟩)) ∧ w2.cell? ⟨b + 1, 0, none⟩ = some (.pointer (some ⟨V, 0, none⟩)) ∧ w2.cell? ⟨b + 2, 0, none⟩ = some (.int .u64 ep) := ⟨hb2.b0.cell, hb2.b1.cell, hb2.b2.cell⟩; have hm2 : MvAt w2 V a mv := (hv3.keep HMV.out HNV.out).1; obtain ⟨m0, m1, m2, m3⟩ := hm2.cell; have m4 := hm2.lt;
                          have hk : ∀ k, k ≠ V → (w2.setCell ⟨V, 1, none⟩ (.bool bv)).heap[k]? = w2.heap[k]? := fun k hk => Below.heap_setCell w2 ⟨V, 1, none⟩ _ k hk; have hs3 : (w2.setCell ⟨V, 1, none⟩ (.bool bv)).cell? ⟨b, 0, none⟩ = some (.pointer (some ⟨p.E, 0, none⟩)) ∧ (w2.setCell ⟨V, 1, none⟩ (.bool bv)).cell? ⟨b + 1, 0, none⟩ = some (.pointer (some ⟨V, 0, none⟩)) ∧ (w2.setCell ⟨V, 1, none⟩ (.bool bv)).cell? ⟨b + 2, 0, none⟩ = some (.int .u64 ep) := ⟨Boxed.cell (show Boxed _ b 28 _ from (hk _ (block_ne hb2.b0 hm2 (by decide))).trans hb2.b0), Boxed.cell (show Boxed _ (b + 1) 73 _ from (hk _ (block_ne hb2.b1 hm2 (by decide))).trans hb2.b1), Boxed.cell (show Boxed _ (b + 2) 32 _ from (hk _ (block_ne hb2.b2 hm2 (by decide))).trans hb2.b2)⟩))
  all_goals
    have HE3 := Lib.hid (he2.later (W' := w2.setCell ⟨V, 1, none⟩ (.bool bv)) fun k hkE => hk k (fun e => by
      subst e
      exact (he2.notE hm2 (by decide) (by decide) (by decide)) hkE))
    have HM3 := Lib.hid (hm2.set1 bv)
    have HV3 : Hid (Moved (fV p V) (fV p V) W (w2.setCell ⟨V, 1, none⟩ (.bool bv))) := hv3.toV.trans ⟨rfl, rfl, rfl, by rw [size_setCell]; exact Nat.le_refl _, fun k _ hn => hk k (fun e => hn (.inr e)), fun _ _ h => h⟩
    clear he2 hv2 hv3 hb2 hs2 hm2 hk hs3 e0 e1 e2 m0 m1 m2 m3
    go_wp2_with fail
    go_ret
    refine ⟨rfl, HE3.out, ?_, HV3.out⟩
    rw [HBV.out]; exact HM3.out
end Go.Proofs.Ytefmojohabdjcaa

/-
  Acts of an epoch that are done at once: contracts.
-/
import Derived.Test.YtefmojohabdjcaaEpA1
set_option linter.unusedVariables false
set_option linter.unusedSimpArgs false
namespace Go.Proofs.Ytefmojohabdjcaa
open Go Go.RowKit

variable {p : EP} {s : ES} {W W' W0 : World} {now : Nat} {at' : Nat → Option Nat}
theorem rest1 (q : EQ) (hN : q.N = 1) (L : Nat) : ∀ s : ET, ((epMach q).rest L s).1.es = (runE q.p L s.es (s.pc 0) s.mv).1 ∧ ((epMach q).rest L s).1.pc 0 = (runE q.p L s.es (s.pc 0) s.mv).2.1 ∧ ((epMach q).rest L s).1.mv = (runE q.p L s.es (s.pc 0) s.mv).2.2 := by
  induction L with
  | zero => intro s; exact ⟨rfl, rfl, rfl⟩
  | succ L ih =>
    intro s
    have hr : (epMach q).round s = if (s.pc 0).isDone then (s, false) else (s.nx q 0, true) := by
      unfold Mach.round Mach.upto
      rw [show (epMach q).N = 1 from hN]
      rfl
    cases hd : (s.pc 0).isDone with
    | true =>
      rw [hd, if_pos rfl] at hr
      unfold Mach.rest
      rw [hr]
      unfold runE
      rw [hd]
      exact ⟨rfl, rfl, rfl⟩
    | false =>
      rw [hd, if_neg (by decide)] at hr
      unfold Mach.rest
      rw [hr]
      unfold runE
      rw [hd]
      have := ih (s.nx q 0)
      simp only [if_neg (show ¬ (false = true) by decide), if_pos]
      have hpc : (s.nx q 0).pc 0 = (nextE q.p s.es (s.pc 0)).2.1 := by simp [ET.nx, put1]
      rw [hpc] at this
      exact this
theorem Moved.drop {F F' : Nat → Prop} (hb : Below W0.heap.size W0 W) (h : Moved F F' W W') (hF : ∀ k, k < W0.heap.size → F k → fE p k) : Moved (fE p) (fE p) W0 W' :=
  ⟨h.os.trans hb.os, h.tape.trans hb.tape, h.output.trans hb.output, Nat.le_trans hb.size h.size, fun k hk hn => (h.same k (Nat.lt_of_lt_of_le hk hb.size) (fun hf => hn (hF k hk hf))).trans (hb.block k hk), fun _ _ h => h⟩
def PinnedTo (p : EP) (s : ES) (now : Nat) (at' : Nat → Option Nat) (W0 : World) (e : Ending) (w' : World) : Prop :=
  e = .returned (.bool true) ∧ ∃ s', EpAt p s' w' ∧ Stil p s' now at' ∧ s'.t ≤ s.t + 12 ∧ Moved (fE p) (fE p) W0 w'
/-- An act of a reader, done at once. -/
theorem aloneR_c (h : EpAt p s W0) (hs : Stil p s now at') (ht : s.t < 900000) (A b c f : Nat) (pc : PC) (hcl : cloV p.R b c pc = fv f (capP b)) (hk : okPC p s.t pc) (hbx : ∀ k, boxN b c k pc → W0.heap.size ≤ k) (hbk : BoxOK p W none b c pc)
    (hA0 : W0.heap.size ≤ A) (hA : ActAt W A (fv f (capP b)) 0) (hb : Below W0.heap.size W0 W) (s' : ES) (at'' : Nat → Option Nat) (hr : runE p 12 s pc false = (s', .done, false)) (hs' : Stil p s' now at'') (ht' : s'.t ≤ s.t + 12) :
    Calls Try.prog 16 #[pa A] W fun e w' => PinnedTo p s now at'' W0 e w' := by
  obtain ⟨q, hq⟩ : ∃ q : EQ, q = { p := p, N := 1, pb := fun _ => A, Vo := none, va := .nilFunc } := ⟨_, rfl⟩
  obtain ⟨S, hS⟩ : ∃ S : ET, S = ⟨s, fun _ => pc, fun _ => 0, false⟩ := ⟨_, rfl⟩
  have hE : EM q S (fun k => fE q.p k ∨ q.Vo = some k ∨ (∃ i, i < q.N ∧ k = q.pb i) ∨ (∃ i, i < q.N ∧ boxN b c k (S.pc i))) W (fun _ => b) (fun _ => c) := by
    subst hq hS
    refine ⟨fun k => Iff.rfl, h.below hb, fun i hi => ?_, fun i hi => hbk, fun i hi => hk, fun V hV => (by cases hV), ?_, fun i hi => Nat.zero_le _⟩
    · show ActAt W A (cloV p.R b c pc) 0
      rw [hcl]; exact hA
    · show s.ws p.word ≤ s.t
      rw [hs.wd]; exact hs.le
  have hN : q.N = 1 := by rw [hq]
  have hok : (epMach q).Ok := epMach_ok (fun i j hi hj hne => by rw [hN] at hi hj; omega)
  obtain ⟨r1, r2, r3⟩ := rest1 q hN 12 S
  have hrun : runE q.p 12 S.es (S.pc 0) S.mv = (s', .done, false) := by subst hq hS; exact hr
  rw [hrun] at r1 r2 r3
  refine (alone_c hok hN A (by subst hq; rfl) S _ ⟨_, _, hE⟩ (by subst hS; show s.t + 20 * 13 < 1000000; omega)).mono ?_
  rintro e w' ⟨rfl, F', ⟨b', c', h1⟩, h2⟩
  have hov : (epMach q).over ((epMach q).rest 12 S).1 0 = true := by
    show (((epMach q).rest 12 S).1.pc 0).isDone = true
    rw [r2]; rfl
  have hep := h1.ep
  rw [r1] at hep
  refine ⟨by rw [hov], s', by subst hq; exact hep, hs', ht', Moved.drop hb h2 fun k hk1 hf => ?_⟩
  subst hq hS
  rcases hf with hf | hf | ⟨i, hi, rfl⟩ | ⟨i, hi, hf⟩
  · exact hf
  · cases hf
  · exact absurd hk1 (Nat.not_lt.2 hA0)
  · exact absurd hk1 (Nat.not_lt.2 (hbx k hf))
theorem alonePin_c (h : EpAt p s W0) (hs : Stil p s now at') (ht : s.t < 900000) (who : Nat) (hw : who < p.R) (A b : Nat) (hA0 : W0.heap.size ≤ A) (hb0 : W0.heap.size ≤ b) (hA : ActAt W A (fv 33 (capP b)) 0) (hpb : PB p W b who) (hb : Below W0.heap.size W0 W) :
    Calls Try.prog 16 #[pa A] W fun e w' => PinnedTo p s now (put1 at' who (some now)) W0 e w' := by
  obtain ⟨s', h1, h2, h3⟩ := runE_pin hs who hw 12 (by omega) false
  exact aloneR_c h hs ht A b 0 _ (.pin0 who) rfl hw (fun k hk => by rcases hk with rfl | rfl <;> omega) hpb hA0 hA hb s' _ h1 h2 (by omega)
theorem aloneUnpin_c (h : EpAt p s W0) (hs : Stil p s now at') (ht : s.t < 900000) (who : Nat) (hw : who < p.R) (A b : Nat) (hA0 : W0.heap.size ≤ A) (hb0 : W0.heap.size ≤ b) (hA : ActAt W A (fv 37 (capP b)) 0) (hpb : PB p W b who) (hb : Below W0.heap.size W0 W) :
    Calls Try.prog 16 #[pa A] W fun e w' => PinnedTo p s now (put1 at' who none) W0 e w' := by
  obtain ⟨s', h1, h2, h3⟩ := runE_unpin hs who 12 (by omega) false
  exact aloneR_c h hs ht A b 0 _ (.unp who) rfl hw (fun k hk => by rcases hk with rfl | rfl <;> omega) hpb hA0 hA hb s' _ h1 h2 (by omega)

/-- An Advance, done at once. -/
theorem aloneAdv_c (h : EpAt p s W0) (hs : Stil p s now at') (ht : s.t < 900000) (V A b c : Nat) (hV0 : W0.heap.size ≤ V) (hA0 : W0.heap.size ≤ A) (hb0 : W0.heap.size ≤ b) (hc0 : W0.heap.size ≤ c) (hV : MvAt W V (pa A) false) (hA : ActAt W A (fv 46 (capV b c)) 0) (hab : AB p W b c V) (hb : Below W0.heap.size W0 W)
    (s' : ES) (bb : Bool) (now' : Nat) (hr : runE p 12 s .adv0 false = (s', .done, bb)) (hs' : Stil p s' now' at') (ht' : s'.t ≤ s.t + 12) :
    Calls Try.prog 16 #[pa A] W fun e w' => e = .returned (.bool true) ∧ MvAt w' V (pa A) bb ∧ EpAt p s' w' ∧ Moved (fE p) (fE p) W0 w' := by
  obtain ⟨q, hq⟩ : ∃ q : EQ, q = { p := p, N := 1, pb := fun _ => A, Vo := some V, va := pa A } := ⟨_, rfl⟩
  obtain ⟨S, hS⟩ : ∃ S : ET, S = ⟨s, fun _ => .adv0, fun _ => 0, false⟩ := ⟨_, rfl⟩
  have hE : EM q S (fun k => fE q.p k ∨ q.Vo = some k ∨ (∃ i, i < q.N ∧ k = q.pb i) ∨ (∃ i, i < q.N ∧ boxN b c k (S.pc i))) W (fun _ => b) (fun _ => c) := by
    subst hq hS
    refine ⟨fun k => Iff.rfl, h.below hb, fun i hi => hA, fun i hi => ⟨V, rfl, hab⟩, fun i hi => trivial, fun V' hV' => ?_, ?_, fun i hi => Nat.zero_le _⟩
    · cases hV'; exact hV
    · show s.ws p.word ≤ s.t
      rw [hs.wd]; exact hs.le
  have hN : q.N = 1 := by rw [hq]
  have hok : (epMach q).Ok := epMach_ok (fun i j hi hj hne => by rw [hN] at hi hj; omega)
  obtain ⟨r1, r2, r3⟩ := rest1 q hN 12 S
  have hrun : runE q.p 12 S.es (S.pc 0) S.mv = (s', .done, bb) := by subst hq hS; exact hr
  rw [hrun] at r1 r2 r3
  refine (alone_c hok hN A (by subst hq; rfl) S _ ⟨_, _, hE⟩ (by subst hS; show s.t + 20 * 13 < 1000000; omega)).mono ?_
  rintro e w' ⟨rfl, F', ⟨b', c', h1⟩, h2⟩
  have hov : (epMach q).over ((epMach q).rest 12 S).1 0 = true := by
    show (((epMach q).rest 12 S).1.pc 0).isDone = true
    rw [r2]; rfl
  have hep := h1.ep
  rw [r1] at hep
  have hmv := h1.mvat V (by rw [hq])
  rw [r3] at hmv
  refine ⟨by rw [hov], by subst hq; exact hmv, by subst hq; exact hep, Moved.drop hb h2 fun k hk1 hf => ?_⟩
  subst hq hS
  rcases hf with hf | hf | ⟨i, hi, rfl⟩ | ⟨i, hi, hf⟩
  · exact hf
  · cases hf; exact absurd hk1 (Nat.not_lt.2 hV0)
  · exact absurd hk1 (Nat.not_lt.2 hA0)
  · rcases hf with rfl | rfl
    · exact absurd hk1 (Nat.not_lt.2 hb0)
    · exact absurd hk1 (Nat.not_lt.2 hc0)
theorem runE_adv0 (h : Stil p s now at') (L : Nat) : runE p (L + 1) s .adv0 false = runE p L s.tick (.adv 0 now) false := by
  simp [runE, nextE, PC.isDone, h.wd]
def MovedTo (p : EP) (s : ES) (now : Nat) (at' : Nat → Option Nat) (bb : Bool) (W0 : World) (e : Ending) (w' : World) : Prop :=
  e = .returned (.bool bb) ∧ ∃ s', EpAt p s' w' ∧ Stil p s' now at' ∧ s'.t ≤ s.t + 12 ∧ Moved (fE p) (fE p) W0 w'
theorem movedG_c (h : EpAt p s W) (hs : Stil p s now at') (ht : s.t < 900000) (s' : ES) (bb : Bool) (now' : Nat) (hr : runE p 12 s .adv0 false = (s', .done, bb)) (hs' : Stil p s' now' at') (ht' : s'.t ≤ s.t + 12) :
    Calls Try.prog 19 #[pE p] W fun e w' => MovedTo p s now' at' bb W e w' := by
  have CA := Lib.hid (adv_c (p := p) W)
  have CB := Lib.hid (fun W' V A b c hV0 hA0 hb0 hc0 hV hA hab hb => aloneAdv_c (W := W') h hs ht V A b c hV0 hA0 hb0 hc0 hV hA hab hb s' bb now' hr hs' ht')
  have HS := Lib.hid hs'
  have HT := Lib.hid ht'
  clear h hs ht hr hs' ht'
  unfold pE at CA ⊢
  go_enter Try.func19, Try.ntmps19
  go_wp2_with fail
  refine CA.out.mono ?_
  rintro e w1 ⟨V, A, b, c, rfl, hV0, hA0, hb0, hc0, hV, hA, hab, hb⟩
  have C2 := Lib.hid (CB.out w1 V A b c hV0 hA0 hb0 hc0 hV hA hab hb)
  have k0 := hV.cell.1
  have k1 := hV.lt
  clear hV0 hA0 hb0 hc0 hV hA hab hb CA CB
  unfold pa at C2 k0
  go_wp2_with fail
  refine C2.out.mono ?_
  rintro e w2 ⟨rfl, hV2, he2, hm2⟩
  have C3 := Lib.hid (moved_c V _ bb hV2)
  have HE := Lib.hid he2
  have HM := Lib.hid hm2
  clear hV2 he2 hm2 k0 k1 C2
  go_wp2_with (go_at_call 30; refine C3.out.mono ?_; rintro e w' ⟨rfl, hw⟩; rw [hw]; clear hw w')
  go_ret
  exact ⟨rfl, s', HE.out, HS.out, HT.out, HM.out⟩
theorem moved_yes (h : EpAt p s W) (hs : Stil p s now at') (ht : s.t < 900000) (ha : AllAt p now at') : Calls Try.prog 19 #[pE p] W fun e w' => MovedTo p s (now + 1) at' true W e w' := by
  have hR := h.fit.2.2
  obtain ⟨s', h1, h2, h3⟩ := runE_adv_yes hs ha p.R s.tick hs.tick 0 (by omega) 11 (by omega) false
  exact movedG_c h hs ht s' true _ (by rw [runE_adv0 hs, h1]) h2 (by have : s.tick.t = s.t + 1 := rfl; omega)
theorem moved_no (h : EpAt p s W) (hs : Stil p s now at') (ht : s.t < 900000) (i : Nat) (hi : i < p.R) (hne : at' i ≠ none ∧ at' i ≠ some now) : Calls Try.prog 19 #[pE p] W fun e w' => MovedTo p s now at' false W e w' := by
  have hR := h.fit.2.2
  obtain ⟨s', h1, h2, h3⟩ := runE_adv_no i hi hne i s.tick hs.tick 0 (by omega) 11 (by omega) false
  exact movedG_c h hs ht s' false _ (by rw [runE_adv0 hs, h1]) h2 (by have : s.tick.t = s.t + 1 := rfl; omega)
end Go.Proofs.Ytefmojohabdjcaa

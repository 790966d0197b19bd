/-
  One round, and rounds: stepAll and Rest over any machine.
-/
import Derived.Test.YtefmojohabdjcaaGoing
set_option linter.unusedVariables false
set_option linter.unusedSimpArgs false
namespace Go.Proofs.Ytefmojohabdjcaa
open Go Go.RowKit
attribute [local go_sem] Oper.semAt_some wide_fnG wide_depthG

variable {σ : Type} {m : Mach σ}
abbrev NoT : TypeId → Prop := fun _ => False
abbrev AllT : TypeId → Prop := fun _ => True
theorem Mach.Ok.itself (hm : m.Ok) {s : σ} {F : Nat → Prop} {D : Nat} {A B : World} (h : m.M s F A) (hi : Itself NoT D A B) : m.M s F B := by
  refine hm.stab h (fun k hk => ?_) hi.size
  obtain ⟨c, e, fz, hc⟩ := hm.inn h hk
  rw [hc]
  exact hi.same k c e fz (fun h => h) hc
theorem Moved.itself {F F' : Nat → Prop} {D : Nat} {w A B : World} (h : Moved F F' w A) (hi : Itself NoT D A B) (hD : w.heap.size ≤ D) : Moved F F' w B :=
  ⟨hi.os.trans h.os, hi.tape.trans h.tape, hi.output.trans h.output, Nat.le_trans h.size hi.size, fun k hk hn => (hi.below k (by omega)).trans (h.same k hk hn), h.old⟩
theorem Keeps.of_moved (hm : m.Ok) {s : σ} {F F' : Nat → Prop} {cap : Nat → Prop} {D : Nat} {W W' : World} (hM : m.M s F W) (h : Moved F F' W W') (hc : ∀ k, cap k → ¬ F k) : Keeps AllT cap D W W' :=
  ⟨h.size, fun k o hk hp => (h.keep hk (fun hf => by
    rcases hp with hp | ⟨_, hp⟩
    · exact hc k hp hf
    · obtain ⟨c, e, fz, hcc⟩ := hm.inn hM hf
      rw [hk] at hcc
      cases hcc
      exact hp c e fz trivial rfl)).1⟩
/-- A store into a block that is not the machine's. -/
theorem Mach.Ok.setCell (hm : m.Ok) {s : σ} {F : Nat → Prop} {W : World} (h : m.M s F W) {L : Nat} (hL : ¬ F L) (i : Nat) (v : Value) : m.M s F (W.setCell ⟨L, i, none⟩ v) :=
  hm.stab h (fun k hk => Below.heap_setCell W ⟨L, i, none⟩ v k (fun e => hL (by subst e; exact hk))) (by show W.heap.size ≤ (W.heap.modify _ _).size; rw [Array.size_modify]; exact Nat.le_refl _)
theorem Mach.Ok.putObj (hm : m.Ok) {s : σ} {F : Nat → Prop} {W : World} (h : m.M s F W) {L : Nat} {o o' : Obj} (hL : W.heap[L]? = some o) (ho : o.isCells = false) : m.M s F (W.putObj L o') ∧ ¬ F L := by
  have hn : ¬ F L := fun hf => by
    obtain ⟨c, e, fz, hc⟩ := hm.inn h hf
    rw [hL] at hc; cases hc; cases ho
  exact ⟨hm.stab h (fun k hk => World.putObj_heap_other (fun e => hn (by subst e; exact hk))) (by simp), hn⟩
theorem Moved.setCell {F F' : Nat → Prop} {w W : World} (h : Moved F F' w W) {L : Nat} (hL : w.heap.size ≤ L) (i : Nat) (v : Value) : Moved F F' w (W.setCell ⟨L, i, none⟩ v) :=
  ⟨h.os, h.tape, h.output, Nat.le_trans h.size (by show W.heap.size ≤ (W.heap.modify _ _).size; rw [Array.size_modify]; exact Nat.le_refl _), fun k hk hn => (Below.heap_setCell W ⟨L, i, none⟩ v k (by show k ≠ L; omega)).trans (h.same k hk hn), h.old⟩
theorem Moved.putObj {F F' : Nat → Prop} {w W : World} (h : Moved F F' w W) {L : Nat} (hL : w.heap.size ≤ L) (o' : Obj) : Moved F F' w (W.putObj L o') :=
  ⟨h.os, h.tape, h.output, by simpa using h.size, fun k hk hn => (World.putObj_heap_other (by omega)).trans (h.same k hk hn), h.old⟩

/-- What stands in a round over the acts that go on. -/
structure Rd (m : Mach σ) (F : Nat → Prop) (w : World) (L Bq : Nat) (u : Value) (s : σ) (b : Bool) (W : World) : Prop where
  ex : ∃ F', m.M s F' W ∧ Moved F F' w W ∧ ¬ F' L ∧ ∀ k, capA Bq u k → ¬ F' k
  bx : Boxed W L 4 (.bool b)
theorem Rd.itself (hm : m.Ok) {F : Nat → Prop} {w A B : World} {L Bq D : Nat} {u : Value} {s : σ} {b : Bool} (h : Rd m F w L Bq u s b A) (hi : Itself NoT D A B) (hD : w.heap.size ≤ D) : Rd m F w L Bq u s b B := by
  obtain ⟨F', h1, h2, h3, h4⟩ := h.ex
  exact ⟨⟨F', hm.itself h1 hi, h2.itself hi hD, h3, h4⟩, hi.boxed h.bx (.inr (fun h => h))⟩

set_option maxRecDepth 100000 in
set_option maxHeartbeats 2000000 in
theorem stepAll_c (hm : m.Ok) (hN : m.N ≤ 1000) (Bq : Nat) (u : Value) (s : σ) (F : Nat → Prop) (w : World) (hM : m.M s F w) (hcap : CapsA m Bq u w) (hap : ∀ k, capA Bq u k → ¬ F k) (hcost : m.cost s + m.N < 1000000) :
    Calls Try.prog 43 #[.func (.func 53) #[] #[.pointer (some ⟨Bq, 0, none⟩)]] w fun e w' => e = .returned (.bool (m.round s).2) ∧ ∃ F', m.M (m.round s).1 F' w' ∧ Moved F F' w w' := by
  obtain ⟨S, hS⟩ : ∃ S, m.round s = S := ⟨_, rfl⟩
  obtain ⟨s1, b1⟩ := S
  rw [hS]
  dsimp only
  have HS : Hid (m.upto s m.N = (s1, b1)) := hS
  clear hS
  refine (callsIn_wide (n := 3)).1 ?_
  refine callsIn_of_wp_marks Try.func43 rfl trivial ?_
  simp only [Try.ntmps43, List.size_toArray, List.length_cons, List.length_nil, Nat.reduceAdd, Nat.reduceSub, Array.replicate_succ, Array.replicate_zero, List.push_toArray, List.append_toArray, List.nil_append, List.cons_append]
  have Hm := Lib.hid hm
  have HM := Lib.hid hM
  have HC := Lib.hid hcap
  have HA := Lib.hid hap
  clear hm hM hcap hap
  refine wpIn_wide.2 ?_
  go_wp2_with fail
  have hbx := Boxed.new w 4 (.bool false)
  have hsz : (w.alloc (.cells #[.bool false] 4)).heap.size = w.heap.size + 1 := by simp
  have hbel : Below w.heap.size w (w.alloc (.cells #[.bool false] 4)) := (Below.refl _ _).alloc (Nat.le_refl _) _
  have hM0 := Hm.out.below HM.out hbel
  have hcl : ∀ k, capA Bq u k → k < w.heap.size := fun k hk => HC.out.lt hk
  have hC0 : CapsA m Bq u (w.alloc (.cells #[.bool false] 4)) := HC.out.heap fun k hk => hbel.block k (hcl k hk)
  have hnL : ¬ F w.heap.size := fun hf => by have := Hm.out.lt HM.out hf; omega
  obtain ⟨L, hL⟩ : ∃ L, w.heap.size = L := ⟨_, rfl⟩
  rw [hL] at hbx hsz hbel hcl hnL ⊢
  obtain ⟨W0, hW0⟩ : ∃ W0, w.alloc (.cells #[.bool false] 4) = W0 := ⟨_, rfl⟩
  rw [hW0] at hbx hsz hbel hM0 hC0 ⊢
  have hmv : Moved F F w W0 := Moved.of_below (by rw [hL]; exact hbel)
  clear hW0 HM HC
  refine (wpIn_wide (n := 3)).1 ?_
  refine wpIn_rangeWalk (gf := 53) (lb := #[.pointer (some ⟨Bq, 0, none⟩)]) rfl (enters_of Try.func53 (by kernel_rfl) rfl) (going1_walk hN Bq u) AllT (fun _ _ h => h) (fun _ => rfl)
    (fun k hk => by have := hcl k hk; omega) (fun W' hW' => hC0.heap fun k hk => hW'.block k (by have := hcl k hk; omega))
    (fun k W' => Rd m F w L Bq u (m.upto s k).1 (m.upto s k).2 W')
    (fun k W' => Rd m F w L Bq u (m.upto s k).1 (m.upto s k).2 W' ∧ m.over (m.upto s k).1 k = false)
    (fun c k W' => False)
    (fun s' A B h hAB => h.itself Hm.out hAB (by omega))
    (fun s' A B h hAB => ⟨h.1.itself Hm.out hAB (by omega), h.2⟩)
    (fun c s' A B h hAB => h)
    ⟨⟨F, hM0, hmv, hnL, HA.out⟩, hbx⟩ ?dec ?round ?done ?stop
  case dec =>
    rintro k W hk h
    obtain ⟨F', h1, h2, h3, h4⟩ := h.ex
    cases hov : m.over (m.upto s k).1 k with
    | true =>
      refine .inl ⟨?_, ?_⟩
      · unfold isOver; rw [← hov]; exact Hm.out.ov h1 hk
      · have e : m.upto s (k + 1) = m.upto s k := by rw [Mach.upto_succ]; unfold Mach.go1; rw [hov]; rfl
        rw [e]; exact h
    | false =>
      refine .inr ⟨?_, h, rfl⟩
      unfold isOver; rw [← hov]; exact Hm.out.ov h1 hk
  case round =>
    rintro l' k W1 hl' hk ⟨hrd, hov⟩
    gi_wp2
    refine ⟨Keeps.refl _ _ _ _, fun W2 hits hsz2 hrec hoth => ?_⟩
    have h2 := hrd.itself Hm.out hits (by omega)
    have hcs := Hm.out.upto_cost s k
    have hup : m.upto s (k + 1) = (m.nx (m.upto s k).1 k, true) := by rw [Mach.upto_succ]; unfold Mach.go1; rw [hov]; rfl
    obtain ⟨F', h1, hmv2, h3, h4⟩ := h2.ex
    have C := Lib.hid (Hm.out.st h1 hk hov (by omega))
    have HU := Lib.hid hup
    have HM2 := Lib.hid h1
    have HV2 := Lib.hid hmv2
    have HN3 := Lib.hid h3
    have HN4 := Lib.hid h4
    have HB2 := Lib.hid h2.bx
    clear hup h1 hmv2 h3 h4 h2 hrd hits hsz2 hrec hoth hov
    generalize m.p k = pk at C
    gi_wp2_with fail
    refine CallsIn.wrG C.out ?_
    rintro e W3 ⟨rfl, F3, hM3, hmv3⟩
    obtain ⟨hb3, hn3⟩ := hmv3.keep HB2.out HN3.out
    have hk3 : Keeps AllT (capA Bq u) W0.heap.size W2 W3 := Keeps.of_moved Hm.out HM2.out hmv3 HN4.out
    have hc3 : ∀ k, capA Bq u k → ¬ F3 k := fun j hj hf => HN4.out j hj (hmv3.old j (by have := hcl j hj; have := HV2.out.size; omega) hf)
    have HB3 := Lib.hid hb3
    have HK3 := Lib.hid hk3
    have HM3 := Lib.hid hM3
    have HV3 := Lib.hid (HV2.out.trans hmv3)
    have HN5 := Lib.hid hn3
    have HN6 := Lib.hid hc3
    have hq0 := (show Boxed W3 L 4 _ from hb3).cell
    have hq1 := lt_of_block hb3
    have hq2 := (show Boxed W3 L 4 _ from hb3).frozen
    clear hb3 hk3 hM3 hmv3 hn3 hc3 C
    gi_wp2_with fail
    refine ⟨HK3.out.trans (Keeps.setCell _ _ ⟨L, 0, none⟩ _ (fun h => by have := hcl L h; omega) (by show L < _; omega)), ?_⟩
    show Rd m F w L Bq u (m.upto s (k + 1)).1 (m.upto s (k + 1)).2 _
    rw [HU.out]
    exact ⟨⟨F3, Hm.out.setCell HM3.out HN5.out _ _, HV3.out.setCell (by omega) _ _, HN5.out, HN6.out⟩, (show Boxed W3 L 4 _ from HB3.out).set _⟩
  case done =>
    rintro D W1 hD hrd hK
    obtain ⟨F', h1, h2, h3, h4⟩ := hrd.ex
    have HK := Lib.hid hK
    have HM1 := Lib.hid h1
    have HV1 := Lib.hid h2
    have hq := hrd.bx.cell
    have hq1 := lt_of_block hrd.bx
    rw [HS.out] at hq HM1
    dsimp only at hq HM1
    clear hrd h1 h2 h3 h4 hK
    go_wp2_with fail
    refine ⟨by simp, .inl ⟨_, _, rfl, run_takeDeferred HK.out, ?_⟩⟩
    obtain ⟨hp, hn⟩ := Hm.out.putObj (o' := .deferred none) HM1.out HK.out rfl
    refine ⟨.bool b1, ?_, rfl, F', hp, HV1.out.putObj (by omega) _⟩
    simp [results, Try.f43, go_sem]
  case stop =>
    rintro D c k W1 hD hk h hK
    exact h.elim
end Go.Proofs.Ytefmojohabdjcaa

/-
  The law's world: one step of an act; what is taken away.
-/
import Derived.Test.YtefmojohabdjcaaRnC
set_option linter.unusedVariables false
set_option linter.unusedSimpArgs false
namespace Go.Proofs.Ytefmojohabdjcaa
open Go Go.RowKit

variable {W0 : World} {B : RB} {C : RC} {s : RS} {w w' : World} {n : Nat}
/-- Behind a step: fin says that the act is over. -/
def RS.stepped (p : EP) (s : RS) (who : Nat) : RS :=
  { s with es := (nextE p s.es (s.pc who)).1, pc := put1 s.pc who (nextE p s.es (s.pc who)).2.1, cnt := put1 s.cnt who (s.cnt who + 1) }
def RS.ended (s : RS) (who : Nat) : RS := { s with pn := put1 s.pn who true, si := put1 s.si who s.es.now, tn := put1 s.tn who (s.tn who + 1) }
def RC.stepped (C : RC) (who b c : Nat) : RC := { C with b := put1 C.b who b, c := put1 C.c who c }
theorem RCore.stepped (h : RCore W0 B C s w) {who b' c' : Nat} (hw : who < B.p.R) (hd : (s.pc who).isDone = false) (he : EpAt B.p (nextE B.p s.es (s.pc who)).1 w') (ha : ActAt w' (C.pb who) (cloV B.p.R b' c' (nextE B.p s.es (s.pc who)).2.1) (s.cnt who + 1))
    (hbx : BoxOK B.p w' (VoOf C s who) b' c' (nextE B.p s.es (s.pc who)).2.1) (hok : okPC B.p (s.es.t + 1) (nextE B.p s.es (s.pc who)).2.1)
    (hm : (nextE B.p s.es (s.pc who)).2.1.isDone = false → s.kd who = 2 → MvAt w' (C.V who) (pa (C.pb who)) false)
    (hv : Moved (fun k => fO B.p (VoOf C s who) k ∨ k = C.pb who) (fun k => fO B.p (VoOf C s who) k ∨ k = C.pb who) w w') : RCore W0 B (C.stepped who b' c') (s.stepped B.p who) w' := by
  have hA := h.acts who hw hd
  have hs := h.bel.size
  have hVo : ∀ V, VoOf C s who = some V → s.kd who = 2 ∧ V = C.V who := fun V hV => by
    unfold VoOf at hV
    by_cases hk : s.kd who = 2
    · rw [if_pos hk] at hV; cases hV; exact ⟨hk, rfl⟩
    · rw [if_neg hk] at hV; cases hV
  have hFge : ∀ k, (fO B.p (VoOf C s who) k ∨ k = C.pb who) → W0.heap.size ≤ k := by
    rintro k ((hf | hf) | rfl)
    · exact h.ge.1 k hf
    · obtain ⟨hk, rfl⟩ := hVo k hf
      exact (hA.mv hk).2.2
    · exact hA.ge
  have ht : (nextE B.p s.es (s.pc who)).1.t = s.es.t + 1 := nextE_t _ _ _ hd
  -- blocks of other types stand
  have key : ∀ (k : Nat) (c : Array Value) (t : TypeId) (fz : Nat × Nat), w.heap[k]? = some (Obj.cells c t fz) → t ≠ 92 → t ≠ 109 → t ≠ 95 → t ≠ 80 → t ≠ 106 → w'.heap[k]? = w.heap[k]? := fun k c t fz hk h1 h2 h3 h4 h5 =>
    hv.same k (Array.getElem?_eq_some_iff.1 hk).1 (by
      rintro ((hf | hf) | rfl)
      · exact h.ep.notE hk (Ne.symm h1) (Ne.symm h2) (Ne.symm h3) hf
      · obtain ⟨hk2, rfl⟩ := hVo k hf
        exact block_ne (hA.mv hk2).2.1 hk (Ne.symm h4) rfl
      · exact block_ne hA.act hk (Ne.symm h5) rfl)
  have oth : ∀ i, i < B.p.R → i ≠ who → (s.pc i).isDone = false → (w'.heap[C.pb i]? = w.heap[C.pb i]?) ∧ (s.kd i = 2 → w'.heap[C.V i]? = w.heap[C.V i]?) := fun i hi hiw hdi => by
    obtain ⟨a1, a2⟩ := h.apart i who hi hw hiw hdi hd
    have hi1 := h.acts i hi hdi
    refine ⟨hv.same _ hi1.act.lt ?_, fun hk2 => hv.same _ (hi1.mv hk2).2.1.lt ?_⟩
    · rintro ((hf | hf) | hf)
      · exact h.ep.notE hi1.act (by decide) (by decide) (by decide) hf
      · obtain ⟨hk2, hV⟩ := hVo _ hf
        exact block_ne (hA.mv hk2).2.1 hi1.act (by decide) hV.symm
      · exact a1 hf
    · rintro ((hf | hf) | hf)
      · exact h.ep.notE (hi1.mv hk2).2.1 (by decide) (by decide) (by decide) hf
      · obtain ⟨hk3, hV⟩ := hVo _ hf
        exact a2 hk2 hk3 hV
      · exact block_ne (hi1.mv hk2).2.1 hA.act (by decide) hf
  refine ⟨he, fun i hi hdi => ?_, fun i j hi hj hne hdi hdj => ?_, own_same h.gone fun k hk => ?_, h.tvl, fun k g v hg hv' => own_same (h.turns k g v hg hv') fun q hq => ?_, h.bel.trans (hv.toBelow hs hFge), h.ge⟩
  · by_cases hiw : i = who
    · subst hiw
      have e2 : (C.stepped i b' c').b i = b' := put1_same _ _ _
      have e3 : (C.stepped i b' c').c i = c' := put1_same _ _ _
      have e6 : (s.stepped B.p i).pc i = (nextE B.p s.es (s.pc i)).2.1 := put1_same _ _ _
      have e8 : (s.stepped B.p i).cnt i = s.cnt i + 1 := put1_same _ _ _
      have e9 : (s.stepped B.p i).es = (nextE B.p s.es (s.pc i)).1 := rfl
      rw [e6] at hdi
      have hc := hA.cnt
      refine ⟨by rw [e2, e3, e6, e8]; exact ha, by rw [e2, e3, e6]; exact hbx, by rw [e6, e9, ht]; exact hok, by rw [e8, e9, ht]; omega, hA.ge, fun hk2 => ⟨(hA.mv hk2).1, hm hdi hk2, (hA.mv hk2).2.2⟩⟩
    · have e6 : (s.stepped B.p who).pc i = s.pc i := put1_other _ _ hiw
      rw [e6] at hdi
      obtain ⟨o1, o2⟩ := oth i hi hiw hdi
      have hi1 := h.acts i hi hdi
      have e2 : (C.stepped who b' c').b i = C.b i := put1_other _ _ hiw
      have e3 : (C.stepped who b' c').c i = C.c i := put1_other _ _ hiw
      have e8 : (s.stepped B.p who).cnt i = s.cnt i := put1_other _ _ hiw
      have e9 : (s.stepped B.p who).es = (nextE B.p s.es (s.pc who)).1 := rfl
      have hc := hi1.cnt
      refine ⟨by rw [e2, e3, e6, e8]; exact hi1.act.later o1, ?_, by rw [e6, e9, ht]; exact hi1.ok.mono (Nat.le_succ _), by rw [e8, e9, ht]; omega, hi1.ge, fun hk2 => ⟨(hi1.mv hk2).1, (o2 hk2).trans (hi1.mv hk2).2.1, (hi1.mv hk2).2.2⟩⟩
      rw [e2, e3, e6]
      show BoxOK B.p w' (VoOf C s i) (C.b i) (C.c i) (s.pc i)
      refine hi1.box.later fun k hk => ?_
      obtain ⟨v, t, hc, ht2⟩ := hi1.box.cells hk
      exact key k _ t _ hc (by rcases ht2 with rfl | rfl | rfl | rfl <;> decide) (by rcases ht2 with rfl | rfl | rfl | rfl <;> decide) (by rcases ht2 with rfl | rfl | rfl | rfl <;> decide) (by rcases ht2 with rfl | rfl | rfl | rfl <;> decide) (by rcases ht2 with rfl | rfl | rfl | rfl <;> decide)
  · have hpc : ∀ i, i < B.p.R → ((s.stepped B.p who).pc i).isDone = false → (s.pc i).isDone = false := fun i hi h9 => by
      by_cases hiw : i = who
      · rw [hiw]; exact hd
      · have e6 : (s.stepped B.p who).pc i = s.pc i := put1_other _ _ hiw
        rw [e6] at h9; exact h9
    exact h.apart i j hi hj hne (hpc i hi hdi) (hpc j hj hdj)
  · obtain ⟨c, hc⟩ := own_cells h.gone hk
    exact key k _ _ _ hc (by decide) (by decide) (by decide) (by decide) (by decide)
  · obtain ⟨c, hc⟩ := own_cells (h.turns k g v hg hv') hq
    exact key q _ _ _ hc (by decide) (by decide) (by decide) (by decide) (by decide)
theorem RAll.stepped {gv mvs : Value} {f : Nat → Nat → Value} (h : RAll W0 B C s gv mvs f w) {who : Nat} (hw : who < B.p.R) (hd : (s.pc who).isDone = false) {C' : RC} {s' : RS} (hc : RCore W0 B C' s' w')
    (hv : Moved (fun k => fO B.p (VoOf C s who) k ∨ k = C.pb who) (fun k => fO B.p (VoOf C s who) k ∨ k = C.pb who) w w') : RAll W0 B C' s' gv mvs f w' := by
  have hA := h.core.acts who hw hd
  have hVo : ∀ V, VoOf C s who = some V → s.kd who = 2 ∧ V = C.V who := fun V hV => by
    unfold VoOf at hV
    by_cases hk : s.kd who = 2
    · rw [if_pos hk] at hV; cases hV; exact ⟨hk, rfl⟩
    · rw [if_neg hk] at hV; cases hV
  have key : ∀ (k : Nat) (c : Array Value) (t : TypeId) (fz : Nat × Nat), w.heap[k]? = some (Obj.cells c t fz) → t = 34 ∨ t = 75 → w'.heap[k]? = w.heap[k]? := fun k c t fz hk ht =>
    hv.same k (Array.getElem?_eq_some_iff.1 hk).1 (by
      rintro ((hf | hf) | rfl)
      · exact h.core.ep.notE hk (by rcases ht with rfl | rfl <;> decide) (by rcases ht with rfl | rfl <;> decide) (by rcases ht with rfl | rfl <;> decide) hf
      · obtain ⟨hk2, rfl⟩ := hVo k hf
        exact block_ne (hA.mv hk2).2.1 hk (by rcases ht with rfl | rfl <;> decide) rfl
      · exact block_ne hA.act hk (by rcases ht with rfl | rfl <;> decide) rfl)
  have ha := h.all
  obtain ⟨cur, hcur, _⟩ := ha
  exact ⟨hc, h.q.later (key _ _ _ _ h.q (.inl rfl)), h.all.later (key _ _ _ _ hcur (.inr rfl))⟩
/-- The step, as the law's world has it. -/
def SPost (W0 : World) (B : RB) (C : RC) (s : RS) (who : Nat) (gv mvs : Value) (f : Nat → Nat → Value) (e : Ending) (w' : World) : Prop :=
  e = .returned (.bool (nextE B.p s.es (s.pc who)).2.1.isDone) ∧ ∃ b' c', RAll W0 B (C.stepped who b' c') (s.stepped B.p who) gv mvs f w' ∧ ActAt w' (C.pb who) (cloV B.p.R b' c' (nextE B.p s.es (s.pc who)).2.1) (s.cnt who + 1) ∧
    (s.kd who = 2 → MvAt w' (C.V who) (pa (C.pb who)) ((nextE B.p s.es (s.pc who)).2.2.getD false)) ∧ (nextE B.p s.es (s.pc who)).1.ws B.p.word ≤ s.es.t + 1
theorem rstep_c {gv mvs : Value} {f : Nat → Nat → Value} (h : RAll W0 B C s gv mvs f w) (hL : LInv B n s) (hn : n ≤ 2000) {who : Nat} (hw : who < B.p.R) (hd : (s.pc who).isDone = false) :
    Calls Try.prog 29 #[pa (C.pb who)] w fun e w' => SPost W0 B C s who gv mvs f e w' := by
  have hA := h.core.acts who hw hd
  have hmv : ∀ V, VoOf C s who = some V → MvAt w V (pa (C.pb who)) false := fun V hV => by
    unfold VoOf at hV
    by_cases hk : s.kd who = 2
    · rw [if_pos hk] at hV; cases hV; exact (hA.mv hk).2.1
    · rw [if_neg hk] at hV; cases hV
  have hle := hL.le
  refine (act_step h.core.ep hA.act hA.box hA.ok hmv (by rw [hL.pin.wd]; exact hle.1) (by omega) hA.cnt hd).mono ?_
  rintro e w' ⟨rfl, b', c', h1, h2, h3, h4, h5, h6, h7⟩
  have hm : s.kd who = 2 → MvAt w' (C.V who) (pa (C.pb who)) ((nextE B.p s.es (s.pc who)).2.2.getD false) := fun hk => h5 _ (by unfold VoOf; rw [if_pos hk])
  have hF := hL.pin.facts hw hd
  have hcore := h.core.stepped hw hd h1 h2 h3 h4 (fun hd2 hk => by
    have := hm hk
    rw [((hF.adv (by rw [hL.kind who hw hd]; exact hk)).2.2.1 hd2).2] at this
    exact this) h7
  exact ⟨rfl, b', c', h.stepped hw hd hcore h7, h2, hm, h6⟩
theorem LInv.stepped (h : LInv B n s) {who : Nat} (hw : who < B.p.R) (hd : (s.pc who).isDone = false) (ht : s.es.t + 1 ≤ n + 10) (hws : (nextE B.p s.es (s.pc who)).1.ws B.p.word ≤ s.es.t + 1) : LInv B n (s.stepped B.p who) := by
  have hF := h.pin.facts hw hd
  have hP := h.pin.step hw hd
  have hk := h.kind who hw hd
  have ht2 : (nextE B.p s.es (s.pc who)).1.t = s.es.t + 1 := nextE_t _ _ _ hd
  have hkd : s.kd who < 3 := by
    have := h.kd who hw
    have h3 : kindOf (s.pc who) ≠ 3 := by
      cases hpc : s.pc who <;> simp [kindOf]
      rw [hpc] at hd; cases hd
    omega
  have hnow : s.es.now ≤ (nextE B.p s.es (s.pc who)).1.now := by
    have h3 : s.kd who = 0 ∨ s.kd who = 1 ∨ s.kd who = 2 := by omega
    rcases h3 with h3 | h3 | h3
    · rw [(hF.pin (by rw [hk]; exact h3)).1]; exact Nat.le_refl _
    · rw [(hF.unp (by rw [hk]; exact h3)).1]; exact Nat.le_refl _
    · obtain ⟨_, _, a, b⟩ := hF.adv (by rw [hk]; exact h3)
      cases hdn : (nextE B.p s.es (s.pc who)).2.1.isDone with
      | false => rw [(a hdn).1]; exact Nat.le_refl _
      | true => rw [b hdn]; omega
  refine ⟨hP, fun i hi hdi => ?_, fun i hi hpi => ?_, fun g hg => ⟨Nat.le_trans (h.gs g hg).1 hnow, (h.gs g hg).2⟩, ⟨?_, ?_, h.le.2.2⟩, h.kd, h.si⟩
  · by_cases hiw : i = who
    · subst hiw
      have e6 : (s.stepped B.p i).pc i = (nextE B.p s.es (s.pc i)).2.1 := put1_same _ _ _
      rw [e6] at hdi ⊢
      exact (hF.kind hdi).trans hk
    · have e6 : (s.stepped B.p who).pc i = s.pc i := put1_other _ _ hiw
      rw [e6] at hdi ⊢
      exact h.kind i hi hdi
  · obtain ⟨a, b, c⟩ := h.pn i hi hpi
    by_cases hiw : i = who
    · subst hiw
      have h2 : s.kd i = 2 := by
        rcases c with c | c
        · rw [hd] at c; cases c
        · exact c
      obtain ⟨q1, q2, _⟩ := hF.adv (by rw [hk]; exact h2)
      exact ⟨q1.trans a, q2.trans b, .inr h2⟩
    · obtain ⟨q1, q2⟩ := hF.other i hiw
      have e6 : (s.stepped B.p who).pc i = s.pc i := put1_other _ _ hiw
      rw [e6]
      exact ⟨q1.trans a, q2.trans b, c⟩
  · show (nextE B.p s.es (s.pc who)).1.now ≤ (nextE B.p s.es (s.pc who)).1.t
    have : (nextE B.p s.es (s.pc who)).1.ws B.p.word = (nextE B.p s.es (s.pc who)).1.now := hP.wd
    omega
  · show (nextE B.p s.es (s.pc who)).1.t ≤ n + 10
    omega
/-- A pin is over. -/
theorem LInv.ended (h : LInv B n s) {who : Nat} (hw : who < B.p.R) (hd : (s.pc who).isDone = true) (hpo : s.es.po who = true) (hpe : s.es.pe who = s.es.now) (htn : s.tn who + 1 ≤ 2 * n) : LInv B n (s.ended who) := by
  refine ⟨h.pin, h.kind, fun i hi hpi => ?_, fun g hg => ⟨(h.gs g hg).1, fun i hi => ?_⟩, ⟨h.le.1, h.le.2.1, h.le.2.2.1, fun i hi => ?_⟩, h.kd, fun i hi => ?_⟩
  · by_cases hiw : i = who
    · subst hiw
      exact ⟨hpo, hpe.trans (put1_same _ _ _).symm, .inl hd⟩
    · have e1 : (s.ended who).pn i = s.pn i := put1_other _ _ hiw
      have e2 : (s.ended who).si i = s.si i := put1_other _ _ hiw
      rw [e1] at hpi
      rw [e2]
      exact h.pn i hi hpi
  · obtain ⟨T, a, b, c⟩ := (h.gs g hg).2 i hi
    by_cases hiw : i = who
    · subst hiw
      have e3 : (s.ended i).tn i = s.tn i + 1 := put1_same _ _ _
      exact ⟨T, a, by rw [e3]; omega, fun _ he => by rw [e3] at he; omega⟩
    · have e1 : (s.ended who).pn i = s.pn i := put1_other _ _ hiw
      have e2 : (s.ended who).si i = s.si i := put1_other _ _ hiw
      have e3 : (s.ended who).tn i = s.tn i := put1_other _ _ hiw
      rw [e1, e2, e3]
      exact ⟨T, a, b, c⟩
  · obtain ⟨a, b⟩ := h.le.2.2.2 i hi
    refine ⟨?_, b⟩
    by_cases hiw : i = who
    · subst hiw
      have e3 : (s.ended i).tn i = s.tn i + 1 := put1_same _ _ _
      omega
    · have e3 : (s.ended who).tn i = s.tn i := put1_other _ _ hiw
      omega
  · by_cases hiw : i = who
    · subst hiw
      have e2 : (s.ended i).si i = s.es.now := put1_same _ _ _
      have := h.le.1
      have := h.le.2.1
      omega
    · have e2 : (s.ended who).si i = s.si i := put1_other _ _ hiw
      rw [e2]; exact h.si i hi
theorem RCore.ended (h : RCore W0 B C s w) (who : Nat) : RCore W0 B C (s.ended who) w :=
  ⟨h.ep, fun i hi hd => ⟨(h.acts i hi hd).act, (h.acts i hi hd).box, (h.acts i hi hd).ok, (h.acts i hi hd).cnt, (h.acts i hi hd).ge, (h.acts i hi hd).mv⟩, h.apart, h.gone, h.tvl, h.turns, h.bel, h.ge⟩
theorem RAll.drewN {gv mvs : Value} {f : Nat → Nat → Value} (h : RAll W0 B C s gv mvs f w) (q : Nat) : RAll W0 B C s gv mvs f (w.drewN q) :=
  ⟨h.core.laterT (fun _ _ _ _ _ _ => rfl) (below_drewN h.core.bel q), h.q.later rfl, h.all.later rfl⟩
/-- Something is taken away. -/
def turnsOf (s : RS) (R : Nat) : List Int := (List.range R).map fun i => if s.pn i then (s.tn i : Int) else -1
def RS.take (s : RS) (who R : Nat) : RS := { s with kd := put1 s.kd who 3, nx := put1 s.nx who (s.nx who + 1), gs := s.gs ++ [(s.es.now, turnsOf s R)] }
theorem LInv.take (h : LInv B n s) {who : Nat} (hw : who < B.p.R) (hd : (s.pc who).isDone = true) (hx : s.nx who < 40) : LInv B (n + 1) (s.take who B.p.R) := by
  refine ⟨h.pin, fun i hi hdi => ?_, fun i hi hpi => ?_, fun g hg => ?_, ⟨h.le.1, by have := h.le.2.1; show s.es.t ≤ _; omega, by have := h.le.2.2.1; show (s.gs ++ [_]).length ≤ _; rw [List.length_append]; simp; omega, fun i hi => ?_⟩, fun i hi => ?_, fun i hi => by have := h.si i hi; show s.si i ≤ _; omega⟩
  · have hiw : i ≠ who := fun e => by rw [e] at hdi; have : (s.pc who).isDone = false := hdi; rw [hd] at this; cases this
    show kindOf (s.pc i) = put1 s.kd who 3 i
    rw [put1_other _ _ hiw]
    exact h.kind i hi hdi
  · obtain ⟨a, b, c⟩ := h.pn i hi hpi
    refine ⟨a, b, ?_⟩
    by_cases hiw : i = who
    · subst hiw; exact .inl hd
    · show (s.pc i).isDone = true ∨ put1 s.kd who 3 i = 2
      rw [put1_other _ _ hiw]; exact c
  · rw [show (s.take who B.p.R).gs = s.gs ++ [(s.es.now, turnsOf s B.p.R)] from rfl, List.mem_append, List.mem_singleton] at hg
    rcases hg with hg | rfl
    · exact h.gs g hg
    · refine ⟨Nat.le_refl _, fun i hi => ⟨_, by unfold turnsOf; rw [List.getElem?_map, List.getElem?_range hi]; rfl, ?_, fun hp _ => ?_⟩⟩
      · show (if s.pn i then (s.tn i : Int) else -1) ≤ (s.tn i : Int)
        split <;> omega
      · obtain ⟨a, b, c⟩ := h.pn i hi hp
        obtain ⟨_, d, _⟩ := h.pin.pin i hi a
        show s.si i ≤ s.es.now
        omega
  · obtain ⟨a, b⟩ := h.le.2.2.2 i hi
    refine ⟨by show s.tn i ≤ _; omega, ?_⟩
    show put1 s.nx who (s.nx who + 1) i ≤ 40
    by_cases hiw : i = who
    · subst hiw; rw [put1_same]; omega
    · rw [put1_other _ _ hiw]; exact b
  · show put1 s.kd who 3 i < 4
    by_cases hiw : i = who
    · subst hiw; rw [put1_same]; omega
    · rw [put1_other _ _ hiw]; exact h.kd i hi
end Go.Proofs.Ytefmojohabdjcaa

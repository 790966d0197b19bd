/-
  The law's world: what a begun act leaves of the cells; what is gathered.
-/
import Derived.Test.YtefmojohabdjcaaRnD
set_option linter.unusedVariables false
set_option linter.unusedSimpArgs false
namespace Go.Proofs.Ytefmojohabdjcaa
open Go Go.RowKit

variable {W0 : World} {B : RB} {C : RC} {s : RS} {w w' : World} {n : Nat}
theorem dgF_begin (who k A b c V : Nat) (mv : Value) (hk : k < 3) (f : Nat → Nat → Value) (h0 : f who 0 = .int .i64 ((s.nx who + 1 : Nat) : Int)) (h1 : f who 1 = pa A) (h2 : f who 2 = mv) (h3 : f who 3 = .int .u8 k) (h4 : f who 4 = .bool (if dropB s who k then false else s.pn who)) (h5 : f who 5 = .int .u64 (s.si who))
    (h6 : f who 6 = .int .i64 ((if dropB s who k then s.tn who + 1 else s.tn who : Nat) : Int)) (ho : ∀ i, i ≠ who → ∀ j, f i j = dgF C s i j) : ∀ i, i < B.p.R → ∀ j, j < 7 → f i j = dgF (C.begin who A b c V mv) (s.begin who k) i j := by
  intro i hi j hj
  by_cases hiw : i = who
  · subst hiw
    obtain ⟨g0, g1, g2, g3, g4, g5, g6⟩ := dgF_cells (C.begin i A b c V mv) (s.begin i k) i
    have e1 : actV (C.begin i A b c V mv) (s.begin i k) i = pa A := by
      unfold actV
      rw [show (s.begin i k).pc i = startPC i k from put1_same _ _ _, (kindOf_start i k hk).2, if_neg (by decide)]
      exact congrArg pa (put1_same _ _ _)
    have e0 : (s.begin i k).nx i = s.nx i + 1 := put1_same _ _ _
    have e2 : (C.begin i A b c V mv).mv i = mv := put1_same _ _ _
    have e3 : (s.begin i k).kd i = k := put1_same _ _ _
    have e4 : (s.begin i k).pn i = if dropB s i k then false else s.pn i := by
      show (if dropB s i k then put1 s.pn i false else s.pn) i = _
      split
      · exact put1_same _ _ _
      · rfl
    have e6 : (s.begin i k).tn i = if dropB s i k then s.tn i + 1 else s.tn i := by
      show (if dropB s i k then put1 s.tn i (s.tn i + 1) else s.tn) i = _
      split
      · exact put1_same _ _ _
      · rfl
    have h7 : j = 0 ∨ j = 1 ∨ j = 2 ∨ j = 3 ∨ j = 4 ∨ j = 5 ∨ j = 6 := by omega
    rcases h7 with rfl | rfl | rfl | rfl | rfl | rfl | rfl
    · rw [h0, g0, e0]
    · rw [h1, g1, e1]
    · rw [h2, g2, e2]
    · rw [h3, g3, e3]
    · rw [h4, g4, e4]
    · rw [h5, g5]; rfl
    · rw [h6, g6, e6]
  · rw [ho i hiw j]
    refine dgF_same' ?_ (put1_other _ _ hiw).symm (put1_other _ _ hiw).symm (put1_other _ _ hiw).symm (put1_other _ _ hiw).symm ?_ rfl ?_
    · rw [show (s.begin who k).pc i = s.pc i from put1_other _ _ hiw]
    · show s.pn i = (if dropB s who k then put1 s.pn who false else s.pn) i
      split
      · exact (put1_other _ _ hiw).symm
      · rfl
    · show s.tn i = (if dropB s who k then put1 s.tn who (s.tn who + 1) else s.tn) i
      split
      · exact (put1_other _ _ hiw).symm
      · rfl
where
  dgF_same' {C C' : RC} {s s' : RS} {i j : Nat} (h1 : (s.pc i).isDone = (s'.pc i).isDone) (h2 : C.pb i = C'.pb i) (h3 : C.mv i = C'.mv i) (h4 : s.nx i = s'.nx i) (h5 : s.kd i = s'.kd i) (h6 : s.pn i = s'.pn i) (h7 : s.si i = s'.si i) (h8 : s.tn i = s'.tn i) : dgF C s i j = dgF C' s' i j := by
    unfold dgF actV
    rw [h1, h2, h3, h4, h5, h6, h7, h8]
theorem dgF_take (who : Nat) (hd : (s.pc who).isDone = true) (f : Nat → Nat → Value) (h0 : f who 0 = .int .i64 ((s.nx who + 1 : Nat) : Int)) (h1 : f who 1 = .pointer none) (h2 : f who 2 = C.mv who) (h3 : f who 3 = .int .u8 3) (h4 : f who 4 = .bool (s.pn who)) (h5 : f who 5 = .int .u64 (s.si who))
    (h6 : f who 6 = .int .i64 (s.tn who)) (ho : ∀ i, i ≠ who → ∀ j, f i j = dgF C s i j) (C' : RC) (hC1 : C'.pb = C.pb) (hC2 : C'.mv = C.mv) (R : Nat) : ∀ i, i < R → ∀ j, j < 7 → f i j = dgF C' (s.take who R) i j := by
  intro i hi j hj
  by_cases hiw : i = who
  · subst hiw
    obtain ⟨g0, g1, g2, g3, g4, g5, g6⟩ := dgF_cells C' (s.take i R) i
    have e1 : actV C' (s.take i R) i = .pointer none := by
      unfold actV
      rw [show (s.take i R).pc i = s.pc i from rfl, hd]; rfl
    have e0 : (s.take i R).nx i = s.nx i + 1 := put1_same _ _ _
    have e3 : (s.take i R).kd i = 3 := put1_same _ _ _
    have h7 : j = 0 ∨ j = 1 ∨ j = 2 ∨ j = 3 ∨ j = 4 ∨ j = 5 ∨ j = 6 := by omega
    rcases h7 with rfl | rfl | rfl | rfl | rfl | rfl | rfl
    · rw [h0, g0, e0]
    · rw [h1, g1, e1]
    · rw [h2, g2, hC2]
    · rw [h3, g3, e3]; rfl
    · rw [h4, g4]; rfl
    · rw [h5, g5]; rfl
    · rw [h6, g6]; rfl
  · rw [ho i hiw j]
    unfold dgF actV
    rw [hC1, hC2, show (s.take who R).nx i = s.nx i from put1_other _ _ hiw, show (s.take who R).kd i = s.kd i from put1_other _ _ hiw]
    rfl
/-- An act is begun: what stands in all. -/
theorem RAll.begin {gv mvs : Value} {f : Nat → Nat → Value} (h : RAll W0 B C s gv mvs f w) {who k A b c V : Nat} {mv : Value} (hw : who < B.p.R) (hd : (s.pc who).isDone = true) (hk : k < 3) (hb : Below w.heap.size w w') (hA : w.heap.size ≤ A) (hV : w.heap.size ≤ V)
    (ha : ActAt w' A (cloV B.p.R b c (startPC who k)) 0) (hbx : BoxOK B.p w' (if k = 2 then some V else none) b c (startPC who k)) (hm : k = 2 → mv = pV V ∧ MvAt w' V (pa A) false) : RAll W0 B (C.begin who A b c V mv) (s.begin who k) gv mvs f w' :=
  ⟨h.core.begin hw hd hk hb hA hV ha hbx hm, h.q.below hb h.q.lt, h.all.below hb⟩
/-- What was taken away is noted. -/
theorem RCore.take {who : Nat} {gv' : Value} {tv : Value} (h : RCore W0 B C s w) (hd : (s.pc who).isDone = true) (hs : ∀ (k : Nat) (c : Array Value) (t : TypeId) (fz : Nat × Nat), w.heap[k]? = some (Obj.cells c t fz) → CoreT t → t ≠ 82 → w'.heap[k]? = w.heap[k]?) (hb : Below W0.heap.size W0 w')
    (hown : w'.ownsRow W0.heap.size 82 2 gv' (s.gs.length + 1) (awayC s.gs C.tv ++ [.int .u64 s.es.now, tv])) (ht : w'.ownsRow W0.heap.size 3 1 tv B.p.R (intsV (turnsOf s B.p.R))) : RCore W0 B { C with gv := gv', tv := C.tv ++ [tv] } (s.take who B.p.R) w' := by
  have hz : awayC (s.gs ++ [(s.es.now, turnsOf s B.p.R)]) (C.tv ++ [tv]) = awayC s.gs C.tv ++ [.int .u64 s.es.now, tv] := by
    unfold awayC
    rw [List.zip_append h.tvl.symm, List.flatMap_append]
    rfl
  have keep : ∀ (k : Nat) (c : Array Value) (t : TypeId) (fz : Nat × Nat), w.heap[k]? = some (Obj.cells c t fz) → CoreT t → t ≠ 82 → w'.heap[k]? = w.heap[k]? := hs
  refine ⟨?_, fun i hi hdi => ?_, fun i j hi hj hne hdi hdj => ?_, ?_, ?_, fun k g v hg hv => ?_, hb, h.ge⟩
  · obtain ⟨cur, hp, _⟩ := h.ep.pin
    obtain ⟨c2, hm, _⟩ := h.ep.m
    refine h.ep.later fun k hk => ?_
    rcases hk with rfl | rfl | rfl
    · exact hs _ _ _ _ h.ep.q (by unfold CoreT; simp) (by decide)
    · exact hs _ _ _ _ hm (by unfold CoreT; simp) (by decide)
    · exact hs _ _ _ _ hp (by unfold CoreT; simp) (by decide)
  · have hdi' : (s.pc i).isDone = false := hdi
    have hiw : i ≠ who := fun e => by rw [e, hd] at hdi'; cases hdi'
    have ho := h.acts i hi hdi'
    have e3 : (s.take who B.p.R).kd i = s.kd i := put1_other _ _ hiw
    refine ⟨ho.act.later (hs _ _ _ _ ho.act (by unfold CoreT; simp) (by decide)), ?_, ho.ok, ho.cnt, ho.ge, fun hk => ?_⟩
    · have hbx : BoxOK B.p w (VoOf C s i) (C.b i) (C.c i) (s.pc i) := ho.box
      have : BoxOK B.p w' (VoOf C s i) (C.b i) (C.c i) (s.pc i) := hbx.later fun k hk => by
        obtain ⟨v, t, hc, ht⟩ := hbx.cells hk
        exact hs _ _ _ _ hc (by unfold CoreT; rcases ht with rfl | rfl | rfl | rfl <;> simp) (by rcases ht with rfl | rfl | rfl | rfl <;> decide)
      unfold VoOf at this ⊢
      rw [e3]
      exact this
    · rw [e3] at hk
      obtain ⟨a, b, c⟩ := ho.mv hk
      exact ⟨a, (hs _ _ _ _ b (by unfold CoreT; simp) (by decide)).trans b, c⟩
  · have hdi' : (s.pc i).isDone = false := hdi
    have hdj' : (s.pc j).isDone = false := hdj
    have hiw : i ≠ who := fun e => by rw [e, hd] at hdi'; cases hdi'
    have hjw : j ≠ who := fun e => by rw [e, hd] at hdj'; cases hdj'
    rw [show (s.take who B.p.R).kd i = s.kd i from put1_other _ _ hiw, show (s.take who B.p.R).kd j = s.kd j from put1_other _ _ hjw]
    exact h.apart i j hi hj hne hdi' hdj'
  · rw [show (s.take who B.p.R).gs = s.gs ++ [(s.es.now, turnsOf s B.p.R)] from rfl, List.length_append, hz]
    exact hown
  · show (C.tv ++ [tv]).length = (s.gs ++ [_]).length
    rw [List.length_append, List.length_append, h.tvl]; rfl
  · have hg' : (s.gs ++ [(s.es.now, turnsOf s B.p.R)])[k]? = some g := hg
    have hv' : (C.tv ++ [tv])[k]? = some v := hv
    by_cases hk : k < s.gs.length
    · rw [List.getElem?_append_left hk] at hg'
      rw [List.getElem?_append_left (by rw [h.tvl]; exact hk)] at hv'
      exact own_same (h.turns k g v hg' hv') fun q hq => by
        obtain ⟨c, hc⟩ := own_cells (h.turns k g v hg' hv') hq
        exact hs _ _ _ _ hc (by unfold CoreT; simp) (by decide)
    · rw [List.getElem?_append_right (by omega)] at hg'
      rw [List.getElem?_append_right (by rw [h.tvl]; omega), h.tvl] at hv'
      have hk0 : k - s.gs.length = 0 := by
        have := (List.getElem?_eq_some_iff.1 hg').1
        simp at this; omega
      rw [hk0] at hg' hv'
      simp at hg' hv'
      subst hg' hv'
      exact ht
end Go.Proofs.Ytefmojohabdjcaa

/-
  The law's world: what keeps it, how an act begins, how it goes on.
-/
import Derived.Test.YtefmojohabdjcaaRnR
set_option linter.unusedVariables false
set_option linter.unusedSimpArgs false
namespace Go.Proofs.Ytefmojohabdjcaa
open Go Go.RowKit

structure RCore (W0 : World) (B : RB) (C : RC) (s : RS) (w : World) : Prop where
  ep : EpAt B.p s.es w
  acts : ∀ i, i < B.p.R → (s.pc i).isDone = false → ActI W0 B C s w i
  apart : ∀ i j, i < B.p.R → j < B.p.R → i ≠ j → (s.pc i).isDone = false → (s.pc j).isDone = false → C.pb i ≠ C.pb j ∧ (s.kd i = 2 → s.kd j = 2 → C.V i ≠ C.V j)
  gone : w.ownsRow W0.heap.size 82 2 C.gv s.gs.length (awayC s.gs C.tv)
  tvl : C.tv.length = s.gs.length
  turns : ∀ (k : Nat) (g : Nat × List Int) (v : Value), s.gs[k]? = some g → C.tv[k]? = some v → w.ownsRow W0.heap.size 3 1 v B.p.R (intsV g.2)
  bel : Below W0.heap.size W0 w
  ge : (∀ k, fE B.p k → W0.heap.size ≤ k) ∧ W0.heap.size ≤ B.Wb ∧ W0.heap.size ≤ B.Ab
variable {W0 : World} {B : RB} {C : RC} {s : RS} {w w' : World} {n : Nat}
theorem RInv.core (h : RInv W0 B C s w) : RCore W0 B C s w := ⟨h.ep, h.acts, h.apart, h.gone, h.tvl, h.turns, h.bel, h.ge⟩
theorem RCore.inv (h : RCore W0 B C s w) (hq : Quad w B.Wb 34 (pE B.p) (.slice (some ⟨B.Ab, 0, none⟩) B.p.R B.p.R) C.gv (.int .u64 s.es.now)) (ha : Rows7 w B.Ab B.p.R (dgF C s)) : RInv W0 B C s w :=
  ⟨h.ep, hq, ha, h.acts, h.apart, h.gone, h.tvl, h.turns, h.bel, h.ge⟩
/-- The blocks that it speaks of, by their types. -/
def CoreT (t : TypeId) : Prop := t = 92 ∨ t = 109 ∨ t = 95 ∨ t = 80 ∨ t = 106 ∨ t = 28 ∨ t = 3 ∨ t = 32 ∨ t = 73 ∨ t = 82
theorem ActI.later {i : Nat} (h : ActI W0 B C s w i) (hs : ∀ (k : Nat) (c : Array Value) (t : TypeId) (fz : Nat × Nat), w.heap[k]? = some (Obj.cells c t fz) → CoreT t → w'.heap[k]? = w.heap[k]?) : ActI W0 B C s w' i :=
  { h with
    act := h.act.later (hs _ _ _ _ h.act (by unfold CoreT; simp))
    box := h.box.later fun k hk => by
      obtain ⟨v, t, hc, ht⟩ := h.box.cells hk
      exact hs _ _ _ _ hc (by unfold CoreT; rcases ht with rfl | rfl | rfl | rfl <;> simp)
    mv := fun hk => by
      obtain ⟨a, b, c⟩ := h.mv hk
      exact ⟨a, (hs _ _ _ _ b (by unfold CoreT; simp)).trans b, c⟩ }
theorem EpAt.laterT {p : EP} {es : ES} (h : EpAt p es w) (hs : ∀ (k : Nat) (c : Array Value) (t : TypeId) (fz : Nat × Nat), w.heap[k]? = some (Obj.cells c t fz) → CoreT t → w'.heap[k]? = w.heap[k]?) : EpAt p es w' := by
  obtain ⟨cur, hp, _⟩ := h.pin
  obtain ⟨c2, hm, _⟩ := h.m
  refine h.later fun k hk => ?_
  rcases hk with rfl | rfl | rfl
  · exact hs _ _ _ _ h.q (by unfold CoreT; simp)
  · exact hs _ _ _ _ hm (by unfold CoreT; simp)
  · exact hs _ _ _ _ hp (by unfold CoreT; simp)
theorem RCore.laterT (h : RCore W0 B C s w) (hs : ∀ (k : Nat) (c : Array Value) (t : TypeId) (fz : Nat × Nat), w.heap[k]? = some (Obj.cells c t fz) → CoreT t → w'.heap[k]? = w.heap[k]?) (hb : Below W0.heap.size W0 w') : RCore W0 B C s w' :=
  { h with
    ep := h.ep.laterT hs
    acts := fun i hi hd => (h.acts i hi hd).later hs
    gone := own_same h.gone fun k hk => by
      obtain ⟨c, hc⟩ := own_cells h.gone hk
      exact hs _ _ _ _ hc (by unfold CoreT; simp)
    turns := fun k g v hg hv => own_same (h.turns k g v hg hv) fun k hk => by
      obtain ⟨c, hc⟩ := own_cells (h.turns _ g v hg hv) hk
      exact hs _ _ _ _ hc (by unfold CoreT; simp)
    bel := hb }
theorem RCore.below (h : RCore W0 B C s w) (hb : Below w.heap.size w w') : RCore W0 B C s w' :=
  h.laterT (fun k c t fz hc _ => hb.block k (Array.getElem?_eq_some_iff.1 hc).1) (h.bel.trans (hb.mono h.bel.size))
theorem coreT_ne {t : TypeId} (h : CoreT t) : t ≠ 75 ∧ t ≠ 34 := by
  rcases h with rfl | rfl | rfl | rfl | rfl | rfl | rfl | rfl | rfl | rfl <;> exact ⟨by decide, by decide⟩
theorem RCore.setA (h : RCore W0 B C s w) {R : Nat} {f : Nat → Nat → Value} (ha : Rows7 w B.Ab R f) (o : Nat) (v : Value) : RCore W0 B C s (w.setCell ⟨B.Ab, o, none⟩ v) := by
  obtain ⟨cur, hc, _⟩ := ha
  exact h.laterT (fun k c t fz hk ht => Below.heap_setCell w ⟨B.Ab, o, none⟩ v k fun e => by
    have e2 : k = B.Ab := e
    rw [e2] at hk
    exact block_ne hk hc (coreT_ne ht).1 rfl) (h.bel.setCell (p := ⟨B.Ab, o, none⟩) h.ge.2.2 v)
theorem RCore.setW (h : RCore W0 B C s w) {a b c d : Value} (hq : Quad w B.Wb 34 a b c d) (o : Nat) (v : Value) : RCore W0 B C s (w.setCell ⟨B.Wb, o, none⟩ v) :=
  h.laterT (fun k c t fz hk ht => Below.heap_setCell w ⟨B.Wb, o, none⟩ v k fun e => by
    have e2 : k = B.Wb := e
    rw [e2] at hk
    exact block_ne hk hq (coreT_ne ht).2 rfl) (h.bel.setCell (p := ⟨B.Wb, o, none⟩) h.ge.2.1 v)
theorem Quad.setA {a b c d : Value} {R A Wb : Nat} {f : Nat → Nat → Value} (hq : Quad w Wb 34 a b c d) (ha : Rows7 w A R f) (o : Nat) (v : Value) : Quad (w.setCell ⟨A, o, none⟩ v) Wb 34 a b c d := by
  obtain ⟨cur, hc, _⟩ := ha
  exact hq.later (Below.heap_setCell w ⟨A, o, none⟩ v Wb fun e => block_ne hq hc (by decide) e)
theorem Rows7.setW {a b c d : Value} {R A Wb : Nat} {f : Nat → Nat → Value} (ha : Rows7 w A R f) (hq : Quad w Wb 34 a b c d) (o : Nat) (v : Value) : Rows7 (w.setCell ⟨Wb, o, none⟩ v) A R f := by
  have ha2 := ha
  obtain ⟨cur, hc, _⟩ := ha2
  exact ha.later (Below.heap_setCell w ⟨Wb, o, none⟩ v A fun e => block_ne hc hq (by decide) e)
theorem Rows7.below {R A : Nat} {f : Nat → Nat → Value} (ha : Rows7 w A R f) (hb : Below w.heap.size w w') : Rows7 w' A R f := ha.later (hb.block A ha.lt)
/-- All three together. -/
structure RAll (W0 : World) (B : RB) (C : RC) (s : RS) (gv mvs : Value) (f : Nat → Nat → Value) (w : World) : Prop where
  core : RCore W0 B C s w
  q : Quad w B.Wb 34 (pE B.p) (.slice (some ⟨B.Ab, 0, none⟩) B.p.R B.p.R) gv mvs
  all : Rows7 w B.Ab B.p.R f
variable {gv mvs : Value} {f : Nat → Nat → Value}
theorem RAll.setA (h : RAll W0 B C s gv mvs f w) {i j : Nat} (hi : i < B.p.R) (hj : j < 7) (v : Value) : RAll W0 B C s gv mvs (upd7 f i j v) (w.setCell ⟨B.Ab, i * 7 + j, none⟩ v) :=
  ⟨h.core.setA h.all _ _, h.q.setA h.all _ _, h.all.set hi hj v⟩
theorem RAll.setA0 (h : RAll W0 B C s gv mvs f w) {i : Nat} (hi : i < B.p.R) (v : Value) : RAll W0 B C s gv mvs (upd7 f i 0 v) (w.setCell ⟨B.Ab, i * 7, none⟩ v) := h.setA hi (j := 0) (by omega) v
theorem RAll.below (h : RAll W0 B C s gv mvs f w) (hb : Below w.heap.size w w') : RAll W0 B C s gv mvs f w' := ⟨h.core.below hb, h.q.below hb h.q.lt, h.all.below hb⟩
theorem RAll.setM (h : RAll W0 B C s gv mvs f w) (v : Value) : RAll W0 B C s gv v f (w.setCell ⟨B.Wb, 3, none⟩ v) := by
  refine ⟨h.core.setW h.q _ _, ?_, h.all.setW h.q _ _⟩
  obtain ⟨hlt, hk⟩ := Array.getElem?_eq_some_iff.1 h.q
  show (w.heap.modify B.Wb _)[B.Wb]? = _
  rw [Array.getElem?_eq_getElem (by rw [Array.size_modify]; exact hlt), Array.getElem_modify_self, hk]
  rfl
theorem RAll.setG (h : RAll W0 B C s gv mvs f w) (v : Value) : RAll W0 B C s v mvs f (w.setCell ⟨B.Wb, 2, none⟩ v) := by
  refine ⟨h.core.setW h.q _ _, ?_, h.all.setW h.q _ _⟩
  obtain ⟨hlt, hk⟩ := Array.getElem?_eq_some_iff.1 h.q
  show (w.heap.modify B.Wb _)[B.Wb]? = _
  rw [Array.getElem?_eq_getElem (by rw [Array.size_modify]; exact hlt), Array.getElem_modify_self, hk]
  rfl
theorem RInv.toAll (h : RInv W0 B C s w) : RAll W0 B C s C.gv (.int .u64 s.es.now) (dgF C s) w := ⟨h.core, h.wq, h.all⟩
theorem RAll.inv {C' : RC} {s' : RS} (h : RAll W0 B C s C'.gv (.int .u64 s'.es.now) f w) (hc : RCore W0 B C' s' w) (he : ∀ i, i < B.p.R → ∀ j, j < 7 → f i j = dgF C' s' i j) : RInv W0 B C' s' w := hc.inv h.q (h.all.congr he)

/-- What an act begins with. -/
def startPC (who k : Nat) : PC := if k = 0 then .pin0 who else if k = 1 then .unp who else .adv0
def dropB (s : RS) (who k : Nat) : Bool := (k == 0 && s.pn who) || k == 1
def RS.begin (s : RS) (who k : Nat) : RS :=
  { s with pc := put1 s.pc who (startPC who k), cnt := put1 s.cnt who 0, kd := put1 s.kd who k, nx := put1 s.nx who (s.nx who + 1),
           pn := if dropB s who k then put1 s.pn who false else s.pn, tn := if dropB s who k then put1 s.tn who (s.tn who + 1) else s.tn }
theorem kindOf_start (who k : Nat) (hk : k < 3) : kindOf (startPC who k) = k ∧ (startPC who k).isDone = false := by
  unfold startPC
  by_cases h0 : k = 0
  · rw [if_pos h0]; exact ⟨h0.symm, rfl⟩
  · rw [if_neg h0]
    by_cases h1 : k = 1
    · rw [if_pos h1]; exact ⟨h1.symm, rfl⟩
    · rw [if_neg h1]; exact ⟨by show 2 = k; omega, rfl⟩
theorem LInv.mono (h : LInv B n s) {m : Nat} (hm : n ≤ m) : LInv B m s :=
  { h with
    le := ⟨h.le.1, by have := h.le.2.1; omega, by have := h.le.2.2.1; omega, fun i hi => by have := h.le.2.2.2 i hi; omega⟩
    si := fun i hi => by have := h.si i hi; omega }
theorem LInv.begin (h : LInv B n s) {who k : Nat} (hw : who < B.p.R) (hd : (s.pc who).isDone = true) (hk : k < 3) (hx : s.nx who < 40) : LInv B (n + 1) (s.begin who k) ∧ (s.begin who k).tn who ≤ 2 * n + 1 := by
  obtain ⟨hk1, hk2⟩ := kindOf_start who k hk
  have hpn : ∀ i, (s.begin who k).pn i = true → s.pn i = true ∧ (i = who → dropB s who k = false) := by
    intro i hi
    unfold RS.begin at hi
    dsimp only at hi
    cases hdr : dropB s who k with
    | false => rw [hdr] at hi; exact ⟨hi, fun _ => rfl⟩
    | true =>
      rw [hdr, if_pos rfl] at hi
      by_cases hiw : i = who
      · subst hiw; rw [put1_same] at hi; cases hi
      · rw [put1_other _ _ hiw] at hi; exact ⟨hi, fun e => absurd e hiw⟩
  have htn : ∀ i, s.tn i ≤ (s.begin who k).tn i ∧ (s.begin who k).tn i ≤ s.tn i + 1 ∧ ((i = who → dropB s who k = false) → (s.begin who k).tn i = s.tn i) := by
    intro i
    unfold RS.begin
    dsimp only
    cases hdr : dropB s who k with
    | false => exact ⟨Nat.le_refl _, Nat.le_succ _, fun _ => rfl⟩
    | true =>
      rw [if_pos rfl]
      by_cases hiw : i = who
      · subst hiw; rw [put1_same]; exact ⟨Nat.le_succ _, Nat.le_refl _, fun h => by cases h rfl⟩
      · rw [put1_other _ _ hiw]; exact ⟨Nat.le_refl _, Nat.le_succ _, fun _ => rfl⟩
  refine ⟨?_, ?_⟩
  · refine ⟨?_, fun i hi hdi => ?_, fun i hi hpi => ?_, fun g hg => ?_, ?_, fun i hi => ?_, fun i hi => by have := h.si i hi; show s.si i ≤ _; omega⟩
    · refine ⟨h.pin.wd, h.pin.pin, fun i hi => ?_⟩
      show PcI B.p s.es i (put1 s.pc who (startPC who k) i)
      by_cases hiw : i = who
      · subst hiw
        rw [put1_same]
        unfold startPC
        by_cases h0 : k = 0
        · rw [if_pos h0]; rfl
        · rw [if_neg h0]
          by_cases h1 : k = 1
          · rw [if_pos h1]; rfl
          · rw [if_neg h1]; trivial
      · rw [put1_other _ _ hiw]; exact h.pin.pcs i hi
    · show kindOf (put1 s.pc who (startPC who k) i) = put1 s.kd who k i
      by_cases hiw : i = who
      · subst hiw; rw [put1_same, put1_same]; exact hk1
      · rw [put1_other _ _ hiw, put1_other _ _ hiw]
        refine h.kind i hi ?_
        have : (s.begin who k).pc i = s.pc i := put1_other _ _ hiw
        rw [this] at hdi; exact hdi
    · obtain ⟨h1, h2⟩ := hpn i hpi
      obtain ⟨a, b, c⟩ := h.pn i hi h1
      refine ⟨a, b, ?_⟩
      by_cases hiw : i = who
      · right
        subst hiw
        show put1 s.kd i k i = 2
        rw [put1_same]
        have h3 := h2 rfl
        unfold dropB at h3
        rw [h1] at h3
        by_cases h0 : k = 0
        · subst h0; simp at h3
        · by_cases h4 : k = 1
          · subst h4; simp at h3
          · omega
      · show (put1 s.pc who (startPC who k) i).isDone = true ∨ put1 s.kd who k i = 2
        rw [put1_other _ _ hiw, put1_other _ _ hiw]; exact c
    · obtain ⟨h1, h2⟩ := h.gs g hg
      refine ⟨h1, fun i hi => ?_⟩
      obtain ⟨T, a, b, c⟩ := h2 i hi
      obtain ⟨t1, t2, t3⟩ := htn i
      refine ⟨T, a, by omega, fun hp he => ?_⟩
      obtain ⟨p1, p2⟩ := hpn i hp
      rw [t3 p2] at he
      exact c p1 he
    · refine ⟨h.le.1, by have := h.le.2.1; show s.es.t ≤ _; omega, by have := h.le.2.2.1; show s.gs.length ≤ _; omega, fun i hi => ?_⟩
      obtain ⟨t1, t2, t3⟩ := htn i
      obtain ⟨u1, u2⟩ := h.le.2.2.2 i hi
      refine ⟨by omega, ?_⟩
      show put1 s.nx who (s.nx who + 1) i ≤ 40
      by_cases hiw : i = who
      · subst hiw; rw [put1_same]; omega
      · rw [put1_other _ _ hiw]; exact u2
    · show put1 s.kd who k i < 4
      by_cases hiw : i = who
      · subst hiw; rw [put1_same]; omega
      · rw [put1_other _ _ hiw]; exact h.kd i hi
  · obtain ⟨t1, t2, t3⟩ := htn who
    have := (h.le.2.2.2 who hw).1
    omega
/-- Where the new act lies. -/
def RC.begin (C : RC) (who A b c V : Nat) (mv : Value) : RC := { C with pb := put1 C.pb who A, b := put1 C.b who b, c := put1 C.c who c, V := put1 C.V who V, mv := put1 C.mv who mv }
theorem RCore.begin (h : RCore W0 B C s w) {who k A b c V : Nat} {mv : Value} (hw : who < B.p.R) (hd : (s.pc who).isDone = true) (hk : k < 3) (hb : Below w.heap.size w w') (hA : w.heap.size ≤ A) (hV : w.heap.size ≤ V)
    (ha : ActAt w' A (cloV B.p.R b c (startPC who k)) 0) (hbx : BoxOK B.p w' (if k = 2 then some V else none) b c (startPC who k)) (hm : k = 2 → mv = pV V ∧ MvAt w' V (pa A) false) : RCore W0 B (C.begin who A b c V mv) (s.begin who k) w' := by
  have h2 := h.below hb
  have hs := h.bel.size
  obtain ⟨hk1, hk2⟩ := kindOf_start who k hk
  refine { h2 with acts := fun i hi hdi => ?_, apart := fun i j hi hj hne hdi hdj => ?_ }
  · by_cases hiw : i = who
    · subst hiw
      have e1 : (C.begin i A b c V mv).pb i = A := put1_same _ _ _
      have e2 : (C.begin i A b c V mv).b i = b := put1_same _ _ _
      have e3 : (C.begin i A b c V mv).c i = c := put1_same _ _ _
      have e4 : (C.begin i A b c V mv).V i = V := put1_same _ _ _
      have e5 : (C.begin i A b c V mv).mv i = mv := put1_same _ _ _
      have e6 : (s.begin i k).pc i = startPC i k := put1_same _ _ _
      have e7 : (s.begin i k).kd i = k := put1_same _ _ _
      have e8 : (s.begin i k).cnt i = 0 := put1_same _ _ _
      refine ⟨by rw [e1, e2, e3, e6, e8]; exact ha, by unfold VoOf; rw [e2, e3, e4, e6, e7]; exact hbx, ?_, by rw [e8]; exact Nat.zero_le _, by rw [e1]; omega, fun hk2 => ?_⟩
      · rw [e6]
        unfold startPC
        by_cases h0 : k = 0
        · rw [if_pos h0]; exact hw
        · rw [if_neg h0]
          by_cases h1 : k = 1
          · rw [if_pos h1]; exact hw
          · rw [if_neg h1]; trivial
      · rw [e7] at hk2
        obtain ⟨m1, m2⟩ := hm hk2
        rw [e5, e4, e1]
        exact ⟨m1, m2, by omega⟩
    · have e6 : (s.begin who k).pc i = s.pc i := put1_other _ _ hiw
      rw [e6] at hdi
      have ho := h2.acts i hi hdi
      have e1 : (C.begin who A b c V mv).pb i = C.pb i := put1_other _ _ hiw
      have e2 : (C.begin who A b c V mv).b i = C.b i := put1_other _ _ hiw
      have e3 : (C.begin who A b c V mv).c i = C.c i := put1_other _ _ hiw
      have e4 : (C.begin who A b c V mv).V i = C.V i := put1_other _ _ hiw
      have e5 : (C.begin who A b c V mv).mv i = C.mv i := put1_other _ _ hiw
      have e7 : (s.begin who k).kd i = s.kd i := put1_other _ _ hiw
      have e8 : (s.begin who k).cnt i = s.cnt i := put1_other _ _ hiw
      refine ⟨by rw [e1, e2, e3, e6, e8]; exact ho.act, by unfold VoOf; rw [e2, e3, e4, e6, e7]; exact ho.box, by rw [e6]; exact ho.ok, by rw [e8]; exact ho.cnt, by rw [e1]; exact ho.ge, fun hk2 => ?_⟩
      rw [e7] at hk2
      rw [e5, e4, e1]
      exact ho.mv hk2
  · have lt : ∀ i, i < B.p.R → (s.pc i).isDone = false → C.pb i < w.heap.size ∧ (s.kd i = 2 → C.V i < w.heap.size) := fun i hi hd => ⟨(h.acts i hi hd).act.lt, fun hk => ((h.acts i hi hd).mv hk).2.1.lt⟩
    have oth : ∀ i, i ≠ who → (s.begin who k).pc i = s.pc i ∧ (C.begin who A b c V mv).pb i = C.pb i ∧ (s.begin who k).kd i = s.kd i ∧ (C.begin who A b c V mv).V i = C.V i := fun i hi => ⟨put1_other _ _ hi, put1_other _ _ hi, put1_other _ _ hi, put1_other _ _ hi⟩
    have e1 : (C.begin who A b c V mv).pb who = A := put1_same _ _ _
    have e4 : (C.begin who A b c V mv).V who = V := put1_same _ _ _
    by_cases hiw : i = who
    · have hjw : j ≠ who := fun e => hne (by rw [hiw, e])
      obtain ⟨o1, o2, o3, o4⟩ := oth j hjw
      rw [o1] at hdj
      obtain ⟨l1, l2⟩ := lt j hj hdj
      subst hiw
      rw [o2, o3, o4, e1, e4]
      exact ⟨by omega, fun _ hk => by have := l2 hk; omega⟩
    · obtain ⟨o1, o2, o3, o4⟩ := oth i hiw
      rw [o1] at hdi
      by_cases hjw : j = who
      · obtain ⟨l1, l2⟩ := lt i hi hdi
        subst hjw
        rw [o2, o3, o4, e1, e4]
        exact ⟨by omega, fun hk _ => by have := l2 hk; omega⟩
      · obtain ⟨q1, q2, q3, q4⟩ := oth j hjw
        rw [q1] at hdj
        rw [o2, o3, o4, q2, q3, q4]
        exact h.apart i j hi hj hne hdi hdj
end Go.Proofs.Ytefmojohabdjcaa

/-
  The acts of an epoch are a machine.
-/
import Derived.Test.YtefmojohabdjcaaEpM2
set_option linter.unusedVariables false
set_option linter.unusedSimpArgs false
namespace Go.Proofs.Ytefmojohabdjcaa
open Go Go.RowKit

/-- How many acts, their blocks; the Moving, if one is at hand. -/
structure EQ where
  p : EP
  N : Nat
  pb : Nat → Nat
  Vo : Option Nat
  va : Value
structure ET where
  es : ES
  pc : Nat → PC
  cnt : Nat → Nat
  mv : Bool
structure EM (q : EQ) (s : ET) (F : Nat → Prop) (W : World) (b c : Nat → Nat) : Prop where
  foot : ∀ k, F k ↔ (fE q.p k ∨ q.Vo = some k ∨ (∃ i, i < q.N ∧ k = q.pb i) ∨ (∃ i, i < q.N ∧ boxN (b i) (c i) k (s.pc i)))
  ep : EpAt q.p s.es W
  act : ∀ i, i < q.N → ActAt W (q.pb i) (cloV q.p.R (b i) (c i) (s.pc i)) (s.cnt i)
  box : ∀ i, i < q.N → BoxOK q.p W q.Vo (b i) (c i) (s.pc i)
  ok : ∀ i, i < q.N → okPC q.p s.es.t (s.pc i)
  mvat : ∀ V, q.Vo = some V → MvAt W V q.va s.mv
  wd : s.es.ws q.p.word ≤ s.es.t
  ct : ∀ i, i < q.N → s.cnt i ≤ s.es.t
def ET.nx (q : EQ) (s : ET) (i : Nat) : ET :=
  ⟨(nextE q.p s.es (s.pc i)).1, put1 s.pc i (nextE q.p s.es (s.pc i)).2.1, put1 s.cnt i (s.cnt i + 1), (nextE q.p s.es (s.pc i)).2.2.getD s.mv⟩
def epMach (q : EQ) : Mach ET where
  N := q.N
  p := fun i => pa (q.pb i)
  M := fun s F W => ∃ b c, EM q s F W b c
  over := fun s i => (s.pc i).isDone
  nx := ET.nx q
  cost := fun s => s.es.t

variable {q : EQ} {s : ET} {F : Nat → Prop} {A B W : World} {b c : Nat → Nat}
theorem okPC.mono {p : EP} {t t' : Nat} (h : t ≤ t') {pc : PC} (hk : okPC p t pc) : okPC p t' pc := by
  cases pc with
  | done => trivial
  | pin0 who => exact hk
  | pin1 who ep => exact ⟨hk.1, Nat.le_trans hk.2 h⟩
  | pin2 who ep => exact ⟨hk.1, Nat.le_trans hk.2 h⟩
  | pinN who ep => exact ⟨hk.1, Nat.le_trans hk.2 h⟩
  | unp who => exact hk
  | adv0 => trivial
  | adv who ep => exact ⟨hk.1, Nat.le_trans hk.2 h⟩
theorem EM.stab (h : EM q s F A b c) (hs : ∀ k, F k → B.heap[k]? = A.heap[k]?) : EM q s F B b c :=
  { h with
    ep := h.ep.later fun k hk => hs k ((h.foot k).2 (.inl hk))
    act := fun i hi => (h.act i hi).later (hs _ ((h.foot _).2 (.inr (.inr (.inl ⟨i, hi, rfl⟩)))))
    box := fun i hi => (h.box i hi).later fun k hk => hs k ((h.foot k).2 (.inr (.inr (.inr ⟨i, hi, hk⟩))))
    mvat := fun V hV => (hs V ((h.foot V).2 (.inr (.inl hV)))).trans (h.mvat V hV) }
theorem EM.inn (h : EM q s F A b c) {k : Nat} (hk : F k) : ∃ c e fz, A.heap[k]? = some (.cells c e fz) := by
  rcases (h.foot k).1 hk with hE | hV | ⟨i, hi, rfl⟩ | ⟨i, hi, hb⟩
  · obtain ⟨cur, hp, _⟩ := h.ep.pin
    obtain ⟨c2, hm, _⟩ := h.ep.m
    rcases hE with rfl | rfl | rfl
    · exact ⟨_, _, _, h.ep.q⟩
    · exact ⟨_, _, _, hm⟩
    · exact ⟨_, _, _, hp⟩
  · exact ⟨_, _, _, h.mvat k hV⟩
  · exact ⟨_, _, _, h.act i hi⟩
  · obtain ⟨v, t, hc, _⟩ := (h.box i hi).cells hb
    exact ⟨_, _, _, hc⟩
theorem clo_fv (R b c : Nat) (pc : PC) (h : pc.isDone = false) : ∃ g lb, cloV R b c pc = fv g lb := by
  rcases stepV_clo R b c pc with h1 | h1
  · have h2 := isNil_clo R b c pc
    rw [h1, h] at h2
    cases h2
  · exact h1
theorem EM.over (h : EM q s F A b c) {i : Nat} (hi : i < q.N) : Calls Try.prog 24 #[pa (q.pb i)] A fun e w' => e = .returned (.bool (s.pc i).isDone) ∧ w' = A := by
  cases hd : (s.pc i).isDone with
  | false =>
    obtain ⟨g, lb, hg⟩ := clo_fv q.p.R (b i) (c i) (s.pc i) hd
    have ha := h.act i hi
    rw [hg] at ha
    exact over_some _ _ _ _ _ ha
  | true =>
    have ha := h.act i hi
    have hp : s.pc i = .done := by
      cases hpc : s.pc i with
      | done => rfl
      | _ => rw [hpc] at hd; cases hd
    rw [hp] at ha
    exact over_none _ _ _ ha
theorem fO.no {p : EP} {es : ES} {Vo : Option Nat} {a : Value} {mv : Bool} (h : EpAt p es W) (hV : ∀ V, Vo = some V → MvAt W V a mv) {k : Nat} {t : TypeId} {cc : Array Value} {fz : Nat × Nat} (hc : W.heap[k]? = some (.cells cc t fz)) (h1 : (92 : Nat) ≠ t) (h2 : (109 : Nat) ≠ t) (h3 : (95 : Nat) ≠ t) (h4 : (80 : Nat) ≠ t) : ¬ fO p Vo k := by
  rintro (hE | hV')
  · exact h.notE hc h1 h2 h3 hE
  · exact block_ne (hV k hV') hc h4 rfl
theorem box_no {p : EP} {Vo : Option Nat} {b c k : Nat} {pc : PC} {a : Value} {mv : Bool} {es : ES} (h : EpAt p es W) (hV : ∀ V, Vo = some V → MvAt W V a mv) (hb : BoxOK p W Vo b c pc) (hk : boxN b c k pc) : ¬ fO p Vo k := by
  obtain ⟨v, t, hc, ht⟩ := hb.cells hk
  rcases ht with rfl | rfl | rfl | rfl <;> exact fO.no h hV hc (by decide) (by decide) (by decide) (by decide)
theorem box_act {p : EP} {Vo : Option Nat} {b c k n B : Nat} {pc : PC} {v : Value} (ha : ActAt W B v n) (hb : BoxOK p W Vo b c pc) (hk : boxN b c k pc) : k ≠ B := by
  obtain ⟨v, t, hc, ht⟩ := hb.cells hk
  rcases ht with rfl | rfl | rfl | rfl <;> exact block_ne hc ha (by decide)

theorem EM.step (hinj : ∀ i j, i < q.N → j < q.N → i ≠ j → q.pb i ≠ q.pb j) (h : EM q s F W b c) {i : Nat} (hi : i < q.N) (hd : (s.pc i).isDone = false) (hc : s.es.t < 1000000) :
    Calls Try.prog 29 #[pa (q.pb i)] W fun e W' => e = .returned (.bool (nextE q.p s.es (s.pc i)).2.1.isDone) ∧ ∃ F', (∃ b' c', EM q (s.nx q i) F' W' b' c') ∧ Moved F F' W W' := by
  have ha := h.act i hi
  obtain ⟨pi, hpi⟩ : ∃ pi, q.pb i = pi := ⟨_, rfl⟩
  have hFp : F pi := (h.foot _).2 (.inr (.inr (.inl ⟨i, hi, hpi.symm⟩)))
  rw [hpi] at ha ⊢
  have hpO : ¬ fO q.p q.Vo pi := fO.no h.ep h.mvat ha (by decide) (by decide) (by decide) (by decide)
  -- the world in which the step is called
  obtain ⟨W1, hW1⟩ : ∃ W1, W.setCell ⟨pi, 0, none⟩ .nilFunc = W1 := ⟨_, rfl⟩
  have hs1 : W1.heap.size = W.heap.size := by rw [← hW1, size_setCell]
  have hk1 : ∀ k, k ≠ pi → W1.heap[k]? = W.heap[k]? := fun k hk => by rw [← hW1]; exact Below.heap_setCell W ⟨pi, 0, none⟩ _ k hk
  have ho1 : W1.os = W.os ∧ W1.tape = W.tape ∧ W1.output = W.output := by rw [← hW1]; exact ⟨rfl, rfl, rfl⟩
  have ha1 : ActAt W1 pi .nilFunc (s.cnt i) := by rw [← hW1]; exact ha.set0 _
  have he1 : EpAt q.p s.es W1 := h.ep.later fun k hk => hk1 k fun e => hpO (.inl (e ▸ hk))
  have hb1 : BoxOK q.p W1 q.Vo (b i) (c i) (s.pc i) := (h.box i hi).later fun k hk => hk1 k (box_act ha (h.box i hi) hk)
  have hv1 : ∀ V, q.Vo = some V → MvAt W1 V q.va s.mv := fun V hV => (hk1 V fun e => hpO (.inr (e ▸ hV))).trans (h.mvat V hV)
  obtain ⟨g, lb, hg, hen, hcall⟩ := clo_c he1 q.Vo (b i) (c i) (s.pc i) q.va s.mv hb1 (h.ok i hi) hv1 h.wd hc hd
  rw [hg] at ha
  have hct := h.ct i hi
  refine (aStep_some pi (s.cnt i) g lb (by omega) hen W ha (fun v w2 => CPost q.p s.es q.Vo (b i) (c i) (s.pc i) q.va s.mv W1 (.returned v) w2) ?_).mono ?_
  · rw [hW1]
    refine hcall.mono ?_
    rintro e w2 hN
    have hN2 := hN
    obtain ⟨b', c', rfl, h1, h2, h3, h4, h5, h6, h7⟩ := hN
    exact ⟨_, rfl, stepV_clo _ _ _ _, (h5.keep ha1 hpO).1, hN2⟩
  · rintro e W' ⟨nv, w2, hN, _, ha2, rfl, rfl⟩
    obtain ⟨b', c', hnv, h1, h2, h3, h4, h5, h6, h7⟩ := hN
    cases hnv
    obtain ⟨r, hr⟩ : ∃ r, nextE q.p s.es (s.pc i) = r := ⟨_, rfl⟩
    have hrt : r.1.t = s.es.t + 1 := by rw [← hr]; exact nextE_t _ _ _ hd
    have hnx : s.nx q i = ⟨r.1, put1 s.pc i r.2.1, put1 s.cnt i (s.cnt i + 1), r.2.2.getD s.mv⟩ := by unfold ET.nx; rw [hr]
    rw [hr] at h1 h2 h3 h4 h6 h7 ⊢
    rw [hnx]
    obtain ⟨W', hW'⟩ : ∃ W', (w2.setCell ⟨pi, 0, none⟩ (cloV q.p.R b' c' r.2.1)).setCell ⟨pi, 1, none⟩ (.int .i64 ((s.cnt i + 1 : Nat) : Int)) = W' := ⟨_, rfl⟩
    have ha' : ActAt W' pi (cloV q.p.R b' c' r.2.1) (s.cnt i + 1) := by rw [← hW']; exact (ha2.set0 _).set1 _
    have hk' : ∀ k, k ≠ pi → W'.heap[k]? = w2.heap[k]? := fun k hk => by
      rw [← hW']; exact (Below.heap_setCell _ ⟨pi, 1, none⟩ _ k hk).trans (Below.heap_setCell w2 ⟨pi, 0, none⟩ _ k hk)
    have hs' : W'.heap.size = w2.heap.size := by rw [← hW', size_setCell, size_setCell]
    have ho' : W'.os = w2.os ∧ W'.tape = w2.tape ∧ W'.output = w2.output := by rw [← hW']; exact ⟨rfl, rfl, rfl⟩
    rw [hW']
    clear hW' hnx
    have h5s := h5.size
    have keep : ∀ k, k < W.heap.size → k ≠ pi → ¬ fO q.p q.Vo k → W'.heap[k]? = W.heap[k]? := fun k hk e1 e2 => (hk' k e1).trans ((h5.same k (by omega) e2).trans (hk1 k e1))
    have hpO2 : ¬ fO q.p q.Vo pi := hpO
    obtain ⟨bb, hbb⟩ : ∃ bb, put1 b i b' = bb := ⟨_, rfl⟩
    obtain ⟨cc, hcc⟩ : ∃ cc, put1 c i c' = cc := ⟨_, rfl⟩
    have bsame : bb i = b' ∧ cc i = c' := by rw [← hbb, ← hcc]; exact ⟨put1_same _ _ _, put1_same _ _ _⟩
    have bother : ∀ j, j ≠ i → bb j = b j ∧ cc j = c j := fun j hj => by rw [← hbb, ← hcc]; exact ⟨put1_other _ _ hj, put1_other _ _ hj⟩
    have psame : put1 s.pc i r.2.1 i = r.2.1 := put1_same _ _ _
    have pother : ∀ j, j ≠ i → put1 s.pc i r.2.1 j = s.pc j := fun j hj => put1_other _ _ hj
    have csame : put1 s.cnt i (s.cnt i + 1) i = s.cnt i + 1 := put1_same _ _ _
    have cother : ∀ j, j ≠ i → put1 s.cnt i (s.cnt i + 1) j = s.cnt j := fun j hj => put1_other _ _ hj
    refine ⟨by rw [isNil_clo], fun k => fE q.p k ∨ q.Vo = some k ∨ (∃ i, i < q.N ∧ k = q.pb i) ∨ (∃ j, j < q.N ∧ boxN (bb j) (cc j) k (put1 s.pc i r.2.1 j)), ⟨bb, cc, ?_⟩, ?_⟩
    · constructor
      case foot => exact fun k => Iff.rfl
      case ep => exact h1.later fun k hk => hk' k fun e => hpO (.inl (e ▸ hk))
      case act =>
        intro j hj
        show ActAt W' (q.pb j) (cloV q.p.R (bb j) (cc j) (put1 s.pc i r.2.1 j)) (put1 s.cnt i (s.cnt i + 1) j)
        by_cases hji : j = i
        · subst hji
          rw [psame, csame, bsame.1, bsame.2, hpi]
          exact ha'
        · rw [pother j hji, cother j hji, (bother j hji).1, (bother j hji).2]
          have hj1 := h.act j hj
          exact hj1.later (keep _ hj1.lt (by rw [← hpi]; exact hinj j i hj hi hji) (fO.no h.ep h.mvat hj1 (by decide) (by decide) (by decide) (by decide)))
      case box =>
        intro j hj
        show BoxOK q.p W' q.Vo (bb j) (cc j) (put1 s.pc i r.2.1 j)
        by_cases hji : j = i
        · subst hji
          rw [psame, bsame.1, bsame.2]
          exact h2.later fun k hk => hk' k (box_act ha2 h2 hk)
        · rw [pother j hji, (bother j hji).1, (bother j hji).2]
          have hj1 := h.box j hj
          refine hj1.later fun k hk => ?_
          obtain ⟨v, t, hcl, _⟩ := hj1.cells hk
          exact keep k (Array.getElem?_eq_some_iff.1 hcl).1 (box_act ha hj1 hk) (box_no h.ep h.mvat hj1 hk)
      case ok =>
        intro j hj
        show okPC q.p r.1.t (put1 s.pc i r.2.1 j)
        rw [hrt]
        by_cases hji : j = i
        · subst hji; rw [psame]; exact h4
        · rw [pother j hji]; exact (h.ok j hj).mono (Nat.le_succ _)
      case mvat => exact fun V hV => (hk' V fun e => hpO (.inr (e ▸ hV))).trans (h6 V hV)
      case wd => show r.1.ws q.p.word ≤ r.1.t; rw [hrt]; exact h7
      case ct =>
        intro j hj
        show put1 s.cnt i (s.cnt i + 1) j ≤ r.1.t
        rw [hrt]
        have := h.ct j hj
        by_cases hji : j = i
        · subst hji; rw [csame]; omega
        · rw [cother j hji]; omega
    · refine ⟨ho'.1.trans (h5.os.trans ho1.1), ho'.2.1.trans (h5.tape.trans ho1.2.1), ho'.2.2.trans (h5.output.trans ho1.2.2), by omega, fun k hk hn => keep k hk (fun e => hn (e ▸ hFp)) (fun hf => hn ((h.foot k).2 (hf.elim .inl fun e => .inr (.inl e)))), fun k hk hf' => (h.foot k).2 ?_⟩
      rcases hf' with hE | hV | hA | ⟨j, hj, hjk⟩
      · exact .inl hE
      · exact .inr (.inl hV)
      · exact .inr (.inr (.inl hA))
      · by_cases hji : j = i
        · subst hji
          rw [psame, bsame.1, bsame.2] at hjk
          rcases h3 k hjk with h9 | h9
          · exact .inr (.inr (.inr ⟨j, hj, h9⟩))
          · omega
        · rw [pother j hji, (bother j hji).1, (bother j hji).2] at hjk
          exact .inr (.inr (.inr ⟨j, hj, hjk⟩))

theorem epMach_ok (hinj : ∀ i j, i < q.N → j < q.N → i ≠ j → q.pb i ≠ q.pb j) : (epMach q).Ok where
  stab := fun ⟨b, c, h⟩ hs _ => ⟨b, c, h.stab hs⟩
  inn := fun ⟨b, c, h⟩ hk => h.inn hk
  ov := fun ⟨b, c, h⟩ hi => h.over hi
  st := fun {s F W i} ⟨b, c, h⟩ hi ho hc => by
    refine (h.step hinj hi ho hc).mono ?_
    rintro e W' ⟨rfl, F', h1, h2⟩
    refine ⟨?_, F', h1, h2⟩
    show Ending.returned (.bool _) = .returned (.bool (put1 s.pc i (nextE q.p s.es (s.pc i)).2.1 i).isDone)
    rw [put1_same]
  cst := fun s i => by
    show (nextE q.p s.es (s.pc i)).1.t ≤ s.es.t + 1
    cases hd : (s.pc i).isDone with
    | false => rw [nextE_t _ _ _ hd]; exact Nat.le_refl _
    | true =>
      cases hpc : s.pc i with
      | done => exact Nat.le_succ _
      | _ => rw [hpc] at hd; cases hd
  one := fun i => rfl
end Go.Proofs.Ytefmojohabdjcaa

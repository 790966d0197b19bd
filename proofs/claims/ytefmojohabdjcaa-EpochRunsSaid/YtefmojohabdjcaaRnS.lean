/-
  The law's world: its blocks, what each reader is at, what was taken away.
-/
import Derived.Test.YtefmojohabdjcaaRnP
import Derived.Test.YtefmojohabdjcaaAwake6
import Derived.Maps.AppendAt
set_option linter.unusedVariables false
set_option linter.unusedSimpArgs false
namespace Go.Proofs.Ytefmojohabdjcaa
open Go Go.RowKit

variable {p : EP} {W W' w w' : World}
/-- One step of one act. -/
theorem act_step {s : ES} {Vo : Option Nat} {pi b c n : Nat} {pc : PC} {a : Value} {mv : Bool} (h : EpAt p s W) (ha : ActAt W pi (cloV p.R b c pc) n) (hb : BoxOK p W Vo b c pc) (hk : okPC p s.t pc) (hV : ∀ V, Vo = some V → MvAt W V a mv)
    (hw : s.ws p.word ≤ s.t) (ht : s.t < 1000000) (hn : n ≤ s.t) (hd : pc.isDone = false) :
    Calls Try.prog 29 #[pa pi] W fun e W' => e = .returned (.bool (nextE p s pc).2.1.isDone) ∧ ∃ b' c', EpAt p (nextE p s pc).1 W' ∧ ActAt W' pi (cloV p.R b' c' (nextE p s pc).2.1) (n + 1) ∧ BoxOK p W' Vo b' c' (nextE p s pc).2.1 ∧
      okPC p (s.t + 1) (nextE p s pc).2.1 ∧ (∀ V, Vo = some V → MvAt W' V a ((nextE p s pc).2.2.getD mv)) ∧ (nextE p s pc).1.ws p.word ≤ s.t + 1 ∧ Moved (fun k => fO p Vo k ∨ k = pi) (fun k => fO p Vo k ∨ k = pi) W W' := by
  have hpO : ¬ fO p Vo pi := fO.no h hV ha (by decide) (by decide) (by decide) (by decide)
  obtain ⟨W1, hW1⟩ : ∃ W1, W.setCell ⟨pi, 0, none⟩ .nilFunc = W1 := ⟨_, rfl⟩
  have hs1 : W1.heap.size = W.heap.size := by rw [← hW1, size_setCell]
  have hk1 : ∀ k, k ≠ pi → W1.heap[k]? = W.heap[k]? := fun k hk => by rw [← hW1]; exact Below.heap_setCell W ⟨pi, 0, none⟩ _ k hk
  have ho1 : W1.os = W.os ∧ W1.tape = W.tape ∧ W1.output = W.output := by rw [← hW1]; exact ⟨rfl, rfl, rfl⟩
  have ha1 : ActAt W1 pi .nilFunc n := by rw [← hW1]; exact ha.set0 _
  have he1 : EpAt p s W1 := h.later fun k hk => hk1 k fun e => hpO (.inl (e ▸ hk))
  have hb1 : BoxOK p W1 Vo b c pc := hb.later fun k hk => hk1 k (box_act ha hb hk)
  have hv1 : ∀ V, Vo = some V → MvAt W1 V a mv := fun V hv => (hk1 V fun e => hpO (.inr (e ▸ hv))).trans (hV V hv)
  obtain ⟨g, lb, hg, hen, hcall⟩ := clo_c he1 Vo b c pc a mv hb1 hk hv1 hw ht hd
  rw [hg] at ha
  refine (aStep_some pi n g lb (by omega) hen W ha (fun v w2 => CPost p s Vo b c pc a mv W1 (.returned v) w2) ?_).mono ?_
  · rw [hW1]
    refine hcall.mono ?_
    rintro e w2 hN
    have hN2 := hN
    obtain ⟨b', c', rfl, h1, h2, h3, h4, h5, h6, h7⟩ := hN
    exact ⟨_, rfl, stepV_clo _ _ _ _, (h5.keep ha1 hpO).1, hN2⟩
  · rintro e W' ⟨nv, w2, hN, _, ha2, rfl, rfl⟩
    obtain ⟨b', c', hnv, h1, h2, h3, h4, h5, h6, h7⟩ := hN
    cases hnv
    obtain ⟨r, hr⟩ : ∃ r, nextE p s pc = r := ⟨_, rfl⟩
    rw [hr] at h1 h2 h4 h6 h7 ⊢
    obtain ⟨W', hW'⟩ : ∃ W', (w2.setCell ⟨pi, 0, none⟩ (cloV p.R b' c' r.2.1)).setCell ⟨pi, 1, none⟩ (.int .i64 ((n + 1 : Nat) : Int)) = W' := ⟨_, rfl⟩
    have ha' : ActAt W' pi (cloV p.R b' c' r.2.1) (n + 1) := by rw [← hW']; exact (ha2.set0 _).set1 _
    have hk' : ∀ k, k ≠ pi → W'.heap[k]? = w2.heap[k]? := fun k hk => by
      rw [← hW']; exact (Below.heap_setCell _ ⟨pi, 1, none⟩ _ k hk).trans (Below.heap_setCell w2 ⟨pi, 0, none⟩ _ k hk)
    have hs' : W'.heap.size = w2.heap.size := by rw [← hW', size_setCell, size_setCell]
    have ho' : W'.os = w2.os ∧ W'.tape = w2.tape ∧ W'.output = w2.output := by rw [← hW']; exact ⟨rfl, rfl, rfl⟩
    rw [hW']
    clear hW'
    have h5s := h5.size
    refine ⟨by rw [isNil_clo], b', c', h1.later fun k hk => hk' k fun e => hpO (.inl (e ▸ hk)), ha', h2.later fun k hk => hk' k (box_act ha2 h2 hk), h4, fun V hv => (hk' V fun e => hpO (.inr (e ▸ hv))).trans (h6 V hv), h7,
      ⟨ho'.1.trans (h5.os.trans ho1.1), ho'.2.1.trans (h5.tape.trans ho1.2.1), ho'.2.2.trans (h5.output.trans ho1.2.2), by omega, fun k hk hn => (hk' k fun e => hn (.inr e)).trans ((h5.same k (by omega) fun hf => hn (.inl hf)).trans (hk1 k fun e => hn (.inr e))), fun _ _ h => h⟩⟩

/-- A block of rows of seven cells. -/
def Rows7 (w : World) (A R : Nat) (f : Nat → Nat → Value) : Prop := ∃ cur, Cells w A 75 cur ∧ ∀ i, i < R → ∀ j, j < 7 → cur[i * 7 + j]? = some (f i j)
def upd7 (f : Nat → Nat → Value) (i j : Nat) (v : Value) : Nat → Nat → Value := fun a b => if a = i ∧ b = j then v else f a b
variable {A R : Nat} {f g : Nat → Nat → Value}
theorem Rows7.lt (h : Rows7 w A R f) : A < w.heap.size := by obtain ⟨_, h1, _⟩ := h; exact h1.lt
theorem Rows7.later (h : Rows7 w A R f) (hs : w'.heap[A]? = w.heap[A]?) : Rows7 w' A R f := by
  obtain ⟨cur, h1, h2⟩ := h
  exact ⟨cur, h1.later hs, h2⟩
theorem Rows7.cell (h : Rows7 w A R f) {i j : Nat} (hi : i < R) (hj : j < 7) : w.cell? ⟨A, i * 7 + j, none⟩ = some (f i j) := by
  obtain ⟨cur, h1, h2⟩ := h
  exact h1.cell (h2 i hi j hj)
theorem Rows7.cells (h : Rows7 w A R f) {i : Nat} (hi : i < R) :
    w.cell? ⟨A, i * 7, none⟩ = some (f i 0) ∧ w.cell? ⟨A, i * 7 + 1, none⟩ = some (f i 1) ∧ w.cell? ⟨A, i * 7 + 2, none⟩ = some (f i 2) ∧ w.cell? ⟨A, i * 7 + 3, none⟩ = some (f i 3) ∧ w.cell? ⟨A, i * 7 + 4, none⟩ = some (f i 4) ∧
      w.cell? ⟨A, i * 7 + 5, none⟩ = some (f i 5) ∧ w.cell? ⟨A, i * 7 + 6, none⟩ = some (f i 6) :=
  ⟨h.cell hi (j := 0) (by omega), h.cell hi (by omega), h.cell hi (by omega), h.cell hi (by omega), h.cell hi (by omega), h.cell hi (by omega), h.cell hi (by omega)⟩
theorem Rows7.frozen (h : Rows7 w A R f) (o : Nat) : w.frozen? ⟨A, o, none⟩ = false := by
  obtain ⟨cur, h1, h2⟩ := h
  exact h1.frozen o
theorem Rows7.set (h : Rows7 w A R f) {i j : Nat} (hi : i < R) (hj : j < 7) (v : Value) : Rows7 (w.setCell ⟨A, i * 7 + j, none⟩ v) A R (upd7 f i j v) := by
  obtain ⟨cur, h1, h2⟩ := h
  refine ⟨_, h1.set _ v, fun a ha b hb => ?_⟩
  have hs : i * 7 + j < cur.size := (Array.getElem?_eq_some_iff.1 (h2 i hi j hj)).1
  unfold upd7
  by_cases hab : a = i ∧ b = j
  · obtain ⟨rfl, rfl⟩ := hab
    rw [if_pos ⟨rfl, rfl⟩]
    exact Array.getElem?_setIfInBounds_self_of_lt hs
  · rw [if_neg hab, Array.getElem?_setIfInBounds_ne (by omega)]
    exact h2 a ha b hb
theorem Rows7.congr (h : Rows7 w A R f) (he : ∀ i, i < R → ∀ j, j < 7 → f i j = g i j) : Rows7 w A R g := by
  obtain ⟨cur, h1, h2⟩ := h
  exact ⟨cur, h1, fun i hi j hj => by rw [h2 i hi j hj, he i hi j hj]⟩

/-- What the law's world is in. -/
structure RS where
  es : ES
  pc : Nat → PC
  cnt : Nat → Nat
  kd : Nat → Nat
  nx : Nat → Nat
  pn : Nat → Bool
  si : Nat → Nat
  tn : Nat → Nat
  gs : List (Nat × List Int)
/-- Where it lies. -/
structure RB where
  p : EP
  Wb : Nat
  Ab : Nat
/-- .. and what may change of that. -/
structure RC where
  pb : Nat → Nat
  b : Nat → Nat
  c : Nat → Nat
  V : Nat → Nat
  mv : Nat → Value
  gv : Value
  tv : List Value
def actV (C : RC) (s : RS) (i : Nat) : Value := if (s.pc i).isDone then .pointer none else pa (C.pb i)
def dgF (C : RC) (s : RS) (i j : Nat) : Value :=
  if j = 0 then .int .i64 (s.nx i) else if j = 1 then actV C s i else if j = 2 then C.mv i else if j = 3 then .int .u8 (s.kd i) else if j = 4 then .bool (s.pn i) else if j = 5 then .int .u64 (s.si i) else .int .i64 (s.tn i)
def VoOf (C : RC) (s : RS) (i : Nat) : Option Nat := if s.kd i = 2 then some (C.V i) else none
def awayC (gs : List (Nat × List Int)) (tv : List Value) : List Value := (gs.zip tv).flatMap fun x => [.int .u64 x.1.1, x.2]
def pW (B : RB) : Value := .pointer (some ⟨B.Wb, 0, none⟩)
/-- The act that reader i is at. -/
structure ActI (W0 : World) (B : RB) (C : RC) (s : RS) (w : World) (i : Nat) : Prop where
  act : ActAt w (C.pb i) (cloV B.p.R (C.b i) (C.c i) (s.pc i)) (s.cnt i)
  box : BoxOK B.p w (VoOf C s i) (C.b i) (C.c i) (s.pc i)
  ok : okPC B.p s.es.t (s.pc i)
  cnt : s.cnt i ≤ s.es.t
  ge : W0.heap.size ≤ C.pb i
  mv : s.kd i = 2 → C.mv i = pV (C.V i) ∧ MvAt w (C.V i) (pa (C.pb i)) false ∧ W0.heap.size ≤ C.V i
structure RInv (W0 : World) (B : RB) (C : RC) (s : RS) (w : World) : Prop where
  ep : EpAt B.p s.es w
  wq : Quad w B.Wb 34 (pE B.p) (.slice (some ⟨B.Ab, 0, none⟩) B.p.R B.p.R) C.gv (.int .u64 s.es.now)
  all : Rows7 w B.Ab B.p.R (dgF C s)
  acts : ∀ i, i < B.p.R → (s.pc i).isDone = false → ActI W0 B C s w i
  apart : ∀ i j, i < B.p.R → j < B.p.R → i ≠ j → (s.pc i).isDone = false → (s.pc j).isDone = false → C.pb i ≠ C.pb j ∧ (s.kd i = 2 → s.kd j = 2 → C.V i ≠ C.V j)
  gone : w.ownsRow W0.heap.size 82 2 C.gv s.gs.length (awayC s.gs C.tv)
  tvl : C.tv.length = s.gs.length
  turns : ∀ (k : Nat) (g : Nat × List Int) (v : Value), s.gs[k]? = some g → C.tv[k]? = some v → w.ownsRow W0.heap.size 3 1 v B.p.R (intsV g.2)
  bel : Below W0.heap.size W0 w
  ge : (∀ k, fE B.p k → W0.heap.size ≤ k) ∧ W0.heap.size ≤ B.Wb ∧ W0.heap.size ≤ B.Ab
/-- What holds of it. -/
structure LInv (B : RB) (n : Nat) (s : RS) : Prop where
  pin : PInv B.p s.es s.pc
  kind : ∀ i, i < B.p.R → (s.pc i).isDone = false → kindOf (s.pc i) = s.kd i
  pn : ∀ i, i < B.p.R → s.pn i = true → s.es.po i = true ∧ s.es.pe i = s.si i ∧ ((s.pc i).isDone = true ∨ s.kd i = 2)
  gs : ∀ g, g ∈ s.gs → g.1 ≤ s.es.now ∧ ∀ i, i < B.p.R → ∃ T, g.2[i]? = some T ∧ T ≤ s.tn i ∧ (s.pn i = true → T = s.tn i → s.si i ≤ g.1)
  le : s.es.now ≤ s.es.t ∧ s.es.t ≤ n + 10 ∧ s.gs.length ≤ n ∧ (∀ i, i < B.p.R → s.tn i ≤ 2 * n ∧ s.nx i ≤ 40)
  kd : ∀ i, i < B.p.R → s.kd i < 4
  si : ∀ i, i < B.p.R → s.si i ≤ n + 10
theorem dgF_cells (C : RC) (s : RS) (i : Nat) : dgF C s i 0 = .int .i64 (s.nx i) ∧ dgF C s i 1 = actV C s i ∧ dgF C s i 2 = C.mv i ∧ dgF C s i 3 = .int .u8 (s.kd i) ∧ dgF C s i 4 = .bool (s.pn i) ∧ dgF C s i 5 = .int .u64 (s.si i) ∧ dgF C s i 6 = .int .i64 (s.tn i) := by
  simp [dgF]
end Go.Proofs.Ytefmojohabdjcaa

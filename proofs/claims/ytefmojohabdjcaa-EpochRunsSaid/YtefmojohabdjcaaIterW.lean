/-
  A range over a function that walks through numbered places and passes some of them: which ones are passed hangs on the world at that moment.
-/
import Derived.Test.YtefmojohabdjcaaIter
set_option linter.unusedVariables false
set_option linter.unusedSimpArgs false
namespace Go.Proofs.Ytefmojohabdjcaa
open Go Go.RowKit

/-- The iterator g (captured: lb), called with a loop's yield: at each of N places, in turn, 'over k b' tells whether it is passed. -/
def Walk (P : Program) (g : Nat) (lb : Array Value) (N : Nat) (encs : Nat → Array Value) (T0 : TypeId → Prop) (cap : Nat → Prop) (capW : World → Prop)
    (over : Nat → Bool → World → Prop) : Prop :=
  ∀ (l : Nat) (T : TypeId → Prop) (J Jb Jx : Nat → World → Prop) (W : World), capW W → (∀ e, T e → ¬ T0 e) →
    (∀ s A B, J s A → Itself T0 W.heap.size A B → J s B) → (∀ s A B, Jb s A → Itself T0 W.heap.size A B → Jb s B) → (∀ s A B, Jx s A → Itself T0 W.heap.size A B → Jx s B) →
    (∀ k W1, k < N → J k W1 → (over k true W1 ∧ J (k + 1) W1) ∨ (over k false W1 ∧ Jb k W1)) →
    (∀ k W1, k < N → Jb k W1 → YieldAt Fence.wide 0 P l (encs k) W1 fun e W' =>
      Keeps T cap W.heap.size W1 W' ∧ ((e = .returned (.bool true) ∧ J (k + 1) W') ∨ (e = .returned (.bool false) ∧ Jx k W'))) →
    J 0 W →
    Calls P g (#[.func (.yield l) #[] #[]] ++ lb) W fun e W' => (∃ v, e = .returned v) ∧ (J N W' ∨ ∃ k, k < N ∧ Jx k W')

/-- How the body of a round may be left. -/
def bodyW (T : TypeId → Prop) (cap : Nat → Prop) (D : Nat) (I : Nat → World → Prop) (Ix : Code → Nat → World → Prop) (k : Nat) (W : World) : Exit → Act → World → Prop
  | .normal, _, W' => Keeps T cap D W W' ∧ I (k + 1) W'
  | .ret, _, W' => Keeps T cap D W W' ∧ Ix .ret k W'
  | .exit id, _, W' => Keeps T cap D W W' ∧ Ix (.exit id) k W'
  | .goto t, _, W' => Keeps T cap D W W' ∧ Ix (.goto t) k W'
  | .panic _, _, _ => False
  | .outgrown, _, _ => False

variable {n : Nat} {P : Program}

set_option maxHeartbeats 1000000 in
/-- The statement 'for .. := range g { .. }' outside of any round. -/
theorem wpIn_rangeWalk {g : Operand} {ps : Array Tmp} {assign body : Code} {Q : Exit → Act → World → Prop} {a : Act} {w : World}
    {gf : Nat} {lb : Array Value} (hg : a.eval g = .func (.func gf) #[] lb) (eg : ∀ args w, (callFunc gf args).run P w = .ok (.enter gf args) w)
    {N : Nat} {encs : Nat → Array Value} {T0 : TypeId → Prop} {cap : Nat → Prop} {capW : World → Prop} {over : Nat → Bool → World → Prop}
    (hit : Walk P gf lb N encs T0 cap capW over) (T : TypeId → Prop) (hT : ∀ e, T e → ¬ T0 e) (hps : ∀ x, (encs x).size = ps.size)
    (hcap : ∀ k, cap k → k < w.heap.size) (hcW : ∀ W, Below w.heap.size w W → capW W)
    (I Ib : Nat → World → Prop) (Ix : Code → Nat → World → Prop)
    (hI : ∀ s A B, I s A → Itself T0 w.heap.size A B → I s B) (hIb : ∀ s A B, Ib s A → Itself T0 w.heap.size A B → Ib s B) (hIx : ∀ c s A B, Ix c s A → Itself T0 w.heap.size A B → Ix c s B) (h0 : I 0 w)
    (hdec : ∀ (k : Nat) (W : World), k < N → I k W → (over k true W ∧ I (k + 1) W) ∨ (over k false W ∧ Ib k W))
    (hround : ∀ (l : Nat) (x : Nat) (W : World), w.heap.size ≤ l → x < N → Ib x W →
      assign.wpIn (Fence.wide.inRound l) 0 P (Exit.then (fun a₁ W₁ => Keeps T cap w.heap.size W W₁ ∧ (∀ W₂, Itself T0 w.heap.size W₁ W₂ → W₂.heap.size = W₁.heap.size → (∃ r, W₂.heap[l]? = some (.loop r)) →
        (∀ k, k ≠ l → W₂.heap[k]? = W₁.heap[k]?) → body.wpIn (Fence.wide.inRound l) 0 P (bodyW T cap w.heap.size I Ix x W₂) a₁ W₂)) (fun _ _ _ => False))
        { tmps := (ps.zip (encs x)).foldl (fun t (p, v) => t.setIfInBounds p v) a.tmps, defers := [] } W)
    (hdone : ∀ (D : Nat) (W : World), w.heap.size ≤ D → I N W → W.heap[D]? = some (.deferred (some [])) → Q .normal { a with defers := { target := .collected D, args := #[] } :: a.defers } W)
    (hstop : ∀ (D : Nat) (c : Code) (k : Nat) (W : World), w.heap.size ≤ D → k < N → Ix c k W → W.heap[D]? = some (.deferred (some [])) →
      c.wpIn Fence.wide n P Q { a with defers := { target := .collected D, args := #[] } :: a.defers } W) :
    (Code.rangeFunc g ps assign body).wpIn Fence.wide n P Q a w := by
  refine wpIn_rangeFunc fun fn hfn => ?_
  obtain ⟨rec, hrec⟩ : ∃ rec : LoopState → Option Code → Loop, rec = fun st pe => { state := st, pending := pe, fn, tmps := a.tmps, params := ps, assign, body, defers := w.heap.size } := ⟨_, rfl⟩
  obtain ⟨W1, hW1⟩ : ∃ W1, (w.alloc (.deferred (some []))).alloc (.loop (rec .ready none)) = W1 := ⟨_, rfl⟩
  have hsz : W1.heap.size = w.heap.size + 2 := by rw [← hW1]; simp
  have hI01 : Itself T0 w.heap.size w W1 := by
    rw [← hW1]; exact (Itself.alloc T0 w _ (Nat.le_refl _)).trans (Itself.alloc T0 _ _ (by simp))
  have hL1 : W1.heap[w.heap.size + 1]? = some (.loop (rec .ready none)) := by
    rw [← hW1]; have := World.alloc_heap_new (w.alloc (.deferred (some []))) (.loop (rec .ready none)); rwa [World.size_alloc] at this
  have hK1 : W1.heap[w.heap.size]? = some (.deferred (some [])) := by
    rw [← hW1]; exact (Below.heap_alloc _ _ _ (by simp)).trans (World.alloc_heap_new w _)
  refine ⟨w.heap.size + 1, [{ target := .collected w.heap.size, args := #[] }], W1, { target := .fn (.func gf) lb, args := #[.func (.yield (w.heap.size + 1)) #[] #[]] }, W1, gf,
    #[.func (.yield (w.heap.size + 1)) #[] #[]] ++ lb, W1, ?_, ?_, fun _ _ => trivial, ?_, (fun h => by cases h), ?_⟩
  · rw [← hW1, hrec]; exact run_enterLoop_outer _ _ _ _ _
  · simp only [resolve, hg]
    simp [go_sem]
  · simp [invoke, go_sem, eg]
  refine callsIn_wide.2 ((hit (w.heap.size + 1) T
      (fun pre W => I pre W ∧ W.heap[w.heap.size + 1]? = some (.loop (rec .ready none)) ∧ W.heap[w.heap.size]? = some (.deferred (some [])))
      (fun pre W => Ib pre W ∧ W.heap[w.heap.size + 1]? = some (.loop (rec .ready none)) ∧ W.heap[w.heap.size]? = some (.deferred (some [])))
      (fun pre W => ∃ c, Ix c pre W ∧ W.heap[w.heap.size + 1]? = some (.loop (rec .done (some c))) ∧ W.heap[w.heap.size]? = some (.deferred (some [])))
      W1 (hcW _ hI01.toBelow) hT ?_ ?_ ?_ ?_ ?_ ⟨hI _ _ _ h0 hI01, hL1, hK1⟩).mono ?_)
  · rintro s A B ⟨h1, h2, h3⟩ hAB
    rw [hsz] at hAB
    exact ⟨hI _ _ _ h1 (hAB.mono (fun _ h => h) (by omega)), (hAB.below _ (by omega)).trans h2, (hAB.below _ (by omega)).trans h3⟩
  · rintro s A B ⟨h1, h2, h3⟩ hAB
    rw [hsz] at hAB
    exact ⟨hIb _ _ _ h1 (hAB.mono (fun _ h => h) (by omega)), (hAB.below _ (by omega)).trans h2, (hAB.below _ (by omega)).trans h3⟩
  · rintro s A B ⟨c, h1, h2, h3⟩ hAB
    rw [hsz] at hAB
    exact ⟨c, hIx c _ _ _ h1 (hAB.mono (fun _ h => h) (by omega)), (hAB.below _ (by omega)).trans h2, (hAB.below _ (by omega)).trans h3⟩
  · rintro k W hk ⟨h1, h2, h3⟩
    rcases hdec k W hk h1 with ⟨h, h'⟩ | ⟨h, h'⟩
    · exact .inl ⟨h, h', h2, h3⟩
    · exact .inr ⟨h, h', h2, h3⟩
  · -- one round
    rintro x W hst ⟨hi, hl, hk⟩
    have hy := run_yield (P := P) (args := encs x) hl (by rw [hrec]; exact hps x)
    rw [hrec] at hy
    refine ⟨fn, _, assign, body, hy, roundIn_of_wpIn hfn (wpIn_mono (hround _ x W (by omega) hst hi) ?_)⟩
    rintro e a₁ Wa hq
    cases e with
    | normal =>
      obtain ⟨hka, hnext⟩ := hq
      have hnc : ¬ cap (w.heap.size + 1) := fun h => by have := hcap _ h; omega
      have hkeep : ∀ {X Y : World}, Keeps T cap w.heap.size X Y → X.heap[w.heap.size]? = some (.deferred (some [])) → Y.heap[w.heap.size]? = some (.deferred (some [])) :=
        fun h h' => h.same _ _ h' (.inr ⟨Nat.le_refl _, fun _ _ _ _ e => by cases e⟩)
      have hkeepL : ∀ {X Y : World} {r : Loop}, Keeps T cap w.heap.size X Y → X.heap[w.heap.size + 1]? = some (.loop r) → Y.heap[w.heap.size + 1]? = some (.loop r) :=
        fun h h' => h.same _ _ h' (.inr ⟨by omega, fun _ _ _ _ e => by cases e⟩)
      have hl1 := hkeepL hka hl
      have hk1 := hkeep hka hk
      refine ⟨_, run_beginRound hl1 (by rw [hrec]), ?_⟩
      have hlt : w.heap.size + 1 < Wa.heap.size := (Array.getElem?_eq_some_iff.1 hl1).1
      have hit2 : Itself T0 w.heap.size Wa (Wa.putObj (w.heap.size + 1) (.loop { rec .ready none with state := .busy })) := Itself.putObj T0 Wa _ _ _ (by omega) hl1 rfl
      have hl2 : (Wa.putObj (w.heap.size + 1) (.loop { rec .ready none with state := .busy })).heap[w.heap.size + 1]? = some (.loop { rec .ready none with state := .busy }) := World.putObj_heap_same hlt
      have hk2 : (Wa.putObj (w.heap.size + 1) (.loop { rec .ready none with state := .busy })).heap[w.heap.size]? = some (.deferred (some [])) := (World.putObj_heap_other (by omega)).trans hk1
      have hkp : ∀ {X : World} (o' : Obj), Keeps T cap W1.heap.size X (X.putObj (w.heap.size + 1) o') := fun o' => Keeps.putObj T _ _ o' hnc (by omega)
      have hup : ∀ {X Y : World}, Keeps T cap w.heap.size X Y → Keeps T cap W1.heap.size X Y := fun h => h.mono (fun _ h => h) (by omega) (fun _ _ _ h => .inl h)
      have hkW2 : Keeps T cap W1.heap.size W (Wa.putObj (w.heap.size + 1) (.loop { rec .ready none with state := .busy })) := (hup hka).trans (hkp _)
      -- the body's premise speaks of blocks from w.heap.size on: the record itself is turned by the round's beginning: told apart
      have fin : ∀ (jump : Option Code) (W3 : World), Keeps T cap w.heap.size (Wa.putObj (w.heap.size + 1) (.loop { rec .ready none with state := .busy })) W3 →
          (Instr.endRound (w.heap.size + 1) jump).run P W3 = .ok (.bool jump.isNone) (W3.putObj (w.heap.size + 1) (.loop (rec (if jump.isNone then .ready else .done) jump))) ∧
          Itself T0 w.heap.size W3 (W3.putObj (w.heap.size + 1) (.loop (rec (if jump.isNone then .ready else .done) jump))) ∧
          (W3.putObj (w.heap.size + 1) (.loop (rec (if jump.isNone then .ready else .done) jump))).heap[w.heap.size + 1]? = some (.loop (rec (if jump.isNone then .ready else .done) jump)) ∧
          (W3.putObj (w.heap.size + 1) (.loop (rec (if jump.isNone then .ready else .done) jump))).heap[w.heap.size]? = some (.deferred (some [])) ∧
          Keeps T cap W1.heap.size W (W3.putObj (w.heap.size + 1) (.loop (rec (if jump.isNone then .ready else .done) jump))) := fun jump W3 hk3 => by
        have hl3 := hkeepL hk3 hl2
        have hk3' := hkeep hk3 hk2
        have he := run_endRound (P := P) jump hl3
        rw [hrec] at he ⊢
        refine ⟨he, Itself.putObj T0 W3 _ _ _ (by omega) hl3 rfl, World.putObj_heap_same (Array.getElem?_eq_some_iff.1 hl3).1, (World.putObj_heap_other (by omega)).trans hk3', ?_⟩
        have := (hkW2.trans (hup hk3)).trans (hkp (X := W3) (.loop (rec (if jump.isNone then .ready else .done) jump)))
        rw [hrec] at this
        exact this
      refine wpIn_mono (hnext _ hit2 (by simp) ⟨_, hl2⟩ (fun k hk => World.putObj_heap_other hk)) ?_
      · rintro e a3 W3 hp
        cases e with
        | normal =>
          obtain ⟨hk3, hi3⟩ := hp
          obtain ⟨hr, hits, hl4, hk4, hkk⟩ := fin none W3 hk3
          exact ⟨_, _, hr, hkk, .inl ⟨rfl, hI _ _ _ hi3 hits, hl4, hk4⟩⟩
        | ret =>
          obtain ⟨hk3, hi3⟩ := hp
          obtain ⟨hr, hits, hl4, hk4, hkk⟩ := fin (some .ret) W3 hk3
          exact ⟨_, _, hr, hkk, .inr ⟨rfl, .ret, hIx _ _ _ _ hi3 hits, hl4, hk4⟩⟩
        | exit id =>
          obtain ⟨hk3, hi3⟩ := hp
          obtain ⟨hr, hits, hl4, hk4, hkk⟩ := fin (some (.exit id)) W3 hk3
          exact ⟨_, _, hr, hkk, .inr ⟨rfl, .exit id, hIx _ _ _ _ hi3 hits, hl4, hk4⟩⟩
        | goto t =>
          obtain ⟨hk3, hi3⟩ := hp
          obtain ⟨hr, hits, hl4, hk4, hkk⟩ := fin (some (.goto t)) W3 hk3
          exact ⟨_, _, hr, hkk, .inr ⟨rfl, .goto t, hIx _ _ _ _ hi3 hits, hl4, hk4⟩⟩
        | panic ch => exact hp.elim
        | outgrown => exact hp.elim
    | exit id => exact hq.elim
    | goto t => exact hq.elim
    | ret => exact hq.elim
    | panic ch => exact hq.elim
    | outgrown => exact hq.elim
  · rintro e W2 ⟨⟨v, rfl⟩, (⟨hi, hl, hk⟩ | ⟨pre, hSp, c, hi, hl, hk⟩)⟩
    · refine ⟨none, _, by have := run_endLoop (P := P) hl (by rw [hrec]; simp); rw [hrec] at this; exact this, ?_⟩
      exact hdone _ _ (Nat.le_refl _) (hI _ _ _ hi (Itself.putObj T0 W2 _ _ _ (by omega) hl rfl)) ((World.putObj_heap_other (by omega)).trans hk)
    · refine ⟨some c, _, by have := run_endLoop (P := P) hl (by rw [hrec]; simp); rw [hrec] at this; exact this, ?_⟩
      exact hstop _ c pre _ (Nat.le_refl _) hSp (hIx c _ _ _ hi (Itself.putObj T0 W2 _ _ _ (by omega) hl rfl)) ((World.putObj_heap_other (by omega)).trans hk)
end Go.Proofs.Ytefmojohabdjcaa

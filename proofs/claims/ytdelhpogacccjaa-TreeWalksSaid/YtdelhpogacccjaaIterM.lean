/-
  A range over a function, for iterators that turn some elder blocks too (a map that they share): XIter's law with these blocks told, and with what the iterator leaves behind.
-/
import Derived.Test.YtdelhpogacccjaaIter
set_option linter.unusedVariables false
set_option linter.unusedSimpArgs false
namespace Go.Proofs.Ytdelhpogacccjaa
open Go Go.RowKit

/-- What the iterator's own steps do: as 'Itself', but of the blocks below D it may turn those of 'mut'. -/
structure ItselfM (T0 : TypeId → Prop) (D : Nat) (mut' : Nat → Prop) (A B : World) : Prop where
  os : B.os = A.os
  tape : B.tape = A.tape
  output : B.output = A.output
  size : A.heap.size ≤ B.heap.size
  below : ∀ k, k < D → ¬ mut' k → B.heap[k]? = A.heap[k]?
  same : ∀ (k : Nat) (c : Array Value) (e : TypeId) (fz : Nat × Nat), ¬ T0 e → A.heap[k]? = some (.cells c e fz) → B.heap[k]? = some (.cells c e fz)
  kind : ∀ (k : Nat) (o : Obj), k < D → mut' k → A.heap[k]? = some o → o.isCells = false → ∃ o', B.heap[k]? = some o' ∧ o'.isCells = false
theorem ItselfM.of {T0 D} {mut' : Nat → Prop} {A B : World} (h : Itself T0 D A B) : ItselfM T0 D mut' A B := ⟨h.os, h.tape, h.output, h.size, fun k hk _ => h.below k hk, h.same, fun k o hk _ ho hc => ⟨o, (h.below k hk).trans ho, hc⟩⟩
theorem ItselfM.refl (T0 D mut') (A : World) : ItselfM T0 D mut' A A := ⟨rfl, rfl, rfl, Nat.le_refl _, fun _ _ _ => rfl, fun _ _ _ _ _ h => h, fun k o _ _ ho hc => ⟨o, ho, hc⟩⟩
theorem ItselfM.trans {T0 D mut'} {A B C : World} (h : ItselfM T0 D mut' A B) (k : ItselfM T0 D mut' B C) : ItselfM T0 D mut' A C :=
  ⟨k.os.trans h.os, k.tape.trans h.tape, k.output.trans h.output, Nat.le_trans h.size k.size, fun i hi hn => (k.below i hi hn).trans (h.below i hi hn), fun i c e fz he hi => k.same i c e fz he (h.same i c e fz he hi), fun i o hi hm ho hc => by
    obtain ⟨o', h1, h2⟩ := h.kind i o hi hm ho hc
    exact k.kind i o' hi hm h1 h2⟩
theorem ItselfM.mono {T0 T0' : TypeId → Prop} {D D' : Nat} {m m' : Nat → Prop} {A B : World} (h : ItselfM T0 D m A B) (hT : ∀ e, T0 e → T0' e) (hD : D' ≤ D) (hm : ∀ k, k < D' → m k → m' k) : ItselfM T0' D' m' A B :=
  ⟨h.os, h.tape, h.output, h.size, fun k hk hn => h.below k (by omega) (fun x => hn (hm k hk x)), fun k c e fz he => h.same k c e fz (fun x => he (hT e x)), fun k o hk _ ho hc => by
    by_cases hmk : m k
    · exact h.kind k o (by omega) hmk ho hc
    · exact ⟨o, (h.below k (by omega) hmk).trans ho, hc⟩⟩
/-- Where the shared blocks are one's own (from D on), they are as all else that one turns. -/
theorem ItselfM.own {T0 : TypeId → Prop} {D D' : Nat} {m : Nat → Prop} {A B : World} (h : ItselfM T0 D m A B) (hD : D' ≤ D) (hm : ∀ k, m k → D' ≤ k) : Itself T0 D' A B :=
  ⟨h.os, h.tape, h.output, h.size, fun k hk => h.below k (by omega) (fun x => by have := hm k x; omega), h.same⟩
theorem ItselfM.boxed {T0 D m} {A B : World} (h : ItselfM T0 D m A B) {k : Nat} {t : TypeId} {v : Value} (hb : Boxed A k t v) (hp : (k < D ∧ ¬ m k) ∨ ¬ T0 t) : Boxed B k t v := by
  rcases hp with hp | hp
  · exact (h.below k hp.1 hp.2).trans hb
  · exact h.same k _ _ _ hp hb
/-- A map that is shared is turned. -/
theorem ItselfM.putObj (T0) {D : Nat} {m : Nat → Prop} (W : World) (l : Nat) (o o' : Obj) (hD : m l ∨ D ≤ l) (hl : W.heap[l]? = some o) (ho : o.isCells = false) (ho' : o'.isCells = false) : ItselfM T0 D m W (W.putObj l o') :=
  ⟨rfl, rfl, rfl, by simp, fun k hk hn => World.putObj_heap_other (by rintro rfl; rcases hD with h | h; { exact hn h }; omega), fun k c e fz _ hk => by
    by_cases e2 : k = l
    · subst e2; rw [hl] at hk; cases hk; cases ho
    · exact (World.putObj_heap_other e2).trans hk, fun k oo hk hm h1 h2 => by
    by_cases e2 : k = l
    · subst e2; exact ⟨o', World.putObj_heap_same (Array.getElem?_eq_some_iff.1 hl).1, ho'⟩
    · exact ⟨oo, (World.putObj_heap_other e2).trans h1, h2⟩⟩

/-- The iterator g, as in 'Iter': it turns the blocks of 'mut' too; behind the whole walk E holds. -/
def IterM {α : Type} (P : Program) (g : Nat) (lb : Array Value) (encs : α → Array Value) (T0 : TypeId → Prop) (cap mut' : Nat → Prop) (capW : World → Prop)
    (step : List α → α → Prop) (S Sp : List α → Prop) (E : World → Prop) : Prop :=
  ∀ (l : Nat) (T : TypeId → Prop) (J Jx : List α → World → Prop) (W : World), capW W → (∀ e, T e → ¬ T0 e) →
    (∀ s A B, J s A → ItselfM T0 W.heap.size mut' A B → J s B) → (∀ s A B, Jx s A → ItselfM T0 W.heap.size mut' A B → Jx s B) →
    (∀ pre x W1, J pre W1 → step pre x → YieldAt Fence.wide 0 P l (encs x) W1 fun e W' =>
      Keeps T cap W.heap.size W1 W' ∧ ((e = .returned (.bool true) ∧ J (pre ++ [x]) W') ∨ (e = .returned (.bool false) ∧ Jx (pre ++ [x]) W'))) →
    J [] W →
    Calls P g (#[.func (.yield l) #[] #[]] ++ lb) W fun e W' => (∃ v, e = .returned v) ∧ ((∃ xs, S xs ∧ J xs W' ∧ E W') ∨ (∃ pre, Sp pre ∧ Jx pre W'))
/-- One that shares nothing. -/
theorem Iter.toM {α : Type} {P : Program} {g : Nat} {lb : Array Value} {encs : α → Array Value} {T0 : TypeId → Prop} {cap : Nat → Prop} {capW : World → Prop} {step : List α → α → Prop} {S Sp : List α → Prop}
    (h : Iter P g lb encs T0 cap capW step S Sp) : IterM P g lb encs T0 cap (fun _ => False) capW step S Sp (fun _ => True) := by
  intro l T J Jx W hc hT hJ hJx hY h0
  refine (h l T J Jx W hc hT (fun s A B hs hi => hJ s A B hs (ItselfM.of hi)) (fun s A B hs hi => hJx s A B hs (ItselfM.of hi)) hY h0).mono ?_
  rintro e W' ⟨hv, (⟨xs, h1, h2⟩ | h1)⟩
  · exact ⟨hv, .inl ⟨xs, h1, h2, trivial⟩⟩
  · exact ⟨hv, .inr h1⟩
variable {n : Nat} {P : Program}

set_option maxHeartbeats 1000000 in
/-- The statement 'for .. := range g { .. }' outside of any round. -/
theorem wpIn_rangeIterM {α : Type} {g : Operand} {ps : Array Tmp} {assign body : Code} {Q : Exit → Act → World → Prop} {a : Act} {w : World}
    {gf : Nat} {lb : Array Value} (hg : a.eval g = .func (.func gf) #[] lb) (eg : ∀ args w, (callFunc gf args).run P w = .ok (.enter gf args) w)
    {encs : α → Array Value} {T0 : TypeId → Prop} {cap mut' : Nat → Prop} {capW : World → Prop} {step : List α → α → Prop} {S Sp : List α → Prop} {E : World → Prop}
    (hit : IterM P gf lb encs T0 cap mut' capW step S Sp E) (hmut : ∀ k, mut' k → k < w.heap.size) (hE : ∀ A B l, w.heap.size ≤ l → E A → (∀ k, k ≠ l → B.heap[k]? = A.heap[k]?) → E B) (T : TypeId → Prop) (hT : ∀ e, T e → ¬ T0 e) (hps : ∀ x, (encs x).size = ps.size)
    (hcap : ∀ k, cap k → k < w.heap.size) (hcW : ∀ W, Below w.heap.size w W → capW W)
    (I : List α → World → Prop) (Ix : Code → List α → World → Prop)
    (hI : ∀ s A B, I s A → ItselfM T0 w.heap.size mut' A B → I s B) (hIx : ∀ c s A B, Ix c s A → ItselfM T0 w.heap.size mut' A B → Ix c s B) (h0 : I [] w)
    (hround : ∀ (l : Nat) (pre : List α) (x : α) (W : World), w.heap.size ≤ l → (∃ r, W.heap[l]? = some (.loop r)) → I pre W → step pre x →
      assign.wpIn (Fence.wide.inRound l) 0 P (Exit.then (fun a₁ W₁ => Keeps T cap w.heap.size W W₁ ∧ (∀ W₂, Itself T0 w.heap.size W₁ W₂ → W₂.heap.size = W₁.heap.size → (∃ r, W₂.heap[l]? = some (.loop r)) →
        (∀ k, k ≠ l → W₂.heap[k]? = W₁.heap[k]?) → body.wpIn (Fence.wide.inRound l) 0 P (bodyOf T cap w.heap.size I Ix (pre ++ [x]) W₂) a₁ W₂)) (fun _ _ _ => False))
        { tmps := (ps.zip (encs x)).foldl (fun t (p, v) => t.setIfInBounds p v) a.tmps, defers := [] } W)
    (hdone : ∀ (D : Nat) (xs : List α) (W : World), w.heap.size ≤ D → S xs → I xs W → E W → W.heap[D]? = some (.deferred (some [])) → Q .normal { a with defers := { target := .collected D, args := #[] } :: a.defers } W)
    (hstop : ∀ (D : Nat) (c : Code) (pre : List α) (W : World), w.heap.size ≤ D → Sp pre → Ix c pre W → W.heap[D]? = some (.deferred (some [])) →
      c.wpIn Fence.wide n P Q { a with defers := { target := .collected D, args := #[] } :: a.defers } W) :
    (Code.rangeFunc g ps assign body).wpIn Fence.wide n P Q a w := by
  refine wpIn_rangeFunc fun fn hfn => ?_
  obtain ⟨rec, hrec⟩ : ∃ rec : LoopState → Option Code → Loop, rec = fun st pe => { state := st, pending := pe, fn, tmps := a.tmps, params := ps, assign, body, defers := w.heap.size } := ⟨_, rfl⟩
  obtain ⟨W1, hW1⟩ : ∃ W1, (w.alloc (.deferred (some []))).alloc (.loop (rec .ready none)) = W1 := ⟨_, rfl⟩
  have hsz : W1.heap.size = w.heap.size + 2 := by rw [← hW1]; simp
  have hI01 : Itself T0 w.heap.size w W1 := by
    rw [← hW1]; exact (Itself.alloc T0 w _ (Nat.le_refl _)).trans (Itself.alloc T0 _ _ (by simp))
  have hL1 : W1.heap[w.heap.size + 1]? = some (.loop (rec .ready none)) := by
    rw [← hW1]; have := World.alloc_heap_new (w.alloc (.deferred (some []))) (.loop (rec .ready none)); rwa [World.size_alloc] at this
  have hK1 : W1.heap[w.heap.size]? = some (.deferred (some [])) := by
    rw [← hW1]; exact (Below.heap_alloc _ _ _ (by simp)).trans (World.alloc_heap_new w _)
  refine ⟨w.heap.size + 1, [{ target := .collected w.heap.size, args := #[] }], W1, { target := .fn (.func gf) lb, args := #[.func (.yield (w.heap.size + 1)) #[] #[]] }, W1, gf,
    #[.func (.yield (w.heap.size + 1)) #[] #[]] ++ lb, W1, ?_, ?_, fun _ _ => trivial, ?_, (fun h => by cases h), ?_⟩
  · rw [← hW1, hrec]; exact run_enterLoop_outer _ _ _ _ _
  · simp only [resolve, hg]
    simp [go_sem]
  · simp [invoke, go_sem, eg]
  refine callsIn_wide.2 ((hit (w.heap.size + 1) T
      (fun pre W => I pre W ∧ W.heap[w.heap.size + 1]? = some (.loop (rec .ready none)) ∧ W.heap[w.heap.size]? = some (.deferred (some [])))
      (fun pre W => ∃ c, Ix c pre W ∧ W.heap[w.heap.size + 1]? = some (.loop (rec .done (some c))) ∧ W.heap[w.heap.size]? = some (.deferred (some [])))
      W1 (hcW _ hI01.toBelow) hT ?_ ?_ ?_ ⟨hI _ _ _ h0 (ItselfM.of hI01), hL1, hK1⟩).mono ?_)
  · rintro s A B ⟨h1, h2, h3⟩ hAB
    rw [hsz] at hAB
    exact ⟨hI _ _ _ h1 (hAB.mono (fun _ h => h) (by omega) (fun _ _ h => h)), (hAB.below _ (by omega) (fun x => by have := hmut _ x; omega)).trans h2, (hAB.below _ (by omega) (fun x => by have := hmut _ x; omega)).trans h3⟩
  · rintro s A B ⟨c, h1, h2, h3⟩ hAB
    rw [hsz] at hAB
    exact ⟨c, hIx c _ _ _ h1 (hAB.mono (fun _ h => h) (by omega) (fun _ _ h => h)), (hAB.below _ (by omega) (fun x => by have := hmut _ x; omega)).trans h2, (hAB.below _ (by omega) (fun x => by have := hmut _ x; omega)).trans h3⟩
  · -- one round
    rintro pre x W ⟨hi, hl, hk⟩ hst
    have hy := run_yield (P := P) (args := encs x) hl (by rw [hrec]; exact hps x)
    rw [hrec] at hy
    refine ⟨fn, _, assign, body, hy, roundIn_of_wpIn hfn (wpIn_mono (hround _ pre x W (by omega) ⟨_, hl⟩ hi hst) ?_)⟩
    rintro e a₁ Wa hq
    cases e with
    | normal =>
      obtain ⟨hka, hnext⟩ := hq
      have hnc : ¬ cap (w.heap.size + 1) := fun h => by have := hcap _ h; omega
      have hkeep : ∀ {X Y : World}, Keeps T cap w.heap.size X Y → X.heap[w.heap.size]? = some (.deferred (some [])) → Y.heap[w.heap.size]? = some (.deferred (some [])) :=
        fun h h' => h.same _ _ h' (.inr ⟨Nat.le_refl _, fun _ _ _ _ e => by cases e⟩)
      have hkeepL : ∀ {X Y : World} {r : Loop}, Keeps T cap w.heap.size X Y → X.heap[w.heap.size + 1]? = some (.loop r) → Y.heap[w.heap.size + 1]? = some (.loop r) :=
        fun h h' => h.same _ _ h' (.inr ⟨by omega, fun _ _ _ _ e => by cases e⟩)
      have hl1 := hkeepL hka hl
      have hk1 := hkeep hka hk
      refine ⟨_, run_beginRound hl1 (by rw [hrec]), ?_⟩
      have hlt : w.heap.size + 1 < Wa.heap.size := (Array.getElem?_eq_some_iff.1 hl1).1
      have hit2 : Itself T0 w.heap.size Wa (Wa.putObj (w.heap.size + 1) (.loop { rec .ready none with state := .busy })) := Itself.putObj T0 Wa _ _ _ (by omega) hl1 rfl
      have hl2 : (Wa.putObj (w.heap.size + 1) (.loop { rec .ready none with state := .busy })).heap[w.heap.size + 1]? = some (.loop { rec .ready none with state := .busy }) := World.putObj_heap_same hlt
      have hk2 : (Wa.putObj (w.heap.size + 1) (.loop { rec .ready none with state := .busy })).heap[w.heap.size]? = some (.deferred (some [])) := (World.putObj_heap_other (by omega)).trans hk1
      have hkp : ∀ {X : World} (o' : Obj), Keeps T cap W1.heap.size X (X.putObj (w.heap.size + 1) o') := fun o' => Keeps.putObj T _ _ o' hnc (by omega)
      have hup : ∀ {X Y : World}, Keeps T cap w.heap.size X Y → Keeps T cap W1.heap.size X Y := fun h => h.mono (fun _ h => h) (by omega) (fun _ _ _ h => .inl h)
      have hkW2 : Keeps T cap W1.heap.size W (Wa.putObj (w.heap.size + 1) (.loop { rec .ready none with state := .busy })) := (hup hka).trans (hkp _)
      -- the body's premise speaks of blocks from w.heap.size on: the record itself is turned by the round's beginning: told apart
      have fin : ∀ (jump : Option Code) (W3 : World), Keeps T cap w.heap.size (Wa.putObj (w.heap.size + 1) (.loop { rec .ready none with state := .busy })) W3 →
          (Instr.endRound (w.heap.size + 1) jump).run P W3 = .ok (.bool jump.isNone) (W3.putObj (w.heap.size + 1) (.loop (rec (if jump.isNone then .ready else .done) jump))) ∧
          Itself T0 w.heap.size W3 (W3.putObj (w.heap.size + 1) (.loop (rec (if jump.isNone then .ready else .done) jump))) ∧
          (W3.putObj (w.heap.size + 1) (.loop (rec (if jump.isNone then .ready else .done) jump))).heap[w.heap.size + 1]? = some (.loop (rec (if jump.isNone then .ready else .done) jump)) ∧
          (W3.putObj (w.heap.size + 1) (.loop (rec (if jump.isNone then .ready else .done) jump))).heap[w.heap.size]? = some (.deferred (some [])) ∧
          Keeps T cap W1.heap.size W (W3.putObj (w.heap.size + 1) (.loop (rec (if jump.isNone then .ready else .done) jump))) := fun jump W3 hk3 => by
        have hl3 := hkeepL hk3 hl2
        have hk3' := hkeep hk3 hk2
        have he := run_endRound (P := P) jump hl3
        rw [hrec] at he ⊢
        refine ⟨he, Itself.putObj T0 W3 _ _ _ (by omega) hl3 rfl, World.putObj_heap_same (Array.getElem?_eq_some_iff.1 hl3).1, (World.putObj_heap_other (by omega)).trans hk3', ?_⟩
        have := (hkW2.trans (hup hk3)).trans (hkp (X := W3) (.loop (rec (if jump.isNone then .ready else .done) jump)))
        rw [hrec] at this
        exact this
      refine wpIn_mono (hnext _ hit2 (by simp) ⟨_, hl2⟩ (fun k hk => World.putObj_heap_other hk)) ?_
      · rintro e a3 W3 hp
        cases e with
        | normal =>
          obtain ⟨hk3, hi3⟩ := hp
          obtain ⟨hr, hits, hl4, hk4, hkk⟩ := fin none W3 hk3
          exact ⟨_, _, hr, hkk, .inl ⟨rfl, hI _ _ _ hi3 (ItselfM.of hits), hl4, hk4⟩⟩
        | ret =>
          obtain ⟨hk3, hi3⟩ := hp
          obtain ⟨hr, hits, hl4, hk4, hkk⟩ := fin (some .ret) W3 hk3
          exact ⟨_, _, hr, hkk, .inr ⟨rfl, .ret, hIx _ _ _ _ hi3 (ItselfM.of hits), hl4, hk4⟩⟩
        | exit id =>
          obtain ⟨hk3, hi3⟩ := hp
          obtain ⟨hr, hits, hl4, hk4, hkk⟩ := fin (some (.exit id)) W3 hk3
          exact ⟨_, _, hr, hkk, .inr ⟨rfl, .exit id, hIx _ _ _ _ hi3 (ItselfM.of hits), hl4, hk4⟩⟩
        | goto t =>
          obtain ⟨hk3, hi3⟩ := hp
          obtain ⟨hr, hits, hl4, hk4, hkk⟩ := fin (some (.goto t)) W3 hk3
          exact ⟨_, _, hr, hkk, .inr ⟨rfl, .goto t, hIx _ _ _ _ hi3 (ItselfM.of hits), hl4, hk4⟩⟩
        | panic ch => exact hp.elim
        | outgrown => exact hp.elim
    | exit id => exact hq.elim
    | goto t => exact hq.elim
    | ret => exact hq.elim
    | panic ch => exact hq.elim
    | outgrown => exact hq.elim
  · rintro e W2 ⟨⟨v, rfl⟩, (⟨xs, hS, ⟨hi, hl, hk⟩, hEW⟩ | ⟨pre, hSp, c, hi, hl, hk⟩)⟩
    · refine ⟨none, _, by have := run_endLoop (P := P) hl (by rw [hrec]; simp); rw [hrec] at this; exact this, ?_⟩
      exact hdone _ xs _ (Nat.le_refl _) hS (hI _ _ _ hi (ItselfM.of (Itself.putObj T0 W2 _ _ _ (by omega) hl rfl))) (hE _ _ (w.heap.size + 1) (by omega) hEW (fun k hk => World.putObj_heap_other hk)) ((World.putObj_heap_other (by omega)).trans hk)
    · refine ⟨some c, _, by have := run_endLoop (P := P) hl (by rw [hrec]; simp); rw [hrec] at this; exact this, ?_⟩
      exact hstop _ c pre _ (Nat.le_refl _) hSp (hIx c _ _ _ hi (ItselfM.of (Itself.putObj T0 W2 _ _ _ (by omega) hl rfl))) ((World.putObj_heap_other (by omega)).trans hk)
end Go.Proofs.Ytdelhpogacccjaa

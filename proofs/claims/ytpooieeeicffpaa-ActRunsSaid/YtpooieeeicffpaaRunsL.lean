/-
  The law ActRuns: its walk.
-/
import Derived.Test.YtpooieeeicffpaaChain3
import Derived.Test.YtpooieeeicffpaaLaw4
import Derived.BigQuiet
set_option linter.unusedVariables false
set_option linter.unusedSimpArgs false
namespace Go.Proofs.Ytpooieeeicffpaa
open Go Go.RowKit

theorem aNew_any (v : Value) (hv : StepV v) (w : World) : Calls Try.prog 24 #[v] w fun e w' => e = .returned (pa w.heap.size) ∧ w' = w.alloc (.cells #[v, .int .i64 0] 97) := by
  rcases hv with rfl | ⟨g, lb, rfl⟩
  · exact aNew_none w
  · exact aNew_some g lb w
theorem RS.stepV {p : RP} {A : Nat} {W : World} {v : Value} {i d : Nat} {log : List Nat} {lv : Value} (h : RS p A W v i d log lv) : StepV v := by
  rcases h.st with ⟨_, _, rfl⟩ | ⟨_, _, Kb, Ks, Ka, Kt, Ib, S, Bx, rfl, _⟩
  · exact .inl rfl
  · exact .inr ⟨_, _, rfl⟩
/-- What is not the act's own block is as it was. -/
theorem RS.other {p : RP} {A : Nat} {W W' : World} {v : Value} {i d : Nat} {log : List Nat} {lv : Value} (h : RS p A W v i d log lv) {nx : Value} {c : Nat} (hA : ActAt W A nx c) (hk : ∀ k, k < W.heap.size → k ≠ A → W'.heap[k]? = W.heap[k]?) : RS p A W' v i d log lv := by
  have kp : ∀ {k : Nat} {t : TypeId} {c : Array Value} {fz : Nat × Nat}, W.heap[k]? = some (.cells c t fz) → t ≠ 97 → W'.heap[k]? = some (.cells c t fz) := fun h ht => (hk _ (lt_of_block h) (block_ne h hA ht)).trans h
  have kr : ∀ {v : Value} {n : Nat} {xs : List Value}, W.ownsRow 0 3 1 v n xs → W'.ownsRow 0 3 1 v n xs := fun h => own_same h fun k hk' => by
    obtain ⟨c, hc⟩ := own_cells h hk'
    exact (kp hc (by decide)).trans (show W.heap[k]? = _ from hc).symm
  refine ⟨⟨kp h.env.nb (by decide), kr h.env.nr, kp h.env.hb (by decide), h.env.lo⟩, kp h.cb (by decide), ?_, kp h.lb (by decide), kr h.lr, h.lo, h.len, h.so⟩
  rcases h.st with h | ⟨h1, h2, Kb, Ks, Ka, Kt, Ib, S, Bx, h3, h4, h5, h6⟩
  · exact .inl h
  · exact .inr ⟨h1, h2, Kb, Ks, Ka, Kt, Ib, S, Bx, h3, ⟨kp h4.bk (by decide), kp h4.bs (by decide), kp h4.ba (by decide), kp h4.bt (by decide), kp h4.bi (by decide), (hk _ h4.sa.lt (Ne.symm h5)).trans h4.sa, ⟨kp h4.sc.b0 (by decide), kp h4.sc.b1 (by decide), kp h4.sc.b2 (by decide)⟩⟩, h5, h6⟩
/-- One step of the act. -/
def R2 (p : RP) (A : Nat) (W : World) (i d : Nat) (log : List Nat) (e : Ending) (w' : World) : Prop :=
  ∃ v i' d' lv, e = .returned (.bool (isNil v)) ∧ ActAt w' A v (log.length + 1) ∧ RS p A w' v i' d' (log ++ [i]) lv ∧ p.pre i' + d' = p.pre i + d + 1 ∧ Below p.Nb W w'
theorem rs_step (p : RP) (hp : ∀ i, p.n i ≤ 100) (hN : p.N ≤ 100) {A : Nat} {W : World} {v : Value} {i d : Nat} {log : List Nat} {lv : Value} (h : RS p A W v i d log lv) (hA : ActAt W A v log.length) (hi : i < p.N) (hlog : log.length < 100000) (hAN : p.Nb ≤ A) :
    Calls Try.prog 25 #[pa A] W fun e w' => R2 p A W i d log e w' := by
  rcases h.st with ⟨h1, _⟩ | ⟨h1, h2, Kb, Ks, Ka, Kt, Ib, S, Bx, rfl, h4, h5, h6, h7⟩
  · omega
  · have hA1 := hA.set0 .nilFunc
    have hk1 : ∀ k, k < W.heap.size → k ≠ A → (W.setCell ⟨A, 0, none⟩ .nilFunc).heap[k]? = W.heap[k]? := fun k _ hk => Below.heap_setCell W ⟨A, 0, none⟩ _ k hk
    have h' := h.other hA hk1
    rcases h'.st with ⟨e1, _⟩ | ⟨_, _, Kb', Ks', Ka', Kt', Ib', S', Bx', e3, e4, e5, e6, e7⟩
    · omega
    have hcap : capR Kb Ks Ka Kt = capR Kb' Ks' Ka' Kt' := by unfold fv at e3; exact (Value.func.inj e3).2.2
    have C := run1_c p hp hN A (W.setCell ⟨A, 0, none⟩ .nilFunc) .nilFunc log.length hA1 i d Kb' Ks' Ka' Kt' Ib' S' Bx' log lv hi h2 h'.env h'.cb e4 e5 e6 ⟨e7.1, e7.2.1, e7.2.2.1, e7.2.2.2.1, e7.2.2.2.2.1, e7.2.2.2.2.2.1, e7.2.2.2.2.2.2.1, e7.2.2.2.2.2.2.2.1, e7.2.2.2.2.2.2.2.2.1, e7.2.2.2.2.2.2.2.2.2⟩ h'.lb h'.lr h'.lo h'.len hlog h'.so
    rw [← hcap] at C
    refine (aStep_some A log.length 49 (capR Kb Ks Ka Kt) (by omega) (enters_of Try.func49 (by kernel_rfl) rfl) W hA (fun v w2 => R1 p A (W.setCell ⟨A, 0, none⟩ .nilFunc) i d log (.returned v) w2) (C.mono ?_)).mono ?_
    · rintro e w2 hR
      have hR2 := hR
      obtain ⟨v', i', d', lv', rfl, r1, r2, r3, r4, r5⟩ := hR
      exact ⟨v', rfl, r5, hA1.later r3, hR2⟩
    · rintro e w' ⟨v', w1, ⟨v2, i', d', lv', e1, r1, r2, r3, r4, r5⟩, _, a1, rfl, rfl⟩
      cases e1
      refine ⟨v', i', d', lv', rfl, (a1.set0 _).set1 _, r1.other a1 (fun k hk hne => ?_), r2, ?_⟩
      · exact (Below.heap_setCell _ ⟨A, 1, none⟩ _ k hne).trans (Below.heap_setCell w1 ⟨A, 0, none⟩ _ k hne)
      · exact (((Below.refl p.Nb W).setCell (p := ⟨A, 0, none⟩) hAN .nilFunc).trans r4).setCell (p := ⟨A, 0, none⟩) hAN _ |>.setCell (p := ⟨A, 1, none⟩) hAN _

/-- Where the steps end. -/
theorem RS.ends {p : RP} {A : Nat} {W : World} {v : Value} {i d : Nat} {log : List Nat} {lv : Value} (h : RS p A W v i d log lv) : isNil v = decide (p.pre i + d = p.pre p.N) ∧ p.pre i + d ≤ p.pre p.N ∧ (p.pre i + d = p.pre p.N → i = p.N ∧ v = .nilFunc) ∧ (¬ p.pre i + d = p.pre p.N → i < p.N) := by
  rcases h.st with ⟨rfl, rfl, rfl⟩ | ⟨h1, h2, Kb, Ks, Ka, Kt, Ib, S, Bx, rfl, _⟩
  · exact ⟨by rw [decide_eq_true (by omega)]; rfl, by omega, fun _ => ⟨rfl, rfl⟩, fun h => by omega⟩
  · have hm := p.pre_mono (show i + 1 ≤ p.N by omega)
    have e : p.pre (i + 1) = p.pre i + p.n i := rfl
    exact ⟨by rw [decide_eq_false (by omega)]; rfl, by omega, fun h => by omega, fun _ => h1⟩
end Go.Proofs.Ytpooieeeicffpaa

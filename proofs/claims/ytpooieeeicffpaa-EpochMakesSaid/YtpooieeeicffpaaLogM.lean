/-
  The law's own acts are a machine.
-/
import Derived.Test.YtpooieeeicffpaaLogs
set_option linter.unusedVariables false
set_option linter.unusedSimpArgs false
namespace Go.Proofs.Ytpooieeeicffpaa
open Go Go.RowKit

def put1 {α : Type} (f : Nat → α) (i : Nat) (v : α) : Nat → α := fun j => if j = i then v else f j
theorem put1_same {α : Type} (f : Nat → α) (i : Nat) (v : α) : put1 f i v i = v := by simp [put1]
theorem put1_other {α : Type} (f : Nat → α) {i j : Nat} (v : α) (h : j ≠ i) : put1 f i v j = f j := by simp [put1, h]
def namesV (l : List Nat) : List Value := l.map fun n : Nat => Value.int .i64 n
theorem namesV_snoc (l : List Nat) (x : Nat) : namesV (l ++ [x]) = namesV l ++ [.int .i64 x] := by simp [namesV]

/-- How many acts, how long each is, its block, its place in the logs; the logs' block, and how many there are. -/
structure LP where
  N : Nat
  n : Nat → Nat
  pb : Nat → Nat
  sl : Nat → Nat
  nm : Nat → Nat
  Lb : Nat
  K : Nat
structure LP.Fit (p : LP) : Prop where
  n100 : ∀ i, p.n i ≤ 100
  inj : ∀ i j, i < p.N → j < p.N → i ≠ j → p.pb i ≠ p.pb j
  slK : ∀ i, i < p.N → p.sl i < p.K
/-- How many steps each did, what each log holds, how many steps there were. -/
structure LS where
  d : Nat → Nat
  lg : Nat → List Nat
  c : Nat

structure LM (p : LP) (s : LS) (F : Nat → Prop) (W : World) (vs : Nat → Value) (bx : Nat → Nat) (cur : Array Value) : Prop where
  foot : ∀ k, F k ↔ (k = p.Lb ∨ (∃ i, i < p.N ∧ k = p.pb i) ∨ (∃ j, j < p.K ∧ (vs j).ownBlock = some k) ∨ (∃ i, i < p.N ∧ s.d i < p.n i ∧ (k = bx i ∨ k = bx i + 1 ∨ k = bx i + 2)))
  log : Cells W p.Lb 23 cur
  size : cur.size = p.K
  slot : ∀ j, j < p.K → cur[j]? = some (vs j)
  row : ∀ j, j < p.K → W.ownsRow 0 3 1 (vs j) (s.lg j).length (namesV (s.lg j))
  len : ∀ j, j < p.K → (s.lg j).length ≤ s.c
  le : ∀ i, i < p.N → s.d i ≤ p.n i
  go : ∀ i, i < p.N → s.d i < p.n i → ActAt W (p.pb i) (fv 61 (cap3 (bx i))) (s.d i) ∧ Clo W (bx i) (p.n i - s.d i) (p.nm i) p.Lb (p.sl i)
  fin : ∀ i, i < p.N → s.d i = p.n i → ActAt W (p.pb i) .nilFunc (s.d i)
  apart : ∀ j j', j < p.K → j' < p.K → j ≠ j' → ∀ k, (vs j).ownBlock = some k → (vs j').ownBlock ≠ some k
  box : ∀ j i, j < p.K → i < p.N → s.d i < p.n i → ∀ k, (vs j).ownBlock = some k → k ≠ bx i ∧ k ≠ bx i + 1 ∧ k ≠ bx i + 2

def logMach (p : LP) : Mach LS where
  N := p.N
  p := fun i => pa (p.pb i)
  M := fun s F W => ∃ vs bx cur, LM p s F W vs bx cur
  over := fun s i => decide (p.n i ≤ s.d i)
  nx := fun s i => ⟨put1 s.d i (s.d i + 1), put1 s.lg (p.sl i) (s.lg (p.sl i) ++ [p.nm i]), s.c + 1⟩
  cost := fun s => s.c

theorem own_same {A B : World} {base e size n : Nat} {v : Value} {xs : List Value} (h : A.ownsRow base e size v n xs) (hp : ∀ k, v.ownBlock = some k → B.heap[k]? = A.heap[k]?) : B.ownsRow base e size v n xs := by
  refine ⟨h.1, ?_⟩
  rcases h.2 with hn | ⟨g, cap, cur, rfl, hg, hgg, rest⟩
  · exact .inl hn
  · exact .inr ⟨g, cap, cur, rfl, hg, (hp g rfl).trans hgg, rest⟩
theorem own_cells {A : World} {base e size n : Nat} {v : Value} {xs : List Value} (h : A.ownsRow base e size v n xs) {k : Nat} (hk : v.ownBlock = some k) : ∃ cur, Cells A k e cur := by
  rcases h.2 with ⟨rfl, _⟩ | ⟨g, cap, cur, rfl, hg, hgg, rest⟩
  · cases hk
  · cases hk; exact ⟨cur, hgg⟩

theorem size_setCell (W : World) (a : Addr) (v : Value) : (W.setCell a v).heap.size = W.heap.size := by show (W.heap.modify _ _).size = _; rw [Array.size_modify]

variable {p : LP} {s : LS} {F : Nat → Prop} {A B W : World} {vs : Nat → Value} {bx : Nat → Nat} {cur : Array Value}
theorem LM.stab (h : LM p s F A vs bx cur) (hs : ∀ k, F k → B.heap[k]? = A.heap[k]?) : LM p s F B vs bx cur :=
  { h with
    log := h.log.later (hs _ ((h.foot _).2 (.inl rfl)))
    row := fun j hj => own_same (h.row j hj) fun k hk => hs k ((h.foot k).2 (.inr (.inr (.inl ⟨j, hj, hk⟩))))
    go := fun i hi hd => ⟨(h.go i hi hd).1.later (hs _ ((h.foot _).2 (.inr (.inl ⟨i, hi, rfl⟩)))), (h.go i hi hd).2.later fun k hk => hs k ((h.foot k).2 (.inr (.inr (.inr ⟨i, hi, hd, hk⟩))))⟩
    fin := fun i hi hd => (h.fin i hi hd).later (hs _ ((h.foot _).2 (.inr (.inl ⟨i, hi, rfl⟩)))) }
theorem LM.inn (h : LM p s F A vs bx cur) {k : Nat} (hk : F k) : ∃ c e fz, A.heap[k]? = some (.cells c e fz) := by
  rcases (h.foot k).1 hk with rfl | ⟨i, hi, rfl⟩ | ⟨j, hj, hj2⟩ | ⟨i, hi, hd, hk⟩
  · exact ⟨_, _, _, h.log⟩
  · by_cases hd : s.d i < p.n i
    · exact ⟨_, _, _, (h.go i hi hd).1⟩
    · exact ⟨_, _, _, h.fin i hi (by have := h.le i hi; omega)⟩
  · obtain ⟨c, hc⟩ := own_cells (h.row j hj) hj2
    exact ⟨_, _, _, hc⟩
  · have hc := (h.go i hi hd).2
    rcases hk with rfl | rfl | rfl
    · exact ⟨_, _, _, hc.b0⟩
    · exact ⟨_, _, _, hc.b1⟩
    · exact ⟨_, _, _, hc.b2⟩
theorem LM.act (h : LM p s F A vs bx cur) {i : Nat} (hi : i < p.N) : ∃ nx, ActAt A (p.pb i) nx (s.d i) := by
  by_cases hd : s.d i < p.n i
  · exact ⟨_, (h.go i hi hd).1⟩
  · exact ⟨_, h.fin i hi (by have := h.le i hi; omega)⟩
theorem LM.over (h : LM p s F A vs bx cur) {i : Nat} (hi : i < p.N) : Calls Try.prog 16 #[pa (p.pb i)] A fun e w' => e = .returned (.bool (decide (p.n i ≤ s.d i))) ∧ w' = A := by
  by_cases hd : s.d i < p.n i
  · rw [decide_eq_false (by omega)]
    exact over_some _ _ _ _ _ (h.go i hi hd).1
  · rw [decide_eq_true (by omega)]
    exact over_none _ _ _ (h.fin i hi (by have := h.le i hi; omega))

theorem tAct_ints : (97 : Nat) ≠ 23 := by decide
theorem tAct_int : (97 : Nat) ≠ 3 := by decide
theorem tAct_pints : (97 : Nat) ≠ 28 := by decide
theorem tints_int : (23 : Nat) ≠ 3 := by decide
/-- Two blocks of two types are two blocks. -/
theorem block_ne {W : World} {k l : Nat} {c c' : Array Value} {e e' : TypeId} {fz fz' : Nat × Nat} (h : W.heap[k]? = some (.cells c e fz)) (h' : W.heap[l]? = some (.cells c' e' fz')) (hne : e ≠ e') : k ≠ l := by
  intro hk
  subst hk
  rw [h] at h'
  cases h'
  exact hne rfl

theorem LM.step (hf : p.Fit) (h : LM p s F W vs bx cur) {i : Nat} (hi : i < p.N) (hd : s.d i < p.n i) (hc : s.c < 1000000) :
    Calls Try.prog 25 #[pa (p.pb i)] W fun e W' => e = .returned (.bool (decide (p.n i ≤ s.d i + 1))) ∧ ∃ F', (∃ vs' bx' cur', LM p ((logMach p).nx s i) F' W' vs' bx' cur') ∧ Moved F F' W W' := by
  obtain ⟨ha, hcl⟩ := h.go i hi hd
  have hn := hf.n100 i
  have hsl := hf.slK i hi
  obtain ⟨pi, hpi⟩ : ∃ pi, p.pb i = pi := ⟨_, rfl⟩
  have hFp : F pi := (h.foot _).2 (.inr (.inl ⟨i, hi, hpi.symm⟩))
  have hpL : pi ≠ p.Lb := by rw [← hpi]; exact block_ne ha h.log tAct_ints
  have hpo : ∀ j, j < p.K → (vs j).ownBlock ≠ some pi := fun j hj e => by
    obtain ⟨c, hcc⟩ := own_cells (h.row j hj) e
    rw [← hpi] at hcc
    exact block_ne ha hcc tAct_int rfl
  rw [hpi] at ha ⊢
  have hpb : bx i ≠ pi ∧ bx i + 1 ≠ pi ∧ bx i + 2 ≠ pi := ⟨(block_ne ha hcl.b0 tAct_int).symm, (block_ne ha hcl.b1 tAct_int).symm, (block_ne ha hcl.b2 tAct_pints).symm⟩
  -- the world in which the step is called
  obtain ⟨W1, hW1⟩ : ∃ W1, W.setCell ⟨pi, 0, none⟩ .nilFunc = W1 := ⟨_, rfl⟩
  have hs1 : W1.heap.size = W.heap.size := by rw [← hW1]; show (W.heap.modify _ _).size = _; rw [Array.size_modify]
  have hk1 : ∀ k, k ≠ pi → W1.heap[k]? = W.heap[k]? := fun k hk => by rw [← hW1]; exact Below.heap_setCell W ⟨pi, 0, none⟩ _ k hk
  have ho1 : W1.os = W.os ∧ W1.tape = W.tape ∧ W1.output = W.output := by rw [← hW1]; exact ⟨rfl, rfl, rfl⟩
  have ha1 : ActAt W1 pi .nilFunc (s.d i) := by rw [← hW1]; exact ha.set0 _
  have hrow := h.row _ hsl
  have C := next1_c W1 (bx i) (p.n i - s.d i) (p.nm i) p.Lb (p.sl i) cur (vs (p.sl i)) _ _ (hcl.later fun k hk => hk1 k (by rcases hk with rfl | rfl | rfl; exact hpb.1; exact hpb.2.1; exact hpb.2.2)) (h.log.later (hk1 _ (Ne.symm hpL))) (h.slot _ hsl)
    (own_same hrow fun k hk => hk1 k (fun e => hpo _ hsl (by rw [← e]; exact hk))) (by have := h.len _ hsl; omega) (by omega) (by omega) (fun k hk => by
      obtain ⟨a, b, c⟩ := h.box _ i hsl hi hd k hk
      obtain ⟨c1, hcc⟩ := own_cells hrow hk
      exact ⟨a, b, c, (block_ne h.log hcc tints_int).symm⟩)
  have hpiW : pi < W.heap.size := ha.lt
  refine (aStep_some pi (s.d i) 61 (cap3 (bx i)) (by omega) (enters_of Try.func61 (by kernel_rfl) rfl) W ha (fun v w2 => N1 W1 (bx i) (p.n i - s.d i) (p.nm i) p.Lb (p.sl i) cur (vs (p.sl i)) (s.lg (p.sl i)).length (namesV (s.lg (p.sl i))) (.returned v) w2) ?_).mono ?_
  · rw [hW1]
    refine C.mono ?_
    rintro e w2 hN
    have hN2 := hN
    obtain ⟨nx, g, cap, rfl, hnx, h1, h2, h3, h4, h5, _⟩ := hN
    refine ⟨nx, rfl, ?_, ha1.later (h4 pi (by omega) hpL (hpo _ hsl)), hN2⟩
    rcases hnx with ⟨_, rfl⟩ | ⟨_, B', rfl, _⟩
    · exact .inl rfl
    · exact .inr ⟨_, _, rfl⟩
  · rintro e W' ⟨nv, w2, hN, _, ha2, rfl, rfl⟩
    obtain ⟨nx, g, cap, hnv, hnx, h1, h2, h3, h4, h5, h6, h7, h8⟩ := hN
    cases hnv
    obtain ⟨W', hW'⟩ : ∃ W', (w2.setCell ⟨pi, 0, none⟩ nv).setCell ⟨pi, 1, none⟩ (.int .i64 ((s.d i + 1 : Nat) : Int)) = W' := ⟨_, rfl⟩
    have ha' : ActAt W' pi nv (s.d i + 1) := by rw [← hW']; exact (ha2.set0 _).set1 _
    have hk' : ∀ k, k ≠ pi → W'.heap[k]? = w2.heap[k]? := fun k hk => by
      rw [← hW']; exact (Below.heap_setCell _ ⟨pi, 1, none⟩ _ k hk).trans (Below.heap_setCell w2 ⟨pi, 0, none⟩ _ k hk)
    have hs' : W'.heap.size = w2.heap.size := by rw [← hW', size_setCell, size_setCell]
    have ho' : W'.os = w2.os ∧ W'.tape = w2.tape ∧ W'.output = w2.output := by rw [← hW']; exact ⟨rfl, rfl, rfl⟩
    rw [hW']
    clear hW'
    -- what is kept
    have keep : ∀ k, k < W.heap.size → k ≠ pi → k ≠ p.Lb → (vs (p.sl i)).ownBlock ≠ some k → W'.heap[k]? = W.heap[k]? := fun k hk a b c => (hk' k a).trans ((h4 k (by omega) b c).trans (hk1 k a))
    have hgpi : g ≠ pi := by
      rcases h3 with h3 | h3
      · intro e; exact hpo _ hsl (by rw [h3, e])
      · omega
    have hv' : (Value.slice (some ⟨g, 0, none⟩) ((s.lg (p.sl i)).length + 1) cap).ownBlock = some g := rfl
    obtain ⟨vs', hvs⟩ : ∃ vs', put1 vs (p.sl i) (Value.slice (some ⟨g, 0, none⟩) ((s.lg (p.sl i)).length + 1) cap) = vs' := ⟨_, rfl⟩
    have vsame : vs' (p.sl i) = Value.slice (some ⟨g, 0, none⟩) ((s.lg (p.sl i)).length + 1) cap := by rw [← hvs]; exact put1_same _ _ _
    have vother : ∀ j, j ≠ p.sl i → vs' j = vs j := fun j hj => by rw [← hvs]; exact put1_other _ _ hj
    obtain ⟨B', hB'⟩ : ∃ B', (p.n i - s.d i = 1 ∧ nv = .nilFunc) ∨ (1 < p.n i - s.d i ∧ nv = fv 61 (cap3 B') ∧ W1.heap.size ≤ B' ∧ g < B' ∧ Clo w2 B' (p.n i - s.d i - 1) (p.nm i) p.Lb (p.sl i)) := by
      rcases hnx with hx | ⟨hx, B', hb⟩
      · exact ⟨0, .inl hx⟩
      · exact ⟨B', .inr ⟨hx, hb⟩⟩
    obtain ⟨bx', hbx⟩ : ∃ bx', put1 bx i B' = bx' := ⟨_, rfl⟩
    have bsame : bx' i = B' := by rw [← hbx]; exact put1_same _ _ _
    have bother : ∀ j, j ≠ i → bx' j = bx j := fun j hj => by rw [← hbx]; exact put1_other _ _ hj
    have dsame : put1 s.d i (s.d i + 1) i = s.d i + 1 := put1_same _ _ _
    have dother : ∀ j, j ≠ i → put1 s.d i (s.d i + 1) j = s.d j := fun j hj => put1_other _ _ hj
    have lsame : put1 s.lg (p.sl i) (s.lg (p.sl i) ++ [p.nm i]) (p.sl i) = s.lg (p.sl i) ++ [p.nm i] := put1_same _ _ _
    have lother : ∀ j, j ≠ p.sl i → put1 s.lg (p.sl i) (s.lg (p.sl i) ++ [p.nm i]) j = s.lg j := fun j hj => put1_other _ _ hj
    -- a row's block, old or new
    have hold : ∀ j, j < p.K → j ≠ p.sl i → ∀ k, (vs j).ownBlock = some k → k < W.heap.size ∧ k ≠ pi ∧ k ≠ p.Lb ∧ (vs (p.sl i)).ownBlock ≠ some k := fun j hj hne k hk => by
      refine ⟨((h.row j hj).lt k hk).2, fun e => hpo j hj (by rw [← e]; exact hk), ?_, fun e => h.apart j _ hj hsl hne k hk e⟩
      obtain ⟨c, hcc⟩ := own_cells (h.row j hj) hk
      exact (block_ne h.log hcc tints_int).symm
    refine ⟨?_, fun k => (k = p.Lb ∨ (∃ i, i < p.N ∧ k = p.pb i) ∨ (∃ j, j < p.K ∧ (vs' j).ownBlock = some k) ∨ (∃ j, j < p.N ∧ put1 s.d i (s.d i + 1) j < p.n j ∧ (k = bx' j ∨ k = bx' j + 1 ∨ k = bx' j + 2))), ⟨vs', bx', cur.setIfInBounds (p.sl i) (Value.slice (some ⟨g, 0, none⟩) ((s.lg (p.sl i)).length + 1) cap), ?_⟩, ?_⟩
    · rcases hB' with ⟨h9, rfl⟩ | ⟨h9, rfl, _⟩
      · rw [decide_eq_true (by omega)]; rfl
      · rw [decide_eq_false (by omega)]; rfl
    · constructor
      case foot => exact fun k => Iff.rfl
      case log => exact h1.later (hk' _ (Ne.symm hpL))
      case size => rw [Array.size_setIfInBounds]; exact h.size
      case slot =>
        intro j hj
        by_cases hjs : j = p.sl i
        · subst hjs
          rw [vsame, Array.getElem?_setIfInBounds_self_of_lt (by rw [h.size]; exact hj)]
        · rw [vother j hjs, Array.getElem?_setIfInBounds_ne (Ne.symm hjs)]
          exact h.slot j hj
      case row =>
        intro j hj
        show W'.ownsRow 0 3 1 (vs' j) (put1 s.lg (p.sl i) (s.lg (p.sl i) ++ [p.nm i]) j).length (namesV (put1 s.lg (p.sl i) (s.lg (p.sl i) ++ [p.nm i]) j))
        by_cases hjs : j = p.sl i
        · subst hjs
          rw [vsame, lsame, List.length_append, List.length_singleton, namesV_snoc]
          exact own_same h2 fun k hk => by cases hk; exact hk' _ hgpi
        · rw [vother j hjs, lother j hjs]
          exact own_same (h.row j hj) fun k hk => by
            obtain ⟨a, b, c, d⟩ := hold j hj hjs k hk
            exact keep k a b c d
      case len =>
        intro j hj
        show (put1 s.lg (p.sl i) (s.lg (p.sl i) ++ [p.nm i]) j).length ≤ s.c + 1
        have := h.len j hj
        by_cases hjs : j = p.sl i
        · subst hjs; rw [lsame, List.length_append, List.length_singleton]; omega
        · rw [lother j hjs]; omega
      case le =>
        intro j hj
        show put1 s.d i (s.d i + 1) j ≤ p.n j
        by_cases hji : j = i
        · subst hji; rw [dsame]; omega
        · rw [dother j hji]; exact h.le j hj
      case go =>
        intro j hj hdj
        change put1 s.d i (s.d i + 1) j < p.n j at hdj
        show ActAt W' (p.pb j) (fv 61 (cap3 (bx' j))) (put1 s.d i (s.d i + 1) j) ∧ Clo W' (bx' j) (p.n j - put1 s.d i (s.d i + 1) j) (p.nm j) p.Lb (p.sl j)
        by_cases hji : j = i
        · subst hji
          rw [dsame] at hdj ⊢
          rw [bsame, hpi]
          rcases hB' with ⟨h9, _⟩ | ⟨h9, rfl, h10, h11, h12⟩
          · omega
          · refine ⟨ha', ?_⟩
            rw [show p.n j - (s.d j + 1) = p.n j - s.d j - 1 by omega]
            exact h12.later fun k hk => hk' k (by omega)
        · rw [dother j hji] at hdj ⊢
          rw [bother j hji]
          obtain ⟨q1, q2⟩ := h.go j hj hdj
          have hjp : p.pb j ≠ pi := by rw [← hpi]; exact hf.inj j i hj hi hji
          refine ⟨q1.later (keep _ q1.lt hjp (block_ne q1 h.log tAct_ints) (fun e => by
            obtain ⟨c, hcc⟩ := own_cells hrow e
            exact block_ne q1 hcc tAct_int rfl)), q2.later fun k hk => ?_⟩
          have hkb : k < W.heap.size ∧ k ≠ pi ∧ k ≠ p.Lb := by
            rcases hk with rfl | rfl | rfl
            · exact ⟨q2.b0.lt, (block_ne ha q2.b0 tAct_int).symm, (block_ne h.log q2.b0 tints_int).symm⟩
            · exact ⟨q2.b1.lt, (block_ne ha q2.b1 tAct_int).symm, (block_ne h.log q2.b1 tints_int).symm⟩
            · exact ⟨q2.b2.lt, (block_ne ha q2.b2 tAct_pints).symm, (block_ne h.log q2.b2 (by decide)).symm⟩
          exact keep k hkb.1 hkb.2.1 hkb.2.2 (fun e => by have := h.box _ j hsl hj hdj k e; omega)
      case fin =>
        intro j hj hdj
        change put1 s.d i (s.d i + 1) j = p.n j at hdj
        show ActAt W' (p.pb j) .nilFunc (put1 s.d i (s.d i + 1) j)
        by_cases hji : j = i
        · subst hji
          rw [dsame] at hdj ⊢
          rw [hpi]
          rcases hB' with ⟨h9, rfl⟩ | ⟨h9, _⟩
          · exact ha'
          · omega
        · rw [dother j hji] at hdj ⊢
          have q1 := h.fin j hj hdj
          have hjp : p.pb j ≠ pi := by rw [← hpi]; exact hf.inj j i hj hi hji
          exact q1.later (keep _ q1.lt hjp (block_ne q1 h.log tAct_ints) (fun e => by
            obtain ⟨c, hcc⟩ := own_cells hrow e
            exact block_ne q1 hcc tAct_int rfl))
      case apart =>
        intro j j' hj hj' hne k hk
        by_cases hjs : j = p.sl i
        · have hjs' : j' ≠ p.sl i := fun e => hne (hjs.trans e.symm)
          rw [hjs, vsame] at hk
          cases hk
          rw [vother j' hjs']
          intro e
          have hlt := ((h.row j' hj').lt g e).2
          rcases h3 with h3 | h3
          · exact h.apart _ j' hsl hj' (Ne.symm hjs') g h3 e
          · omega
        · rw [vother j hjs] at hk
          by_cases hjs' : j' = p.sl i
          · rw [hjs', vsame]
            intro e
            cases e
            have hlt := ((h.row j hj).lt g hk).2
            rcases h3 with h3 | h3
            · exact h.apart j _ hj hsl hjs g hk h3
            · omega
          · rw [vother j' hjs']
            exact h.apart j j' hj hj' hne k hk
      case box =>
        intro j i' hj hi' hdi k hk
        change put1 s.d i (s.d i + 1) i' < p.n i' at hdi
        by_cases hii : i' = i
        · subst hii
          rw [bsame]
          rw [dsame] at hdi
          rcases hB' with ⟨h9, _⟩ | ⟨h9, rfl, h10, h11, h12⟩
          · omega
          · by_cases hjs : j = p.sl i'
            · rw [hjs, vsame] at hk
              obtain rfl : g = k := Option.some.inj hk
              omega
            · rw [vother j hjs] at hk
              have := ((h.row j hj).lt k hk).2
              omega
        · rw [bother i' hii]
          rw [dother i' hii] at hdi
          by_cases hjs : j = p.sl i
          · rw [hjs, vsame] at hk
            obtain rfl : g = k := Option.some.inj hk
            rcases h3 with h3 | h3
            · exact h.box _ i' hsl hi' hdi g h3
            · have q2 := (h.go i' hi' hdi).2
              have := q2.b0.lt
              have := q2.b1.lt
              have := q2.b2.lt
              omega
          · rw [vother j hjs] at hk
            exact h.box j i' hj hi' hdi k hk
    · refine ⟨ho'.1.trans (h6.trans ho1.1), ho'.2.1.trans (h7.trans ho1.2.1), ho'.2.2.trans (h8.trans ho1.2.2), by omega, fun k hk hn => keep k hk (fun e => hn (by rw [e]; exact hFp)) (fun e => hn (by rw [e]; exact (h.foot _).2 (.inl rfl))) (fun e => hn ((h.foot k).2 (.inr (.inr (.inl ⟨_, hsl, e⟩))))), fun k hk hf' => (h.foot k).2 ?_⟩
      rcases hf' with rfl | ⟨j, hj, rfl⟩ | ⟨j, hj, hjk⟩ | ⟨j, hj, hdj, hjk⟩
      · exact .inl rfl
      · exact .inr (.inl ⟨j, hj, rfl⟩)
      · by_cases hjs : j = p.sl i
        · rw [hjs, vsame] at hjk
          obtain rfl : g = k := Option.some.inj hjk
          rcases h3 with h3 | h3
          · exact .inr (.inr (.inl ⟨_, hsl, h3⟩))
          · omega
        · rw [vother j hjs] at hjk
          exact .inr (.inr (.inl ⟨j, hj, hjk⟩))
      · by_cases hji : j = i
        · subst hji
          rw [bsame] at hjk
          rw [dsame] at hdj
          rcases hB' with ⟨h9, _⟩ | ⟨h9, _, h10, _⟩
          · omega
          · have hle : W.heap.size ≤ B' := by rw [← hs1]; exact h10
            rcases hjk with rfl | rfl | rfl
            · exact absurd hk (Nat.not_lt.2 hle)
            · exact absurd hk (Nat.not_lt.2 (Nat.le_trans hle (Nat.le_add_right _ _)))
            · exact absurd hk (Nat.not_lt.2 (Nat.le_trans hle (Nat.le_add_right _ _)))
        · rw [bother j hji] at hjk
          rw [dother j hji] at hdj
          exact .inr (.inr (.inr ⟨j, hj, hdj, hjk⟩))

theorem logMach_ok (hf : p.Fit) : (logMach p).Ok where
  stab := fun ⟨vs, bx, cur, h⟩ hs _ => ⟨vs, bx, cur, h.stab hs⟩
  inn := fun ⟨vs, bx, cur, h⟩ hk => h.inn hk
  ov := fun ⟨vs, bx, cur, h⟩ hi => h.over hi
  st := fun {s F W i} ⟨vs, bx, cur, h⟩ hi ho hc => by
    have hd : s.d i < p.n i := by
      have h' : decide (p.n i ≤ s.d i) = false := ho
      have := of_decide_eq_false h'
      omega
    refine (h.step hf hi hd hc).mono ?_
    rintro e W' ⟨rfl, F', h1, h2⟩
    refine ⟨?_, F', h1, h2⟩
    show Ending.returned (.bool _) = .returned (.bool (decide (p.n i ≤ put1 s.d i (s.d i + 1) i)))
    rw [put1_same]
  cst := fun s i => Nat.le_refl _
  one := fun i => rfl
end Go.Proofs.Ytpooieeeicffpaa

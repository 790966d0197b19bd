/-
  Acts as a machine: what they are in, which blocks they may turn, what each step does.
-/
import Derived.Test.YtefmojohabdjcaaAct2
import Derived.Test.YtefmojohabdjcaaClone
import Derived.Test.YtefmojohabdjcaaIterW
set_option linter.unusedVariables false
set_option linter.unusedSimpArgs false
namespace Go.Proofs.Ytefmojohabdjcaa
open Go Go.RowKit

/-- From W to W' nothing is turned but the blocks F; of what was there, the blocks F' are among F. -/
structure Moved (F F' : Nat → Prop) (W W' : World) : Prop where
  os : W'.os = W.os
  tape : W'.tape = W.tape
  output : W'.output = W.output
  size : W.heap.size ≤ W'.heap.size
  same : ∀ k, k < W.heap.size → ¬ F k → W'.heap[k]? = W.heap[k]?
  old : ∀ k, k < W.heap.size → F' k → F k
theorem Moved.refl (F : Nat → Prop) (W : World) : Moved F F W W := ⟨rfl, rfl, rfl, Nat.le_refl _, fun _ _ _ => rfl, fun _ _ h => h⟩
theorem Moved.trans {F F' F'' : Nat → Prop} {A B C : World} (h : Moved F F' A B) (k : Moved F' F'' B C) : Moved F F'' A C :=
  ⟨k.os.trans h.os, k.tape.trans h.tape, k.output.trans h.output, Nat.le_trans h.size k.size,
    fun i hi hn => (k.same i (Nat.lt_of_lt_of_le hi h.size) (fun hf => hn (h.old i hi hf))).trans (h.same i hi hn),
    fun i hi hf => h.old i hi (k.old i (Nat.lt_of_lt_of_le hi h.size) hf)⟩
theorem Moved.of_below {F : Nat → Prop} {W W' : World} (h : Below W.heap.size W W') : Moved F F W W' :=
  ⟨h.os, h.tape, h.output, h.size, fun k hk _ => h.block k hk, fun _ _ h => h⟩
theorem Moved.later {F F' : Nat → Prop} {W W' W'' : World} (h : Moved F F' W W') (hb : Below W'.heap.size W' W'') : Moved F F' W W'' := h.trans (Moved.of_below hb)
theorem Moved.toBelow {F F' : Nat → Prop} {W W' : World} (h : Moved F F' W W') {D : Nat} (hD : D ≤ W.heap.size) (hF : ∀ k, F k → D ≤ k) : Below D W W' :=
  ⟨h.os, h.tape, h.output, h.size, fun k hk => h.same k (Nat.lt_of_lt_of_le hk hD) (fun hf => by have := hF k hf; omega)⟩
/-- A block that the machine doesn't have, stands; and the machine doesn't get it. -/
theorem Moved.keep {F F' : Nat → Prop} {W W' : World} (h : Moved F F' W W') {k : Nat} {o : Obj} (hk : W.heap[k]? = some o) (hn : ¬ F k) : W'.heap[k]? = some o ∧ ¬ F' k :=
  have hl := (Array.getElem?_eq_some_iff.1 hk).1
  ⟨(h.same k hl hn).trans hk, fun hf => hn (h.old k hl hf)⟩
/-- A row of the call's own, which the machine doesn't have. -/
def Apart (F : Nat → Prop) (v : Value) : Prop := ∀ k, v.ownBlock = some k → ¬ F k
theorem own_moved {F F' : Nat → Prop} {W W' : World} (h : Moved F F' W W') {B e size n : Nat} {v : Value} {xs : List Value} (ho : W.ownsRow B e size v n xs) (ha : Apart F v) : W'.ownsRow B e size v n xs ∧ Apart F' v := by
  refine ⟨⟨ho.1, ?_⟩, fun k hk hf => ha k hk (h.old k (ho.lt k hk).2 hf)⟩
  rcases ho.2 with hn | ⟨g, cap, cur, rfl, hg, hgg, rest⟩
  · exact .inl hn
  · exact .inr ⟨g, cap, cur, rfl, hg, (h.keep hgg (ha g rfl)).1, rest⟩

structure Mach (σ : Type) where
  N : Nat
  p : Nat → Value
  M : σ → (Nat → Prop) → World → Prop
  over : σ → Nat → Bool
  nx : σ → Nat → σ
  cost : σ → Nat

structure Mach.Ok {σ : Type} (m : Mach σ) : Prop where
  stab : ∀ {s F A B}, m.M s F A → (∀ k, F k → B.heap[k]? = A.heap[k]?) → A.heap.size ≤ B.heap.size → m.M s F B
  inn : ∀ {s F A k}, m.M s F A → F k → ∃ c e fz, A.heap[k]? = some (.cells c e fz)
  ov : ∀ {s F W i}, m.M s F W → i < m.N → Calls Try.prog 24 #[m.p i] W fun e w' => e = .returned (.bool (m.over s i)) ∧ w' = W
  st : ∀ {s F W i}, m.M s F W → i < m.N → m.over s i = false → m.cost s < 1000000 → Calls Try.prog 29 #[m.p i] W fun e W' => e = .returned (.bool (m.over (m.nx s i) i)) ∧ ∃ F', m.M (m.nx s i) F' W' ∧ Moved F F' W W'
  cst : ∀ s i, m.cost (m.nx s i) ≤ m.cost s + 1
  one : ∀ i, (m.p i).oneCell' = true

variable {σ : Type} {m : Mach σ}
theorem Mach.Ok.lt (hm : m.Ok) {s : σ} {F : Nat → Prop} {A : World} {k : Nat} (h : m.M s F A) (hk : F k) : k < A.heap.size := by
  obtain ⟨c, e, fz, hc⟩ := hm.inn h hk
  exact (Array.getElem?_eq_some_iff.1 hc).1
theorem Mach.Ok.below (hm : m.Ok) {s : σ} {F : Nat → Prop} {A B : World} (h : m.M s F A) (hb : Below A.heap.size A B) : m.M s F B :=
  hm.stab h (fun k hk => hb.block k (hm.lt h hk)) hb.size
/-- What was laid behind is not the machine's. -/
theorem Mach.Ok.fresh (hm : m.Ok) {s : σ} {F : Nat → Prop} {A : World} (h : m.M s F A) {v : Value} (hv : ∀ k, v.ownBlock = some k → A.heap.size ≤ k) : Apart F v := fun k hk hf => by
  have := hm.lt h hf
  have := hv k hk
  omega

/-- The act that a pick means. -/
def idx (n : Nat) (p : Int) : Nat := ((p.tmod n + n).tmod n).toNat
theorem idx_lt {n : Nat} (h : 0 < n) (p : Int) : idx n p < n := by
  unfold idx
  have h0 : (0 : Int) < n := by omega
  have h1 : 0 ≤ p.tmod n + n := by
    have := Int.lt_tmod_of_pos p h0
    omega
  have h2 := Int.tmod_lt_of_pos (p.tmod n + n) h0
  have h3 := Int.tmod_nonneg (n : Int) h1
  omega
theorem idx_int {n : Nat} (h : 0 < n) (p : Int) : (p.tmod n + n).tmod n = (idx n p : Int) := by
  unfold idx
  have h0 : (0 : Int) < n := by omega
  have h1 : 0 ≤ p.tmod n + n := by
    have := Int.lt_tmod_of_pos p h0
    omega
  have h3 := Int.tmod_nonneg (n : Int) h1
  omega

def Mach.pick1 (m : Mach σ) (x : σ × Nat) (p : Int) : σ × Nat := if m.over x.1 (idx m.N p) then x else (m.nx x.1 (idx m.N p), x.2 + 1)
def Mach.turn (m : Mach σ) (s : σ) (picks : List Int) : σ × Nat := picks.foldl m.pick1 (s, 0)
def Mach.go1 (m : Mach σ) (x : σ × Bool) (i : Nat) : σ × Bool := if m.over x.1 i then x else (m.nx x.1 i, true)
def Mach.upto (m : Mach σ) (s : σ) (k : Nat) : σ × Bool := (List.range k).foldl m.go1 (s, false)
def Mach.round (m : Mach σ) (s : σ) : σ × Bool := m.upto s m.N
def Mach.rest (m : Mach σ) : Nat → σ → σ × Nat
  | 0, s => (s, 0)
  | L + 1, s => if (m.round s).2 then ((m.rest L (m.round s).1).1, (m.rest L (m.round s).1).2 + 1) else ((m.round s).1, 0)
theorem Mach.upto_succ (m : Mach σ) (s : σ) (k : Nat) : m.upto s (k + 1) = m.go1 (m.upto s k) k := by
  unfold Mach.upto; rw [List.range_succ, List.foldl_append]; rfl
theorem Mach.turn_snoc (m : Mach σ) (s : σ) (l : List Int) (p : Int) : m.turn s (l ++ [p]) = m.pick1 (m.turn s l) p := by
  unfold Mach.turn; rw [List.foldl_append]; rfl
theorem Mach.Ok.upto_cost (hm : m.Ok) (s : σ) (k : Nat) : m.cost (m.upto s k).1 ≤ m.cost s + k := by
  induction k with
  | zero => exact Nat.le_refl _
  | succ k ih =>
    rw [Mach.upto_succ]; unfold Mach.go1
    split
    · omega
    · have := hm.cst (m.upto s k).1 k; dsimp only; omega
theorem Mach.Ok.turn_cost (hm : m.Ok) (s : σ) (l : List Int) : m.cost (m.turn s l).1 ≤ m.cost s + l.length ∧ (m.turn s l).2 ≤ l.length := by
  have h : ∀ (l : List Int) (x : σ × Nat), m.cost (l.foldl m.pick1 x).1 ≤ m.cost x.1 + l.length ∧ (l.foldl m.pick1 x).2 ≤ x.2 + l.length := by
    intro l
    induction l with
    | nil => intro x; exact ⟨Nat.le_refl _, Nat.le_refl _⟩
    | cons p l ih =>
      intro x
      have h1 := ih (m.pick1 x p)
      rw [List.foldl_cons, List.length_cons]
      have h2 : m.cost (m.pick1 x p).1 ≤ m.cost x.1 + 1 ∧ (m.pick1 x p).2 ≤ x.2 + 1 := by
        unfold Mach.pick1
        split
        · exact ⟨Nat.le_succ _, Nat.le_succ _⟩
        · exact ⟨hm.cst _ _, Nat.le_refl _⟩
      omega
  have := h l (s, 0)
  unfold Mach.turn
  simpa using this
end Go.Proofs.Ytefmojohabdjcaa

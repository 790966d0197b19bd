/-
  The law ActRuns: an act that runs others, one behind the other: what stands, and the closures' contracts.
-/
import Derived.Test.YtpooieeeicffpaaAwake4
import Derived.Test.YtpooieeeicffpaaRef4
import Derived.Deep.RegionHeld3
import Derived.OwnWalk
set_option linter.unusedVariables false
set_option linter.unusedSimpArgs false
namespace Go.Proofs.Ytpooieeeicffpaa
open Go Go.RowKit
attribute [local go_sem ↓] Go.wp_at_zero Go.wp_at_succ

/-- From W to W' nothing is turned but the block B. -/
structure OnlyC (B : Nat) (W W' : World) : Prop where
  os : W'.os = W.os
  tape : W'.tape = W.tape
  output : W'.output = W.output
  size : W.heap.size ≤ W'.heap.size
  same : ∀ k, k < W.heap.size → k ≠ B → W'.heap[k]? = W.heap[k]?
theorem OnlyC.trans {B : Nat} {a b c : World} (h : OnlyC B a b) (k : OnlyC B b c) : OnlyC B a c :=
  ⟨k.os.trans h.os, k.tape.trans h.tape, k.output.trans h.output, Nat.le_trans h.size k.size, fun i hi hn => (k.same i (Nat.lt_of_lt_of_le hi h.size) hn).trans (h.same i hi hn)⟩
theorem OnlyC.of_below {B : Nat} {a b : World} (h : Below a.heap.size a b) : OnlyC B a b := ⟨h.os, h.tape, h.output, h.size, fun k hk _ => h.block k hk⟩
theorem OnlyC.set {B : Nat} (a : World) (v : Value) : OnlyC B a (a.setCell ⟨B, 0, none⟩ v) := ⟨rfl, rfl, rfl, by rw [size_setCell]; exact Nat.le_refl _, fun k _ hn => Below.heap_setCell a ⟨B, 0, none⟩ v k hn⟩

def pi' (B : Nat) : Value := .pointer (some ⟨B, 0, none⟩)
/-- The law's lengths and its boxes. -/
structure RP where
  N : Nat
  n : Nat → Nat
  na : Option Addr
  nc : Nat
  Nb : Nat
  Lb : Nat
  Cb : Nat
  Hb : Nat
def RP.cap (p : RP) : Array Value := #[.pointer (some ⟨p.Nb, 0, none⟩), .pointer (some ⟨p.Lb, 0, none⟩), .pointer (some ⟨p.Cb, 0, none⟩), .pointer (some ⟨p.Hb, 0, none⟩)]
def RP.cap11 (p : RP) (Ib : Nat) : Array Value := #[.pointer (some ⟨p.Cb, 0, none⟩), .pointer (some ⟨p.Hb, 0, none⟩), .pointer (some ⟨Ib, 0, none⟩)]
def capR (Kb Ks Ka Kt : Nat) : Array Value := #[.pointer (some ⟨Kb, 0, none⟩), .pointer (some ⟨Ks, 0, none⟩), .pointer (some ⟨Ka, 0, none⟩), .pointer (some ⟨Kt, 0, none⟩)]
structure Env (p : RP) (W : World) : Prop where
  nb : Boxed W p.Nb 23 (.slice p.na p.N p.nc)
  nr : W.ownsRow 0 3 1 (.slice p.na p.N p.nc) p.N (rowD p.N p.n)
  hb : Boxed W p.Hb 40 (fv 21 p.cap)
  lo : (∀ k, (Value.slice p.na p.N p.nc).ownBlock = some k → k < p.Nb) ∧ p.Nb < p.Lb ∧ p.Lb < p.Cb ∧ p.Cb < p.Hb
theorem Env.later {p : RP} {W W' : World} (h : Env p W) (hs : ∀ k, k ≤ p.Hb → k ≠ p.Cb → k ≠ p.Lb → W'.heap[k]? = W.heap[k]?) : Env p W' := by
  obtain ⟨l1, l2, l3, l4⟩ := h.lo
  exact ⟨(hs _ (by omega) (by omega) (by omega)).trans h.nb, own_same h.nr (fun k hk => hs k (by have := l1 k hk; omega) (by have := l1 k hk; omega) (by have := l1 k hk; omega)), (hs _ (Nat.le_refl _) (by omega) (by omega)).trans h.hb, h.lo⟩
theorem Env.lt {p : RP} {W : World} (h : Env p W) : p.Hb < W.heap.size := h.hb.lt
theorem Env.only {p : RP} {W W' : World} (h : Env p W) (ho : OnlyC p.Cb W W') : Env p W' := h.later fun k hk hn _ => ho.same k (by have := h.lt; omega) hn
theorem Env.drew {p : RP} {W : World} (h : Env p W) : Env p W.drew := ⟨h.nb, h.nr, h.hb, h.lo⟩

/-- A step that runs act i, which did d steps. -/
structure ChSt (p : RP) (W : World) (i d Kb Ks Ka Kt Ib S Bx : Nat) : Prop where
  bk : Boxed W Kb 4 (.bool false)
  bs : Boxed W Ks 26 (pa S)
  ba : Boxed W Ka 42 (fv 49 (capR Kb Ks Ka Kt))
  bt : Boxed W Kt 41 (fv 23 (p.cap11 Ib))
  bi : Boxed W Ib 3 (.int .i64 i)
  sa : ActAt W S (fv 61 (cap3 Bx)) d
  sc : Clo W Bx (p.n i - d) i p.Lb 0
def Chains (p : RP) (Q : Nat) (W : World) (v : Value) (i : Nat) : Prop :=
  (i = p.N ∧ v = .nilFunc) ∨ (i < p.N ∧ 0 < p.n i ∧ ∃ Kb Ks Ka Kt Ib S Bx, v = fv 49 (capR Kb Ks Ka Kt) ∧ ChSt p W i 0 Kb Ks Ka Kt Ib S Bx ∧ Q ≤ Kb ∧ Q ≤ Ks ∧ Q ≤ Ka ∧ Q ≤ Kt ∧ Q ≤ Ib ∧ Q ≤ S ∧ Ib < Bx)
theorem Chains.mono {p : RP} {Q Q' : Nat} {W : World} {v : Value} {i : Nat} (h : Chains p Q W v i) (hq : Q' ≤ Q) : Chains p Q' W v i := by
  rcases h with h | ⟨h1, h2, Kb, Ks, Ka, Kt, Ib, S, Bx, h3, h4, h5⟩
  · exact .inl h
  · exact .inr ⟨h1, h2, Kb, Ks, Ka, Kt, Ib, S, Bx, h3, h4, by omega⟩
/-- What a call of the chain comes to. -/
def ChPost (p : RP) (Q : Nat) (W : World) (i : Nat) (e : Ending) (w' : World) : Prop :=
  ∃ v i', e = .returned v ∧ i ≤ i' ∧ i' ≤ p.N ∧ (∀ j, i ≤ j → j < i' → p.n j = 0) ∧ Boxed w' p.Cb 3 (.int .i64 i') ∧ OnlyC p.Cb W w' ∧ Chains p Q w' v i'

theorem stepV_of {p : RP} {Q : Nat} {W : World} {v : Value} {i : Nat} (h : Chains p Q W v i) : StepV v := by
  rcases h with ⟨_, rfl⟩ | ⟨_, _, Kb, Ks, Ka, Kt, Ib, S, Bx, rfl, _⟩
  · exact .inl rfl
  · exact .inr ⟨_, _, rfl⟩

/-- What stands behind act i, once the chain from i + 1 on is known. -/
def Next (p : RP) (i : Nat) : Prop := ∀ W, Env p W → Boxed W p.Cb 3 (.int .i64 i) → Calls Try.prog 21 (#[.int .i64 i] ++ p.cap) W (fun e w' => ChPost p W.heap.size W i e w')

set_option maxRecDepth 20000 in
set_option maxHeartbeats 1000000 in
theorem then_c (p : RP) (i : Nat) (hi : i < 1000) (hnext : Next p (i + 1)) (Ib : Nat) (W : World) (he : Env p W) (hc : Boxed W p.Cb 3 (.int .i64 i)) (hib : Boxed W Ib 3 (.int .i64 i)) (hne : Ib ≠ p.Cb) :
    Calls Try.prog 23 (p.cap11 Ib) W fun e w' => ChPost p W.heap.size W (i + 1) e w' := by
  have c0 := hc.cell
  have c1 := hc.frozen
  have c2 := hc.lt
  have hc' := hc.set (.int .i64 ((i + 1 : Nat) : Int))
  have hon : OnlyC p.Cb W (W.setCell ⟨p.Cb, 0, none⟩ (.int .i64 ((i + 1 : Nat) : Int))) := OnlyC.set W _
  have he' := he.only hon
  have hib' : Boxed (W.setCell ⟨p.Cb, 0, none⟩ (.int .i64 ((i + 1 : Nat) : Int))) Ib 3 (.int .i64 i) := hib.other hne _
  have d0 := he'.hb.cell
  have d1 := hib'.cell
  have C := Lib.hid (hnext _ he' hc')
  have hsz : (W.setCell ⟨p.Cb, 0, none⟩ (.int .i64 ((i + 1 : Nat) : Int))).heap.size = W.heap.size := size_setCell _ _ _
  rw [hsz] at C
  have HON := Lib.hid hon
  have e1 : ((i : Int) + 1) = ((i + 1 : Nat) : Int) := by omega
  rw [← e1] at C HON d0 d1
  clear he hc hib hc' hon he' hib' hsz
  unfold fv RP.cap at d0
  unfold RP.cap at C
  unfold RP.cap11
  clear e1
  go_enter Try.func23, Try.ntmps23
  go_wp2_with fail
  refine C.out.mono ?_
  rintro e w' ⟨v, i', rfl, h⟩
  go_wp2_with fail
  go_ret
  obtain ⟨h1, h2, h3, h4, h5, h6⟩ := h
  exact ⟨v, i', rfl, h1, h2, h3, h4, HON.out.trans h5, h6⟩
end Go.Proofs.Ytpooieeeicffpaa

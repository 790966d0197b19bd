/-
  The law EpochAlone: its row of what each is pinned at.
-/
import Derived.Test.YtefmojohabdjcaaAwake6
set_option linter.unusedVariables false
set_option linter.unusedSimpArgs false
namespace Go.Proofs.Ytefmojohabdjcaa
open Go Go.RowKit

theorem infoI : (Try.prog.info? 3).map (fun i => (i.zero, i.size, i.bytes)) = some (some (.int .i64 0), 1, 8) := by kernel_rfl
def zeroCells (R : Nat) : Array Value := madeCells #[.int .i64 0] R
theorem zeroCells_get (R j : Nat) (h : j < R) : (zeroCells R)[j]? = some (.int .i64 0) := by
  unfold zeroCells madeCells
  rw [Array.getElem?_map, Array.getElem?_eq_getElem (by rw [Array.size_range]; exact h), Array.getElem_range]
  have e : j % 1 = 0 := Nat.mod_one j
  simp [e]
theorem run_ints (R : Nat) (hR : R ≤ 1000) (w : World) : (Instr.makeSlice 23 (.int .i64 R) (.int .i64 R)).run Try.prog w = .ok (.slice (some ⟨w.heap.size, 0, none⟩) R R) (w.alloc (.cells (zeroCells R) 3)) := by
  obtain ⟨i0, hi0, hz0, hz1, hz2⟩ := info_parts infoI
  have h := run_make (P := Try.prog) w 23 3 i0 _ Try.underlying23 hi0 hz0 .i64 .i64 (R : Int) (R : Int) (by omega) (Int.le_refl _) (by rw [hz2]; omega) (by omega)
  rw [hz1, Nat.mul_one, Int.toNat_natCast] at h
  exact h
def atN : Option Nat → Int
  | none => -1
  | some e => e
/-- The law's own row of at what each is pinned. -/
def AtRow (W : World) (A n : Nat) (at' : Nat → Option Nat) : Prop := ∃ cur, Cells W A 3 cur ∧ ∀ i, i < n → cur[i]? = some (.int .i64 (atN (at' i)))
variable {W W' : World} {A n : Nat} {at' : Nat → Option Nat}
theorem AtRow.new (W : World) (R : Nat) : AtRow (W.alloc (.cells (zeroCells R) 3)) W.heap.size R (fun _ => some 0) :=
  ⟨_, heap_alloc_new W _, fun i hi => zeroCells_get R i hi⟩
theorem AtRow.later (h : AtRow W A n at') (hs : W'.heap[A]? = W.heap[A]?) : AtRow W' A n at' := by
  obtain ⟨cur, h1, h2⟩ := h
  exact ⟨cur, h1.later hs, h2⟩
theorem AtRow.lt (h : AtRow W A n at') : A < W.heap.size := by
  obtain ⟨cur, h1, _⟩ := h
  exact h1.lt
theorem AtRow.below (h : AtRow W A n at') (hb : Below W.heap.size W W') : AtRow W' A n at' := h.later (hb.block A h.lt)
theorem AtRow.cell (h : AtRow W A n at') {i : Nat} (hi : i < n) : W.cell? ⟨A, i, none⟩ = some (.int .i64 (atN (at' i))) ∧ W.frozen? ⟨A, i, none⟩ = false := by
  obtain ⟨cur, h1, h2⟩ := h
  exact ⟨h1.cell (h2 i hi), h1.frozen i⟩
theorem AtRow.set (h : AtRow W A n at') {i : Nat} (hi : i < n) (o : Option Nat) : AtRow (W.setCell ⟨A, i, none⟩ (.int .i64 (atN o))) A n (put1 at' i o) := by
  obtain ⟨cur, h1, h2⟩ := h
  refine ⟨_, h1.set i _, fun j hj => ?_⟩
  have hs : i < cur.size := by
    have := h2 i hi
    exact (Array.getElem?_eq_some_iff.1 this).1
  by_cases hji : j = i
  · subst hji
    rw [put1_same]
    exact Array.getElem?_setIfInBounds_self_of_lt hs
  · rw [put1_other _ _ hji, Array.getElem?_setIfInBounds_ne (Ne.symm hji)]
    exact h2 j hj
theorem AtRow.keepE {p : EP} {s : ES} {F' : Nat → Prop} (h : AtRow W A n at') (he : EpAt p s W) (hv : Moved (fE p) F' W W') : AtRow W' A n at' := by
  obtain ⟨cur, h1, h2⟩ := h
  exact ⟨cur, (hv.keep h1 (he.notE h1 (by decide) (by decide) (by decide))).1, h2⟩
theorem EpAt.setAt {p : EP} {s : ES} (he : EpAt p s W) (h : AtRow W A n at') (i : Nat) (v : Value) : EpAt p s (W.setCell ⟨A, i, none⟩ v) := by
  obtain ⟨cur, h1, h2⟩ := h
  exact he.later fun k hk => Below.heap_setCell W ⟨A, i, none⟩ v k fun e => by
    have e2 : k = A := e
    rw [e2] at hk
    exact he.notE h1 (by decide) (by decide) (by decide) hk
/-- May the epoch move? -/
def mayB (at' : Nat → Option Nat) (now k : Nat) : Bool := (List.range k).all fun i => at' i == none || at' i == some now
theorem mayB_succ (at' : Nat → Option Nat) (now k : Nat) : mayB at' now (k + 1) = (mayB at' now k && (at' k == none || at' k == some now)) := by
  unfold mayB; rw [List.range_succ, List.all_append]; simp
theorem mayB_yes {p : EP} {at' : Nat → Option Nat} {now : Nat} (h : mayB at' now p.R = true) : AllAt p now at' := fun i hi => by
  have := List.all_eq_true.1 h i (List.mem_range.2 hi)
  simpa using this
theorem mayB_no {p : EP} {at' : Nat → Option Nat} {now : Nat} (h : mayB at' now p.R = false) : ∃ i, i < p.R ∧ at' i ≠ none ∧ at' i ≠ some now := by
  unfold mayB at h
  rw [List.all_eq_false] at h
  obtain ⟨i, hi, h2⟩ := h
  refine ⟨i, List.mem_range.1 hi, ?_⟩
  simpa using h2

/-- What stands in the law's loop. -/
structure AlnInv (W : World) (p : EP) (A : Nat) (R now : Nat) (m : Nat) (s : ES) (at' : Nat → Option Nat) (wr : World) : Prop where
  ep : EpAt p s wr
  st : Stil p s now at'
  t : s.t ≤ m
  row : AtRow wr A R at'
  bel : Below W.heap.size W wr
  R : p.R = R
  ge : ∀ k, fE p k → W.heap.size ≤ k
  geA : W.heap.size ≤ A
variable {p : EP} {s : ES} {R now m : Nat} {wr : World}
theorem AlnInv.pinned (h : AlnInv W p A R now m s at' wr) {who : Nat} (hw : who < R) : s.po who = (at' who).isSome ∧ s.pe who = (at' who).getD 0 := by
  have hw' : who < p.R := by rw [h.R]; exact hw
  cases hat : at' who with
  | none => obtain ⟨a, b, c⟩ := h.st.off who hw' hat; exact ⟨a, by rw [b]; rfl⟩
  | some e => obtain ⟨a, b, c, d⟩ := h.st.on who e hw' hat; exact ⟨a, by rw [b]; rfl⟩
theorem AlnInv.drewN (h : AlnInv W p A R now m s at' wr) (q : Nat) : AlnInv W p A R now m s at' (wr.drewN q) :=
  { h with
    ep := h.ep.later fun _ _ => rfl
    row := h.row.later rfl
    bel := below_drewN h.bel q }
theorem aln_pinned (h : AlnInv W p A R now m s at' wr) (who : Nat) (hw : who < R) : Calls Try.prog 20 #[pE p, .int .i64 who] wr fun e w' =>
    e = .returned (.tuple #[.int .u64 (((at' who).getD 0 : Nat) : Int), .bool (at' who).isSome]) ∧ ∃ q, w' = wr.drewN q := by
  refine (pinned_c h.ep who (by rw [h.R]; exact hw)).mono ?_
  rintro e w' ⟨rfl, hq⟩
  obtain ⟨h1, h2⟩ := h.pinned hw
  have h3 : s.pe who = (at' who).getD 0 := by omega
  exact ⟨by rw [h1, h3], hq⟩
theorem aln_now (h : AlnInv W p A R now m s at' wr) : Calls Try.prog 21 #[pE p] wr fun e w' => e = .returned (.int .u64 now) ∧ w' = wr := by
  have := now_c h.ep
  rw [h.st.nw] at this
  exact this
theorem AlnInv.small (h : AlnInv W p A R now m s at' wr) (hm : m ≤ 100000) : now ≤ 100000 ∧ ∀ who e, who < R → at' who = some e → e ≤ 100000 := by
  have h1 := h.st.le
  have h2 := h.t
  refine ⟨by omega, fun who e hw he => ?_⟩
  obtain ⟨_, _, _, h3⟩ := h.st.on who e (by rw [h.R]; exact hw) he
  omega
end Go.Proofs.Ytefmojohabdjcaa

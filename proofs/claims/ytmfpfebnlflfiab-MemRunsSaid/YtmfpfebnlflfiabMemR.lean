/-
  The document's memory: a list of changes: contracts of Has and Last.
-/
import Derived.Test.YtmfpfebnlflfiabTri
import Derived.LoopTactic
import Derived.Outline
set_option linter.unusedVariables false
set_option linter.unusedSimpArgs false
namespace Go.Proofs.Ytmfpfebnlflfiab
open Go Go.RowKit

/-- A change: where, what, when. -/
abbrev Ch := Nat × Nat × Nat
def cellsC (l : List Ch) : List Value := l.flatMap fun x => [.int .i64 x.1, .int .u64 x.2.1, .int .u64 x.2.2]
theorem cellsC_len (l : List Ch) : (cellsC l).length = l.length * 3 := by
  induction l with
  | nil => rfl
  | cons x r ih =>
    show (_ :: _ :: _ :: cellsC r).length = _
    simp only [List.length_cons, ih]; omega
theorem cellsC_snoc (l : List Ch) (x : Ch) : cellsC (l ++ [x]) = cellsC l ++ [.int .i64 x.1, .int .u64 x.2.1, .int .u64 x.2.2] := by
  unfold cellsC; rw [List.flatMap_append]; rfl
theorem cellsC_at : ∀ {l : List Ch} {k : Nat} (h : k < l.length), (cellsC l)[k * 3]? = some (.int .i64 l[k].1) ∧ (cellsC l)[k * 3 + 1]? = some (.int .u64 l[k].2.1) ∧ (cellsC l)[k * 3 + 2]? = some (.int .u64 l[k].2.2) := by
  intro l
  induction l with
  | nil => intro k h; simp at h
  | cons x r ih =>
    intro k h
    cases k with
    | zero => exact ⟨rfl, rfl, rfl⟩
    | succ k =>
      have := ih (k := k) (by simpa using h)
      have e : ∀ j, (cellsC (x :: r))[(k + 1) * 3 + j]? = (cellsC r)[k * 3 + j]? := by
        intro j
        show (_ :: _ :: _ :: cellsC r)[(k + 1) * 3 + j]? = _
        rw [show (k + 1) * 3 + j = (k * 3 + j) + 1 + 1 + 1 by omega]; rfl
      exact ⟨(e 0).trans this.1, (e 1).trans this.2.1, (e 2).trans this.2.2⟩
/-- The last change of a word. -/
def lastC (l : List Ch) (i : Int) : Ch := (l.reverse.find? fun x => decide ((x.1 : Int) = i)).getD (0, 0, 0)
theorem lastC_nil (i : Int) : lastC [] i = (0, 0, 0) := rfl
theorem lastC_same (l : List Ch) (x : Ch) (i : Int) (h : (x.1 : Int) = i) : lastC (l ++ [x]) i = x := by simp [lastC, h]
theorem lastC_other (l : List Ch) (x : Ch) (i : Int) (h : (x.1 : Int) ≠ i) : lastC (l ++ [x]) i = lastC l i := by simp [lastC, h]

def memV (n t : Nat) (v : Value) : Value := .agg #[.int .i64 n, .int .u64 t, v]
def chV (x : Ch) : Value := .agg #[.int .i64 x.1, .int .u64 x.2.1, .int .u64 x.2.2]

set_option maxHeartbeats 1000000 in
theorem rmHas_yes (n t : Nat) (v : Value) (k : Nat) (hk : k < n) (w : World) :
    Calls Try.prog 40 #[memV n t v, .int .i64 k] w fun e w' => e = .returned (.bool true) ∧ Below w.heap.size w w' := by
  have h0 : (0 : Int) ≤ k := by omega
  have h1 : (k : Int) < n := by omega
  unfold memV
  go_enter Try.func40, Try.ntmps40
  go_wp2_with fail
  go_ret
  exact ⟨rfl, (Below.refl _ _).alloc (Nat.le_refl _) _⟩

set_option maxHeartbeats 1000000 in
theorem rmHas_no (n t : Nat) (v : Value) (i : Int) (hi : i < 0 ∨ (n : Int) ≤ i) (w : World) :
    Calls Try.prog 40 #[memV n t v, .int .i64 i] w fun e w' => e = .returned (.bool false) ∧ Below w.heap.size w w' := by
  unfold memV
  rcases hi with hi | hi
  · have h0 : ¬ (0 : Int) ≤ i := by omega
    go_enter Try.func40, Try.ntmps40
    go_wp2_with fail
    go_ret
    exact ⟨rfl, (Below.refl _ _).alloc (Nat.le_refl _) _⟩
  · have h0 : (0 : Int) ≤ i := by omega
    have h1 : ¬ i < (n : Int) := by omega
    go_enter Try.func40, Try.ntmps40
    go_wp2_with fail
    go_ret
    exact ⟨rfl, (Below.refl _ _).alloc (Nat.le_refl _) _⟩

theorem results_last (tmps : Array Value) (w : World) (B : Nat) (a b c : Value) (h : Tri w B 42 a b c) (h2 : tmps.getD 4 undef = .pointer (some ⟨B, 0, none⟩)) :
    (results Try.f19 tmps).run Try.prog w = .ok (.agg #[a, b, c]) w := by
  obtain ⟨c0, c1, c2, _⟩ := h.cell
  have h2' : tmps[4]?.getD undef = .pointer (some ⟨B, 0, none⟩) := by simpa using h2
  simp [results, Try.f19, go_sem, h2', c0, c1, c2]

set_option maxRecDepth 20000 in
set_option maxHeartbeats 2000000 in
theorem rmLast_c (B n t : Nat) (v : Value) (l : List Ch) (hl : l.length ≤ 1000) (i : Int) (w : World) (ho : w.ownsRow B 42 3 v l.length (cellsC l)) :
    Calls Try.prog 19 #[memV n t v, .int .i64 i] w fun e w' => e = .returned (chV (lastC l i)) ∧ Below w.heap.size w w' := by
  obtain ⟨ad, cp, rfl⟩ := own_form ho
  obtain ⟨N, hN⟩ : ∃ N, N = l.length := ⟨_, rfl⟩
  rw [← hN] at ho hl ⊢
  have HO := Lib.hid ho
  have HN := Lib.hid hN
  have HT : Hid (∀ x : Ch, Tri ((w.alloc (.cells #[.int .i64 n, .int .u64 t, .slice ad N cp] 29)).alloc (.cells #[.int .i64 x.1, .int .u64 x.2.1, .int .u64 x.2.2] 42)) (w.heap.size + 1) 42 (.int .i64 x.1) (.int .u64 x.2.1) (.int .u64 x.2.2)) := by
    intro x
    have := Tri.new (w.alloc (.cells #[.int .i64 n, .int .u64 t, .slice ad N cp] 29)) 42 (.int .i64 x.1) (.int .u64 x.2.1) (.int .u64 x.2.2)
    rw [World.size_alloc] at this
    exact this
  have HB : Hid (∀ c, Below w.heap.size w ((w.alloc (.cells #[.int .i64 n, .int .u64 t, .slice ad N cp] 29)).alloc c)) := fun c =>
    ((Below.refl _ _).alloc (by omega) _).alloc (by simp) _
  clear ho hN
  unfold memV
  go_enter Try.func19, Try.ntmps19
  go_wp2_with fail
  go_loop [5] (fun t5 => ∃ k : Nat, k ≤ N ∧ t5 = .int .i64 ((k : Int) - 1) ∧ Hid (lastC l i = lastC (l.take k) i)) (fun t5 => (intOf t5 + 1).toNat)
  case atStart => exact ⟨N, Nat.le_refl _, rfl, by rw [HN.out, List.take_length]; exact rfl⟩
  case round =>
    obtain ⟨k, hk, rfl, HL⟩ := hrel
    cases k with
    | zero =>
      go_wp2_with fail
      refine bodyPost_ret (results_last _ _ _ _ _ _ (HT.out (0, 0, 0)) rfl) rfl ⟨?_, HB.out _⟩
      rw [HL.out]
      rfl
    | succ j =>
      rw [show ((j + 1 : Nat) : Int) - 1 = (j : Int) by omega]
      have hjl : j < l.length := by rw [← HN.out]; omega
      obtain ⟨x, hx⟩ : ∃ x, l[j] = x := ⟨_, rfl⟩
      have htk : l.take (j + 1) = l.take j ++ [x] := by rw [List.take_succ_eq_append_getElem hjl, hx]
      rw [htk] at HL
      obtain ⟨g, rfl⟩ : ∃ g, ad = some ⟨g, 0, none⟩ := by
        rcases HO.out.2 with ⟨h, h2⟩ | ⟨g, cap, cur, h, _⟩
        · omega
        · cases h; exact ⟨g, rfl⟩
      have hc := cellsC_at hjl
      rw [hx] at hc
      have k0 : w.cell? ⟨g, j * 3, none⟩ = some (.int .i64 x.1) := by rw [HO.out.cellAt _ (by omega)]; exact hc.1
      have k1 : w.cell? ⟨g, j * 3 + 1, none⟩ = some (.int .u64 x.2.1) := by rw [HO.out.cellAt _ (by omega)]; exact hc.2.1
      have k2 : w.cell? ⟨g, j * 3 + 2, none⟩ = some (.int .u64 x.2.2) := by rw [HO.out.cellAt _ (by omega)]; exact hc.2.2
      have hgl : g < w.heap.size := (HO.out.lt _ rfl).2
      have q1 : (j : Int) < N := by omega
      clear hc htk hx hjl
      by_cases hxi : (x.1 : Int) = i
      · have HR : Hid (lastC l i = x) := by show _ = _; rw [HL.out, lastC_same _ _ _ hxi]
        subst hxi
        go_wp2_with fail
        refine bodyPost_ret (results_last _ _ _ _ _ _ (HT.out x) rfl) rfl ⟨?_, HB.out _⟩
        rw [HR.out]
        rfl
      · have HR : Hid (lastC l i = lastC (l.take j) i) := by show _ = _; rw [HL.out, lastC_other _ _ _ hxi]
        have e1 : ((x.1 : Int) == i) = false := by rw [beq_eq_false_iff_ne]; exact hxi
        clear hxi
        go_wp2_with fail
        go_round
        case rel => exact ⟨j, by omega, by go_num, HR⟩
        case measure => simp [intOf]
end Go.Proofs.Ytmfpfebnlflfiab

/-
  A feed of the program: how it lies; to begin anew, to skip, how many bytes it keeps: contracts.
-/
import Derived.Test.YtkmhdaalabhcbaaDoorFd1
import Derived.Test.YtkmhdaalabhcbaaDoorTk6
import Derived.Test.YtkmhdaalabhcbaaDoorLs1
import Derived.Maps.AppendAt
import Derived.Laws.EntriesVeiled
set_option linter.unusedVariables false
set_option linter.unusedSimpArgs false
namespace Go.Proofs.YtkmhdaalabhcbaaDoor
open Go Go.RowKit

def fnN (m : Nat) : Nat := if m = 0 then 11 else if m = 1 then 18 else if m = 2 then 20 else 29
abbrev bnd (n g : Nat) : Value := .func (.func n) #[pt g] #[]
def bV (l : List UInt8) : List Value := l.map fun c => Value.int .u8 (c.toNat : Int)
theorem bV_len (l : List UInt8) : (bV l).length = l.length := by simp [bV]
theorem bV_app (a b : List UInt8) : bV (a ++ b) = bV a ++ bV b := by simp [bV]
theorem bV_at {l : List UInt8} {j : Nat} {c : UInt8} (h : l[j]? = some c) : (bV l)[j]? = some (.int .u8 (c.toNat : Int)) := by simp [bV, h]
theorem bV_one (l : List UInt8) : ∀ u ∈ bV l, u.oneCell' = true := by
  intro u hu; simp only [bV, List.mem_map] at hu; obtain ⟨c, _, rfl⟩ := hu; rfl
def encP (p : Pc) : List Value := [.int .i64 (p.1 : Nat), .string (txt p.2)]
theorem encP_len (x : Pc) : (encP x).length = 2 := rfl

/-- A feed, its bytes in a row of its own. -/
def FA (W : World) (g : Nat) (o : Option Nat) (s : FS) : Prop :=
  ∃ tv, Cells W g 37 #[bnd (fnN s.m) g, tv, .int .i64 s.lits, .int .i64 s.fr, .int .i64 s.to] ∧ tv.ownBlock = o ∧ W.ownsRow (g + 1) 5 1 tv s.t.length (bV s.t)
/-- What a feed's doings turn: its block, its row. -/
structure FMv (g : Nat) (o o' : Option Nat) (w w' : World) : Prop where
  os : w'.os = w.os
  tape : w'.tape = w.tape
  output : w'.output = w.output
  size : w.heap.size ≤ w'.heap.size
  blk : ∀ k, k < w.heap.size → k ≠ g → o ≠ some k → w'.heap[k]? = w.heap[k]?
  nw : ∀ k, o' = some k → o = some k ∨ w.heap.size ≤ k
theorem FMv.refl (g : Nat) (o : Option Nat) (w : World) : FMv g o o w w := ⟨rfl, rfl, rfl, Nat.le_refl _, fun _ _ _ _ => rfl, fun k h => .inl h⟩
theorem FMv.trans {g : Nat} {o o' o'' : Option Nat} {a b c : World} (h : FMv g o o' a b) (k : FMv g o' o'' b c) : FMv g o o'' a c := by
  refine ⟨k.os.trans h.os, k.tape.trans h.tape, k.output.trans h.output, Nat.le_trans h.size k.size, fun i hi hg ho => ?_, fun i hi => ?_⟩
  · refine (k.blk i (Nat.lt_of_lt_of_le hi h.size) hg fun e => ?_).trans (h.blk i hi hg ho)
    rcases h.nw i e with h2 | h2
    · exact ho h2
    · omega
  · rcases k.nw i hi with h2 | h2
    · exact h.nw i h2
    · exact .inr (Nat.le_trans h.size h2)
theorem FMv.of_below {g : Nat} {o : Option Nat} {a b : World} (h : Below a.heap.size a b) : FMv g o o a b := ⟨h.os, h.tape, h.output, h.size, fun k hk _ _ => h.block k hk, fun k hk => .inl hk⟩
theorem FMv.of_tk {g : Nat} {o : Option Nat} {a b : World} (h : Tk g a b) : FMv g o o a b := ⟨h.os, h.tape, h.output, h.size, fun k hk hg _ => h.blk k hk hg, fun k hk => .inl hk⟩
theorem FMv.none {g : Nat} {o o' : Option Nat} {a b : World} (h : FMv g o o' a b) : FMv g o none a b := ⟨h.os, h.tape, h.output, h.size, h.blk, fun k hk => by cases hk⟩
theorem FMv.of_grown {g : Nat} {v v' : Value} {a b : World} (h : a.grownBy b v.ownBlock) (h' : v'.ownBlock = v.ownBlock ∨ v'.ownBlock = some a.heap.size) : FMv g v.ownBlock v'.ownBlock a b :=
  ⟨h.os, h.tape, h.output, h.size, fun k hk _ ho => h.block k hk (fun e => ho e.symm), fun k hk => by
    rcases h' with e | e
    · exact .inl (e.symm.trans hk)
    · rw [e] at hk; cases hk; exact .inr (Nat.le_refl _)⟩
/-- Below all that is the feed's nothing has turned. -/
theorem FMv.below {g : Nat} {o o' : Option Nat} {a b : World} (h : FMv g o o' a b) {D : Nat} (hD : D ≤ a.heap.size) (hg : D ≤ g) (ho : ∀ k, o = some k → D ≤ k) : Below D a b :=
  ⟨h.os, h.tape, h.output, h.size, fun k hk => h.blk k (by omega) (by omega) (fun e => by have := ho k e; omega)⟩
variable {W W' : World} {g : Nat} {o : Option Nat} {s : FS}
theorem FA.lt (h : FA W g o s) : g < W.heap.size := by obtain ⟨tv, h1, _, _⟩ := h; exact Cells.lt h1
theorem FA.row (h : FA W g o s) : ∀ k, o = some k → g < k ∧ k < W.heap.size := by
  obtain ⟨tv, h1, rfl, h3⟩ := h
  intro k hk; have := h3.lt k hk; omega
theorem FA.below (h : FA W g o s) (hb : Below W.heap.size W W') : FA W' g o s := by
  obtain ⟨tv, h1, h2, h3⟩ := h
  exact ⟨tv, Cells.later h1 (hb.block _ (Cells.lt h1)), h2, own_below h3 hb⟩
/-- A feed stands while other blocks turn. -/
theorem own_later {w w' : World} {B e size n : Nat} {v : Value} {xs : List Value} (h : w.ownsRow B e size v n xs) (hb : ∀ k, v.ownBlock = some k → w'.heap[k]? = w.heap[k]?) : w'.ownsRow B e size v n xs := by
  refine ⟨h.1, ?_⟩
  rcases h.2 with hn | ⟨g, cap, cur, rfl, hg, hgg, rest⟩
  · exact .inl hn
  · exact .inr ⟨g, cap, cur, rfl, hg, by rw [hb g rfl]; exact hgg, rest⟩
theorem FA.later (h : FA W g o s) (hg : W'.heap[g]? = W.heap[g]?) (ho : ∀ k, o = some k → W'.heap[k]? = W.heap[k]?) : FA W' g o s := by
  obtain ⟨tv, h1, rfl, h3⟩ := h
  exact ⟨tv, Cells.later h1 hg, rfl, own_later h3 ho⟩
theorem FA.other {h' : Nat} {p p' : Option Nat} (h : FA W g o s) (hm : FMv h' p p' W W') (hne : g ≠ h') (hp : p ≠ some g) (ho : o ≠ some h') (hop : ∀ k, o = some k → p ≠ some k) : FA W' g o s :=
  h.later (hm.blk g h.lt hne hp) (fun k hk => hm.blk k (h.row k hk).2 (fun e => ho (e ▸ hk)) (hop k hk))

theorem FA.cells (h : FA W g o s) : ∃ tv, W.cell? ⟨g, 0, none⟩ = some (bnd (fnN s.m) g) ∧ W.cell? ⟨g, 1, none⟩ = some tv ∧ W.cell? ⟨g, 2, none⟩ = some (.int .i64 s.lits) ∧ W.cell? ⟨g, 3, none⟩ = some (.int .i64 s.fr) ∧ W.cell? ⟨g, 4, none⟩ = some (.int .i64 s.to) ∧
    (W.frozen? ⟨g, 0, none⟩ = false ∧ W.frozen? ⟨g, 1, none⟩ = false ∧ W.frozen? ⟨g, 2, none⟩ = false ∧ W.frozen? ⟨g, 3, none⟩ = false ∧ W.frozen? ⟨g, 4, none⟩ = false) ∧ tv.ownBlock = o ∧ W.ownsRow (g + 1) 5 1 tv s.t.length (bV s.t) ∧
      Cells W g 37 #[bnd (fnN s.m) g, tv, .int .i64 s.lits, .int .i64 s.fr, .int .i64 s.to] := by
  obtain ⟨tv, h1, h2, h3⟩ := h
  exact ⟨tv, h1.cell (i := 0) rfl, h1.cell (i := 1) rfl, h1.cell (i := 2) rfl, h1.cell (i := 3) rfl, h1.cell (i := 4) rfl, ⟨h1.frozen 0, h1.frozen 1, h1.frozen 2, h1.frozen 3, h1.frozen 4⟩, h2, h3, h1⟩
set_option maxRecDepth 100000 in
theorem feBegin_c {a0 a1 a2 a3 a4 : Value} (h1 : Cells W g 37 #[a0, a1, a2, a3, a4]) : Calls Tryd.prog 10 #[pt g] W fun e w' => e = .returned (.tuple #[]) ∧ FA w' g none FS.new ∧ Tk g W w' := by
  have c0 := h1.cell (i := 0) rfl
  have c1 := h1.cell (i := 1) rfl
  have c2 := h1.cell (i := 2) rfl
  have c3 := h1.cell (i := 3) rfl
  have c4 := h1.cell (i := 4) rfl
  have f0 := h1.frozen 0
  have f1 := h1.frozen 1
  have f2 := h1.frozen 2
  have f3 := h1.frozen 3
  have f4 := h1.frozen 4
  have hb := h1.lt
  have H := Lib.hid h1
  clear h1
  go_enter Tryd.func10, Tryd.ntmps10
  go_wp2_with fail
  go_end0
  have K := (((((H.out.set 0 .nilFunc).set 1 (.slice none 0 0)).set 2 (.int .i64 0)).set 3 (.int .i64 0)).set 4 (.int .i64 0)).set 0 (bnd 11 g)
  refine ⟨rfl, ⟨.slice none 0 0, K, rfl, World.ownsRow_nil _ _ _ _⟩, ?_⟩
  exact ((((((Tk.set W 0 _).trans (Tk.set _ 1 _)).trans (Tk.set _ 2 _)).trans (Tk.set _ 3 _)).trans (Tk.set _ 4 _))).trans (Tk.set _ 0 _)
theorem FA.drewN (h : FA W g o s) (n : Nat) : FA (W.drewN n) g o s := h
theorem FA.begun {w' : World} (h2 : FA w' g none FS.new) (h3 : Tk g W w') : FMv g o none W w' := (FMv.of_tk h3).none
set_option maxRecDepth 100000 in
theorem feNew_c (W : World) : Calls Tryd.prog 4 #[] W fun e w' => e = .returned (pt W.heap.size) ∧ FA w' W.heap.size none FS.new ∧ Below W.heap.size W w' := by
  have C := Lib.hid (feBegin_c (heap_alloc_new W (.cells #[.nilFunc, .slice none 0 0, .int .i64 0, .int .i64 0, .int .i64 0] 37)))
  have hB : Below W.heap.size W (W.alloc (.cells #[.nilFunc, .slice none 0 0, .int .i64 0, .int .i64 0, .int .i64 0] 37)) := (Below.refl _ W).alloc (Nat.le_refl _) _
  have hz : W.heap.size < (W.alloc (.cells #[.nilFunc, .slice none 0 0, .int .i64 0, .int .i64 0, .int .i64 0] 37)).heap.size := by simp
  obtain ⟨w0, hw0⟩ : ∃ w0, W.alloc (.cells #[.nilFunc, .slice none 0 0, .int .i64 0, .int .i64 0, .int .i64 0] 37) = w0 := ⟨_, rfl⟩
  rw [hw0] at C hB hz
  have HB := Lib.hid hB
  have HZ := Lib.hid hz
  have HW := Lib.hid hw0
  clear hB hw0 hz
  go_enter Tryd.func4, Tryd.ntmps4
  go_wp2_with fail
  rw [HW.out]
  refine C.out.mono ?_
  rintro e w1 ⟨rfl, h1, h2⟩
  have H1 := Lib.hid h1
  have H2 := Lib.hid h2
  clear h1 h2
  go_wp2_with fail
  go_ret
  exact ⟨rfl, H1.out, HB.out.trans (H2.out.below (Nat.le_refl _) (Nat.le_of_lt HZ.out))⟩
theorem feKept_c (h : FA W g o s) : Calls Tryd.prog 8 #[pt g] W fun e w' => e = .returned (.int .i64 s.t.length) ∧ w' = W := by
  obtain ⟨tv, c0, c1, c2, c3, c4, ⟨f0, f1, f2, f3, f4⟩, h2, h3, h1⟩ := h.cells
  obtain ⟨ad, cp, rfl⟩ := own_form h3
  have hb := h1.lt
  clear h h1 h2 h3
  go_enter Tryd.func8, Tryd.ntmps8
  go_wp2_with fail
  go_ret
  exact ⟨rfl, rfl⟩
/-- A feed whose state alone turns. -/
theorem FA.to_m (h : FA W g o s) (m : Nat) : FA (W.setCell ⟨g, 0, none⟩ (bnd (fnN m) g)) g o ⟨s.t, s.lits, s.fr, s.to, m⟩ := by
  obtain ⟨tv, h1, h2, h3⟩ := h
  refine ⟨tv, h1.set 0 _, h2, own_later h3 fun k hk => ?_⟩
  exact Below.heap_setCell W ⟨g, 0, none⟩ _ k (by have := h3.lt k hk; show k ≠ g; omega)
theorem feSkip_c (h : FA W g o s) (hm : s.m = 2) (n : Nat) (c : UInt8) (hn : n = c.toNat) : Calls Tryd.prog 20 #[pt g, .int .u8 n] W fun e w' => e = .returned (.slice none 0 0) ∧ FA w' g o ⟨s.t, s.lits, s.fr, s.to, if c = 13 then 3 else 2⟩ ∧ Tk g W w' := by
  obtain ⟨tv, c0, c1, c2, c3, c4, ⟨f0, f1, f2, f3, f4⟩, h2, h3, h1⟩ := h.cells
  have hb := h1.lt
  have H := Lib.hid h
  have hn9 : n < 256 := by rw [hn]; exact c.toNat_lt
  clear h h1 h2 h3 c1 c2 c3 c4 f1 f2 f3 f4
  by_cases hc : c = 13
  · subst hc
    subst hn
    rw [if_pos rfl]
    go_enter Tryd.func20, Tryd.ntmps20
    go_wp2_with fail
    go_ret
    exact ⟨rfl, H.out.to_m 3, Tk.set _ _ _⟩
  · rw [if_neg hc]
    have u : ((n : Int) == 13) = false := by
      rw [beq_eq_false_iff_ne]; intro h; exact hc (UInt8.toNat_inj.1 (by rw [← hn]; show n = 13; omega))
    clear hc hn
    go_enter Tryd.func20, Tryd.ntmps20
    go_wp2_with fail
    go_ret
    refine ⟨rfl, ?_, Tk.refl _ _⟩
    rw [← hm]; exact H.out
theorem feSkipEnd_c (h : FA W g o s) (hm : s.m = 3) (n : Nat) (c : UInt8) (hn : n = c.toNat) : Calls Tryd.prog 29 #[pt g, .int .u8 n] W fun e w' => e = .returned (.slice none 0 0) ∧ ∃ o', FA w' g o' (if c = 10 then FS.new else ⟨s.t, s.lits, s.fr, s.to, if c = 13 then 3 else 2⟩) ∧ FMv g o o' W w' := by
  obtain ⟨tv, c0, c1, c2, c3, c4, ⟨f0, f1, f2, f3, f4⟩, h2, h3, h1⟩ := h.cells
  have C := Lib.hid (feBegin_c h1)
  have hb := h1.lt
  have H := Lib.hid h
  have hn9 : n < 256 := by rw [hn]; exact c.toNat_lt
  clear h h1 h2 h3 c1 c2 c3 c4 f1 f2 f3 f4
  by_cases h10 : c = 10
  · subst h10
    subst hn
    rw [if_pos rfl]
    go_enter Tryd.func29, Tryd.ntmps29
    go_wp2_with fail
    refine C.out.mono ?_
    rintro e w1 ⟨rfl, h1, h2⟩
    have H1 := Lib.hid h1
    have H2 := Lib.hid h2
    clear h1 h2
    go_wp2_with fail
    go_ret
    exact ⟨rfl, none, H1.out, FA.begun H1.out H2.out⟩
  · rw [if_neg h10]
    have u : ((n : Int) == 10) = false := by
      rw [beq_eq_false_iff_ne]; intro h; exact h10 (UInt8.toNat_inj.1 (by rw [← hn]; show n = 10; omega))
    by_cases hc : c = 13
    · subst hc
      subst hn
      rw [if_pos rfl]
      clear u
      go_enter Tryd.func29, Tryd.ntmps29
      go_wp2_with fail
      go_ret
      refine ⟨rfl, o, ?_, FMv.refl _ _ _⟩
      rw [← hm]; exact H.out
    · rw [if_neg hc]
      have u2 : ((n : Int) == 13) = false := by
        rw [beq_eq_false_iff_ne]; intro h; exact hc (UInt8.toNat_inj.1 (by rw [← hn]; show n = 13; omega))
      clear hc hn h10
      go_enter Tryd.func29, Tryd.ntmps29
      go_wp2_with fail
      go_ret
      exact ⟨rfl, o, H.out.to_m 2, FMv.of_tk (Tk.set _ _ _)⟩
theorem feEndLit_c (h : FA W g o s) (hl : s.t.length ≤ 70000) : Calls Tryd.prog 19 #[pt g] W fun e w' => e = .returned (.tuple #[]) ∧ FA w' g o ⟨s.t, s.lits, s.fr, s.to, 0⟩ ∧ Tk g W w' := by
  obtain ⟨tv, c0, c1, c2, c3, c4, ⟨f0, f1, f2, f3, f4⟩, h2, h3, h1⟩ := h.cells
  obtain ⟨ad, cp, rfl⟩ := own_form h3
  have hb := h1.lt
  have H := Lib.hid h
  obtain ⟨N, hN⟩ : ∃ N, s.t.length = N := ⟨_, rfl⟩
  rw [hN] at c1 hl
  have q : ¬ (73728 : Int) < N := by omega
  clear h h1 h2 h3 c2 c3 c4 f1 f2 f3 f4 hN
  go_enter Tryd.func19, Tryd.ntmps19
  go_wp2_with fail
  go_end0
  exact ⟨rfl, H.out.to_m 0, Tk.set _ _ _⟩
end Go.Proofs.YtkmhdaalabhcbaaDoor

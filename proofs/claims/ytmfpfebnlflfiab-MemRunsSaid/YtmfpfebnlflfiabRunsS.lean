/-
  The law MemRuns: what stands in its walk; its small ways.
-/
import Derived.Test.YtmfpfebnlflfiabRunsC
import Derived.Test.YtmfpfebnlflfiabQuad
set_option linter.unusedVariables false
set_option linter.unusedSimpArgs false
namespace Go.Proofs.Ytmfpfebnlflfiab
open Go Go.RowKit
attribute [local go_sem ↓] Go.wp_at_zero Go.wp_at_succ
attribute [local go_sem] field_v field_t

/-- What stands between two accesses. -/
structure St (w0 : World) (D R n T : Nat) (ws cs : Nat → Nat) (v : Value) (l : List Ch) (W : World) : Prop where
  below : Below D w0 W
  mem : MemAt W D n T ws cs
  ref : Tri W R 29 (.int .i64 n) (.int .u64 T) v
  list : ListAt W (R + 1) v l
  agree : Agree n ws cs l
  lt : D < R
theorem St.later {w0 : World} {D R n T : Nat} {ws cs : Nat → Nat} {v : Value} {l : List Ch} {W W' : World} (h : St w0 D R n T ws cs v l W) (hb : Below W.heap.size W W') : St w0 D R n T ws cs v l W' :=
  ⟨h.below.trans (hb.mono (by have := h.mem.lt; omega)), h.mem.below hb h.mem.lt, h.ref.below hb h.ref.lt, h.list.below hb, h.agree, h.lt⟩
theorem St.drew {w0 : World} {D R n T : Nat} {ws cs : Nat → Nat} {v : Value} {l : List Ch} {W : World} (h : St w0 D R n T ws cs v l W) : St w0 D R n T ws cs v l W.drew := ⟨h.below.drew, h.mem.drew, h.ref, h.list.drew, h.agree, h.lt⟩

/-- The same, and the operation's own copy. -/
structure Full (w0 : World) (D R n T : Nat) (ws cs : Nat → Nat) (v : Value) (l : List Ch) (O : Nat) (k a o x : Value) (W : World) : Prop where
  st : St w0 D R n T ws cs v l W
  op : Quad W O 31 k a o x
theorem Full.later {w0 : World} {D R n T : Nat} {ws cs : Nat → Nat} {v : Value} {l : List Ch} {O : Nat} {k a o x : Value} {W W' : World} (h : Full w0 D R n T ws cs v l O k a o x W) (hb : Below W.heap.size W W') : Full w0 D R n T ws cs v l O k a o x W' :=
  ⟨h.st.later hb, h.op.below hb h.op.lt⟩
theorem Full.drew {w0 : World} {D R n T : Nat} {ws cs : Nat → Nat} {v : Value} {l : List Ch} {O : Nat} {k a o x : Value} {W : World} (h : Full w0 D R n T ws cs v l O k a o x W) : Full w0 D R n T ws cs v l O k a o x W.drew := ⟨h.st.drew, h.op⟩
theorem Full.cells {w0 : World} {D R n T : Nat} {ws cs : Nat → Nat} {v : Value} {l : List Ch} {O : Nat} {k a o x : Value} {W : World} (h : Full w0 D R n T ws cs v l O k a o x W) :
    W.cell? ⟨O, 1, none⟩ = some a ∧ W.cell? ⟨R, 0, none⟩ = some (.int .i64 n) ∧ W.cell? ⟨R, 1, none⟩ = some (.int .u64 T) ∧ W.cell? ⟨R, 2, none⟩ = some v ∧ Full w0 D R n T ws cs v l O k a o x W :=
  ⟨h.op.cell.2.1, h.st.ref.cell.1, h.st.ref.cell.2.1, h.st.ref.cell.2.2.1, h⟩
theorem Full.of {w0 : World} {D R n T : Nat} {ws cs : Nat → Nat} {v : Value} {l : List Ch} {O : Nat} {k a o x : Value} {W : World}
    (h : W.cell? ⟨O, 1, none⟩ = some a ∧ W.cell? ⟨R, 0, none⟩ = some (.int .i64 n) ∧ W.cell? ⟨R, 1, none⟩ = some (.int .u64 T) ∧ W.cell? ⟨R, 2, none⟩ = some v ∧ Full w0 D R n T ws cs v l O k a o x W) : Full w0 D R n T ws cs v l O k a o x W := h.2.2.2.2

/-- What stands while the program's own access is made, beside the memory: the document's answer lies at X. -/
structure Half (w0 : World) (D R n T : Nat) (v : Value) (l : List Ch) (O X : Nat) (k a o x : Value) (W : World) : Prop where
  below : Below D w0 W
  ref : ∃ y z u, Tri W R 29 y z u
  list : ListAt W (R + 1) v l
  op : Quad W O 31 k a o x
  ans : Tri W X 29 (.int .i64 n) (.int .u64 T) v
  lt : D < R
  ltO : R < O
  ltX : R < X
theorem Half.drew {w0 : World} {D R n T : Nat} {v : Value} {l : List Ch} {O X : Nat} {k a o x : Value} {W : World} (h : Half w0 D R n T v l O X k a o x W) : Half w0 D R n T v l O X k a o x W.drew := ⟨h.below.drew, h.ref, h.list.drew, h.op, h.ans, h.lt, h.ltO, h.ltX⟩
theorem ListAt.keep {w w' : World} {B : Nat} {v : Value} {l : List Ch} (h : ListAt w B v l) (hb : ∀ k, B ≤ k → k < w.heap.size → w'.heap[k]? = w.heap[k]?) : ListAt w' B v l := by
  refine ⟨⟨h.own.1, ?_⟩, h.nil⟩
  rcases h.own.2 with hn | ⟨g, cap, cur, rfl, hg, hgg, rest⟩
  · exact .inl hn
  · exact .inr ⟨g, cap, cur, rfl, hg, by rw [hb g hg (lt_of_block hgg)]; exact hgg, rest⟩
theorem Half.only {w0 : World} {D R n T : Nat} {v : Value} {l : List Ch} {O X : Nat} {k a o x : Value} {W W' : World} (h : Half w0 D R n T v l O X k a o x W) (ho : Only D W W') : Half w0 D R n T v l O X k a o x W' := by
  obtain ⟨y, z, u, hr⟩ := h.ref
  have h1 := h.lt
  have h2 := h.ltO
  have h3 := h.ltX
  exact ⟨h.below.trans (ho.below (Nat.le_refl _) (by have := hr.lt; omega)), ⟨y, z, u, hr.later (ho.block _ (by omega) hr.lt)⟩, h.list.keep (fun i hi hl => ho.block _ (by omega) hl), h.op.later (ho.block _ (by omega) h.op.lt), h.ans.later (ho.block _ (by omega) h.ans.lt), h1, h2, h3⟩
theorem Half.set {w0 : World} {D R n T : Nat} {v : Value} {l : List Ch} {O X : Nat} {k a o x : Value} {W : World} (h : Half w0 D R n T v l O X k a o x W) (p q r : Value) :
    Half w0 D R n T v l O X k a o x (((W.setCell ⟨R, 0, none⟩ p).setCell ⟨R, 1, none⟩ q).setCell ⟨R, 2, none⟩ r) := by
  obtain ⟨y, z, u, hr⟩ := h.ref
  have h1 := h.lt
  have h2 := h.ltO
  have h3 := h.ltX
  have hk : ∀ i, i ≠ R → (((W.setCell ⟨R, 0, none⟩ p).setCell ⟨R, 1, none⟩ q).setCell ⟨R, 2, none⟩ r).heap[i]? = W.heap[i]? := fun i hi =>
    ((Below.heap_setCell _ _ _ i hi).trans (Below.heap_setCell _ _ _ i hi)).trans (Below.heap_setCell _ _ _ i hi)
  exact ⟨((h.below.setCell (p := ⟨R, 0, none⟩) (Nat.le_of_lt h1) p).setCell (p := ⟨R, 1, none⟩) (Nat.le_of_lt h1) q).setCell (p := ⟨R, 2, none⟩) (Nat.le_of_lt h1) r, ⟨p, q, r, ((hr.set0 p).set1 q).set2 r⟩, h.list.keep (fun i hi _ => hk i (by omega)), h.op.later (hk _ (by omega)), h.ans.later (hk _ (by omega)), h1, h2, h3⟩
theorem Half.full {w0 : World} {D R n T : Nat} {v : Value} {l : List Ch} {O X : Nat} {k a o x : Value} {W : World} {ws cs : Nat → Nat} (h : Half w0 D R n T v l O X k a o x W) (hm : MemAt W D n T ws cs) (ha : Agree n ws cs l) :
    Full w0 D R n T ws cs v l O k a o x (((W.setCell ⟨R, 0, none⟩ (.int .i64 n)).setCell ⟨R, 1, none⟩ (.int .u64 T)).setCell ⟨R, 2, none⟩ v) := by
  have h0 := h.set (.int .i64 n) (.int .u64 T) v
  obtain ⟨y, z, u, hr⟩ := h.ref
  have h1 := h.lt
  refine ⟨⟨h0.below, hm.later ?_, ((hr.set0 _).set1 _).set2 _, h0.list, ha, h1⟩, h0.op⟩
  exact ((Below.heap_setCell _ _ _ D (by show D ≠ R; omega)).trans (Below.heap_setCell _ _ _ D (by show D ≠ R; omega))).trans (Below.heap_setCell _ _ _ D (by show D ≠ R; omega))
theorem Half.cells {w0 : World} {D R n T : Nat} {v : Value} {l : List Ch} {O X : Nat} {k a o x : Value} {W : World} (h : Half w0 D R n T v l O X k a o x W) :
    W.cell? ⟨X, 0, none⟩ = some (.int .i64 n) ∧ W.cell? ⟨X, 1, none⟩ = some (.int .u64 T) ∧ W.cell? ⟨X, 2, none⟩ = some v ∧ W.cell? ⟨O, 1, none⟩ = some a ∧ W.cell? ⟨O, 2, none⟩ = some o ∧ W.cell? ⟨O, 3, none⟩ = some x ∧ Half w0 D R n T v l O X k a o x W :=
  ⟨h.ans.cell.1, h.ans.cell.2.1, h.ans.cell.2.2.1, h.op.cell.2.1, h.op.cell.2.2.1, h.op.cell.2.2.2, h⟩
theorem Half.of {w0 : World} {D R n T : Nat} {v : Value} {l : List Ch} {O X : Nat} {k a o x : Value} {W : World}
    (h : W.cell? ⟨X, 0, none⟩ = some (.int .i64 n) ∧ W.cell? ⟨X, 1, none⟩ = some (.int .u64 T) ∧ W.cell? ⟨X, 2, none⟩ = some v ∧ W.cell? ⟨O, 1, none⟩ = some a ∧ W.cell? ⟨O, 2, none⟩ = some o ∧ W.cell? ⟨O, 3, none⟩ = some x ∧ Half w0 D R n T v l O X k a o x W) : Half w0 D R n T v l O X k a o x W := h.2.2.2.2.2.2

/-- What stands beside the memory. -/
structure Part (w0 : World) (D R n T : Nat) (v : Value) (l : List Ch) (O : Nat) (k a o x : Value) (W : World) : Prop where
  below : Below D w0 W
  ref : Tri W R 29 (.int .i64 n) (.int .u64 T) v
  list : ListAt W (R + 1) v l
  op : Quad W O 31 k a o x
  lt : D < R
  ltO : R < O
theorem Full.only {w0 : World} {D R n T : Nat} {ws cs : Nat → Nat} {v : Value} {l : List Ch} {O : Nat} {k a o x : Value} {W W' : World} (h : Full w0 D R n T ws cs v l O k a o x W) (hO : R < O) (ho : Only D W W') : Part w0 D R n T v l O k a o x W' := by
  have h1 := h.st.lt
  exact ⟨h.st.below.trans (ho.below (Nat.le_refl _) (Nat.le_of_lt h.st.mem.lt)), h.st.ref.later (ho.block _ (by omega) h.st.ref.lt), h.st.list.keep (fun i hi hl => ho.block _ (by omega) hl), h.op.later (ho.block _ (by omega) h.op.lt), h1, hO⟩
theorem Part.later {w0 : World} {D R n T : Nat} {v : Value} {l : List Ch} {O : Nat} {k a o x : Value} {W W' : World} (h : Part w0 D R n T v l O k a o x W) (hb : Below W.heap.size W W') : Part w0 D R n T v l O k a o x W' :=
  ⟨h.below.trans (hb.mono (by have := h.ref.lt; have := h.lt; omega)), h.ref.below hb h.ref.lt, h.list.below hb, h.op.below hb h.op.lt, h.lt, h.ltO⟩
theorem Part.fin {w0 : World} {D R n T T' : Nat} {v v' : Value} {l l' : List Ch} {O : Nat} {k a o x : Value} {W : World} {ws cs : Nat → Nat} (h : Part w0 D R n T v l O k a o x W) (hl : ListAt W (R + 1) v' l') (hm : MemAt W D n T' ws cs) (ha : Agree n ws cs l') :
    Full w0 D R n T' ws cs v' l' O k a o x (((W.setCell ⟨R, 0, none⟩ (.int .i64 n)).setCell ⟨R, 1, none⟩ (.int .u64 T')).setCell ⟨R, 2, none⟩ v') := by
  have h1 := h.lt
  have h2 := h.ltO
  have hk : ∀ i, i ≠ R → (((W.setCell ⟨R, 0, none⟩ (.int .i64 n)).setCell ⟨R, 1, none⟩ (.int .u64 T')).setCell ⟨R, 2, none⟩ v').heap[i]? = W.heap[i]? := fun i hi =>
    ((Below.heap_setCell _ _ _ i hi).trans (Below.heap_setCell _ _ _ i hi)).trans (Below.heap_setCell _ _ _ i hi)
  exact ⟨⟨((h.below.setCell (p := ⟨R, 0, none⟩) (Nat.le_of_lt h1) _).setCell (p := ⟨R, 1, none⟩) (Nat.le_of_lt h1) _).setCell (p := ⟨R, 2, none⟩) (Nat.le_of_lt h1) _, hm.later (hk _ (by omega)), ((h.ref.set0 _).set1 _).set2 _, hl.keep (fun i hi _ => hk i (by omega)), ha, h1⟩, h.op.later (hk _ (by omega))⟩

/-- The operations, as they lie. -/
def OpsAt (w : World) (p : Option Addr) (N : Nat) (kd : Nat → Nat) (at' : Nat → Int) (od vv : Nat → Nat) : Prop :=
  ∀ i, i < N → ∃ b off, p = some ⟨b, off, none⟩ ∧ b < w.heap.size ∧ w.cell? ⟨b, off + i * 4, none⟩ = some (.int .u8 (kd i)) ∧ w.cell? ⟨b, off + i * 4 + 1, none⟩ = some (.int .i64 (at' i)) ∧
    w.cell? ⟨b, off + i * 4 + 2, none⟩ = some (.int .u64 (od i)) ∧ w.cell? ⟨b, off + i * 4 + 3, none⟩ = some (.int .u64 (vv i)) ∧ kd i < 256

set_option maxHeartbeats 400000 in
theorem memruns_great (i : Int) (p : Option Addr) (N cap : Nat) (hN : N ≤ maxLen) (h : 200 < N) (w : World) : Calls Try.prog 3 #[.int .i64 i, .slice p N cap] w fun e w' => e = .returned (.bool true) ∧ Below w.heap.size w w' := by
  unfold maxLen at hN
  have h1 : (200 : Int) < N := by omega
  go_enter Try.func3, Try.ntmps3
  go_wp2_with fail
  go_ret
  exact ⟨rfl, Below.refl _ _⟩

set_option maxHeartbeats 1000000 in
theorem memruns_no (i : Int) (hi : i < 1 ∨ 8192 < i) (p : Option Addr) (N cap : Nat) (h : N ≤ 200) (w : World) : Calls Try.prog 3 #[.int .i64 i, .slice p N cap] w fun e w' => e = .returned (.bool true) ∧ Below w.heap.size w w' := by
  have h1 : (N : Int) ≤ 200 := by omega
  have C1 := Lib.hid (mNew_no i hi)
  rcases hi with hi | hi
  · go_enter Try.func3, Try.ntmps3
    go_wp2_with fail
    refine (C1.out _).mono ?_
    rintro e w' ⟨rfl, rfl⟩
    go_wp2_with fail
    refine (awake3_c _).mono ?_
    rintro e w' ⟨rfl, hb⟩
    go_wp2_with fail
    go_ret
    exact ⟨rfl, hb⟩
  · have h0 : ¬ i < 1 := by omega
    go_enter Try.func3, Try.ntmps3
    go_wp2_with fail
    refine (C1.out _).mono ?_
    rintro e w' ⟨rfl, rfl⟩
    go_wp2_with fail
    refine (awake3_c _).mono ?_
    rintro e w' ⟨rfl, hb⟩
    go_wp2_with fail
    go_ret
    exact ⟨rfl, hb⟩

end Go.Proofs.Ytmfpfebnlflfiab

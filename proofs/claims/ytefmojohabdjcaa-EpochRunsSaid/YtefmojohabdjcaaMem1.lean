/-
  A memory as it lies: its block; what New makes; what a method leaves alone.
-/
import Derived.Test.YtefmojohabdjcaaProg
import Derived.WalkKit
import Derived.Lib.Hide
import Derived.Below
import Derived.OneCell
import Derived.Laws.Rows
import Derived.Laws.Tables
import Derived.KernelRfl
import Derived.Deep.QuietTactic
import Derived.BigQuiet
set_option linter.unusedVariables false
set_option linter.unusedSimpArgs false
namespace Go.Proofs.Ytefmojohabdjcaa
open Go Go.RowKit

/-- What a call does that turns one block of those that were there. -/
structure Only (B : Nat) (w w' : World) : Prop where
  os : w'.os = w.os
  tape : w'.tape = w.tape
  output : w'.output = w.output
  size : w.heap.size ≤ w'.heap.size
  block : ∀ k, k ≠ B → k < w.heap.size → w'.heap[k]? = w.heap[k]?
theorem Only.refl (B : Nat) (w : World) : Only B w w := ⟨rfl, rfl, rfl, Nat.le_refl _, fun _ _ _ => rfl⟩
theorem Only.trans {B : Nat} {a b c : World} (h : Only B a b) (k : Only B b c) : Only B a c :=
  ⟨k.os.trans h.os, k.tape.trans h.tape, k.output.trans h.output, Nat.le_trans h.size k.size, fun i hi hl => (k.block i hi (Nat.lt_of_lt_of_le hl h.size)).trans (h.block i hi hl)⟩
theorem Only.of_below {B : Nat} {a b : World} (h : Below a.heap.size a b) : Only B a b := ⟨h.os, h.tape, h.output, h.size, fun k _ hk => h.block k hk⟩
theorem Only.setCell {B : Nat} {a b : World} (h : Only B a b) (i : Nat) (v : Value) : Only B a (b.setCell ⟨B, i, none⟩ v) :=
  ⟨h.os, h.tape, h.output, by rw [World.size_setCell]; exact h.size, fun k hk hl => (Below.heap_setCell b _ v k hk).trans (h.block k hk hl)⟩
theorem Only.drew {B : Nat} {a b : World} (h : Only B a b) : Only B a b.drew := ⟨h.os, h.tape, h.output, h.size, h.block⟩
theorem Only.drewN {B : Nat} {a b : World} (h : Only B a b) (n : Nat) : Only B a (b.drewN n) := ⟨h.os, h.tape, h.output, h.size, h.block⟩
theorem Only.alloc {B : Nat} {a b : World} (h : Only B a b) (o : Obj) : Only B a (b.alloc o) :=
  h.trans (Only.of_below ((Below.refl _ _).alloc (Nat.le_refl _) _))
theorem Only.below {B D : Nat} {a b : World} (h : Only B a b) (hD : D ≤ B) (hs : D ≤ a.heap.size) : Below D a b :=
  ⟨h.os, h.tape, h.output, h.size, fun k hk => h.block k (by omega) (by omega)⟩
theorem Only.cell {B : Nat} {a b : World} (h : Only B a b) {k : Nat} (hk : k ≠ B) (hl : k < a.heap.size) (i : Nat) : b.cell? ⟨k, i, none⟩ = a.cell? ⟨k, i, none⟩ :=
  World.cell?_of_block (w := a) (h.block k hk hl)

/-- A memory: its block holds so many words, the times of their last changes, how many there are, the time. -/
def MemAt (W : World) (B : Nat) (n t : Nat) (ws cs : Nat → Nat) : Prop :=
  ∃ c : Array Value, W.heap[B]? = some (.cells c 109 (0, 0)) ∧ (∀ i, i < 8192 → c[i]? = some (.int .u64 (ws i))) ∧ (∀ i, i < 8192 → c[8192 + i]? = some (.int .u64 (cs i))) ∧
    c[16384]? = some (.int .i64 n) ∧ c[16385]? = some (.int .u64 t)

theorem MemAt.later {W W' : World} {B n t : Nat} {ws cs : Nat → Nat} (h : MemAt W B n t ws cs) (hb : W'.heap[B]? = W.heap[B]?) : MemAt W' B n t ws cs := by
  obtain ⟨c, h1, h2⟩ := h
  exact ⟨c, hb.trans h1, h2⟩
theorem MemAt.lt {W : World} {B n t : Nat} {ws cs : Nat → Nat} (h : MemAt W B n t ws cs) : B < W.heap.size := by
  obtain ⟨c, h1, _⟩ := h
  exact lt_of_block h1
theorem MemAt.below {W W' : World} {B n t D : Nat} {ws cs : Nat → Nat} (h : MemAt W B n t ws cs) (hb : Below D W W') (hB : B < D) : MemAt W' B n t ws cs := h.later (hb.block B hB)
theorem MemAt.only {W W' : World} {B n t D : Nat} {ws cs : Nat → Nat} (h : MemAt W B n t ws cs) (hb : Only D W W') (hB : B ≠ D) : MemAt W' B n t ws cs := h.later (hb.block B hB h.lt)
theorem MemAt.cell {W : World} {B n t : Nat} {ws cs : Nat → Nat} (h : MemAt W B n t ws cs) :
    (∀ i, i < 8192 → W.cell? ⟨B, i, none⟩ = some (.int .u64 (ws i))) ∧ (∀ i, i < 8192 → W.cell? ⟨B, 8192 + i, none⟩ = some (.int .u64 (cs i))) ∧
    W.cell? ⟨B, 16384, none⟩ = some (.int .i64 n) ∧ W.cell? ⟨B, 16385, none⟩ = some (.int .u64 t) ∧ ∀ i, W.frozen? ⟨B, i, none⟩ = false := by
  obtain ⟨c, h1, h2, h3, h4, h5⟩ := h
  refine ⟨fun i hi => ?_, fun i hi => ?_, ?_, ?_, fun i => ?_⟩
  · simp only [World.cell?, h1]; exact h2 i hi
  · simp only [World.cell?, h1]; exact h3 i hi
  · simp only [World.cell?, h1]; exact h4
  · simp only [World.cell?, h1]; exact h5
  · simp [World.frozen?, h1]

def upd (f : Nat → Nat) (i v : Nat) : Nat → Nat := fun j => if j = i then v else f j
theorem upd_same (f : Nat → Nat) (i v : Nat) : upd f i v i = v := by simp [upd]
theorem upd_other (f : Nat → Nat) (i v j : Nat) (h : j ≠ i) : upd f i v j = f j := by simp [upd, h]

theorem MemAt.setWord {W : World} {B n t : Nat} {ws cs : Nat → Nat} (h : MemAt W B n t ws cs) (i v : Nat) (hi : i < 8192) : MemAt (W.setCell ⟨B, i, none⟩ (.int .u64 v)) B n t (upd ws i v) cs := by
  obtain ⟨c, h1, h2, h3, h4, h5⟩ := h
  have hl : i < c.size := (Array.getElem?_eq_some_iff.1 (h2 i hi)).1
  refine ⟨c.setIfInBounds i (.int .u64 v), heap_setCell_same W B i c _ _ h1, fun j hj => ?_, fun j hj => ?_, ?_, ?_⟩
  · by_cases e : j = i
    · subst e; rw [upd_same, Array.getElem?_setIfInBounds_self_of_lt hl]
    · rw [upd_other _ _ _ _ e, Array.getElem?_setIfInBounds_ne (by omega)]; exact h2 j hj
  · rw [Array.getElem?_setIfInBounds_ne (by omega)]; exact h3 j hj
  · rw [Array.getElem?_setIfInBounds_ne (by omega)]; exact h4
  · rw [Array.getElem?_setIfInBounds_ne (by omega)]; exact h5
theorem MemAt.setChanged {W : World} {B n t : Nat} {ws cs : Nat → Nat} (h : MemAt W B n t ws cs) (i v : Nat) (hi : i < 8192) : MemAt (W.setCell ⟨B, 8192 + i, none⟩ (.int .u64 v)) B n t ws (upd cs i v) := by
  obtain ⟨c, h1, h2, h3, h4, h5⟩ := h
  have hl : 8192 + i < c.size := (Array.getElem?_eq_some_iff.1 (h3 i hi)).1
  refine ⟨c.setIfInBounds (8192 + i) (.int .u64 v), heap_setCell_same W B _ c _ _ h1, fun j hj => ?_, fun j hj => ?_, ?_, ?_⟩
  · rw [Array.getElem?_setIfInBounds_ne (by omega)]; exact h2 j hj
  · by_cases e : j = i
    · subst e; rw [upd_same, Array.getElem?_setIfInBounds_self_of_lt hl]
    · rw [upd_other _ _ _ _ e, Array.getElem?_setIfInBounds_ne (by omega)]; exact h3 j hj
  · rw [Array.getElem?_setIfInBounds_ne (by omega)]; exact h4
  · rw [Array.getElem?_setIfInBounds_ne (by omega)]; exact h5
theorem MemAt.setTime {W : World} {B n t : Nat} {ws cs : Nat → Nat} (h : MemAt W B n t ws cs) (v : Nat) : MemAt (W.setCell ⟨B, 16385, none⟩ (.int .u64 v)) B n v ws cs := by
  obtain ⟨c, h1, h2, h3, h4, h5⟩ := h
  have hl : 16385 < c.size := (Array.getElem?_eq_some_iff.1 h5).1
  refine ⟨c.setIfInBounds 16385 (.int .u64 v), heap_setCell_same W B _ c _ _ h1, fun j hj => ?_, fun j hj => ?_, ?_, ?_⟩
  · rw [Array.getElem?_setIfInBounds_ne (by omega)]; exact h2 j hj
  · rw [Array.getElem?_setIfInBounds_ne (by omega)]; exact h3 j hj
  · rw [Array.getElem?_setIfInBounds_ne (by omega)]; exact h4
  · rw [Array.getElem?_setIfInBounds_self_of_lt hl]
theorem MemAt.drewN {W : World} {B n t : Nat} {ws cs : Nat → Nat} (h : MemAt W B n t ws cs) (k : Nat) : MemAt (W.drewN k) B n t ws cs := h
theorem MemAt.drew {W : World} {B n t : Nat} {ws cs : Nat → Nat} (h : MemAt W B n t ws cs) : MemAt W.drew B n t ws cs := h

/-- The zero value of a memory. -/
def u64z : Value → Bool
  | .int .u64 0 => true
  | _ => false
def i64z : Value → Bool
  | .int .i64 0 => true
  | _ => false
def memZ : List Value → Nat → Bool
  | [], _ => false
  | x :: r, 0 => i64z x && (match r with | [y] => u64z y | _ => false)
  | x :: r, n + 1 => u64z x && memZ r n
theorem u64z_eq {v : Value} (h : u64z v = true) : v = .int .u64 0 := by
  unfold u64z at h; split at h
  · rfl
  · cases h
theorem i64z_eq {v : Value} (h : i64z v = true) : v = .int .i64 0 := by
  unfold i64z at h; split at h
  · rfl
  · cases h
/-- So many noughts, a count, a nought. -/
def zl (N : Nat) (n : Int) : List Value := List.replicate N (.int .u64 0) ++ [.int .i64 n, .int .u64 0]
theorem zl_length (N : Nat) (n : Int) : (zl N n).length = N + 2 := by simp [zl]
theorem zl_lt (N : Nat) (n : Int) (i : Nat) (h : i < N) : (zl N n)[i]? = some (.int .u64 0) := by
  unfold zl; rw [List.getElem?_append_left (by simpa using h), List.getElem?_replicate]; simp [h]
theorem zl_count (N : Nat) (n : Int) : (zl N n)[N]? = some (.int .i64 n) := by
  unfold zl; rw [List.getElem?_append_right (by simp)]; simp
theorem zl_time (N : Nat) (n : Int) : (zl N n)[N + 1]? = some (.int .u64 0) := by
  unfold zl; rw [List.getElem?_append_right (by simp)]; simp
theorem zl_set (N : Nat) (n m : Int) : (zl N n).set N (.int .i64 m) = zl N m := by
  unfold zl; rw [List.set_append_right _ _ (by simp)]; simp
theorem memZ_eq : ∀ (l : List Value) (n : Nat), memZ l n = true → l = zl n 0
  | [], n, h => by cases n <;> cases h
  | x :: r, 0, h => by
    unfold memZ at h
    rw [Bool.and_eq_true] at h
    match r, h with
    | [y], h => rw [i64z_eq h.1, u64z_eq h.2]; rfl
  | x :: r, n + 1, h => by
    unfold memZ at h
    rw [Bool.and_eq_true] at h
    rw [u64z_eq h.1, memZ_eq r n h.2]; rfl
theorem zeroMem : ((Try.prog.info? 109).bind (·.zero)).any (fun v => match v with | .agg c => memZ c.toList 16384 | _ => false) = true := by kernel_rfl
theorem placesMem (fs : Array Field) (h : Try.prog.underlying 109 = some (.struct fs)) : fs.toList.mapM (fun f => (Try.prog.info? f.type).map fun i => (f.offset, i.size)) = some [(0, 8192), (8192, 8192), (16384, 1), (16385, 1)] := by
  rw [Try.underlying109] at h
  cases h
  kernel_rfl

theorem fill_at (c : Array Value) (N : Nat) (places : Array (Nat × Nat)) (hp : places[2]? = some (N, 1)) (hs : N + 2 = c.size) (v : Int) :
    Instr.fill (places[·]?) c [(2, .int .i64 v)] = some (c.setIfInBounds N (.int .i64 v)) := by
  have h1 : (Value.int .i64 v).cells = #[.int .i64 v] := rfl
  unfold Instr.fill
  simp only [hp, h1]
  rw [if_neg (by simp; omega)]
  rfl

theorem built_of (it : TypeInfo) (fs : Array Field) (c : Array Value) (N : Nat) (places : List (Nat × Nat)) (hi : Try.prog.info? 109 = some it) (hu : Try.prog.underlying 109 = some (.struct fs)) (hz : it.zero = some (.agg c))
    (hp : fs.toList.mapM (fun f => (Try.prog.info? f.type).map fun i => (f.offset, i.size)) = some places) (h2 : places.toArray[2]? = some (N, 1)) (hc : c.toList = zl N 0) (n : Int) :
    ∃ d : Array Value, Try.prog.built 109 [(2, .int .i64 n)] = some d ∧ d.toList = zl N n := by
  have hsz : N + 2 = c.size := by rw [← Array.length_toList, hc, zl_length]
  refine ⟨c.setIfInBounds N (.int .i64 n), ?_, ?_⟩
  · unfold Program.built
    rw [hi, hu]
    dsimp only
    rw [hz, hp]
    exact fill_at c N _ h2 hsz n
  · rw [Array.toList_setIfInBounds, hc, zl_set]

theorem built_mem (n : Int) : ∃ c : Array Value, Try.prog.built 109 [(2, .int .i64 n)] = some c ∧ c.toList = zl 16384 n := by
  have hz := zeroMem
  cases hi : Try.prog.info? 109 with
  | none => rw [hi] at hz; cases hz
  | some it =>
    rw [hi] at hz
    simp only [Option.bind_some] at hz
    cases hzv : it.zero with
    | none => rw [hzv] at hz; cases hz
    | some v =>
      rw [hzv] at hz
      simp only [Option.any_some] at hz
      split at hz
      · rename_i c
        exact built_of it _ c 16384 _ hi Try.underlying109 hzv (placesMem _ Try.underlying109) rfl (memZ_eq _ _ hz) n
      · cases hz

theorem memAt_alloc (w : World) (n : Nat) (c : Array Value) (hc : c.toList = zl 16384 n) :
    MemAt (w.alloc (.cells c 109 (0, 0))) w.heap.size n 0 (fun _ => 0) (fun _ => 0) := by
  refine ⟨c, heap_alloc_new _ _, fun i hi => ?_, fun i hi => ?_, ?_, ?_⟩
  all_goals rw [← Array.getElem?_toList, hc]
  · exact zl_lt _ _ _ (by omega)
  · exact zl_lt _ _ _ (by omega)
  · exact zl_count 16384 n
  · exact zl_time 16384 n
end Go.Proofs.Ytefmojohabdjcaa

/-
  Nodes in a shelf.
-/
import Derived.Test.YtdelhpogacccjaaTr4
import Derived.Deep.MidRow
import Derived.Deep.WholeRow
set_option linter.unusedVariables false
set_option linter.unusedSimpArgs false
namespace Go.Proofs.Ytdelhpogacccjaa
open Go Go.RowKit

/-- A node of the program's tree. -/
structure TN where
  kind : Nat
  cnt : Int
  kids : Nat → Int
  rc : R7
def nodeA (n : TN) : Array Value := #[.int .u8 n.kind, .int .i64 n.cnt, .int .i64 (n.kids 0), .int .i64 (n.kids 1), .int .i64 (n.kids 2), .int .i64 (n.kids 3), .int .i64 (n.kids 4), .int .i64 (n.kids 5), .int .i64 (n.kids 6), .int .i64 (n.kids 7),
  .int .i64 (n.kids 8), .int .i64 (n.kids 9), .int .i64 (n.kids 10), .int .i64 (n.kids 11), .int .i64 (n.kids 12), .int .i64 (n.kids 13), .int .i64 (n.kids 14), .int .i64 (n.kids 15), .int .u32 n.rc.uid, .int .u8 n.rc.fl, .string n.rc.tx,
  .int .i64 0, .int .i64 0, .int .u32 0, .int .u32 0, .int .u64 0]
def noTN : TN := ⟨0, 0, fun _ => 0, noR⟩
theorem nodeA_size (n : TN) : (nodeA n).size = 26 := rfl
theorem nodeA_len (n : TN) : (nodeA n).toList.length = 26 := rfl
theorem sizeNode : (Try.prog.info? 45).map (·.size) = some 26 := by kernel_rfl
theorem rowNode : ∃ d, Try.prog.underlying 45 = some d ∧ d.isRow = true := ⟨_, Try.underlying45, rfl⟩
theorem nodeA_one (n : TN) : (nodeA n).all (·.oneCell') = true := by simp [nodeA, Value.oneCell']
variable {W W' : World}
def ShelfRow (W : World) (v : Value) (ns : List TN) : Prop :=
  (v = .slice none 0 0 ∧ ns = []) ∨ ∃ ad cap, v = .slice (some ad) ns.length cap ∧ ∀ j n, ns[j]? = some n → ∃ b off, ad = ⟨b, off, none⟩ ∧ b < W.heap.size ∧ W.rangeAt b (off + j * 26) (nodeA n).toList
theorem ShelfRow.below {v : Value} {ns : List TN} (h : ShelfRow W v ns) (hb : Below W.heap.size W W') : ShelfRow W' v ns := by
  rcases h with h | ⟨ad, cap, rfl, h⟩
  · exact .inl h
  · refine .inr ⟨ad, cap, rfl, fun j n hj => ?_⟩
    obtain ⟨b, off, rfl, hlt, h0⟩ := h j n hj
    exact ⟨b, off, rfl, Nat.lt_of_lt_of_le hlt hb.size, fun i u hu => by rw [hb.cell (p := ⟨b, _, none⟩) hlt]; exact h0 i u hu⟩
theorem ShelfRow.form {v : Value} {ns : List TN} (h : ShelfRow W v ns) : ∃ ad cp, v = .slice ad ns.length cp := by
  rcases h with ⟨rfl, rfl⟩ | ⟨ad, cap, rfl, _⟩
  · exact ⟨none, 0, rfl⟩
  · exact ⟨_, _, rfl⟩
theorem ShelfRow.at {ns : List TN} {ad : Option Addr} {n cp : Nat} (h : ShelfRow W (.slice ad n cp) ns) {j : Nat} {x : TN} (hj : ns[j]? = some x) :
    ∃ b off, ad = some ⟨b, off, none⟩ ∧ b < W.heap.size ∧ W.rangeAt b (off + j * 26) (nodeA x).toList := by
  rcases h with ⟨_, rfl⟩ | ⟨a, cap, he, h⟩
  · simp at hj
  · obtain ⟨b, off, rfl, h2⟩ := h j x hj
    cases he
    exact ⟨b, off, rfl, h2⟩
/-- The node in a slot of a shelf. -/
def atOf (ns : List TN) (slot : Int) : TN × Bool := if slot < 0 then (noTN, false) else match ns[slot.toNat]? with | none => (noTN, false) | some n => if n.kind = 0 then (noTN, false) else (n, true)
theorem results_at (tmps : Array Value) (w : World) (B : Nat) (c : Array Value) (d : Value) (h : w.heap[B]? = some (.cells c 45 (0, 0))) (hc : c.size = 26) (h2 : tmps.getD 4 undef = .pointer (some ⟨B, 0, none⟩)) (h3 : tmps.getD 5 undef = d) : (results Try.f53 tmps).run Try.prog w = .ok (.tuple #[.agg c, d]) w := by
  have h2' : tmps[4]?.getD undef = .pointer (some ⟨B, 0, none⟩) := by simpa using h2
  have h3' : tmps[5]?.getD undef = d := by simpa using h3
  have hl := run_loadVar_row (P := Try.prog) w B 45 45 c (0, 0) _ h Try.underlying45 rfl (by rw [hc]; exact sizeNode)
  simp [results, Try.f53, Sem.run_bind, h2', h3', asAddr, hl, Sem.run_pure, Result.andThen]
theorem wpList_build_as {P : Program} {ops : Array Oper} {rest : List Oper} {o : Oper} {a : Act} {w : World} {Q : Exit → Act → World → Prop} (hg : o.guard = none) (t : TypeId) (parts : Array (Nat × Operand)) (ho : o.op = .build t parts) (cells : Array Value)
    (hf : P.built t (parts.map fun (i, x) => (i, a.eval x)).toList = some cells) (h : wpList P ops Q rest (a.put o.dst (.agg cells)) w) : wpList P ops Q (o :: rest) a w := by
  refine wpList_build hg t parts ho (by rw [hf]; rfl) ?_
  rw [hf]
  exact h
theorem built_no : Try.prog.built 45 [] = some (nodeA noTN) := by kernel_rfl
def AtP (ns : List TN) (slot : Int) (W : World) (e : Ending) (w' : World) : Prop := e = .returned (.tuple #[.agg (nodeA (atOf ns slot).1), .bool (atOf ns slot).2]) ∧ Below W.heap.size W w'
set_option maxRecDepth 20000 in
set_option maxHeartbeats 1000000 in
theorem shelfAt_c {v : Value} {ns : List TN} (h : ShelfRow W v ns) (slot : Int) : Calls Try.prog 53 #[v, .int .i64 slot] W fun e w' => AtP ns slot W e w' := by
  obtain ⟨ad, cp, rfl⟩ := h.form
  obtain ⟨N, hN⟩ : ∃ N, ns.length = N := ⟨_, rfl⟩
  rw [hN] at h ⊢
  have hT := heap_alloc_new W (.cells (nodeA noTN) 45)
  have hB := (Below.refl W.heap.size W).alloc (Nat.le_refl _) (.cells (nodeA noTN) 45)
  by_cases h1 : slot < 0
  · have hA : atOf ns slot = (noTN, false) := by unfold atOf; rw [if_pos h1]
    have HA := Lib.hid hA
    have HT := Lib.hid hT
    have HB := Lib.hid hB
    clear hA hT hB h hN
    go_enter Try.func53, Try.ntmps53
    go_wp2_with (first | (refine wpList_build_as rfl 45 #[] rfl (nodeA noTN) built_no ?_) | (refine wpList_store_row rfl 45 (.tmp 4) (.tmp 22) rfl W.heap.size (nodeA noTN) rfl rfl 45 (nodeA noTN) HT.out sizeNode rfl (nodeA_one _) ?_))
    refine bodyPost_ret (results_at _ _ W.heap.size (nodeA noTN) (.bool false) (setRow_heap _ _ _ _ _ _ HT.out) rfl rfl rfl) rfl ⟨by rw [HA.out], ?_⟩
    rw [World.setRow_alloc_new]
    exact HB.out
  · obtain ⟨s, rfl⟩ : ∃ s : Nat, slot = s := ⟨slot.toNat, by omega⟩
    by_cases h2 : N ≤ s
    · have hA : atOf ns s = (noTN, false) := by unfold atOf; rw [if_neg h1, Int.toNat_natCast, List.getElem?_eq_none (by omega)]
      have q2 : (N : Int) ≤ s := by omega
      have HA := Lib.hid hA
      have HT := Lib.hid hT
      have HB := Lib.hid hB
      clear hA hT hB h hN h2
      go_enter Try.func53, Try.ntmps53
      go_wp2_with (first | (refine wpList_build_as rfl 45 #[] rfl (nodeA noTN) built_no ?_) | (refine wpList_store_row rfl 45 (.tmp 4) (.tmp 22) rfl W.heap.size (nodeA noTN) rfl rfl 45 (nodeA noTN) HT.out sizeNode rfl (nodeA_one _) ?_))
      refine bodyPost_ret (results_at _ _ W.heap.size (nodeA noTN) (.bool false) (setRow_heap _ _ _ _ _ _ HT.out) rfl rfl rfl) rfl ⟨by rw [HA.out], ?_⟩
      rw [World.setRow_alloc_new]
      exact HB.out
    · have q2 : ¬ (N : Int) ≤ s := by omega
      have q3 : (0 : Int) ≤ s := by omega
      have q4 : (s : Int) < N := by omega
      obtain ⟨n, hn⟩ : ∃ n, ns[s]? = some n := ⟨_, List.getElem?_eq_getElem (by omega)⟩
      obtain ⟨b, off, rfl, hb, hr⟩ := h.at hn
      have k0 : W.cell? ⟨b, off + s * 26, none⟩ = some (.int .u8 n.kind) := hr 0 _ rfl
      have HR : Hid ((W.alloc (.cells (nodeA noTN) 45)).rangeAt b (off + s * 26) (nodeA n).toList) := fun i u hu => by rw [hB.cell (p := ⟨b, _, none⟩) hb]; exact hr i u hu
      by_cases hk : n.kind = 0
      · have hA : atOf ns s = (noTN, false) := by unfold atOf; rw [if_neg h1, Int.toNat_natCast, hn]; dsimp only; rw [if_pos hk]
        have q5 : ((n.kind : Int) == 0) = true := by rw [beq_iff_eq]; omega
        have HA := Lib.hid hA
        have HT := Lib.hid hT
        have HB := Lib.hid hB
        clear hA hT hB h hN h2 hr hn hk HR
        go_enter Try.func53, Try.ntmps53
        go_wp2_with (first | (refine wpList_build_as rfl 45 #[] rfl (nodeA noTN) built_no ?_) | (refine wpList_store_row rfl 45 (.tmp 4) (.tmp 22) rfl W.heap.size (nodeA noTN) rfl rfl 45 (nodeA noTN) HT.out sizeNode rfl (nodeA_one _) ?_))
        refine bodyPost_ret (results_at _ _ W.heap.size (nodeA noTN) (.bool false) (setRow_heap _ _ _ _ _ _ HT.out) rfl rfl rfl) rfl ⟨by rw [HA.out], ?_⟩
        rw [World.setRow_alloc_new]
        exact HB.out
      · have hA : atOf ns s = (n, true) := by unfold atOf; rw [if_neg h1, Int.toNat_natCast, hn]; dsimp only; rw [if_neg hk]
        have q5 : ((n.kind : Int) == 0) = false := by rw [beq_eq_false_iff_ne]; omega
        have HA := Lib.hid hA
        have HT := Lib.hid hT
        have HB := Lib.hid hB
        clear hA hT hB h hN h2 hr hn hk
        go_enter Try.func53, Try.ntmps53
        go_wp2_with (first | (refine wpList_load_mid rfl 45 (.tmp 25) rfl b (off + s * 26) rfl (nodeA n).toList _ HR.out Try.underlying45 rfl sizeNode ?_) | (refine wpList_store_row rfl 45 (.tmp 4) (.tmp 26) rfl W.heap.size (nodeA n) rfl rfl 45 (nodeA noTN) HT.out sizeNode rfl (nodeA_one _) ?_))
        refine bodyPost_ret (results_at _ _ W.heap.size (nodeA n) (.bool true) (setRow_heap _ _ _ _ _ _ HT.out) rfl rfl rfl) rfl ⟨by rw [HA.out], ?_⟩
        rw [World.setRow_alloc_new]
        exact (Below.refl W.heap.size W).alloc (Nat.le_refl _) _
end Go.Proofs.Ytdelhpogacccjaa

/-
  strings.Replacer: the bytes' replacer that is built: what lies in its 257 cells.
-/
import Derived.Test.YtiiijmplcagaiaaGreatDoorRp2
import Derived.Test.YtiiijmplcagaiaaGreatDoorBy
import Derived.Great.Walk
import Derived.Laws.Tables
import Derived.Deep.WholeRow
import Derived.Maps.AppendAt
import Derived.Deep.LoopGhost
set_option linter.unusedVariables false
set_option linter.unusedSimpArgs false
namespace Go.Proofs.YtiiijmplcagaiaaGreatDoor
open Go Go.RowKit

theorem wpList_build_as {P : Program} {ops : Array Oper} {rest : List Oper} {o : Oper} {a : Act} {w : World} {Q : Exit → Act → World → Prop} (hg : o.guard = none) (t : TypeId) (parts : Array (Nat × Operand)) (ho : o.op = .build t parts) (cells : Array Value)
    (hf : P.built t (parts.map fun (i, x) => (i, a.eval x)).toList = some cells) (h : wpList P ops Q rest (a.put o.dst (.agg cells)) w) : wpList P ops Q (o :: rest) a w := by
  refine wpList_build hg t parts ho (by rw [hf]; rfl) ?_
  rw [hf]
  exact h
abbrev nilS : Value := .slice none 0 0
/-- A bytes' replacer's cells: what stands for each byte, the bytes that are replaced. -/
def rplA (f : Nat → Value) (tr : Value) : Array Value := ((List.range 256).map f ++ [tr]).toArray
def bsZ : Array Value := rplA (fun _ => nilS) nilS
theorem rplA_at (f : Nat → Value) (tr : Value) {i : Nat} (h : i < 256) : (rplA f tr)[i]? = some (f i) := by
  unfold rplA
  rw [List.getElem?_toArray, List.getElem?_append_left (by simpa using h), List.getElem?_map, List.getElem?_range h]; rfl
theorem rplA_end (f : Nat → Value) (tr : Value) : (rplA f tr)[256]? = some tr := by
  unfold rplA
  rw [List.getElem?_toArray, List.getElem?_append_right (by simp)]; simp
theorem rplA_set (f : Nat → Value) (tr v : Value) {i : Nat} (h : i < 256) : (rplA f tr).setIfInBounds i v = rplA (fun j => if j = i then v else f j) tr := by
  unfold rplA
  rw [List.setIfInBounds_toArray]
  congr 1
  apply List.ext_getElem?
  intro j
  by_cases hj : j < 256
  · rw [List.getElem?_append_left (by simpa using hj), List.getElem?_map, List.getElem?_range hj, List.getElem?_set]
    by_cases e : i = j
    · subst e; simp [h]; omega
    · rw [if_neg e, List.getElem?_append_left (by simpa using hj), List.getElem?_map, List.getElem?_range hj]
      simp [Ne.symm e]
  · rw [List.getElem?_set, if_neg (by omega), List.getElem?_append_right (by simp; omega), List.getElem?_append_right (by simp; omega)]
    simp
theorem rplA_setEnd (f : Nat → Value) (tr v : Value) : (rplA f tr).setIfInBounds 256 v = rplA f v := by
  unfold rplA
  rw [List.setIfInBounds_toArray, List.set_append_right _ _ (by simp)]
  simp
theorem zero_bs : (Tryz.prog.info? 93).bind (·.zero) = some (.agg bsZ) := by kernel_rfl
theorem size_bs : (Tryz.prog.info? 93).map (·.size) = some 257 := by kernel_rfl
theorem built_bs (a : Option Addr) (n c : Nat) : Tryz.prog.built 93 [(1, .slice a n c)] = some (rplA (fun _ => nilS) (.slice a n c)) := by kernel_rfl
theorem one_bs (a : Option Addr) (n c : Nat) : (rplA (fun _ => nilS) (.slice a n c)).all (·.oneCell') = true := by kernel_rfl
theorem alloc_bs (o : Oper) (ho : o.op = .alloc 93) (ρ : Operand → Value) (w : World) : (execOp ρ o).run Tryz.prog w = .ok (.value (.pointer (some ⟨w.heap.size, 0, none⟩))) (w.alloc (.cells bsZ 93)) := by
  obtain ⟨i, hi, hz⟩ : ∃ i, Tryz.prog.info? 93 = some i ∧ i.zero = some (.agg bsZ) := by
    have h := zero_bs
    cases hi : Tryz.prog.info? 93 with
    | none => rw [hi] at h; cases h
    | some i => rw [hi] at h; exact ⟨i, rfl, h⟩
  simp [execOp, ho, Instr.alloc, zeroValue, typeInfo, hi, hz, Value.cells, go_sem]
end Go.Proofs.YtiiijmplcagaiaaGreatDoor

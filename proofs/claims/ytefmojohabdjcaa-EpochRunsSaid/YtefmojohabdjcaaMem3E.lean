/-
  The memory's methods that write; New: contracts.
-/
import Derived.Test.YtefmojohabdjcaaMem2E
set_option linter.unusedVariables false
set_option linter.unusedSimpArgs false
namespace Go.Proofs.Ytefmojohabdjcaa
open Go Go.RowKit

set_option maxHeartbeats 1000000 in
theorem mSet_c (B n t : Nat) (ws cs : Nat → Nat) (k v : Nat) (hk : k < n) (hn : n ≤ 8192) (w : World) (h : MemAt w B n t ws cs) :
    Calls Try.prog 52 #[pm B, .int .i64 k, .int .u64 v] w fun e w' => (∃ u, e = .returned u) ∧ Only B w w' ∧ MemAt w' B n t (upd ws k v) (upd cs k t) := by
  obtain ⟨h1, h2, h3, h4, hf⟩ := h.cell
  have c1 := h1 k (by omega)
  have f1 := hf k
  have hs := h.setWord k v (by omega)
  obtain ⟨g1, g2, g3, g4, gf⟩ := hs.cell
  have c2 := g2 k (by omega)
  have f2 := gf (8192 + k)
  have HS := Lib.hid (hs.setChanged k t (by omega))
  have HO := Lib.hid (((Only.refl B w).setCell k (.int .u64 v)).setCell (8192 + k) (.int .u64 t))
  have k0 : (0 : Int) ≤ k := by omega
  have k1 : (k : Int) < 8192 := by omega
  clear h1 h2 hf g1 g2 gf hs h h3 h4 g3
  unfold pm
  go_enter Try.func52, Try.ntmps52
  go_wp2_with fail
  go_region
  go_end0
  exact ⟨⟨_, rfl⟩, HO.out.drew, HS.out.drew⟩

set_option maxHeartbeats 1000000 in
theorem mStore_yes (B n t : Nat) (ws cs : Nat → Nat) (k v : Nat) (hk : k < n) (hn : n ≤ 8192) (ht : t < 1000000000) (w : World) (h : MemAt w B n t ws cs) :
    Calls Try.prog 38 #[pm B, .int .i64 k, .int .u64 v] w fun e w' => (∃ u, e = .returned u) ∧ Only B w w' ∧ MemAt w' B n (t + 1) (upd ws k v) (upd cs k (t + 1)) := by
  have C1 := Lib.hid (mAccess_yes B n t ws cs k hk hn ht w h)
  clear h
  go_enter Try.func38, Try.ntmps38
  go_wp2_with fail
  refine C1.out.mono ?_
  rintro e w1 ⟨rfl, ho, ha⟩
  have C2 := Lib.hid (mSet_c B n (t + 1) ws cs k v hk hn w1 ha)
  have HO := Lib.hid ho
  clear ho ha
  go_wp2_with fail
  refine C2.out.mono ?_
  rintro e w2 ⟨⟨u, rfl⟩, ho, ha⟩
  have HO2 := Lib.hid (HO.out.trans ho)
  have HA := Lib.hid ha
  clear ho ha
  go_wp2_with fail
  go_end0
  exact ⟨⟨_, rfl⟩, HO2.out, HA.out⟩

set_option maxHeartbeats 1000000 in
theorem mStore_no (B n t : Nat) (ws cs : Nat → Nat) (i : Int) (v : Nat) (hi : i < 0 ∨ (n : Int) ≤ i) (w : World) (h : MemAt w B n t ws cs) :
    Calls Try.prog 38 #[pm B, .int .i64 i, .int .u64 v] w fun e w' => (∃ u, e = .returned u) ∧ w = w' := by
  have C1 := Lib.hid (mAccess_no B n t ws cs i hi w h)
  clear h hi
  go_enter Try.func38, Try.ntmps38
  go_wp2_with fail
  refine C1.out.mono ?_
  rintro e w' ⟨rfl, rfl⟩
  go_wp2_with fail
  go_end0
  exact ⟨⟨_, rfl⟩, rfl⟩

set_option maxHeartbeats 1000000 in
theorem mCas_yes (B n t : Nat) (ws cs : Nat → Nat) (k o v : Nat) (hk : k < n) (hn : n ≤ 8192) (ht : t < 1000000000) (w : World) (h : MemAt w B n t ws cs) (he : ws k = o) :
    Calls Try.prog 59 #[pm B, .int .i64 k, .int .u64 o, .int .u64 v] w fun e w' => e = .returned (.bool true) ∧ Only B w w' ∧ MemAt w' B n (t + 1) (upd ws k v) (upd cs k (t + 1)) := by
  have C1 := Lib.hid (mAccess_yes B n t ws cs k hk hn ht w h)
  have k0 : (0 : Int) ≤ k := by omega
  have k1 : (k : Int) < 8192 := by omega
  clear h
  subst he
  go_enter Try.func59, Try.ntmps59
  go_wp2_with fail
  refine C1.out.mono ?_
  rintro e w1 ⟨rfl, ho, ha⟩
  have C2 := Lib.hid (mSet_c B n (t + 1) ws cs k v hk hn w1 ha)
  have HO := Lib.hid ho
  obtain ⟨g1, _, _, _, gf⟩ := ha.cell
  have gc := g1 k (by omega)
  clear ho ha g1 gf
  unfold pm
  go_wp2_with fail
  refine C2.out.mono ?_
  rintro e w2 ⟨⟨u, rfl⟩, ho, ha⟩
  have HO2 := Lib.hid (HO.out.trans ho)
  have HA := Lib.hid ha
  clear ho ha
  go_wp2_with fail
  go_ret
  exact ⟨rfl, HO2.out, HA.out⟩

set_option maxHeartbeats 1000000 in
theorem mCas_other (B n t : Nat) (ws cs : Nat → Nat) (k o v : Nat) (hk : k < n) (hn : n ≤ 8192) (ht : t < 1000000000) (w : World) (h : MemAt w B n t ws cs) (he : ws k ≠ o) :
    Calls Try.prog 59 #[pm B, .int .i64 k, .int .u64 o, .int .u64 v] w fun e w' => e = .returned (.bool false) ∧ Only B w w' ∧ MemAt w' B n (t + 1) ws cs := by
  have C1 := Lib.hid (mAccess_yes B n t ws cs k hk hn ht w h)
  have k0 : (0 : Int) ≤ k := by omega
  have k1 : (k : Int) < 8192 := by omega
  have e1 : (((ws k : Nat) : Int) != (o : Int)) = true := by rw [bne_iff_ne]; omega
  have e2 : (((ws k : Nat) : Int) == (o : Int)) = false := by rw [beq_eq_false_iff_ne]; omega
  clear h he
  go_enter Try.func59, Try.ntmps59
  go_wp2_with fail
  refine C1.out.mono ?_
  rintro e w1 ⟨rfl, ho, ha⟩
  have HO := Lib.hid ho
  have HA := Lib.hid ha
  obtain ⟨g1, _, _, _, gf⟩ := ha.cell
  have gc := g1 k (by omega)
  clear ho ha g1 gf
  unfold pm
  go_wp2_with fail
  go_ret
  exact ⟨rfl, HO.out, HA.out⟩

set_option maxHeartbeats 1000000 in
theorem mCas_no (B n t : Nat) (ws cs : Nat → Nat) (i : Int) (o v : Nat) (hi : i < 0 ∨ (n : Int) ≤ i) (w : World) (h : MemAt w B n t ws cs) :
    Calls Try.prog 59 #[pm B, .int .i64 i, .int .u64 o, .int .u64 v] w fun e w' => e = .returned (.bool false) ∧ w = w' := by
  have C1 := Lib.hid (mAccess_no B n t ws cs i hi w h)
  clear h hi
  go_enter Try.func59, Try.ntmps59
  go_wp2_with fail
  refine C1.out.mono ?_
  rintro e w' ⟨rfl, rfl⟩
  go_wp2_with fail
  go_ret
  exact ⟨rfl, rfl⟩

/-- The cells of a new memory. -/
noncomputable def memCells (n : Int) : Array Value := Classical.choose (built_mem n)
theorem memCells_built (n : Int) : Try.prog.built 109 [(2, .int .i64 n)] = some (memCells n) := (Classical.choose_spec (built_mem n)).1
theorem memCells_list (n : Int) : (memCells n).toList = zl 16384 n := (Classical.choose_spec (built_mem n)).2
theorem run_build_mem (n : Int) (w : World) : (Instr.build 109 #[(2, .int .i64 n)]).run Try.prog w = .ok (.agg (memCells n)) w := run_build w _ _ _ (memCells_built n)

section
attribute [-go_sem] Instr.build
attribute [local go_sem] run_build_mem
set_option maxHeartbeats 1000000 in
theorem mNew_yes (n : Nat) (h1 : 1 ≤ n) (hn : n ≤ 8192) (w : World) :
    Calls Try.prog 27 #[.int .i64 n] w fun e w' => e = .returned (pm w.heap.size) ∧ Below w.heap.size w w' ∧ MemAt w' w.heap.size n 0 (fun _ => 0) (fun _ => 0) := by
  have HM := Lib.hid (memAt_alloc w n _ (memCells_list n))
  have q1 : (1 : Int) ≤ n := by omega
  have q2 : (n : Int) ≤ 8192 := by omega
  go_enter Try.func27, Try.ntmps27
  go_wp2_with fail
  go_ret
  exact ⟨rfl, (Below.refl _ _).alloc (Nat.le_refl _) _, HM.out⟩

end
set_option maxHeartbeats 1000000 in
theorem mNew_no (i : Int) (hi : i < 1 ∨ 8192 < i) (w : World) :
    Calls Try.prog 27 #[.int .i64 i] w fun e w' => e = .returned (.pointer none) ∧ w = w' := by
  rcases hi with hi | hi
  · go_enter Try.func27, Try.ntmps27
    go_wp2_with fail
    go_ret
    exact ⟨rfl, rfl⟩
  · have h0 : ¬ i < 1 := by omega
    go_enter Try.func27, Try.ntmps27
    go_wp2_with fail
    go_ret
    exact ⟨rfl, rfl⟩
end Go.Proofs.Ytefmojohabdjcaa

/-
  The memory's methods: contracts.
-/
import Derived.Test.YtefmojohabdjcaaMem1
import Derived.RegionTactic
import Derived.ChangeAlike
import Derived.Outline
set_option linter.unusedVariables false
set_option linter.unusedSimpArgs false
namespace Go.Proofs.Ytefmojohabdjcaa
open Go Go.RowKit

def pm (B : Nat) : Value := .pointer (some ⟨B, 0, none⟩)

set_option maxHeartbeats 1000000 in
theorem mHas_yes (B n t : Nat) (ws cs : Nat → Nat) (k : Nat) (hk : k < n) (hn : n ≤ 8192) (w : World) (h : MemAt w B n t ws cs) :
    Calls Try.prog 58 #[pm B, .int .i64 k] w fun e w' => e = .returned (.bool true) ∧ w = w' := by
  obtain ⟨_, _, h3, _, hf⟩ := h.cell
  have h0 : (0 : Int) ≤ k := by omega
  have h1 : (k : Int) < n := by omega
  unfold pm
  go_enter Try.func58, Try.ntmps58
  go_wp2_with fail
  go_ret
  exact ⟨rfl, rfl⟩

set_option maxHeartbeats 1000000 in
theorem mHas_no (B n t : Nat) (ws cs : Nat → Nat) (i : Int) (hi : i < 0 ∨ (n : Int) ≤ i) (w : World) (h : MemAt w B n t ws cs) :
    Calls Try.prog 58 #[pm B, .int .i64 i] w fun e w' => e = .returned (.bool false) ∧ w = w' := by
  obtain ⟨_, _, h3, _, hf⟩ := h.cell
  unfold pm
  rcases hi with hi | hi
  · have h0 : ¬ (0 : Int) ≤ i := by omega
    go_enter Try.func58, Try.ntmps58
    go_wp2_with fail
    go_ret
    exact ⟨rfl, rfl⟩
  · have h0 : (0 : Int) ≤ i := by omega
    have h1 : ¬ i < (n : Int) := by omega
    go_enter Try.func58, Try.ntmps58
    go_wp2_with fail
    go_ret
    exact ⟨rfl, rfl⟩

set_option maxHeartbeats 1000000 in
theorem mAccess_yes (B n t : Nat) (ws cs : Nat → Nat) (k : Nat) (hk : k < n) (hn : n ≤ 8192) (ht : t < 1000000000) (w : World) (h : MemAt w B n t ws cs) :
    Calls Try.prog 48 #[pm B, .int .i64 k] w fun e w' => e = .returned (.bool true) ∧ Only B w w' ∧ MemAt w' B n (t + 1) ws cs := by
  obtain ⟨_, _, _, h4, hf⟩ := h.cell
  have HA := Lib.hid (h.setTime (t + 1))
  have C1 := Lib.hid (mHas_yes B n t ws cs k hk hn w h)
  have hf4 := hf 16385
  have hO : Only B w (w.setCell ⟨B, 16385, none⟩ (.int .u64 ((t + 1 : Nat) : Int))) := (Only.refl _ _).setCell _ _
  have HO := Lib.hid hO
  clear hO h hf
  unfold pm at *
  go_enter Try.func48, Try.ntmps48
  go_wp2_with fail
  refine C1.out.mono ?_
  rintro e w' ⟨rfl, rfl⟩
  go_wp2_with fail
  go_ret
  exact ⟨rfl, HO.out, HA.out⟩

set_option maxHeartbeats 1000000 in
theorem mAccess_no (B n t : Nat) (ws cs : Nat → Nat) (i : Int) (hi : i < 0 ∨ (n : Int) ≤ i) (w : World) (h : MemAt w B n t ws cs) :
    Calls Try.prog 48 #[pm B, .int .i64 i] w fun e w' => e = .returned (.bool false) ∧ w = w' := by
  have C1 := Lib.hid (mHas_no B n t ws cs i hi w h)
  clear h hi
  go_enter Try.func48, Try.ntmps48
  go_wp2_with fail
  refine C1.out.mono ?_
  rintro e w' ⟨rfl, rfl⟩
  go_wp2_with fail
  go_ret
  exact ⟨rfl, rfl⟩

set_option maxHeartbeats 1000000 in
theorem mLen_c (B n t : Nat) (ws cs : Nat → Nat) (w : World) (h : MemAt w B n t ws cs) :
    Calls Try.prog 45 #[pm B] w fun e w' => e = .returned (.int .i64 n) ∧ w = w' := by
  obtain ⟨_, _, h3, h4, hf⟩ := h.cell
  unfold pm
  go_enter Try.func45, Try.ntmps45
  go_wp2_with fail
  go_ret
  exact ⟨rfl, rfl⟩

set_option maxHeartbeats 1000000 in
theorem mLoad_yes (B n t : Nat) (ws cs : Nat → Nat) (k : Nat) (hk : k < n) (hn : n ≤ 8192) (ht : t < 1000000000) (w : World) (h : MemAt w B n t ws cs) :
    Calls Try.prog 34 #[pm B, .int .i64 k] w fun e w' => e = .returned (.int .u64 (ws k)) ∧ Only B w w' ∧ MemAt w' B n (t + 1) ws cs := by
  have C1 := Lib.hid (mAccess_yes B n t ws cs k hk hn ht w h)
  have h0 : (0 : Int) ≤ k := by omega
  have h1 : (k : Int) < 8192 := by omega
  clear h
  unfold pm at *
  go_enter Try.func34, Try.ntmps34
  go_wp2_with fail
  refine C1.out.mono ?_
  rintro e w1 ⟨rfl, ho, ha⟩
  obtain ⟨g1, _, _, _, gf⟩ := ha.cell
  have gc := g1 k (by omega)
  have HA := Lib.hid ha
  have HO := Lib.hid ho
  clear g1 gf ha ho
  go_wp2_with fail
  go_ret
  exact ⟨rfl, HO.out, HA.out⟩

set_option maxHeartbeats 1000000 in
theorem mLoad_no (B n t : Nat) (ws cs : Nat → Nat) (i : Int) (hi : i < 0 ∨ (n : Int) ≤ i) (w : World) (h : MemAt w B n t ws cs) :
    Calls Try.prog 34 #[pm B, .int .i64 i] w fun e w' => e = .returned (.int .u64 0) ∧ w = w' := by
  have C1 := Lib.hid (mAccess_no B n t ws cs i hi w h)
  clear h hi
  go_enter Try.func34, Try.ntmps34
  go_wp2_with fail
  refine C1.out.mono ?_
  rintro e w' ⟨rfl, rfl⟩
  go_wp2_with fail
  go_ret
  exact ⟨rfl, rfl⟩
end Go.Proofs.Ytefmojohabdjcaa

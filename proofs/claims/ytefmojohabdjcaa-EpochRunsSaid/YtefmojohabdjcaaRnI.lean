/-
  The law EpochRuns: its world as it is made; its argument.
-/
import Derived.Test.YtefmojohabdjcaaRnF
import Derived.Test.YtefmojohabdjcaaTri
set_option linter.unusedVariables false
set_option linter.unusedSimpArgs false
namespace Go.Proofs.Ytefmojohabdjcaa
open Go Go.RowKit

theorem infoDg : (Try.prog.info? 75).map (fun i => (i.zero, i.size, i.bytes)) = some (some (.agg #[.int .i64 0, .pointer none, .pointer none, .int .u8 0, .bool false, .int .u64 0, .int .i64 0]), 7, 48) := by kernel_rfl
def dgZero : Array Value := #[.int .i64 0, .pointer none, .pointer none, .int .u8 0, .bool false, .int .u64 0, .int .i64 0]
def dgCells (R : Nat) : Array Value := madeCells dgZero (R * 7)
theorem dgCells_get (R i j : Nat) (hi : i < R) (hj : j < 7) : (dgCells R)[i * 7 + j]? = some (dgZero[j]!) := by
  unfold dgCells madeCells
  rw [Array.getElem?_map, Array.getElem?_eq_getElem (by rw [Array.size_range]; omega), Array.getElem_range]
  have e : (i * 7 + j) % dgZero.size = j := by
    show (i * 7 + j) % 7 = j
    omega
  rw [Option.map_some, e]
theorem run_doings (R : Nat) (hR : R ≤ 8) (w : World) : (Instr.makeSlice 30 (.int .i64 R) (.int .i64 R)).run Try.prog w = .ok (.slice (some ⟨w.heap.size, 0, none⟩) R R) (w.alloc (.cells (dgCells R) 75)) := by
  obtain ⟨i0, hi0, hz0, hz1, hz2⟩ := info_parts infoDg
  have h := run_make (P := Try.prog) w 30 75 i0 _ Try.underlying30 hi0 hz0 .i64 .i64 (R : Int) (R : Int) (by omega) (Int.le_refl _) (by rw [hz2]; omega) (by omega)
  rw [hz1, Int.toNat_natCast] at h
  exact h
def RS0 (es : ES) : RS := ⟨es, fun _ => .done, fun _ => 0, fun _ => 0, fun _ => 0, fun _ => false, fun _ => 0, fun _ => 0, []⟩
def RC0 : RC := ⟨fun _ => 0, fun _ => 0, fun _ => 0, fun _ => 0, fun _ => .pointer none, .slice none 0 0, []⟩
theorem dg0 (es : ES) (i j : Nat) (hj : j < 7) : dgZero[j]! = dgF RC0 (RS0 es) i j := by
  have h7 : j = 0 ∨ j = 1 ∨ j = 2 ∨ j = 3 ∨ j = 4 ∨ j = 5 ∨ j = 6 := by omega
  rcases h7 with rfl | rfl | rfl | rfl | rfl | rfl | rfl <;> rfl
variable {W0 w : World} {p : EP} {s : ES}
/-- The law's world, as it is made. -/
theorem rinit {Ab R : Nat} (hE : EpAt p s w) (hF : Fresh p s (1 + R)) (hpR : p.R = R) (hR8 : R ≤ 8) (hc : Cells w Ab 75 (dgCells R)) (hb : Below W0.heap.size W0 w) (hAb : W0.heap.size ≤ Ab) (hge : ∀ k, fE p k → W0.heap.size ≤ k) :
    RInv W0 ⟨p, w.heap.size, Ab⟩ RC0 (RS0 s) (w.alloc (.cells #[pE p, .slice (some ⟨Ab, 0, none⟩) R R, .slice none 0 0, .int .u64 0] 34)) ∧ LInv ⟨p, w.heap.size, Ab⟩ 0 (RS0 s) := by
  have hq := Quad.new w 34 (pE p) (.slice (some ⟨Ab, 0, none⟩) R R) (.slice none 0 0) (.int .u64 0)
  refine ⟨⟨hE.alloc _, ?_, ?_, fun i hi hd => (by cases hd), fun i j hi hj hne hd => (by cases hd), World.ownsRow_nil _ _ _ _, rfl, fun k g v hg => (by simp [RS0] at hg), hb.alloc hb.size _, hge, hb.size, hAb⟩, ?_⟩
  · show Quad _ _ _ _ (.slice _ p.R p.R) _ (.int .u64 s.now)
    rw [hF.now, hpR]
    exact hq
  · show Rows7 _ Ab p.R _
    rw [hpR]
    exact ⟨_, hc.later (Below.heap_alloc _ _ _ hc.lt), fun i hi j hj => by rw [dgCells_get R i j hi hj, dg0 s i j hj]⟩
  · have hw0 : s.ws p.word = 0 := by have := hF.ws 0 (by omega); rw [Nat.add_zero] at this; exact this
    refine ⟨⟨?_, fun i hi hp => ?_, fun i hi => trivial⟩, fun i hi hd => (by cases hd), fun i hi hp => (by cases hp), fun g hg => (by simp [RS0] at hg), ⟨?_, ?_, Nat.zero_le _, fun i hi => ⟨Nat.zero_le _, Nat.zero_le _⟩⟩, fun i hi => by show 0 < 4; omega, fun i hi => Nat.zero_le _⟩
    · show s.ws p.word = s.now
      rw [hw0, hF.now]
    · have : s.po i = true := hp
      rw [hF.po] at this; cases this
    · show s.now ≤ s.t
      rw [hF.now]; exact Nat.zero_le _
    · show s.t ≤ 0 + 10
      rw [hF.t]; omega
/-- The law's argument: what each does. -/
def ActsAt (W : World) (v : Value) (ls : List (List Nat)) : Prop := ∃ vs, vs.length = ls.length ∧ RowAt W v vs ∧ ∀ (i : Nat) (x : Value) (l : List Nat), vs[i]? = some x → ls[i]? = some l → RowAt W x (l.map fun n : Nat => Value.int .u8 n) ∧ ∀ y, y ∈ l → y < 256
theorem who_lt {R : Nat} (h : 0 < R) (x : Int) : ∃ who : Nat, who < R ∧ ((x.tmod R < 0 ∧ x.tmod R + R = (who : Int)) ∨ (¬ x.tmod R < 0 ∧ x.tmod R = (who : Int))) := by
  have h0 : (0 : Int) < R := by omega
  have h1 := Int.lt_tmod_of_pos x h0
  have h2 := Int.tmod_lt_of_pos x h0
  by_cases h3 : x.tmod R < 0
  · exact ⟨(x.tmod R + R).toNat, by omega, .inl ⟨h3, by omega⟩⟩
  · exact ⟨(x.tmod R).toNat, by omega, .inr ⟨h3, by omega⟩⟩
end Go.Proofs.Ytefmojohabdjcaa

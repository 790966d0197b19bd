/-
  What the listed table of names gives; the last step of a law's row; a world that meets the condition.
-/
import Derived.Test.YtmfpfebnlflfiaaDoorRow
import Derived.Test.YtmfpfebnlflfiaaDoorFlagIt
import Derived.ProofKit
import Derived.LaidMore
import Derived.OpenShut
import Derived.Stop.Joined
import Derived.ChangeSame
set_option linter.unusedVariables false
set_option linter.unusedSimpArgs false
namespace Go.Proofs.YtmfpfebnlflfiaaDoor
open Go Go.ChangeShapes Go.WideShapes Go.ChangeAt Go.WideElems Go.RowKit

abbrev lNames : List (String × DataW Unit) := [("postchaise/flags.names", Rows.laid_postchaise_flags_names)]
theorem gNames : Tryd.prog.globalNamed "postchaise/flags.names" = some 0 := by kernel_rfl
theorem tNames : (Tryd.prog.globals[0]?).map (·.type) = some 97 := by kernel_rfl

set_option maxRecDepth 100000 in
theorem names_of_laid {W : World} (h : laidMetH Tryd.prog lNames W) : Names W := by
  rw [MakeChecks.laidMetH_plain _ _ _ (by kernel_rfl)] at h
  obtain ⟨ps, ⟨g0, t0, cs0, f0, p0, q0, hg0, ht0, hv0, hd0, _⟩, _, _⟩ := h
  obtain rfl := Option.some.inj (gNames.symm.trans hg0)
  obtain rfl := Option.some.inj (tNames.symm.trans ht0)
  obtain ⟨xs, m1, rfl, hx1, hlen, hn5, hel⟩ := DataW.trod_array Tryd.underlying97 hd0
  have c9 : Tryd.prog.cellsOf 9 = 1 := by kernel_rfl
  simp only [Prod.mk.injEq, DataW.agg.injEq] at hx1
  obtain ⟨hx1, -⟩ := hx1
  have hxi : ∀ i, i < 5 → (xs.map (·.1))[i]? = some (.lit (.string (nm i))) := by
    intro i hi
    have e : (xs.map (·.1)) = [.lit (.string (nm 0)), .lit (.string (nm 1)), .lit (.string (nm 2)), .lit (.string (nm 3)), .lit (.string (nm 4))] := by
      have h2 : (DataW.agg [.lit (.string (nm 0)), .lit (.string (nm 1)), .lit (.string (nm 2)), .lit (.string (nm 3)), .lit (.string (nm 4))] : DataW Unit) = .agg (xs.map (·.1)) := hx1
      exact (DataW.agg.inj h2).symm
    rw [e]
    obtain h | h | h | h | h : i = 0 ∨ i = 1 ∨ i = 2 ∨ i = 3 ∨ i = 4 := by omega
    all_goals subst h; rfl
  have key : ∀ i, i < 5 → W.cell? ⟨0, i, none⟩ = some (.string (nmB i)) := by
    intro i hi
    have h1 := hel i hi
    rw [c9, Nat.mul_one] at h1
    have h2 := hxi i hi
    rw [List.getElem?_map] at h2
    obtain ⟨x, hx, hx2⟩ := Option.map_eq_some_iff.1 h2
    rw [hx] at h1
    obtain ⟨s, hs1, hs2, _⟩ := DataW.trod_string Tryd.underlying9 h1
    rw [hs2] at hx2
    simp only [DataW.lit.injEq, Lit.string.injEq] at hx2
    have hs : s = nmB i := by cases s; simp only [nmB]; rw [← hx2]
    have h3 := World.var?_cell hg0 hv0 i
    have h4 : cs0.toList[i]? = some (.string s) := by
      have := congrArg (·[0]?) hs1
      simpa [List.getElem?_take, List.getElem?_drop] using this
    rw [← hs, h3]
    simpa using h4
  exact ⟨key 0 (by omega), key 1 (by omega), key 2 (by omega), key 3 (by omega), key 4 (by omega)⟩

/-- The door's own heap meets the condition. -/
theorem door_met1 (os : Os) (args : Array Value) : laidMetH Tryd.prog lNames ((World.doorLaid Tryd.prog 400 os).forCall (fun _ _ => 0) ⟨#[], args, []⟩).memory :=
  laidMetH_of_parts3 (fuel := 8) (laidMet_of_run' 8 (by kernel_rfl) (by kernel_rfl)) (by kernel_rfl) (by kernel_rfl)
end Go.Proofs.YtmfpfebnlflfiaaDoor

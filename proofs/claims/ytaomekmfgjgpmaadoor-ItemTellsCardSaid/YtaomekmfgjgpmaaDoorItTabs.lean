/-
  What the listed variables give (the table of powers, the names of flags, of items, of orders); a world that meets the condition. MADE by wip/tools/mkItRow.py.
-/
import Derived.Test.YtaomekmfgjgpmaaDoorIt5
import Derived.Test.YtaomekmfgjgpmaaDoorRow
import Derived.ProofKit
import Derived.LaidMore
import Derived.OpenShut
import Derived.Stop.Joined
import Derived.ChangeSame
import Derived.Test.YtaomekmfgjgpmaaDoorCards
import Derived.SevenTiedAt
import Derived.ChangeMaps5
import Derived.Lib.LaidTab
set_option linter.unusedVariables false
set_option linter.unusedSimpArgs false
namespace Go.Proofs.YtaomekmfgjgpmaaDoor
open Go Go.ChangeShapes Go.WideShapes Go.ChangeAt Go.WideElems Go.RowKit Go.ChangeMaps
abbrev lIt : List (String × DataW Unit) := [("math/bits.deBruijn32tab", Rows.laid_math_bits_deBruijn32tab), ("math/bits.deBruijn64tab", Rows.laid_math_bits_deBruijn64tab), ("internal/strconv.uint64pow10", Rows.laid_internal_strconv_uint64pow10), ("postchaise/flags.names", Rows.laid_postchaise_flags_names), ("postchaise/item.askedNames", Rows.laid_postchaise_item_askedNames), ("postchaise/item.toldNames", Rows.laid_postchaise_item_toldNames), ("postchaise/item.orders", Rows.laid_postchaise_item_orders)]
theorem gI2 : Tryd.prog.globalNamed "internal/strconv.uint64pow10" = some 3 := by kernel_rfl
theorem tI2 : (Tryd.prog.globals[3]?).map (·.type) = some 80 := by kernel_rfl
theorem gI3 : Tryd.prog.globalNamed "postchaise/flags.names" = some 4 := by kernel_rfl
theorem tI3 : (Tryd.prog.globals[4]?).map (·.type) = some 88 := by kernel_rfl
theorem gI4 : Tryd.prog.globalNamed "postchaise/item.askedNames" = some 0 := by kernel_rfl
theorem tI4 : (Tryd.prog.globals[0]?).map (·.type) = some 40 := by kernel_rfl
theorem gI5 : Tryd.prog.globalNamed "postchaise/item.toldNames" = some 1 := by kernel_rfl
theorem tI5 : (Tryd.prog.globals[1]?).map (·.type) = some 40 := by kernel_rfl
theorem gI6 : Tryd.prog.globalNamed "postchaise/item.orders" = some 2 := by kernel_rfl
theorem tI6 : (Tryd.prog.globals[2]?).map (·.type) = some 49 := by kernel_rfl
theorem powDataI : (Rows.laid_internal_strconv_uint64pow10 : DataW Unit) = Lib.tabData .u64 Lib.pow10Tab := by rfl
set_option maxRecDepth 100000 in
theorem ig_of_laid {W : World} (h : laidMetH Tryd.prog lIt W) : IG W := by
  rw [MakeChecks.laidMetH_plain _ _ _ (by kernel_rfl)] at h
  obtain ⟨ps, ⟨g0, t0, cs0, f0, p0, q0, hg0, ht0, hv0, hd0, ⟨g1, t1, cs1, f1, p1, q1, hg1, ht1, hv1, hd1, ⟨g2, t2, cs2, f2, p2, q2, hg2, ht2, hv2, hd2, ⟨g3, t3, cs3, f3, p3, q3, hg3, ht3, hv3, hd3, ⟨g4, t4, cs4, f4, p4, q4, hg4, ht4, hv4, hd4, ⟨g5, t5, cs5, f5, p5, q5, hg5, ht5, hv5, hd5, ⟨g6, t6, cs6, f6, p6, q6, hg6, ht6, hv6, hd6, _, _⟩, _⟩, _⟩, _⟩, _⟩, _⟩, _⟩, _, _⟩ := h
  obtain rfl := Option.some.inj (gI2.symm.trans hg2)
  obtain rfl := Option.some.inj (tI2.symm.trans ht2)
  obtain rfl := Option.some.inj (gI3.symm.trans hg3)
  obtain rfl := Option.some.inj (tI3.symm.trans ht3)
  obtain rfl := Option.some.inj (gI4.symm.trans hg4)
  obtain rfl := Option.some.inj (tI4.symm.trans ht4)
  obtain rfl := Option.some.inj (gI5.symm.trans hg5)
  obtain rfl := Option.some.inj (tI5.symm.trans ht5)
  obtain rfl := Option.some.inj (gI6.symm.trans hg6)
  obtain rfl := Option.some.inj (tI6.symm.trans ht6)
  have c9 : Tryd.prog.cellsOf 9 = 1 := by kernel_rfl
  have key3 : ∀ i, i < 5 → W.cell? ⟨4, i, none⟩ = some (.string (txt (nm i))) := by
    obtain ⟨xs, m1, rfl, hx1, hlen, hn5, hel⟩ := DataW.trod_array Tryd.underlying88 hd3
    simp only [Prod.mk.injEq, DataW.agg.injEq] at hx1
    obtain ⟨hx1, -⟩ := hx1
    have hxi : ∀ i, i < 5 → (xs.map (·.1))[i]? = some (.lit (.string (nm i))) := by
      intro i hi
      have e : (xs.map (·.1)) = [.lit (.string (nm 0)), .lit (.string (nm 1)), .lit (.string (nm 2)), .lit (.string (nm 3)), .lit (.string (nm 4))] := by
        have h2 : (DataW.agg [.lit (.string (nm 0)), .lit (.string (nm 1)), .lit (.string (nm 2)), .lit (.string (nm 3)), .lit (.string (nm 4))] : DataW Unit) = .agg (xs.map (·.1)) := hx1
        exact (DataW.agg.inj h2).symm
      rw [e]
      obtain h | h | h | h | h : i = 0 ∨ i = 1 ∨ i = 2 ∨ i = 3 ∨ i = 4 := by omega
      all_goals subst h; rfl
    intro i hi
    have h1 := hel i hi
    rw [c9, Nat.mul_one] at h1
    have h2 := hxi i hi
    rw [List.getElem?_map] at h2
    obtain ⟨x, hx, hx2⟩ := Option.map_eq_some_iff.1 h2
    rw [hx] at h1
    obtain ⟨s, hs1, hs2, _⟩ := DataW.trod_string Tryd.underlying9 h1
    rw [hs2] at hx2
    simp only [DataW.lit.injEq, Lit.string.injEq] at hx2
    have hs : s = txt (nm i) := by cases s; simp only [txt]; rw [← hx2]
    have h3 := World.var?_cell hg3 hv3 i
    have h4 : cs3.toList[i]? = some (.string s) := by
      have := congrArg (·[0]?) hs1
      simpa [List.getElem?_take, List.getElem?_drop] using this
    rw [← hs, h3]
    simpa using h4
  have key4 : ∀ i, i < 4 → W.cell? ⟨0, i, none⟩ = some (.string (txt (askN i))) := by
    obtain ⟨xs, m1, rfl, hx1, hlen, hn5, hel⟩ := DataW.trod_array Tryd.underlying40 hd4
    simp only [Prod.mk.injEq, DataW.agg.injEq] at hx1
    obtain ⟨hx1, -⟩ := hx1
    have hxi : ∀ i, i < 4 → (xs.map (·.1))[i]? = some (.lit (.string (askN i))) := by
      intro i hi
      have e : (xs.map (·.1)) = [.lit (.string (askN 0)), .lit (.string (askN 1)), .lit (.string (askN 2)), .lit (.string (askN 3))] := by
        have h2 : (DataW.agg [.lit (.string (askN 0)), .lit (.string (askN 1)), .lit (.string (askN 2)), .lit (.string (askN 3))] : DataW Unit) = .agg (xs.map (·.1)) := hx1
        exact (DataW.agg.inj h2).symm
      rw [e]
      obtain h | h | h | h : i = 0 ∨ i = 1 ∨ i = 2 ∨ i = 3 := by omega
      all_goals subst h; rfl
    intro i hi
    have h1 := hel i hi
    rw [c9, Nat.mul_one] at h1
    have h2 := hxi i hi
    rw [List.getElem?_map] at h2
    obtain ⟨x, hx, hx2⟩ := Option.map_eq_some_iff.1 h2
    rw [hx] at h1
    obtain ⟨s, hs1, hs2, _⟩ := DataW.trod_string Tryd.underlying9 h1
    rw [hs2] at hx2
    simp only [DataW.lit.injEq, Lit.string.injEq] at hx2
    have hs : s = txt (askN i) := by cases s; simp only [txt]; rw [← hx2]
    have h3 := World.var?_cell hg4 hv4 i
    have h4 : cs4.toList[i]? = some (.string s) := by
      have := congrArg (·[0]?) hs1
      simpa [List.getElem?_take, List.getElem?_drop] using this
    rw [← hs, h3]
    simpa using h4
  have key5 : ∀ i, i < 4 → W.cell? ⟨1, i, none⟩ = some (.string (txt (tolN i))) := by
    obtain ⟨xs, m1, rfl, hx1, hlen, hn5, hel⟩ := DataW.trod_array Tryd.underlying40 hd5
    simp only [Prod.mk.injEq, DataW.agg.injEq] at hx1
    obtain ⟨hx1, -⟩ := hx1
    have hxi : ∀ i, i < 4 → (xs.map (·.1))[i]? = some (.lit (.string (tolN i))) := by
      intro i hi
      have e : (xs.map (·.1)) = [.lit (.string (tolN 0)), .lit (.string (tolN 1)), .lit (.string (tolN 2)), .lit (.string (tolN 3))] := by
        have h2 : (DataW.agg [.lit (.string (tolN 0)), .lit (.string (tolN 1)), .lit (.string (tolN 2)), .lit (.string (tolN 3))] : DataW Unit) = .agg (xs.map (·.1)) := hx1
        exact (DataW.agg.inj h2).symm
      rw [e]
      obtain h | h | h | h : i = 0 ∨ i = 1 ∨ i = 2 ∨ i = 3 := by omega
      all_goals subst h; rfl
    intro i hi
    have h1 := hel i hi
    rw [c9, Nat.mul_one] at h1
    have h2 := hxi i hi
    rw [List.getElem?_map] at h2
    obtain ⟨x, hx, hx2⟩ := Option.map_eq_some_iff.1 h2
    rw [hx] at h1
    obtain ⟨s, hs1, hs2, _⟩ := DataW.trod_string Tryd.underlying9 h1
    rw [hs2] at hx2
    simp only [DataW.lit.injEq, Lit.string.injEq] at hx2
    have hs : s = txt (tolN i) := by cases s; simp only [txt]; rw [← hx2]
    have h3 := World.var?_cell hg5 hv5 i
    have h4 : cs5.toList[i]? = some (.string s) := by
      have := congrArg (·[0]?) hs1
      simpa [List.getElem?_take, List.getElem?_drop] using this
    rw [← hs, h3]
    simpa using h4
  have key6 : ∀ i, i < 3 → W.cell? ⟨2, i, none⟩ = some (.string (txt (ordN i))) := by
    obtain ⟨xs, m1, rfl, hx1, hlen, hn5, hel⟩ := DataW.trod_array Tryd.underlying49 hd6
    simp only [Prod.mk.injEq, DataW.agg.injEq] at hx1
    obtain ⟨hx1, -⟩ := hx1
    have hxi : ∀ i, i < 3 → (xs.map (·.1))[i]? = some (.lit (.string (ordN i))) := by
      intro i hi
      have e : (xs.map (·.1)) = [.lit (.string (ordN 0)), .lit (.string (ordN 1)), .lit (.string (ordN 2))] := by
        have h2 : (DataW.agg [.lit (.string (ordN 0)), .lit (.string (ordN 1)), .lit (.string (ordN 2))] : DataW Unit) = .agg (xs.map (·.1)) := hx1
        exact (DataW.agg.inj h2).symm
      rw [e]
      obtain h | h | h : i = 0 ∨ i = 1 ∨ i = 2 := by omega
      all_goals subst h; rfl
    intro i hi
    have h1 := hel i hi
    rw [c9, Nat.mul_one] at h1
    have h2 := hxi i hi
    rw [List.getElem?_map] at h2
    obtain ⟨x, hx, hx2⟩ := Option.map_eq_some_iff.1 h2
    rw [hx] at h1
    obtain ⟨s, hs1, hs2, _⟩ := DataW.trod_string Tryd.underlying9 h1
    rw [hs2] at hx2
    simp only [DataW.lit.injEq, Lit.string.injEq] at hx2
    have hs : s = txt (ordN i) := by cases s; simp only [txt]; rw [← hx2]
    have h3 := World.var?_cell hg6 hv6 i
    have h4 : cs6.toList[i]? = some (.string s) := by
      have := congrArg (·[0]?) hs1
      simpa [List.getElem?_take, List.getElem?_drop] using this
    rw [← hs, h3]
    simpa using h4
  have lt : ∀ g n (f : Nat → List UInt8), 0 < n → (∀ i, i < n → W.cell? ⟨g, i, none⟩ = some (.string (txt (f i)))) → g < W.heap.size := fun g n f h0 hk => by
    have h1 := hk 0 h0
    unfold World.cell? at h1
    apply Decidable.byContradiction
    intro hn
    rw [Array.getElem?_eq_none (by show W.heap.size ≤ g; omega)] at h1
    simp at h1
  refine ⟨⟨lt _ 4 _ (by omega) key4, key4⟩, ⟨lt _ 4 _ (by omega) key5, key5⟩, ⟨lt _ 3 _ (by omega) key6, key6⟩, ⟨key3 0 (by omega), key3 1 (by omega), key3 2 (by omega), key3 3 (by omega), key3 4 (by omega)⟩, ?_⟩
  unfold PowTab Lib.TabIs
  rw [powDataI] at hd2
  rw [hv2, ← Lib.cells_of_tab Tryd.underlying80 Tryd.underlying45 (by kernel_rfl) (by kernel_rfl) hd2]
theorem door_metI (os : Os) (args : Array Value) : laidMetH Tryd.prog lIt ((World.doorLaid Tryd.prog 400 os).forCall (fun _ _ => 0) ⟨#[], args, []⟩).memory :=
  laidMetH_of_parts3 (fuel := 8) (laidMet_of_run' 8 (by kernel_rfl) (by kernel_rfl)) (by kernel_rfl) (by kernel_rfl)
end Go.Proofs.YtaomekmfgjgpmaaDoor

/-
  What the listed variables of the laws of search give (the table of powers, two errors, the names of flags, the words of keys); the library's longest text out of the world's shape; a world that meets the condition. MADE by wip/tools/mkSeRow.py.
-/
import Derived.Test.YtpnnchpaaopdcaaGreatDoorZB04
import Derived.Test.YtpnnchpaaopdcaaGreatDoorZB22
import Derived.Test.YtpnnchpaaopdcaaGreatDoorZB17
import Derived.Test.YtpnnchpaaopdcaaGreatDoorZB05
import Derived.ProofKit
import Derived.LaidMore
import Derived.OpenShut
import Derived.Stop.Joined
import Derived.ChangeSame
import Derived.Test.YtpnnchpaaopdcaaGreatDoorCards
import Derived.SevenTiedAt
import Derived.ChangeMaps5
import Derived.Lib.LaidTab
import Derived.Shelf.Vars
import Derived.Lay
set_option linter.unusedVariables false
set_option linter.unusedSimpArgs false
namespace Go.Proofs.YtpnnchpaaopdcaaGreatDoor
open Go Go.ChangeShapes Go.WideShapes Go.ChangeAt Go.RowKit Go.ChangeMaps
abbrev lSe : List (String × DataW Unit) := [("math/bits.deBruijn32tab", Rows.laid_math_bits_deBruijn32tab), ("math/bits.deBruijn64tab", Rows.laid_math_bits_deBruijn64tab), ("internal/strconv.uint64pow10", Rows.laid_internal_strconv_uint64pow10), ("unicode/utf8.acceptRanges", Rows.laid_unicode_utf8_acceptRanges), ("strconv.ErrRange", Rows.laid_strconv_ErrRange), ("strconv.ErrSyntax", Rows.laid_strconv_ErrSyntax), ("postchaise/flags.names", Rows.laid_postchaise_flags_names), ("postchaise/search.words", Rows.laid_postchaise_search_words), ("unicode/utf8.first", Rows.laid_unicode_utf8_first)]
theorem gS2 : Tryz.prog.globalNamed "internal/strconv.uint64pow10" = some 7 := by kernel_rfl
theorem tS2 : (Tryz.prog.globals[7]?).map (·.type) = some 260 := by kernel_rfl
theorem gS4 : Tryz.prog.globalNamed "strconv.ErrRange" = some 9 := by kernel_rfl
theorem tS4 : (Tryz.prog.globals[9]?).map (·.type) = some 173 := by kernel_rfl
theorem gS5 : Tryz.prog.globalNamed "strconv.ErrSyntax" = some 8 := by kernel_rfl
theorem tS5 : (Tryz.prog.globals[8]?).map (·.type) = some 173 := by kernel_rfl
theorem gS6 : Tryz.prog.globalNamed "postchaise/flags.names" = some 6 := by kernel_rfl
theorem tS6 : (Tryz.prog.globals[6]?).map (·.type) = some 247 := by kernel_rfl
theorem gS7 : Tryz.prog.globalNamed "postchaise/search.words" = some 2 := by kernel_rfl
theorem tS7 : (Tryz.prog.globals[2]?).map (·.type) = some 151 := by kernel_rfl
theorem powDataS : (Rows.laid_internal_strconv_uint64pow10 : DataW Unit) = Lib.tabData .u64 Lib.pow10Tab := by rfl
set_option maxRecDepth 100000 in
theorem se_of_laid {W : World} (h : laidMetH Tryz.prog lSe W) : Gv W ∧ PowTab W := by
  rw [MakeChecks.laidMetH_plain _ _ _ (by kernel_rfl)] at h
  obtain ⟨ps, ⟨g0, t0, cs0, f0, p0, q0, hg0, ht0, hv0, hd0, ⟨g1, t1, cs1, f1, p1, q1, hg1, ht1, hv1, hd1, ⟨g2, t2, cs2, f2, p2, q2, hg2, ht2, hv2, hd2, ⟨g3, t3, cs3, f3, p3, q3, hg3, ht3, hv3, hd3, ⟨g4, t4, cs4, f4, p4, q4, hg4, ht4, hv4, hd4, ⟨g5, t5, cs5, f5, p5, q5, hg5, ht5, hv5, hd5, ⟨g6, t6, cs6, f6, p6, q6, hg6, ht6, hv6, hd6, ⟨g7, t7, cs7, f7, p7, q7, hg7, ht7, hv7, hd7, ⟨g8, t8, cs8, f8, p8, q8, hg8, ht8, hv8, hd8, _, _⟩, _⟩, _⟩, _⟩, _⟩, _⟩, _⟩, _⟩, _⟩, _, _⟩ := h
  obtain rfl := Option.some.inj (gS2.symm.trans hg2)
  obtain rfl := Option.some.inj (tS2.symm.trans ht2)
  obtain rfl := Option.some.inj (gS4.symm.trans hg4)
  obtain rfl := Option.some.inj (tS4.symm.trans ht4)
  obtain rfl := Option.some.inj (gS5.symm.trans hg5)
  obtain rfl := Option.some.inj (tS5.symm.trans ht5)
  obtain rfl := Option.some.inj (gS6.symm.trans hg6)
  obtain rfl := Option.some.inj (tS6.symm.trans ht6)
  obtain rfl := Option.some.inj (gS7.symm.trans hg7)
  obtain rfl := Option.some.inj (tS7.symm.trans ht7)
  have c9 : Tryz.prog.cellsOf 9 = 1 := by kernel_rfl
  have key6 : ∀ i, i < 5 → W.cell? ⟨6, i, none⟩ = some (.string (txt (nm i))) := by
    obtain ⟨xs, m1, rfl, hx1, hlen, hn5, hel⟩ := DataW.trod_array Tryz.underlying247 hd6
    simp only [Prod.mk.injEq, DataW.agg.injEq] at hx1
    obtain ⟨hx1, -⟩ := hx1
    have hxi : ∀ i, i < 5 → (xs.map (·.1))[i]? = some (.lit (.string (nm i))) := by
      intro i hi
      have e : (xs.map (·.1)) = [.lit (.string (nm 0)), .lit (.string (nm 1)), .lit (.string (nm 2)), .lit (.string (nm 3)), .lit (.string (nm 4))] := by
        have h2 : (DataW.agg [.lit (.string (nm 0)), .lit (.string (nm 1)), .lit (.string (nm 2)), .lit (.string (nm 3)), .lit (.string (nm 4))] : DataW Unit) = .agg (xs.map (·.1)) := hx1
        exact (DataW.agg.inj h2).symm
      rw [e]
      obtain h | h | h | h | h : i = 0 ∨ i = 1 ∨ i = 2 ∨ i = 3 ∨ i = 4 := by omega
      all_goals subst h; rfl
    intro i hi
    have h1 := hel i hi
    rw [c9, Nat.mul_one] at h1
    have h2 := hxi i hi
    rw [List.getElem?_map] at h2
    obtain ⟨x, hx, hx2⟩ := Option.map_eq_some_iff.1 h2
    rw [hx] at h1
    obtain ⟨s, hs1, hs2, _⟩ := DataW.trod_string Tryz.underlying9 h1
    rw [hs2] at hx2
    simp only [DataW.lit.injEq, Lit.string.injEq] at hx2
    have hs : s = txt (nm i) := by cases s; simp only [txt]; rw [← hx2]
    have h3 := World.var?_cell hg6 hv6 i
    have h4 : cs6.toList[i]? = some (.string s) := by
      have := congrArg (·[0]?) hs1
      simpa [List.getElem?_take, List.getElem?_drop] using this
    rw [← hs, h3]
    simpa using h4
  have key7 : ∀ i, i < 11 → W.cell? ⟨2, i, none⟩ = some (.string (txt (wl i))) := by
    obtain ⟨xs, m1, rfl, hx1, hlen, hn5, hel⟩ := DataW.trod_array Tryz.underlying151 hd7
    simp only [Prod.mk.injEq, DataW.agg.injEq] at hx1
    obtain ⟨hx1, -⟩ := hx1
    have hxi : ∀ i, i < 11 → (xs.map (·.1))[i]? = some (.lit (.string (wl i))) := by
      intro i hi
      have e : (xs.map (·.1)) = [.lit (.string (wl 0)), .lit (.string (wl 1)), .lit (.string (wl 2)), .lit (.string (wl 3)), .lit (.string (wl 4)), .lit (.string (wl 5)), .lit (.string (wl 6)), .lit (.string (wl 7)), .lit (.string (wl 8)), .lit (.string (wl 9)), .lit (.string (wl 10))] := by
        have h2 : (DataW.agg [.lit (.string (wl 0)), .lit (.string (wl 1)), .lit (.string (wl 2)), .lit (.string (wl 3)), .lit (.string (wl 4)), .lit (.string (wl 5)), .lit (.string (wl 6)), .lit (.string (wl 7)), .lit (.string (wl 8)), .lit (.string (wl 9)), .lit (.string (wl 10))] : DataW Unit) = .agg (xs.map (·.1)) := hx1
        exact (DataW.agg.inj h2).symm
      rw [e]
      obtain h | h | h | h | h | h | h | h | h | h | h : i = 0 ∨ i = 1 ∨ i = 2 ∨ i = 3 ∨ i = 4 ∨ i = 5 ∨ i = 6 ∨ i = 7 ∨ i = 8 ∨ i = 9 ∨ i = 10 := by omega
      all_goals subst h; rfl
    intro i hi
    have h1 := hel i hi
    rw [c9, Nat.mul_one] at h1
    have h2 := hxi i hi
    rw [List.getElem?_map] at h2
    obtain ⟨x, hx, hx2⟩ := Option.map_eq_some_iff.1 h2
    rw [hx] at h1
    obtain ⟨s, hs1, hs2, _⟩ := DataW.trod_string Tryz.underlying9 h1
    rw [hs2] at hx2
    simp only [DataW.lit.injEq, Lit.string.injEq] at hx2
    have hs : s = txt (wl i) := by cases s; simp only [txt]; rw [← hx2]
    have h3 := World.var?_cell hg7 hv7 i
    have h4 : cs7.toList[i]? = some (.string s) := by
      have := congrArg (·[0]?) hs1
      simpa [List.getElem?_take, List.getElem?_drop] using this
    rw [← hs, h3]
    simpa using h4
  have herr : Errs W := by
    obtain ⟨_, u1, v1, hc1, _, _⟩ := iface_of_trod Tryz.underlying173 hd4
    obtain ⟨_, u2, v2, hc2, _, _⟩ := iface_of_trod Tryz.underlying173 hd5
    refine ⟨⟨u2, v2, ?_⟩, u1, v1, ?_⟩
    · rw [World.var?_cell hg5 hv5 0]
      have := congrArg (·[0]?) hc2
      simpa using this
    · rw [World.var?_cell hg4 hv4 0]
      have := congrArg (·[0]?) hc1
      simpa using this
  refine ⟨⟨herr, ⟨key6 0 (by omega), key6 1 (by omega), key6 2 (by omega), key6 3 (by omega), key6 4 (by omega)⟩, fun k hk => key7 k hk⟩, ?_⟩
  unfold PowTab Lib.TabIs
  rw [powDataS] at hd2
  rw [hv2, ← Lib.cells_of_tab Tryz.underlying260 Tryz.underlying105 (by kernel_rfl) (by kernel_rfl) hd2]
theorem door_metS (os : Os) (args : Array Value) : laidMetH Tryz.prog lSe ((World.laidAll Tryz.prog os lSe).forCall (fun _ _ => 0) ⟨#[], args, []⟩).memory := by
  rw [MakeChecks.laidMetH_plain _ _ _ (by kernel_rfl)]
  exact laidMet_laidAll _ (by kernel_rfl) (by kernel_rfl)
theorem maxL_of_shape {W : World} (h : W.ShapedOpen Tryz.prog) : MaxL W := Go.Proofs.cell_of_shapedOpen_int (zero := #[.int .i64 0]) (t := 3) h (of_decide_eq_true (by kernel_rfl)) (by kernel_rfl) rfl (by kernel_rfl) (by kernel_rfl) Tryz.underlying3
theorem change_and_shaped {H : Type} {enc : TypeId × Value → H} {a : Assume} {C : Checked} {os : Os} {f : FuncId} {fn : Func} {s : ChangeSpec} {conds : List PathCond} {apart fresh handsOn again : Bool} {X : World → Array Value → Prop}
    (hX : ∀ (w w' : World) (args : Array Value), w.heap = w'.heap → X w args → X w' args)
    (own : ownKnob C.prog.godebug = none) (started : os.Started) (noInit : C.prog.inits.idxOf? f = none) (hfn : C.prog.funcs[f]? = some fn)
    (witness : ∃ (w : World) (tape : Tape) (i : Input), w.os = os ∧ (w.forCall tape i).Shaped C.prog ∧ i.vars = [] ∧ Input.okWide C.prog (w.forCall tape i) .any w.heap.size f i ∧
      ((s.pre enc C.prog fn conds apart (w.forCall tape i).memory i.args ∧ X (w.forCall tape i).memory i.args) ∧ sizedMet enc C.prog fn (OpenSpec.ofChange s) apart (w.forCall tape i).memory i.args) ∧ a.holds C.prog (lone (Frame.enter C.prog f i.args .normal) [] (w.forCall tape i)))
    (contract : ∀ (W : World) (base : Nat) (args : Array Value) (ds gs : List (DataW H)) (before : List MemPlace), W.ShapedOpen C.prog →
      (∀ (j : Nat) t v, fn.params[j]? = some t → args[j]? = some v → Value.okWide C.prog W .any base t v) →
      DataW.Whole enc C.prog fn.params.toList s.vars apart W args.toList ds gs before → X W args →
      Calls C.prog f args W fun e W' => ∃ v, e = .returned v ∧ s.post enc C.prog fn apart fresh handsOn again W args v W') :
    ReturnsInHanded a C os f .any (fun w args => (s.pre enc C.prog fn conds apart w args ∧ X w args) ∧ sizedMet enc C.prog fn (OpenSpec.ofChange s) apart w args) (s.post enc C.prog fn apart fresh handsOn again) := by
  refine returnsInHanded_of_calls own started noInit witness ?_
  intro w tape i _ hsh _ hok hpre _
  obtain ⟨_, _, _, fn', hfn', _, _, _, _, hval⟩ := hok
  have e : fn' = fn := Option.some.inj (hfn'.symm.trans hfn)
  subst e
  obtain ⟨⟨⟨ds, gs, before, hw, _⟩, hx⟩, _⟩ := hpre
  have hw' := DataW.Whole.of_heap (w' := w.forCall tape i) (by rfl) hw
  refine (contract (w.forCall tape i) w.heap.size i.args ds gs before hsh hval hw' (hX _ _ _ (by rfl) hx)).mono fun e W' ⟨v, he, hp⟩ => ?_
  subst he
  exact ChangeSpec.post_blind hp
end Go.Proofs.YtpnnchpaaopdcaaGreatDoor

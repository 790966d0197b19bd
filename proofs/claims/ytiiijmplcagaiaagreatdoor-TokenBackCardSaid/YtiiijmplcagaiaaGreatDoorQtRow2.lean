/-
  PROVED: for every row of texts the law TokenBack returns true: what is quoted, each text with a blank behind it, is read again by a reader as it was, one behind the other, to the end; and what the chapter's examples say holds (more than 20 texts, or a text of more than 1000 bytes, are let go by the law itself). On condition that the library's three tables and two errors start as the program's text lays them (tied by the card).
-/
import Derived.Test.YtiiijmplcagaiaaGreatDoorQtTabs
import Derived.Test.YtiiijmplcagaiaaGreatDoorQt9
import Derived.Test.YtiiijmplcagaiaaGreatDoorOpenR
import Derived.Test.YtiiijmplcagaiaaGreatDoorStructs
import Derived.Test.YtiiijmplcagaiaaGreatDoorRow
import Derived.Test.YtiiijmplcagaiaaGreatDoorTie
import Derived.OpenShut
import Derived.ChangeMaps5
set_option linter.unusedVariables false
set_option linter.unusedSimpArgs false
namespace Go.Proofs.YtiiijmplcagaiaaGreatDoor
open Go Go.ChangeShapes Go.WideShapes Go.ChangeAt Go.RowKit Go.ChangeMaps

set_option maxRecDepth 100000 in
theorem open_strings {H : Type} {enc : TypeId × Value → H} {W : World} {base : Nat} {v : Value} {d : DataW H} {p : List MemPlace} (hv : Value.okWide Tryz.prog W .any base 25 v) (h : DataW.Trod enc Tryz.prog W 0 (fun _ => true) true 25 v d p) :
    ∃ (q : Option Addr) (cap : Nat) (L : List (List UInt8)), v = .slice q L.length cap ∧ RowS W q L := by
  rcases open_rows Tryz.underlying25 (C := 1) (show Tryz.prog.cellsOf 9 = 1 by kernel_rfl) (by decide) hv h with rfl | ⟨ad, len, cap, rfl, hl, hm, hc⟩
  · exact ⟨none, 0, [], rfl, fun i x hx => by simp at hx⟩
  · have hq : ∀ i, ∃ x : List UInt8, i < len → ∃ b off, ad = ⟨b, off, none⟩ ∧ b < W.heap.size ∧ W.cell? ⟨b, off + i, none⟩ = some (.string (txt x)) := by
      intro i
      by_cases hi : i < len
      · obtain ⟨b, off, hab, hb, cells, n, y, hlc, hcs, htr⟩ := hc i hi
        obtain ⟨s1, hs1, _, _⟩ := DataW.trod_string Tryz.underlying9 htr
        refine ⟨s1.data.toList, fun _ => ⟨b, off, hab, hb, ?_⟩⟩
        have := hcs 0 (.string s1) (by rw [hs1]; rfl)
        rw [txt_data]
        simpa using this
      · exact ⟨[], fun h => absurd h hi⟩
    obtain ⟨f, hf⟩ := Classical.skolem.1 hq
    refine ⟨some ad, cap, (List.range len).map f, by simp, fun i x hx => ?_⟩
    rw [List.getElem?_map, Option.map_eq_some_iff] at hx
    obtain ⟨j, hj, rfl⟩ := hx
    obtain ⟨hj1, hj2⟩ := List.getElem?_eq_some_iff.1 hj
    rw [List.getElem_range] at hj2
    subst hj2
    obtain ⟨b, off, hab, hb, hcell⟩ := hf i (by simpa using hj1)
    exact ⟨b, off, by rw [hab], hb, hcell⟩
set_option maxRecDepth 100000 in
theorem tback_lifted (os : Os) (started : os.Started) (H : Type) (enc : TypeId × Value → H) :
    ReturnsInHanded {} Tryz.checked os 4 .any (fun w args => (Rows.tokenBackSpec.pre enc Tryz.prog Tryz.f4 [] false w args ∧ laidMetH Tryz.prog lSeq w) ∧ sizedMet enc Tryz.prog Tryz.f4 (OpenSpec.ofChange Rows.tokenBackSpec) false w args)
      (Rows.tokenBackSpec.post enc Tryz.prog Tryz.f4 false true false false) := by
  refine returnsInHanded_of_change_and (C := Tryz.checked) (X := fun w _ => laidMetH Tryz.prog lSeq w) (fun _ _ _ hh h => h.of_heap hh) own started (by kernel_rfl) Tryz.func4
    (ChangeSpec.witness_shaped (enc := enc) (C := Tryz.checked) (os := os) (X := fun w _ => laidMetH Tryz.prog lSeq w) false (World.doorLaid Tryz.prog 400 os) #[.slice none 0 0] 8 rfl (World.shaped_of_RefB (by kernel_rfl) (by kernel_rfl)) (by kernel_rfl) (by kernel_rfl) (by kernel_rfl) (door_met2 os _)) ?_
  intro W base args ds gs before hval0 hW _ _ hL _
  have hval : ∀ (j : Nat) t v, Tryz.f4.params[j]? = some t → args[j]? = some v → Value.okWide Tryz.prog W .any base t v := hval0
  have hW' := hW
  obtain ⟨p, q, hA0, hV, rfl, hfz, hnd⟩ := hW
  have hA : DataW.TrodAll enc Tryz.prog W 0 (fun _ => true) true Tryz.f4.params.toList args.toList ds p := hA0
  rw [Tryz.params4] at hA hval
  obtain ⟨v0, vs0, d0, ds0, p0, q0, hargs, rfl, rfl, h0, r0⟩ := trodAll_cons hA
  obtain ⟨rfl, rfl, rfl⟩ := trodAll_nil r0
  obtain rfl : args = #[v0] := by cases args; simp_all
  obtain ⟨rfl, rfl⟩ := trodVars_none hV
  have hwalk : Calls Tryz.prog 4 #[v0] W fun e w' => e = .returned (.bool true) ∧ Below W.heap.size W w' := by
    obtain ⟨p, cap, L, rfl, hR⟩ := open_strings (hval 0 25 v0 rfl rfl) h0
    exact tback_walk W hR (errs_of_laid hL) (tab_of_laid hL)
  refine hwalk.mono fun e W' ⟨he, hw⟩ => ?_
  subst he
  exact ⟨_, rfl, law_post (by kernel_rfl) (by kernel_rfl) Tryz.underlying4 (by kernel_rfl) rfl hW' (by simp [Rows.tokenBackSpec]) hw⟩

theorem tback_holds : Rows.TokenBackSaid :=
  OpenClaim.holds_of_wide 4 Tryz.f4 rfl rfl rfl rfl rfl rfl rfl ⟨rfl, rfl, rfl, rfl, rfl⟩ rfl rfl rfl rfl rfl (by kernel_rfl) Tryz.func4 (by kernel_rfl)
    (of_decide_eq_true (by kernel_rfl)) (by unfold Func.isWrapper; first | (rw [if_pos (by decide +kernel)]; kernel_rfl) | (rw [if_neg (by decide +kernel)]; exact ⟨rfl, rfl⟩))
    (fun os started H enc _ => tback_lifted os started H enc)

theorem tback_card : Rows.TokenBackCardSaid :=
  Claim7.holds_tied_plain_at .later [] [.data, .data, .data, .sentinel, .sentinel] true Rows.tokenBackCard.stood.harness true
    tback_holds (fun _ h => by cases h) (by kernel_rfl) (fun _ h => by cases h) tokenBack_row_tie rfl ⟨rfl, rfl⟩ (by kernel_rfl) rfl
    (fun f fn hf hfn => by
      obtain rfl : f = 4 := Option.some.inj ((show Tryz.prog.funcNamed Rows.tokenBackRow.func = some 4 by kernel_rfl).symm.trans hf) |>.symm
      obtain rfl : fn = Tryz.f4 := (Option.some.inj (Tryz.func4.symm.trans hfn)).symm
      exact ⟨by kernel_rfl, fun j t ht => by
        rw [Tryz.params4] at ht
        have hm : t ∈ [25] := by simpa using Array.mem_of_getElem? ht
        have hall : ([25].all fun u => !Tryz.prog.wantsStandIn u) = true := by kernel_rfl
        exact (show Tryz.prog.wantsStandIn t = false by simpa using List.all_eq_true.1 hall t hm)⟩)
    (by kernel_rfl)
#print axioms tback_card
end Go.Proofs.YtiiijmplcagaiaaGreatDoor

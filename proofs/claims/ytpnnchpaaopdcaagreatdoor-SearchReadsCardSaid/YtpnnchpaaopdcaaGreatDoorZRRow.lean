/-
  PROVED: for every text the law SearchReads returns true: the key that it begins with, or that there is none, and what is left; likewise a set (texts of more than 2000 bytes are let go by the law itself). On condition that the library's tables and two errors, the names of flags and the words of keys start as the program's text lays them (tied by the card).
-/
import Derived.Test.YtpnnchpaaopdcaaGreatDoorZR04
import Derived.Test.YtpnnchpaaopdcaaGreatDoorZR27
import Derived.Test.YtpnnchpaaopdcaaGreatDoorZR28
import Derived.Test.YtpnnchpaaopdcaaGreatDoorZR05
import Derived.Test.YtpnnchpaaopdcaaGreatDoorTie
import Derived.OpenShut
import Derived.ChangeMaps5
set_option linter.unusedVariables false
set_option linter.unusedSimpArgs false
namespace Go.Proofs.YtpnnchpaaopdcaaGreatDoor
open Go Go.ChangeShapes Go.WideShapes Go.ChangeAt Go.RowKit Go.ChangeMaps
set_option maxRecDepth 100000 in
theorem sreads_lifted (os : Os) (started : os.Started) (H : Type) (enc : TypeId × Value → H) :
    ReturnsInHanded {} Tryz.checked os 4 .any (fun w args => (Rows.searchReadsSpec.pre enc Tryz.prog Tryz.f4 [] false w args ∧ laidMetH Tryz.prog lSe w) ∧ sizedMet enc Tryz.prog Tryz.f4 (OpenSpec.ofChange Rows.searchReadsSpec) false w args)
      (Rows.searchReadsSpec.post enc Tryz.prog Tryz.f4 false true false false) := by
  refine change_and_shaped (C := Tryz.checked) (X := fun w _ => laidMetH Tryz.prog lSe w) (fun _ _ _ hh h => h.of_heap hh) own started (by kernel_rfl) Tryz.func4
    (ChangeSpec.witness_shaped (enc := enc) (C := Tryz.checked) (os := os) (X := fun w _ => laidMetH Tryz.prog lSe w) false (World.laidAll Tryz.prog os lSe) #[.string ⟨#[]⟩] 8 (World.laidAll_os _ _ _) (World.shaped_of_ZipB (by kernel_rfl) (by kernel_rfl)) (by kernel_rfl) (by kernel_rfl) (by kernel_rfl) (door_metS os _)) ?_
  intro W base args ds gs before hsh hval0 hW hL
  have hval : ∀ (j : Nat) t v, Tryz.f4.params[j]? = some t → args[j]? = some v → Value.okWide Tryz.prog W .any base t v := hval0
  have hW' := hW
  obtain ⟨p, q, hA0, hV, rfl, hfz, hnd⟩ := hW
  have hA : DataW.TrodAll enc Tryz.prog W 0 (fun _ => true) true Tryz.f4.params.toList args.toList ds p := hA0
  rw [Tryz.params4] at hA hval
  obtain ⟨v0, vs0, d0, ds0, p0, q0, hargs, rfl, rfl, h0, r0⟩ := trodAll_cons hA
  obtain ⟨rfl, rfl, rfl⟩ := trodAll_nil r0
  obtain rfl : args = #[v0] := by cases args; simp_all
  obtain ⟨rfl, rfl⟩ := trodVars_none hV
  have hwalk : Calls Tryz.prog 4 #[v0] W fun e w' => e = .returned (.bool true) ∧ Below W.heap.size W w' := by
    obtain ⟨s, rfl, _, _, _⟩ := open_string Tryz.underlying9 (hval 0 9 v0 rfl rfl) h0
    obtain ⟨hG, hP⟩ := se_of_laid hL
    exact reads_walk s W hG (maxL_of_shape hsh)
  refine hwalk.mono fun e W' ⟨he, hw⟩ => ?_
  subst he
  exact ⟨_, rfl, law_post (by kernel_rfl) (by kernel_rfl) Tryz.underlying4 (by kernel_rfl) rfl hW' (by simp [Rows.searchReadsSpec]) hw⟩
theorem sreads_c0 : (Rows.searchReadsRow.inPlace == Tryz.checked.prog.inPlace 4) = true := by kernel_rfl
theorem sreads_c1 : (Rows.searchReadsRow.unfollowed == Tryz.checked.prog.unfollowed 4) = true := by kernel_rfl
theorem sreads_c2 : (Rows.searchReadsRow.recurses == Tryz.checked.prog.recurses 4) = true := by kernel_rfl
theorem sreads_c3 : (Rows.searchReadsRow.named == Tryz.checked.prog.varsNamed 4) = true := by kernel_rfl
theorem sreads_closed : joinedFacts Tryz.checked.prog 4 Tryz.f4 Rows.searchReadsSpec Rows.searchReadsRow = true := by
  unfold joinedFacts
  rw [sreads_c0, sreads_c1, sreads_c2, sreads_c3]
  kernel_rfl
theorem sreads_holds : Rows.SearchReadsSaid :=
  OpenClaim.holds_of_wide 4 Tryz.f4 rfl rfl rfl rfl rfl rfl rfl ⟨rfl, rfl, rfl, rfl, rfl⟩ rfl rfl rfl rfl rfl (by kernel_rfl) Tryz.func4 sreads_closed
    (of_decide_eq_true (by kernel_rfl)) (by unfold Func.isWrapper; first | (rw [if_pos (by decide +kernel)]; kernel_rfl) | (rw [if_neg (by decide +kernel)]; exact ⟨rfl, rfl⟩))
    (fun os started H enc _ => sreads_lifted os started H enc)
theorem sreads_k0 : Rows.searchReadsRow.wfByText (OpenSpec.ofChange Rows.searchReadsSpec) = true := by kernel_rfl
theorem sreads_k1 : Tryz.pinned.checked.prog.mainIs = some (Rows.searchReadsCard.stood.harness.1, Rows.searchReadsCard.stood.harness.2.toList) := by kernel_rfl
theorem sreads_k2 : true = Tryz.pinned.checked.prog.looks [] := by kernel_rfl
theorem sreads_k3 : false = Rows.searchReadsRow.goesBy Tryz.pinned.checked.prog := by kernel_rfl
theorem sreads_k4 : ([9].all fun u => !Tryz.prog.wantsStandIn u) = true := by kernel_rfl
theorem sreads_card : Rows.SearchReadsCardSaid :=
  Claim7.holds_tied_plain_at .later [] [.data, .data, .data, .data, .sentinel, .sentinel, .data, .data, .pinned] true Rows.searchReadsCard.stood.harness true
    sreads_holds (fun _ h => by cases h) sreads_k0 (fun _ h => by cases h) searchReads_row_tie rfl ⟨rfl, rfl⟩ sreads_k1 rfl
    (fun f fn hf hfn => by
      obtain rfl : f = 4 := Option.some.inj ((show Tryz.prog.funcNamed Rows.searchReadsRow.func = some 4 by kernel_rfl).symm.trans hf) |>.symm
      obtain rfl : fn = Tryz.f4 := (Option.some.inj (Tryz.func4.symm.trans hfn)).symm
      exact ⟨sreads_k2, fun j t ht => by
        rw [Tryz.params4] at ht
        have hm : t ∈ [9] := by simpa using Array.mem_of_getElem? ht
        exact (show Tryz.prog.wantsStandIn t = false by simpa using List.all_eq_true.1 sreads_k4 t hm)⟩)
    sreads_k3
#print axioms sreads_card
end Go.Proofs.YtpnnchpaaopdcaaGreatDoor

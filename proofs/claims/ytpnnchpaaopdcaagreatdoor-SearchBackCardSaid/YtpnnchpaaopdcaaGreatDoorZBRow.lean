/-
  PROVED: for every key the law SearchBack returns true: what is printed of a key that may be is read as it was (keys of more than 200, or that may not be, are let go by the law itself). On condition that the library's tables and two errors, the names of flags and the words of keys start as the program's text lays them (tied by the card).
-/
import Derived.Test.YtpnnchpaaopdcaaGreatDoorZB04
import Derived.Test.YtpnnchpaaopdcaaGreatDoorZB39
import Derived.Test.YtpnnchpaaopdcaaGreatDoorZB18
import Derived.Test.YtpnnchpaaopdcaaGreatDoorZB40
import Derived.Test.YtpnnchpaaopdcaaGreatDoorZB05
import Derived.Test.YtpnnchpaaopdcaaGreatDoorTie
import Derived.OpenShut
import Derived.ChangeMaps5
set_option linter.unusedVariables false
set_option linter.unusedSimpArgs false
namespace Go.Proofs.YtpnnchpaaopdcaaGreatDoor
open Go Go.ChangeShapes Go.WideShapes Go.ChangeAt Go.RowKit Go.ChangeMaps
set_option maxRecDepth 100000 in
theorem sback_lifted (os : Os) (started : os.Started) (H : Type) (enc : TypeId × Value → H) :
    ReturnsInHanded {} Tryz.checked os 5 .any (fun w args => (Rows.searchBackSpec.pre enc Tryz.prog Tryz.f5 [] false w args ∧ laidMetH Tryz.prog lSe w) ∧ sizedMet enc Tryz.prog Tryz.f5 (OpenSpec.ofChange Rows.searchBackSpec) false w args)
      (Rows.searchBackSpec.post enc Tryz.prog Tryz.f5 false true false false) := by
  refine change_and_shaped (C := Tryz.checked) (X := fun w _ => laidMetH Tryz.prog lSe w) (fun _ _ _ hh h => h.of_heap hh) own started (by kernel_rfl) Tryz.func5
    (ChangeSpec.witness_shaped (enc := enc) (C := Tryz.checked) (os := os) (X := fun w _ => laidMetH Tryz.prog lSe w) false (World.laidAll Tryz.prog os lSe) #[.agg #[.int .i64 0, .int .u8 0, .slice none 0 0, .int .u32 0, .string ⟨#[]⟩, .slice none 0 0]] 8 (World.laidAll_os _ _ _) (World.shaped_of_ZipB (by kernel_rfl) (by kernel_rfl)) (by kernel_rfl) (by kernel_rfl) (by kernel_rfl) (door_metS os _)) ?_
  intro W base args ds gs before hsh hval0 hW hL
  have hval : ∀ (j : Nat) t v, Tryz.f5.params[j]? = some t → args[j]? = some v → Value.okWide Tryz.prog W .any base t v := hval0
  have hW' := hW
  obtain ⟨p, q, hA0, hV, rfl, hfz, hnd⟩ := hW
  have hA : DataW.TrodAll enc Tryz.prog W 0 (fun _ => true) true Tryz.f5.params.toList args.toList ds p := hA0
  rw [Tryz.params5] at hA hval
  obtain ⟨v0, vs0, d0, ds0, p0, q0, hargs, rfl, rfl, h0, r0⟩ := trodAll_cons hA
  obtain ⟨rfl, rfl, rfl⟩ := trodAll_nil r0
  obtain rfl : args = #[v0] := by cases args; simp_all
  obtain ⟨rfl, rfl⟩ := trodVars_none hV
  have hwalk : Calls Tryz.prog 5 #[v0] W fun e w' => e = .returned (.bool true) ∧ Below W.heap.size W w' := by
    obtain ⟨k, rfl, hk, hks⟩ := open_key2 (hval 0 26 v0 rfl rfl) h0
    obtain ⟨hG, hP⟩ := se_of_laid hL
    exact back_walk k W hk hks hG (maxL_of_shape hsh) hP
  refine hwalk.mono fun e W' ⟨he, hw⟩ => ?_
  subst he
  exact ⟨_, rfl, law_post (by kernel_rfl) (by kernel_rfl) Tryz.underlying4 (by kernel_rfl) rfl hW' (by simp [Rows.searchBackSpec]) hw⟩
theorem sback_c0 : (Rows.searchBackRow.inPlace == Tryz.checked.prog.inPlace 5) = true := by kernel_rfl
theorem sback_c1 : (Rows.searchBackRow.unfollowed == Tryz.checked.prog.unfollowed 5) = true := by kernel_rfl
theorem sback_c2 : (Rows.searchBackRow.recurses == Tryz.checked.prog.recurses 5) = true := by kernel_rfl
theorem sback_c3 : (Rows.searchBackRow.named == Tryz.checked.prog.varsNamed 5) = true := by kernel_rfl
theorem sback_closed : joinedFacts Tryz.checked.prog 5 Tryz.f5 Rows.searchBackSpec Rows.searchBackRow = true := by
  unfold joinedFacts
  rw [sback_c0, sback_c1, sback_c2, sback_c3]
  kernel_rfl
theorem sback_holds : Rows.SearchBackSaid :=
  OpenClaim.holds_of_wide 5 Tryz.f5 rfl rfl rfl rfl rfl rfl rfl ⟨rfl, rfl, rfl, rfl, rfl⟩ rfl rfl rfl rfl rfl (by kernel_rfl) Tryz.func5 sback_closed
    (of_decide_eq_true (by kernel_rfl)) (by unfold Func.isWrapper; first | (rw [if_pos (by decide +kernel)]; kernel_rfl) | (rw [if_neg (by decide +kernel)]; exact ⟨rfl, rfl⟩))
    (fun os started H enc _ => sback_lifted os started H enc)
theorem sback_k0 : Rows.searchBackRow.wfByText (OpenSpec.ofChange Rows.searchBackSpec) = true := by kernel_rfl
theorem sback_k1 : Tryz.pinned.checked.prog.mainIs = some (Rows.searchBackCard.stood.harness.1, Rows.searchBackCard.stood.harness.2.toList) := by kernel_rfl
theorem sback_k2 : true = Tryz.pinned.checked.prog.looks [] := by kernel_rfl
theorem sback_k3 : false = Rows.searchBackRow.goesBy Tryz.pinned.checked.prog := by kernel_rfl
theorem sback_k4 : ([26].all fun u => !Tryz.prog.wantsStandIn u) = true := by kernel_rfl
theorem sback_card : Rows.SearchBackCardSaid :=
  Claim7.holds_tied_plain_at .later [] [.data, .data, .data, .data, .sentinel, .sentinel, .data, .data, .pinned] true Rows.searchBackCard.stood.harness true
    sback_holds (fun _ h => by cases h) sback_k0 (fun _ h => by cases h) searchBack_row_tie rfl ⟨rfl, rfl⟩ sback_k1 rfl
    (fun f fn hf hfn => by
      obtain rfl : f = 5 := Option.some.inj ((show Tryz.prog.funcNamed Rows.searchBackRow.func = some 5 by kernel_rfl).symm.trans hf) |>.symm
      obtain rfl : fn = Tryz.f5 := (Option.some.inj (Tryz.func5.symm.trans hfn)).symm
      exact ⟨sback_k2, fun j t ht => by
        rw [Tryz.params5] at ht
        have hm : t ∈ [26] := by simpa using Array.mem_of_getElem? ht
        exact (show Tryz.prog.wantsStandIn t = false by simpa using List.all_eq_true.1 sback_k4 t hm)⟩)
    sback_k3
#print axioms sback_card
end Go.Proofs.YtpnnchpaaopdcaaGreatDoor

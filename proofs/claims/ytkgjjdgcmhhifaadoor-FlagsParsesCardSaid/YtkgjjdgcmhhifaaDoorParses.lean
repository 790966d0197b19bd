/-
  PROVED: for every text the law FlagsParses returns true: of a text of at most 300 bytes the set, or that there is none, is the document's. On condition that the table of names starts as the program's text lays it (tied by the card).
-/
import Derived.Test.YtkgjjdgcmhhifaaDoorLaid1
import Derived.Test.YtkgjjdgcmhhifaaDoorBackW
import Derived.Test.YtkgjjdgcmhhifaaDoorRParse
import Derived.Test.YtkgjjdgcmhhifaaDoorCards
import Derived.Test.YtkgjjdgcmhhifaaDoorTie
import Derived.SevenTiedAt
import Derived.ChangeMaps5
set_option linter.unusedVariables false
set_option linter.unusedSimpArgs false
namespace Go.Proofs.YtkgjjdgcmhhifaaDoor
open Go Go.ChangeShapes Go.WideShapes Go.ChangeAt Go.RowKit Go.ChangeMaps

set_option maxRecDepth 100000 in
set_option maxHeartbeats 1000000 in
theorem parses_walk (A : ByteArray) (hA : A.size ≤ maxLen) (w : World) (hN : Names w) : Calls Tryd.prog 4 #[.string A] w fun e w' => e = .returned (.bool true) ∧ Below w.heap.size w w' := by
  unfold maxLen at hA
  have HN := Lib.hid hN
  clear hN
  by_cases h300 : 300 < A.size
  · have hi : (300 : Int) < A.size := by omega
    go_enter Tryd.func4, Tryd.ntmps4
    go_wp2_with fail
    go_ret
    exact ⟨rfl, Below.refl _ _⟩
  · have hi : (A.size : Int) ≤ 300 := by omega
    obtain ⟨v, hv⟩ : ∃ v : Int, ((pV (parseOf A.data.toList) : Nat) : Int) = v := ⟨_, rfl⟩
    obtain ⟨k, hk⟩ : ∃ k : Int, pE (parseOf A.data.toList) = k := ⟨_, rfl⟩
    have c1 : Calls Tryd.prog 18 #[.string A] w fun e w' => e = .returned (.tuple #[.int .u8 v, .int .i64 k]) ∧ Below w.heap.size w w' := by
      rw [← hv, ← hk]; exact parse_c A (by omega) w HN.out
    have c2 : ∀ w2, Calls Tryd.prog 19 #[.string A] w2 fun e w' => e = .returned (.tuple #[.int .u8 v, .int .i64 k]) ∧ Below w2.heap.size w2 w' := fun w2 => by
      rw [← hv, ← hk]; exact rparse_c A (by omega) w2
    have C1 := Lib.hid c1
    have C2 := Lib.hid c2
    clear c1 c2 hv hk
    go_enter Tryd.func4, Tryd.ntmps4
    go_wp2_with fail
    refine C1.out.mono ?_
    rintro e w2 ⟨rfl, hq2⟩
    have HB2 := Lib.hid hq2
    have HN2 := Lib.hid (HN.out.later (hq2.mono HN.out.lt))
    clear hq2
    go_wp2_with fail
    refine (C2.out _).mono ?_
    rintro e w3 ⟨rfl, hq3⟩
    have HB3 := Lib.hid (HB2.out.trans (hq3.mono HB2.out.size))
    have HN3 := Lib.hid (HN2.out.later (hq3.mono HN2.out.lt))
    clear hq3
    go_wp2_with fail
    refine (awake1_c _ HN3.out).mono ?_
    rintro e w4 ⟨rfl, hq4⟩
    have HB4 := Lib.hid (HB3.out.trans (hq4.mono HB3.out.size))
    clear hq4
    go_wp2_with fail
    go_ret
    exact ⟨rfl, HB4.out⟩

set_option maxRecDepth 100000 in
theorem parses_lifted (os : Os) (started : os.Started) (H : Type) (enc : TypeId × Value → H) :
    ReturnsInHanded {} Tryd.checked os 4 .any (fun w args => (Rows.flagsParsesSpec.pre enc Tryd.prog Tryd.f4 [] false w args ∧ laidMetH Tryd.prog lNames w) ∧ sizedMet enc Tryd.prog Tryd.f4 (OpenSpec.ofChange Rows.flagsParsesSpec) false w args)
      (Rows.flagsParsesSpec.post enc Tryd.prog Tryd.f4 false true false false) := by
  refine returnsInHanded_of_change_and (C := Tryd.checked) (X := fun w _ => laidMetH Tryd.prog lNames w) (fun _ _ _ hh h => h.of_heap hh) own started (by kernel_rfl) Tryd.func4
    (ChangeSpec.witness_shaped (enc := enc) (C := Tryd.checked) (os := os) (X := fun w _ => laidMetH Tryd.prog lNames w) false (World.doorLaid Tryd.prog 400 os) #[.string ⟨#[]⟩] 8 rfl (World.shaped_of_RefB (by kernel_rfl) (by kernel_rfl)) (by kernel_rfl) (by kernel_rfl) (by kernel_rfl) (door_met1 os _)) ?_
  intro W base args ds gs before hval0 hW _ _ hL _
  have hval : ∀ (j : Nat) t v, Tryd.f4.params[j]? = some t → args[j]? = some v → Value.okWide Tryd.prog W .any base t v := hval0
  have hW' := hW
  obtain ⟨p, q, hA0, hV, rfl, hfz, hnd⟩ := hW
  have hA : DataW.TrodAll enc Tryd.prog W 0 (fun _ => true) true Tryd.f4.params.toList args.toList ds p := hA0
  rw [Tryd.params4] at hA hval
  obtain ⟨v0, d0, rfl, rfl, h0⟩ := trodAll_one hA
  obtain ⟨rfl, rfl⟩ := trodVars_none hV
  obtain ⟨s, rfl, rfl, rfl, ws⟩ := open_string Tryd.underlying9 (hval 0 9 v0 rfl rfl) h0
  clear hA0 hval0
  simp only [List.append_nil] at hW'
  refine (parses_walk s ws W (names_of_laid hL)).mono fun e W' ⟨he, hw⟩ => ?_
  subst he
  exact ⟨_, rfl, post_law (pa := []) hW' (fun _ _ _ => trodAll_mk1 (shut_bool Tryd.underlying4 _)) (trodAll_mk1 (shut_string Tryd.underlying9 ws)) rfl rfl hw⟩

theorem parses_holds : Rows.FlagsParsesSaid :=
  OpenClaim.holds_of_wide 4 Tryd.f4 rfl rfl rfl rfl rfl rfl rfl ⟨rfl, rfl, rfl, rfl, rfl⟩ rfl rfl rfl rfl rfl (by kernel_rfl) Tryd.func4 (by kernel_rfl)
    (of_decide_eq_true (by kernel_rfl)) (by unfold Func.isWrapper; first | (rw [if_pos (by decide +kernel)]; kernel_rfl) | (rw [if_neg (by decide +kernel)]; exact ⟨rfl, rfl⟩))
    (fun os started H enc _ => parses_lifted os started H enc)

theorem parses_card : Rows.FlagsParsesCardSaid :=
  Claim7.holds_tied_plain_at .later [] [.data] true Rows.flagsParsesCard.stood.harness true
    parses_holds (fun _ h => by cases h) (by kernel_rfl) (fun _ h => by cases h) flagsParses_row_tie rfl ⟨rfl, rfl⟩ (by kernel_rfl) rfl
    (fun f fn hf hfn => by
      obtain rfl : f = 4 := Option.some.inj ((show Tryd.prog.funcNamed Rows.flagsParsesRow.func = some 4 by kernel_rfl).symm.trans hf) |>.symm
      obtain rfl : fn = Tryd.f4 := (Option.some.inj (Tryd.func4.symm.trans hfn)).symm
      exact ⟨by kernel_rfl, fun j t ht => by
        rw [Tryd.params4] at ht
        have hm : t ∈ [9] := by simpa using Array.mem_of_getElem? ht
        have hall : ([9].all fun u => !Tryd.prog.wantsStandIn u) = true := by kernel_rfl
        exact (show Tryd.prog.wantsStandIn t = false by simpa using List.all_eq_true.1 hall t hm)⟩)
    (by kernel_rfl)
#print axioms parses_card
end Go.Proofs.YtkgjjdgcmhhifaaDoor

/-
  PROVED: for every two keys and every message and place the law SearchTells returns true: whether a key may be, its text, whether two are the same, whether it matches, and that its walk begins with it and hands out as many as it has (keys of more than 200, and texts of more than 3000 bytes, are let go by the law itself). On condition that the library's tables and two errors, the names of flags and the words of keys start as the program's text lays them (tied by the card).
-/
import Derived.Test.YtpnnchpaaopdcaaGreatDoorZT40
import Derived.Test.YtpnnchpaaopdcaaGreatDoorZT17
import Derived.Test.YtpnnchpaaopdcaaGreatDoorZT41
import Derived.Test.YtpnnchpaaopdcaaGreatDoorTie
import Derived.OpenShut
import Derived.ChangeMaps5
set_option linter.unusedVariables false
set_option linter.unusedSimpArgs false
namespace Go.Proofs.YtpnnchpaaopdcaaGreatDoor
open Go Go.ChangeShapes Go.WideShapes Go.ChangeAt Go.RowKit Go.ChangeMaps
theorem u8_natS {a : Int} (h : (Lit.int .u8 a).wf = true) : ∃ n : Nat, a = n ∧ n < 256 := by
  have h2 : 0 ≤ a ∧ a < 256 := by
    simp [Lit.wf, IntKind.min, IntKind.max, IntKind.bits, IntKind.signed] at h
    omega
  exact ⟨a.toNat, by omega, by omega⟩
theorem u32_natS {a : Int} (h : (Lit.int .u32 a).wf = true) : ∃ n : Nat, a = n ∧ n ≤ 4294967295 := by
  have h2 : 0 ≤ a ∧ a < 4294967296 := by
    simp [Lit.wf, IntKind.min, IntKind.max, IntKind.bits, IntKind.signed] at h
    omega
  exact ⟨a.toNat, by omega, by omega⟩
set_option maxRecDepth 20000 in
theorem open_at14 {H : Type} {enc : TypeId × Value → H} {W : World} {base : Nat} {v : Value} {d : DataW H} {p : List MemPlace} (hv : Value.okWide Tryz.prog W .any base 30 v) (h : DataW.Trod enc Tryz.prog W 0 (fun _ => true) true 30 v d p) :
    ∃ m : MP, v = m.at9 ∧ m.fl < 256 ∧ m.uid ≤ 4294967295 ∧ m.sq ≤ 4294967295 ∧ m.lastS ≤ 4294967295 ∧ m.lastU ≤ 4294967295 := by
  have k32 : Tryz.prog.cellsOf 23 = 1 := by kernel_rfl
  have k8 : Tryz.prog.cellsOf 5 = 1 := by kernel_rfl
  have kS : Tryz.prog.cellsOf 9 = 1 := by kernel_rfl
  have kR : Tryz.prog.cellsOf 28 = 3 := by kernel_rfl
  have kE : Tryz.prog.cellsOf 30 = 6 := by kernel_rfl
  obtain ⟨cs, rfl, hcs⟩ := okWide_struct Tryz.underlying30 hv
  rw [kE] at hcs
  obtain ⟨fuel, hf⟩ := h
  have hcl : (Value.agg cs).cells = cs := rfl
  rw [hcl] at hf
  obtain ⟨l⟩ := cs
  match l, hcs with
  | [c0, c1, c2, c3, c4, c5], _ =>
    obtain ⟨xs, n, _, _, hlen, hxs, hq⟩ := DataW.trod_struct Tryz.underlying30 hf
    have h0 := hq 0 _ rfl
    have h1 := hq 1 _ rfl
    have h2 := hq 2 _ rfl
    have h3 := hq 3 _ rfl
    rw [List.getElem?_eq_getElem (by rw [hxs]; decide)] at h0 h1 h2 h3
    change DataW.trod enc Tryz.prog W 0 _ true n 28 (([c0, c1, c2, c3, c4, c5].drop 0).take (Tryz.prog.cellsOf 28)) = _ at h0
    change DataW.trod enc Tryz.prog W 0 _ true n 23 (([c0, c1, c2, c3, c4, c5].drop 3).take (Tryz.prog.cellsOf 23)) = _ at h1
    change DataW.trod enc Tryz.prog W 0 _ true n 23 (([c0, c1, c2, c3, c4, c5].drop 4).take (Tryz.prog.cellsOf 23)) = _ at h2
    change DataW.trod enc Tryz.prog W 0 _ true n 23 (([c0, c1, c2, c3, c4, c5].drop 5).take (Tryz.prog.cellsOf 23)) = _ at h3
    rw [kR] at h0
    rw [k32] at h1 h2 h3
    obtain ⟨ys, n2, _, _, hlen2, hys, hr⟩ := DataW.trod_struct Tryz.underlying28 h0
    have r0 := hr 0 _ rfl
    have r1 := hr 1 _ rfl
    have r2 := hr 2 _ rfl
    rw [List.getElem?_eq_getElem (by rw [hys]; decide)] at r0 r1 r2
    change DataW.trod enc Tryz.prog W 0 _ true n2 23 (([c0, c1, c2].drop 0).take (Tryz.prog.cellsOf 23)) = _ at r0
    change DataW.trod enc Tryz.prog W 0 _ true n2 5 (([c0, c1, c2].drop 1).take (Tryz.prog.cellsOf 5)) = _ at r1
    change DataW.trod enc Tryz.prog W 0 _ true n2 9 (([c0, c1, c2].drop 2).take (Tryz.prog.cellsOf 9)) = _ at r2
    rw [k32] at r0
    rw [k8] at r1
    rw [kS] at r2
    obtain ⟨m0, hm0, _, wf0⟩ := DataW.trod_int Tryz.underlying23 r0
    obtain ⟨m1, hm1, _, wf1⟩ := DataW.trod_int Tryz.underlying5 r1
    obtain ⟨s2, hs2, _, _⟩ := DataW.trod_string Tryz.underlying9 r2
    obtain ⟨m3, hm3, _, wf3⟩ := DataW.trod_int Tryz.underlying23 h1
    obtain ⟨m4, hm4, _, wf4⟩ := DataW.trod_int Tryz.underlying23 h2
    obtain ⟨m5, hm5, _, wf5⟩ := DataW.trod_int Tryz.underlying23 h3
    obtain rfl := List.cons.inj hm0 |>.1
    obtain rfl := List.cons.inj hm1 |>.1
    obtain rfl := List.cons.inj hs2 |>.1
    obtain rfl := List.cons.inj hm3 |>.1
    obtain rfl := List.cons.inj hm4 |>.1
    obtain rfl := List.cons.inj hm5 |>.1
    obtain ⟨u, rfl, hu⟩ := u32_natS wf0
    obtain ⟨f, rfl, hf8⟩ := u8_natS wf1
    obtain ⟨a3, rfl, b3⟩ := u32_natS wf3
    obtain ⟨a4, rfl, b4⟩ := u32_natS wf4
    obtain ⟨a5, rfl, b5⟩ := u32_natS wf5
    exact ⟨⟨u, f, s2.data.toList, a3, a4, a5⟩, by unfold MP.at9; dsimp only; rw [txt_data], hf8, hu, b3, b4, b5⟩
set_option maxRecDepth 100000 in
theorem stells_lifted (os : Os) (started : os.Started) (H : Type) (enc : TypeId × Value → H) :
    ReturnsInHanded {} Tryz.checked os 3 .any (fun w args => (Rows.searchTellsSpec.pre enc Tryz.prog Tryz.f3 [] false w args ∧ laidMetH Tryz.prog lSe w) ∧ sizedMet enc Tryz.prog Tryz.f3 (OpenSpec.ofChange Rows.searchTellsSpec) false w args)
      (Rows.searchTellsSpec.post enc Tryz.prog Tryz.f3 false true false false) := by
  refine change_and_shaped (C := Tryz.checked) (X := fun w _ => laidMetH Tryz.prog lSe w) (fun _ _ _ hh h => h.of_heap hh) own started (by kernel_rfl) Tryz.func3
    (ChangeSpec.witness_shaped (enc := enc) (C := Tryz.checked) (os := os) (X := fun w _ => laidMetH Tryz.prog lSe w) false (World.laidAll Tryz.prog os lSe) #[.agg #[.int .i64 0, .int .u8 0, .slice none 0 0, .int .u32 0, .string ⟨#[]⟩, .slice none 0 0], .agg #[.int .i64 0, .int .u8 0, .slice none 0 0, .int .u32 0, .string ⟨#[]⟩, .slice none 0 0], .agg #[.int .u32 0, .int .u8 0, .string ⟨#[]⟩, .int .u32 0, .int .u32 0, .int .u32 0]] 8 (World.laidAll_os _ _ _) (World.shaped_of_ZipB (by kernel_rfl) (by kernel_rfl)) (by kernel_rfl) (by kernel_rfl) (by kernel_rfl) (door_metS os _)) ?_
  intro W base args ds gs before hsh hval0 hW hL
  have hval : ∀ (j : Nat) t v, Tryz.f3.params[j]? = some t → args[j]? = some v → Value.okWide Tryz.prog W .any base t v := hval0
  have hW' := hW
  obtain ⟨p, q, hA0, hV, rfl, hfz, hnd⟩ := hW
  have hA : DataW.TrodAll enc Tryz.prog W 0 (fun _ => true) true Tryz.f3.params.toList args.toList ds p := hA0
  rw [Tryz.params3] at hA hval
  obtain ⟨v0, vs0, d0, ds0, p0, q0, hargs, rfl, rfl, h0, r0⟩ := trodAll_cons hA
  obtain ⟨v1, vs1, d1, ds1, p1, q1, rfl, rfl, rfl, h1, r1⟩ := trodAll_cons r0
  obtain ⟨v2, vs2, d2, ds2, p2, q2, rfl, rfl, rfl, h2, r2⟩ := trodAll_cons r1
  obtain ⟨rfl, rfl, rfl⟩ := trodAll_nil r2
  obtain rfl : args = #[v0, v1, v2] := by cases args; simp_all
  obtain ⟨rfl, rfl⟩ := trodVars_none hV
  have hwalk : Calls Tryz.prog 3 #[v0, v1, v2] W fun e w' => e = .returned (.bool true) ∧ Below W.heap.size W w' := by
    obtain ⟨k, rfl, hk, hks⟩ := open_key2 (hval 0 26 v0 rfl rfl) h0
    obtain ⟨o, rfl, ho, hos⟩ := open_key2 (hval 1 26 v1 rfl rfl) h1
    obtain ⟨m, rfl, hm, _⟩ := open_at14 (hval 2 30 v2 rfl rfl) h2
    obtain ⟨hG, hP⟩ := se_of_laid hL
    exact tells_walk hm k o W hk ho hks hG (maxL_of_shape hsh) hP
  refine hwalk.mono fun e W' ⟨he, hw⟩ => ?_
  subst he
  exact ⟨_, rfl, law_post (by kernel_rfl) (by kernel_rfl) Tryz.underlying4 (by kernel_rfl) rfl hW' (by simp [Rows.searchTellsSpec]) hw⟩
theorem stells_c0 : (Rows.searchTellsRow.inPlace == Tryz.checked.prog.inPlace 3) = true := by kernel_rfl
theorem stells_c1 : (Rows.searchTellsRow.unfollowed == Tryz.checked.prog.unfollowed 3) = true := by kernel_rfl
theorem stells_c2 : (Rows.searchTellsRow.recurses == Tryz.checked.prog.recurses 3) = true := by kernel_rfl
theorem stells_c3 : (Rows.searchTellsRow.named == Tryz.checked.prog.varsNamed 3) = true := by kernel_rfl
theorem stells_closed : joinedFacts Tryz.checked.prog 3 Tryz.f3 Rows.searchTellsSpec Rows.searchTellsRow = true := by
  unfold joinedFacts
  rw [stells_c0, stells_c1, stells_c2, stells_c3]
  kernel_rfl
theorem stells_holds : Rows.SearchTellsSaid :=
  OpenClaim.holds_of_wide 3 Tryz.f3 rfl rfl rfl rfl rfl rfl rfl ⟨rfl, rfl, rfl, rfl, rfl⟩ rfl rfl rfl rfl rfl (by kernel_rfl) Tryz.func3 stells_closed
    (of_decide_eq_true (by kernel_rfl)) (by unfold Func.isWrapper; first | (rw [if_pos (by decide +kernel)]; kernel_rfl) | (rw [if_neg (by decide +kernel)]; exact ⟨rfl, rfl⟩))
    (fun os started H enc _ => stells_lifted os started H enc)
theorem stells_k0 : Rows.searchTellsRow.wfByText (OpenSpec.ofChange Rows.searchTellsSpec) = true := by kernel_rfl
theorem stells_k1 : Tryz.pinned.checked.prog.mainIs = some (Rows.searchTellsCard.stood.harness.1, Rows.searchTellsCard.stood.harness.2.toList) := by kernel_rfl
theorem stells_k2 : true = Tryz.pinned.checked.prog.looks [] := by kernel_rfl
theorem stells_k3 : false = Rows.searchTellsRow.goesBy Tryz.pinned.checked.prog := by kernel_rfl
theorem stells_k4 : ([26, 26, 30].all fun u => !Tryz.prog.wantsStandIn u) = true := by kernel_rfl
theorem stells_card : Rows.SearchTellsCardSaid :=
  Claim7.holds_tied_plain_at .later [] [.data, .data, .data, .data, .sentinel, .sentinel, .data, .data, .pinned] true Rows.searchTellsCard.stood.harness true
    stells_holds (fun _ h => by cases h) stells_k0 (fun _ h => by cases h) searchTells_row_tie rfl ⟨rfl, rfl⟩ stells_k1 rfl
    (fun f fn hf hfn => by
      obtain rfl : f = 3 := Option.some.inj ((show Tryz.prog.funcNamed Rows.searchTellsRow.func = some 3 by kernel_rfl).symm.trans hf) |>.symm
      obtain rfl : fn = Tryz.f3 := (Option.some.inj (Tryz.func3.symm.trans hfn)).symm
      exact ⟨stells_k2, fun j t ht => by
        rw [Tryz.params3] at ht
        have hm : t ∈ [26, 26, 30] := by simpa using Array.mem_of_getElem? ht
        exact (show Tryz.prog.wantsStandIn t = false by simpa using List.all_eq_true.1 stells_k4 t hm)⟩)
    stells_k3
#print axioms stells_card
end Go.Proofs.YtpnnchpaaopdcaaGreatDoor

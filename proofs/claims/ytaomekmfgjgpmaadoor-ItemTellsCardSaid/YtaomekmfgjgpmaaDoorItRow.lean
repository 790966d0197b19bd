/-
  PROVED: for every byte of items, every message and every int the law ItemTells returns true: the items' text, an order's text and the telling of the message are the document's, and what the chapter's example says holds (a message of more than 3000 bytes is let go by the law itself). On condition that the library's three tables, the names of flags, of items as they are asked for and told, and of orders start as the program's text lays them (tied by the card). MADE by wip/tools/mkItRow.py.
-/
import Derived.Test.YtaomekmfgjgpmaaDoorItTabs
import Derived.Test.YtaomekmfgjgpmaaDoorIt6
import Derived.Test.YtaomekmfgjgpmaaDoorRow
import Derived.Test.YtaomekmfgjgpmaaDoorTie
import Derived.OpenShut
import Derived.ChangeMaps5
set_option linter.unusedVariables false
set_option linter.unusedSimpArgs false
namespace Go.Proofs.YtaomekmfgjgpmaaDoor
open Go Go.ChangeShapes Go.WideShapes Go.ChangeAt Go.RowKit Go.ChangeMaps

theorem u8_natI {a : Int} (h : (Lit.int .u8 a).wf = true) : ∃ n : Nat, a = n ∧ n < 256 := by
  have h2 : 0 ≤ a ∧ a < 256 := by
    simp [Lit.wf, IntKind.min, IntKind.max, IntKind.bits, IntKind.signed] at h
    omega
  exact ⟨a.toNat, by omega, by omega⟩
theorem u32_natI {a : Int} (h : (Lit.int .u32 a).wf = true) : ∃ n : Nat, a = n ∧ n ≤ 4294967295 := by
  have h2 : 0 ≤ a ∧ a < 4294967296 := by
    simp [Lit.wf, IntKind.min, IntKind.max, IntKind.bits, IntKind.signed] at h
    omega
  exact ⟨a.toNat, by omega, by omega⟩
theorem open_rec {H : Type} {enc : TypeId × Value → H} {W : World} {base : Nat} {v : Value} {d : DataW H} {p : List MemPlace} (hv : Value.okWide Tryd.prog W .any base 24 v) (h : DataW.Trod enc Tryd.prog W 0 (fun _ => true) true 24 v d p) :
    ∃ (u f : Nat) (x : List UInt8), v = recV u f x ∧ u ≤ 4294967295 ∧ f < 256 := by
  have k32 : Tryd.prog.cellsOf 22 = 1 := by kernel_rfl
  have k8 : Tryd.prog.cellsOf 5 = 1 := by kernel_rfl
  have kS : Tryd.prog.cellsOf 9 = 1 := by kernel_rfl
  have kE : Tryd.prog.cellsOf 24 = 3 := by kernel_rfl
  obtain ⟨cs, rfl, hcs⟩ := okWide_struct Tryd.underlying24 hv
  rw [kE] at hcs
  obtain ⟨fuel, hf⟩ := h
  have hcl : (Value.agg cs).cells = cs := rfl
  rw [hcl] at hf
  obtain ⟨l⟩ := cs
  match l, hcs with
  | [c0, c1, c2], _ =>
    obtain ⟨xs, m, _, _, hlen, hxs, hq⟩ := DataW.trod_struct Tryd.underlying24 hf
    have h0 := hq 0 _ rfl
    have h1 := hq 1 _ rfl
    have h2 := hq 2 _ rfl
    rw [List.getElem?_eq_getElem (by rw [hxs]; decide)] at h0
    rw [List.getElem?_eq_getElem (by rw [hxs]; decide)] at h1
    rw [List.getElem?_eq_getElem (by rw [hxs]; decide)] at h2
    change DataW.trod enc Tryd.prog W 0 _ true m 22 (([c0, c1, c2].drop 0).take (Tryd.prog.cellsOf 22)) = _ at h0
    change DataW.trod enc Tryd.prog W 0 _ true m 5 (([c0, c1, c2].drop 1).take (Tryd.prog.cellsOf 5)) = _ at h1
    change DataW.trod enc Tryd.prog W 0 _ true m 9 (([c0, c1, c2].drop 2).take (Tryd.prog.cellsOf 9)) = _ at h2
    rw [k32] at h0
    rw [k8] at h1
    rw [kS] at h2
    obtain ⟨m0, hm0, _, wf0⟩ := DataW.trod_int Tryd.underlying22 h0
    obtain ⟨m1, hm1, _, wf1⟩ := DataW.trod_int Tryd.underlying5 h1
    obtain ⟨s2, hs2, _, _⟩ := DataW.trod_string Tryd.underlying9 h2
    obtain rfl := List.cons.inj hm0 |>.1
    obtain rfl := List.cons.inj hm1 |>.1
    obtain rfl := List.cons.inj hs2 |>.1
    obtain ⟨u, rfl, hu⟩ := u32_natI wf0
    obtain ⟨f, rfl, hf8⟩ := u8_natI wf1
    exact ⟨u, f, s2.data.toList, by unfold recV; rw [txt_data], hu, hf8⟩
set_option maxRecDepth 100000 in
theorem itemtells_lifted (os : Os) (started : os.Started) (H : Type) (enc : TypeId × Value → H) :
    ReturnsInHanded {} Tryd.checked os 3 .any (fun w args => (Rows.itemTellsSpec.pre enc Tryd.prog Tryd.f3 [] false w args ∧ laidMetH Tryd.prog lIt w) ∧ sizedMet enc Tryd.prog Tryd.f3 (OpenSpec.ofChange Rows.itemTellsSpec) false w args)
      (Rows.itemTellsSpec.post enc Tryd.prog Tryd.f3 false true false false) := by
  refine returnsInHanded_of_change_and (C := Tryd.checked) (X := fun w _ => laidMetH Tryd.prog lIt w) (fun _ _ _ hh h => h.of_heap hh) own started (by kernel_rfl) Tryd.func3
    (ChangeSpec.witness_shaped (enc := enc) (C := Tryd.checked) (os := os) (X := fun w _ => laidMetH Tryd.prog lIt w) false (World.doorLaid Tryd.prog 400 os) #[.int .u8 0, .agg #[.int .u32 0, .int .u8 0, .string ⟨#[]⟩], .int .i64 0] 8 rfl (World.shaped_of_RefB (by kernel_rfl) (by kernel_rfl)) (by kernel_rfl) (by kernel_rfl) (by kernel_rfl) (door_metI os _)) ?_
  intro W base args ds gs before hval0 hW _ _ hL _
  have hval : ∀ (j : Nat) t v, Tryd.f3.params[j]? = some t → args[j]? = some v → Value.okWide Tryd.prog W .any base t v := hval0
  have hW' := hW
  obtain ⟨p, q, hA0, hV, rfl, hfz, hnd⟩ := hW
  have hA : DataW.TrodAll enc Tryd.prog W 0 (fun _ => true) true Tryd.f3.params.toList args.toList ds p := hA0
  rw [Tryd.params3] at hA hval
  obtain ⟨v0, vs0, d0, ds0, p0, q0, hargs, rfl, rfl, h0, r0⟩ := trodAll_cons hA
  obtain ⟨v1, vs1, d1, ds1, p1, q1, rfl, rfl, rfl, h1, r1⟩ := trodAll_cons r0
  obtain ⟨v2, vs2, d2, ds2, p2, q2, rfl, rfl, rfl, h2, r2⟩ := trodAll_cons r1
  obtain ⟨rfl, rfl, rfl⟩ := trodAll_nil r2
  obtain rfl : args = #[v0, v1, v2] := by cases args; simp_all
  obtain ⟨rfl, rfl⟩ := trodVars_none hV
  obtain ⟨a, rfl, rfl, rfl, wa⟩ := open_int Tryd.underlying5 (hval 0 5 v0 rfl rfl) h0
  obtain ⟨c, rfl, rfl, rfl, wc⟩ := open_int Tryd.underlying3 (hval 2 3 v2 rfl rfl) h2
  obtain ⟨t, rfl, ht⟩ := u8_natI wa
  have hwalk : Calls Tryd.prog 3 #[.int .u8 t, v1, .int .i64 c] W fun e w' => e = .returned (.bool true) ∧ Below W.heap.size W w' := by
    obtain ⟨u, f, x, rfl, hu, hf⟩ := open_rec (hval 1 24 v1 rfl rfl) h1
    exact itemtells_walk hu hf t ht c W (ig_of_laid hL)
  refine hwalk.mono fun e W' ⟨he, hw⟩ => ?_
  subst he
  exact ⟨_, rfl, law_post (by kernel_rfl) (by kernel_rfl) Tryd.underlying4 (by kernel_rfl) rfl hW' (by simp [Rows.itemTellsSpec]) hw⟩

theorem itemtells_holds : Rows.ItemTellsSaid :=
  OpenClaim.holds_of_wide 3 Tryd.f3 rfl rfl rfl rfl rfl rfl rfl ⟨rfl, rfl, rfl, rfl, rfl⟩ rfl rfl rfl rfl rfl (by kernel_rfl) Tryd.func3 (by kernel_rfl)
    (of_decide_eq_true (by kernel_rfl)) (by unfold Func.isWrapper; first | (rw [if_pos (by decide +kernel)]; kernel_rfl) | (rw [if_neg (by decide +kernel)]; exact ⟨rfl, rfl⟩))
    (fun os started H enc _ => itemtells_lifted os started H enc)

theorem itemtells_card : Rows.ItemTellsCardSaid :=
  Claim7.holds_tied_plain_at .later [] [.data, .data, .data, .data, .data, .data, .data] true Rows.itemTellsCard.stood.harness false
    itemtells_holds (fun _ h => by cases h) (by kernel_rfl) (fun _ h => by cases h) itemTells_row_tie rfl ⟨rfl, rfl⟩ (by kernel_rfl) rfl
    (fun f fn hf hfn => by
      obtain rfl : f = 3 := Option.some.inj ((show Tryd.prog.funcNamed Rows.itemTellsRow.func = some 3 by kernel_rfl).symm.trans hf) |>.symm
      obtain rfl : fn = Tryd.f3 := (Option.some.inj (Tryd.func3.symm.trans hfn)).symm
      exact ⟨by kernel_rfl, fun j t ht => by
        rw [Tryd.params3] at ht
        have hm : t ∈ [5, 24, 3] := by simpa using Array.mem_of_getElem? ht
        have hall : ([5, 24, 3].all fun u => !Tryd.prog.wantsStandIn u) = true := by kernel_rfl
        exact (show Tryd.prog.wantsStandIn t = false by simpa using List.all_eq_true.1 hall t hm)⟩)
    (by kernel_rfl)
#print axioms itemtells_card
end Go.Proofs.YtaomekmfgjgpmaaDoor

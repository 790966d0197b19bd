/-
  PROVED: for every set of ranges and every last number the law SeqsetBack returns true. On condition that the library's three tables and two errors start as the program's text lays them (tied by the card).
-/
import Derived.Test.YtmfpfebnlflfiaaDoorSBackW
import Derived.Test.YtmfpfebnlflfiaaDoorQTabs
import Derived.Test.YtmfpfebnlflfiaaDoorRow
import Derived.Test.YtmfpfebnlflfiaaDoorStructs
import Derived.Test.YtmfpfebnlflfiaaDoorTie
set_option linter.unusedVariables false
set_option linter.unusedSimpArgs false
namespace Go.Proofs.YtmfpfebnlflfiaaDoor
open Go Go.ChangeShapes Go.WideShapes Go.ChangeAt Go.RowKit Go.ChangeMaps

set_option maxRecDepth 100000 in
theorem sback_lifted (os : Os) (started : os.Started) (H : Type) (enc : TypeId × Value → H) :
    ReturnsInHanded {} Tryd.checked os 8 .any (fun w args => (Rows.seqsetBackSpec.pre enc Tryd.prog Tryd.f8 [] false w args ∧ laidMetH Tryd.prog lSeq w) ∧ sizedMet enc Tryd.prog Tryd.f8 (OpenSpec.ofChange Rows.seqsetBackSpec) false w args)
      (Rows.seqsetBackSpec.post enc Tryd.prog Tryd.f8 false true false false) := by
  refine returnsInHanded_of_change_and (C := Tryd.checked) (X := fun w _ => laidMetH Tryd.prog lSeq w) (fun _ _ _ hh h => h.of_heap hh) own started (by kernel_rfl) Tryd.func8
    (ChangeSpec.witness_shaped (enc := enc) (C := Tryd.checked) (os := os) (X := fun w _ => laidMetH Tryd.prog lSeq w) false (World.doorLaid Tryd.prog 400 os) #[.slice none 0 0, .int .u16 0] 8 rfl (World.shaped_of_RefB (by kernel_rfl) (by kernel_rfl)) (by kernel_rfl) (by kernel_rfl) (by kernel_rfl) (door_met2 os _)) ?_
  intro W base args ds gs before hval0 hW _ _ hL _
  have hval : ∀ (j : Nat) t v, Tryd.f8.params[j]? = some t → args[j]? = some v → Value.okWide Tryd.prog W .any base t v := hval0
  have hW' := hW
  obtain ⟨p, q, hA0, hV, rfl, hfz, hnd⟩ := hW
  have hA : DataW.TrodAll enc Tryd.prog W 0 (fun _ => true) true Tryd.f8.params.toList args.toList ds p := hA0
  rw [Tryd.params8] at hA hval
  obtain ⟨v0, vs0, d0, ds0, p0, q0, hargs, rfl, rfl, h0, r0⟩ := trodAll_cons hA
  obtain ⟨v1, vs1, d1, ds1, p1, q1, rfl, rfl, rfl, h1, r1⟩ := trodAll_cons r0
  obtain ⟨rfl, rfl, rfl⟩ := trodAll_nil r1
  obtain rfl : args = #[v0, v1] := by cases args; simp_all
  obtain ⟨rfl, rfl⟩ := trodVars_none hV
  obtain ⟨i, rfl, rfl, rfl, w1⟩ := open_int Tryd.underlying52 (hval 1 52 v1 rfl rfl) h1
  obtain ⟨last, rfl, hlast⟩ := nat_u16 w1
  have hwalk : Calls Tryd.prog 8 #[v0, .int .u16 last] W fun e w' => e = .returned (.bool true) ∧ Below W.heap.size W w' := by
    rcases open_structs Tryd.underlying47 Tryd.underlying89 (by kernel_rfl) (by kernel_rfl) (by decide) (hval 0 47 v0 rfl rfl) h0 with rfl | ⟨ad, len, cap, rfl, hl, hm, hc⟩
    · exact sback_easy none 0 0 last (by decide) hlast (.inr (.inl rfl)) W
    · by_cases hh : 64 < len ∨ len = 0 ∨ 400 < last
      · exact sback_easy (some ad) len cap last (by omega) hlast hh W
      have hq : ∀ i, ∃ q : Nat × Nat, (q.1 ≤ 4294967295 ∧ q.2 ≤ 4294967295) ∧ (i < len → ∃ b off, some ad = some ⟨b, off, none⟩ ∧ b < W.heap.size ∧ W.cell? ⟨b, off + i * 2, none⟩ = some (.int .u32 q.1) ∧ W.cell? ⟨b, off + i * 2 + 1, none⟩ = some (.int .u32 q.2)) := by
        intro i
        by_cases hi : i < len
        · obtain ⟨b, off, rfl, hb, hf⟩ := hc i hi
          obtain ⟨x0, y0, n0, e0, t0⟩ := hf 0 _ rfl
          obtain ⟨x1, y1, n1, e1, t1⟩ := hf 1 _ rfl
          obtain ⟨m0, hm0, _, wf0⟩ := DataW.trod_int Tryd.underlying58 t0
          obtain ⟨m1, hm1, _, wf1⟩ := DataW.trod_int Tryd.underlying58 t1
          obtain rfl := List.cons.inj hm0 |>.1
          obtain rfl := List.cons.inj hm1 |>.1
          obtain ⟨u0, rfl, hu0⟩ := nat_u32 wf0
          obtain ⟨u1, rfl, hu1⟩ := nat_u32 wf1
          exact ⟨(u0, u1), ⟨by show u0 ≤ _; omega, by show u1 ≤ _; omega⟩, fun _ => ⟨b, off, rfl, hb, e0, e1⟩⟩
        · exact ⟨(0, 0), ⟨by decide, by decide⟩, fun h => absurd h hi⟩
      obtain ⟨f, hf⟩ := Classical.skolem.1 hq
      have hlen : ((List.range len).map f).length = len := by simp
      have hw := sback_walk (some ad) cap last ((List.range len).map f) (fun h => by rw [h] at hlen; simp at hlen; omega) (by omega) (by omega)
        (by
          intro r hr
          obtain ⟨i, _, rfl⟩ := List.mem_map.1 hr
          exact (hf i).1) W
        (by
          intro i r hr
          have hi : i < len := by have := (List.getElem?_eq_some_iff.1 hr).1; omega
          have hr2 : r = f i := by simpa [hi] using hr.symm
          subst hr2
          exact (hf i).2 hi) (errs_tab_of_laid hL).1 (errs_tab_of_laid hL).2
      rw [hlen] at hw
      exact hw
  refine hwalk.mono fun e W' ⟨he, hw⟩ => ?_
  subst he
  exact ⟨_, rfl, law_post (by kernel_rfl) (by kernel_rfl) Tryd.underlying4 (by kernel_rfl) rfl hW' (by simp [Rows.seqsetBackSpec]) hw⟩

theorem sback_holds : Rows.SeqsetBackSaid :=
  OpenClaim.holds_of_wide 8 Tryd.f8 rfl rfl rfl rfl rfl rfl rfl ⟨rfl, rfl, rfl, rfl, rfl⟩ rfl rfl rfl rfl rfl (by kernel_rfl) Tryd.func8 (by kernel_rfl)
    (of_decide_eq_true (by kernel_rfl)) (by unfold Func.isWrapper; first | (rw [if_pos (by decide +kernel)]; kernel_rfl) | (rw [if_neg (by decide +kernel)]; exact ⟨rfl, rfl⟩))
    (fun os started H enc _ => sback_lifted os started H enc)

theorem sback_card : Rows.SeqsetBackCardSaid :=
  Claim7.holds_tied_plain_at .later [] [.data, .data, .data, .sentinel, .sentinel] true Rows.seqsetBackCard.stood.harness true
    sback_holds (fun _ h => by cases h) (by kernel_rfl) (fun _ h => by cases h) seqsetBack_row_tie rfl ⟨rfl, rfl⟩ (by kernel_rfl) rfl
    (fun f fn hf hfn => by
      obtain rfl : f = 8 := Option.some.inj ((show Tryd.prog.funcNamed Rows.seqsetBackRow.func = some 8 by kernel_rfl).symm.trans hf) |>.symm
      obtain rfl : fn = Tryd.f8 := (Option.some.inj (Tryd.func8.symm.trans hfn)).symm
      exact ⟨by kernel_rfl, fun j t ht => by
        rw [Tryd.params8] at ht
        have hm : t ∈ [47, 52] := by simpa using Array.mem_of_getElem? ht
        have hall : ([47, 52].all fun u => !Tryd.prog.wantsStandIn u) = true := by kernel_rfl
        exact (show Tryd.prog.wantsStandIn t = false by simpa using List.all_eq_true.1 hall t hm)⟩)
    (by kernel_rfl)
#print axioms sback_card
end Go.Proofs.YtmfpfebnlflfiaaDoor

/-
  PROVED: for every set of ranges and every last number the law SeqsetWalks returns true. On condition that the library's three tables and two errors start as the program's text lays them (tied by the card).
-/
import Derived.Test.YtmfpfebnlflfiaaDoorSWalkW
import Derived.Test.YtmfpfebnlflfiaaDoorQTabs
import Derived.Test.YtmfpfebnlflfiaaDoorRow
import Derived.Test.YtmfpfebnlflfiaaDoorStructs
import Derived.Test.YtmfpfebnlflfiaaDoorTie
set_option linter.unusedVariables false
set_option linter.unusedSimpArgs false
namespace Go.Proofs.YtmfpfebnlflfiaaDoor
open Go Go.ChangeShapes Go.WideShapes Go.ChangeAt Go.RowKit Go.ChangeMaps

attribute [local go_sem] Oper.semAt_some wide_fn wide_depth
set_option maxRecDepth 100000 in
set_option maxHeartbeats 400000 in
theorem swalk_easy (p : Option Addr) (N cap last : Nat) (q : Option Addr) (M cq : Nat) (hN : N ≤ maxLen) (hM : M ≤ maxLen) (hl : last < 65536) (h : 70 < N ∨ 400 < last ∨ 100 < M) (w : World) :
    Calls Tryd.prog 7 #[.slice p N cap, .int .u16 last, .slice q M cq] w fun e w' => e = .returned (.bool true) ∧ Below w.heap.size w w' := by
  unfold maxLen at hN hM
  refine (callsIn_wide (n := 3)).1 ?_
  refine callsIn_of_wp_marks Tryd.func7 rfl trivial ?_
  simp only [Tryd.ntmps7, List.size_toArray, List.length_cons, List.length_nil, Nat.reduceAdd, Nat.reduceSub, Array.replicate_succ, Array.replicate_zero, List.push_toArray, List.append_toArray, List.nil_append, List.cons_append]
  refine wpIn_wide.2 ?_
  have HBL : Hid (Below w.heap.size w (((w.alloc (.cells #[.slice p N cap] 47)).alloc (.cells #[.int .u16 last] 52)).alloc (.cells #[.bool true] 4))) :=
    (((Below.refl w.heap.size w).alloc (Nat.le_refl _) _).alloc (by simp) _).alloc (by simp; omega) _
  by_cases h1 : 70 < N
  · have k1 : (70 : Int) < N := by omega
    go_wp2_with fail
    refine ⟨.bool true, ?_, rfl, HBL.out⟩
    simp [results, Tryd.f7, go_sem]
  · have k1 : ¬ (70 : Int) < N := by omega
    by_cases h2 : 400 < last
    · have k2 : (400 : Int) < last := by omega
      go_wp2_with fail
      refine ⟨.bool true, ?_, rfl, HBL.out⟩
      simp [results, Tryd.f7, go_sem]
    · have k2 : ¬ (400 : Int) < last := by omega
      have k3 : (100 : Int) < M := by omega
      go_wp2_with fail
      refine ⟨.bool true, ?_, rfl, HBL.out⟩
      simp [results, Tryd.f7, go_sem]

set_option maxRecDepth 100000 in
theorem swalk_lifted (os : Os) (started : os.Started) (H : Type) (enc : TypeId × Value → H) :
    ReturnsInHanded {} Tryd.checked os 7 .any (fun w args => (Rows.seqsetWalksSpec.pre enc Tryd.prog Tryd.f7 [] false w args ∧ laidMetH Tryd.prog lSeq w) ∧ sizedMet enc Tryd.prog Tryd.f7 (OpenSpec.ofChange Rows.seqsetWalksSpec) false w args)
      (Rows.seqsetWalksSpec.post enc Tryd.prog Tryd.f7 false true false false) := by
  refine returnsInHanded_of_change_and (C := Tryd.checked) (X := fun w _ => laidMetH Tryd.prog lSeq w) (fun _ _ _ hh h => h.of_heap hh) own started (by kernel_rfl) Tryd.func7
    (ChangeSpec.witness_shaped (enc := enc) (C := Tryd.checked) (os := os) (X := fun w _ => laidMetH Tryd.prog lSeq w) false (World.doorLaid Tryd.prog 400 os) #[.slice none 0 0, .int .u16 0, .slice none 0 0] 8 rfl (World.shaped_of_RefB (by kernel_rfl) (by kernel_rfl)) (by kernel_rfl) (by kernel_rfl) (by kernel_rfl) (door_met2 os _)) ?_
  intro W base args ds gs before hval0 hW _ _ hL _
  have hval : ∀ (j : Nat) t v, Tryd.f7.params[j]? = some t → args[j]? = some v → Value.okWide Tryd.prog W .any base t v := hval0
  have hW' := hW
  obtain ⟨p, q, hA0, hV, rfl, hfz, hnd⟩ := hW
  have hA : DataW.TrodAll enc Tryd.prog W 0 (fun _ => true) true Tryd.f7.params.toList args.toList ds p := hA0
  rw [Tryd.params7] at hA hval
  obtain ⟨v0, vs0, d0, ds0, p0, q0, hargs, rfl, rfl, h0, r0⟩ := trodAll_cons hA
  obtain ⟨v1, vs1, d1, ds1, p1, q1, rfl, rfl, rfl, h1, r1⟩ := trodAll_cons r0
  obtain ⟨v2, vs2, d2, ds2, p2, q2, rfl, rfl, rfl, h2, r2⟩ := trodAll_cons r1
  obtain ⟨rfl, rfl, rfl⟩ := trodAll_nil r2
  obtain rfl : args = #[v0, v1, v2] := by cases args; simp_all
  obtain ⟨rfl, rfl⟩ := trodVars_none hV
  obtain ⟨i, rfl, rfl, rfl, w1⟩ := open_int Tryd.underlying52 (hval 1 52 v1 rfl rfl) h1
  obtain ⟨last, rfl, hlast⟩ := nat_u16 w1
  have hS : ∃ (p : Option Addr) (l : List (Nat × Nat)) (cap : Nat), v0 = .slice p l.length cap ∧ PairsAt W p l ∧ l.length ≤ maxLen := by
    rcases open_structs Tryd.underlying47 Tryd.underlying89 (by kernel_rfl) (by kernel_rfl) (by decide) (hval 0 47 v0 rfl rfl) h0 with rfl | ⟨ad, len, cap, rfl, hl, hm, hc⟩
    · exact ⟨none, [], 0, rfl, fun i r hr => by simp at hr, Nat.zero_le _⟩
    · have hq : ∀ i, ∃ q : Nat × Nat, i < len → ∃ b off, some ad = some ⟨b, off, none⟩ ∧ b < W.heap.size ∧ W.cell? ⟨b, off + i * 2, none⟩ = some (.int .u32 q.1) ∧ W.cell? ⟨b, off + i * 2 + 1, none⟩ = some (.int .u32 q.2) := by
        intro i
        by_cases hi : i < len
        · obtain ⟨b, off, rfl, hb, hf⟩ := hc i hi
          obtain ⟨x0, y0, n0, e0, t0⟩ := hf 0 _ rfl
          obtain ⟨x1, y1, n1, e1, t1⟩ := hf 1 _ rfl
          obtain ⟨m0, hm0, _, wf0⟩ := DataW.trod_int Tryd.underlying58 t0
          obtain ⟨m1, hm1, _, wf1⟩ := DataW.trod_int Tryd.underlying58 t1
          obtain rfl := List.cons.inj hm0 |>.1
          obtain rfl := List.cons.inj hm1 |>.1
          obtain ⟨u0, rfl, hu0⟩ := nat_u32 wf0
          obtain ⟨u1, rfl, hu1⟩ := nat_u32 wf1
          exact ⟨(u0, u1), fun _ => ⟨b, off, rfl, hb, e0, e1⟩⟩
        · exact ⟨(0, 0), fun h => absurd h hi⟩
      obtain ⟨f, hf⟩ := Classical.skolem.1 hq
      have hlen : ((List.range len).map f).length = len := by simp
      refine ⟨some ad, (List.range len).map f, cap, by rw [hlen], ?_, by rw [hlen]; omega⟩
      intro i r hr
      have hi : i < len := by have := (List.getElem?_eq_some_iff.1 hr).1; omega
      have hr2 : r = f i := by simpa [hi] using hr.symm
      subst hr2
      exact hf i hi
  have hU : ∃ (q : Option Addr) (ns : List Nat) (cq : Nat), v2 = .slice q ns.length cq ∧ NumsAt W q ns ∧ ns.length ≤ maxLen := by
    rcases open_slice_nat Tryd.underlying53 Tryd.underlying58 (by kernel_rfl) wf_nonneg_u32 (hval 2 53 v2 rfl rfl) h2 with rfl | ⟨ad, len, cap, z, rfl, hl, hm, hc⟩
    · exact ⟨none, [], 0, rfl, fun i n hr => by simp at hr, Nat.zero_le _⟩
    · have hlen : ((List.range len).map z).length = len := by simp
      refine ⟨some ad, (List.range len).map z, cap, by rw [hlen], ?_, by rw [hlen]; omega⟩
      intro i n hn
      have hi : i < len := by have := (List.getElem?_eq_some_iff.1 hn).1; omega
      have hn2 : n = z i := by simpa [hi] using hn.symm
      subst hn2
      obtain ⟨b, off, rfl, hb, h3, h4⟩ := hc i hi
      obtain ⟨u, hu, hu2⟩ := nat_u32 h4
      exact ⟨by omega, b, off, rfl, hb, h3⟩
  have hwalk : Calls Tryd.prog 7 #[v0, .int .u16 last, v2] W fun e w' => e = .returned (.bool true) ∧ Below W.heap.size W w' := by
    obtain ⟨p, l, cap, rfl, hpl, hlm⟩ := hS
    obtain ⟨q, ns, cq, rfl, hqn, hnm⟩ := hU
    by_cases hh : 70 < l.length ∨ 400 < last ∨ 100 < ns.length
    · exact swalk_easy p l.length cap last q ns.length cq hlm hnm hlast hh W
    · exact swalk_walk p cap last l (by omega) (by omega) q cq ns (by omega) W hpl hqn (errs_tab_of_laid hL).1 (errs_tab_of_laid hL).2
  refine hwalk.mono fun e W' ⟨he, hw⟩ => ?_
  subst he
  exact ⟨_, rfl, law_post (by kernel_rfl) (by kernel_rfl) Tryd.underlying4 (by kernel_rfl) rfl hW' (by simp [Rows.seqsetWalksSpec]) hw⟩

theorem swalk_holds : Rows.SeqsetWalksSaid :=
  OpenClaim.holds_of_wide 7 Tryd.f7 rfl rfl rfl rfl rfl rfl rfl ⟨rfl, rfl, rfl, rfl, rfl⟩ rfl rfl rfl rfl rfl (by kernel_rfl) Tryd.func7 (by kernel_rfl)
    (of_decide_eq_true (by kernel_rfl)) (by unfold Func.isWrapper; first | (rw [if_pos (by decide +kernel)]; kernel_rfl) | (rw [if_neg (by decide +kernel)]; exact ⟨rfl, rfl⟩))
    (fun os started H enc _ => swalk_lifted os started H enc)

theorem swalk_card : Rows.SeqsetWalksCardSaid :=
  Claim7.holds_tied_plain_at .later [] [.data, .data, .data, .sentinel, .sentinel] true Rows.seqsetWalksCard.stood.harness true
    swalk_holds (fun _ h => by cases h) (by kernel_rfl) (fun _ h => by cases h) seqsetWalks_row_tie rfl ⟨rfl, rfl⟩ (by kernel_rfl) rfl
    (fun f fn hf hfn => by
      obtain rfl : f = 7 := Option.some.inj ((show Tryd.prog.funcNamed Rows.seqsetWalksRow.func = some 7 by kernel_rfl).symm.trans hf) |>.symm
      obtain rfl : fn = Tryd.f7 := (Option.some.inj (Tryd.func7.symm.trans hfn)).symm
      exact ⟨by kernel_rfl, fun j t ht => by
        rw [Tryd.params7] at ht
        have hm : t ∈ [47, 52, 53] := by simpa using Array.mem_of_getElem? ht
        have hall : ([47, 52, 53].all fun u => !Tryd.prog.wantsStandIn u) = true := by kernel_rfl
        exact (show Tryd.prog.wantsStandIn t = false by simpa using List.all_eq_true.1 hall t hm)⟩)
    (by kernel_rfl)
#print axioms swalk_card
end Go.Proofs.YtmfpfebnlflfiaaDoor

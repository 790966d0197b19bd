/-
  A set's names: the walk over the walk over its flags.
-/
import Derived.Test.YtaomekmfgjgpmaaDoorFlagIt
set_option linter.unusedVariables false
set_option linter.unusedSimpArgs false
namespace Go.Proofs.YtaomekmfgjgpmaaDoor
open Go Go.RowKit Go.Shelf
attribute [local go_sem] Oper.semAt_some wide_fn wide_depth

theorem flags_c (s : Int) (w : World) : Calls Tryd.prog 44 #[.int .u8 s] w fun e w' => e = .returned (.func (.func 53) #[] #[.pointer (some ⟨w.heap.size, 0, none⟩)]) ∧ w.alloc (.cells #[.int .u8 s] 31) = w' := by
  go_enter Tryd.func44, Tryd.ntmps44
  go_wp2
  go_ret
  exact ⟨rfl, rfl⟩
theorem names_c (s : Int) (w : World) : Calls Tryd.prog 30 #[.int .u8 s] w fun e w' => e = .returned (.func (.func 43) #[] #[.pointer (some ⟨w.heap.size, 0, none⟩)]) ∧ w.alloc (.cells #[.int .u8 s] 31) = w' := by
  go_enter Tryd.func30, Tryd.ntmps30
  go_wp2
  go_ret
  exact ⟨rfl, rfl⟩

theorem Names.later {W W' : World} (h : Names W) (hb : Below (4 + 1) W W') : Names W' := by
  obtain ⟨c0, c1, c2, c3, c4⟩ := h
  have hc : ∀ j, W'.cell? ⟨4, j, none⟩ = W.cell? ⟨4, j, none⟩ := fun j => hb.cell (p := ⟨4, j, none⟩) (by show (4 : Nat) < 4 + 1; omega)
  exact ⟨(hc 0).trans c0, (hc 1).trans c1, (hc 2).trans c2, (hc 3).trans c3, (hc 4).trans c4⟩
theorem Names.lt {W : World} (h : Names W) : 4 < W.heap.size := by
  have h0 := h.1
  unfold World.cell? at h0
  apply Decidable.byContradiction
  intro hn
  rw [Array.getElem?_eq_none (by show W.heap.size ≤ 4; omega)] at h0
  simp at h0

set_option maxRecDepth 100000 in
set_option maxHeartbeats 2000000 in
theorem names1_iter (s Bs : Nat) (hs : s < 256) : Iter Tryd.prog 43 #[.pointer (some ⟨Bs, 0, none⟩)] (fun i : Nat => #[.string (nmB i)])
    (fun e => e = 72 ∨ e = 31) (fun k => k = Bs) (fun W => Names W ∧ Boxed W Bs 31 (.int .u8 s)) (fun pre x => pre ++ [x] <+: seqOf s 5) (fun xs => xs = seqOf s 5) (fun pre => pre <+: seqOf s 5) := by
  rintro l T J Jx W ⟨hN, hb⟩ hT hJ hJx hY h0
  refine (callsIn_wide (n := 3)).1 ?_
  refine callsIn_of_wp_marks Tryd.func43 rfl trivial ?_
  simp only [Tryd.ntmps43, List.size_toArray, List.length_cons, List.length_nil, Nat.reduceAdd, Nat.reduceSub, Array.replicate_succ, Array.replicate_zero, List.push_toArray, List.append_toArray, List.nil_append, List.cons_append]
  have HT := Lib.hid hT
  have HJ := Lib.hid hJ
  have HX := Lib.hid hJx
  have HY := Lib.hid hY
  have HS := Lib.hid hs
  have HN := Lib.hid hN
  have H0 := Lib.hid h0
  have cb := (hb.alloc (.cells #[.func (.yield l) #[] #[]] 72)).cell
  clear hT hJ hJx hY hs hN h0
  gi_wp2_with (gi_at_call 44; refine CallsIn.w (flags_c _ _) ?_; rintro e w' ⟨rfl, rfl⟩)
  have bF := (Boxed.new W 72 (.func (.yield l) #[] #[])).alloc (.cells #[.int .u8 s] 31)
  have bS := Boxed.new (W.alloc (.cells #[.func (.yield l) #[] #[]] 72)) 31 (.int .u8 s)
  rw [World.size_alloc] at bS
  have hBW : Below W.heap.size W ((W.alloc (.cells #[.func (.yield l) #[] #[]] 72)).alloc (.cells #[.int .u8 s] 31)) := ((Below.refl _ W).alloc (Nat.le_refl _) _).alloc (by simp) _
  have hit0 : Itself (fun e => e = 72 ∨ e = 31) W.heap.size W ((W.alloc (.cells #[.func (.yield l) #[] #[]] 72)).alloc (.cells #[.int .u8 s] 31)) := (Itself.alloc _ W _ (Nat.le_refl _)).trans (Itself.alloc _ _ _ (by simp))
  have hsz : ((W.alloc (.cells #[.func (.yield l) #[] #[]] 72)).alloc (.cells #[.int .u8 s] 31)).heap.size = W.heap.size + 2 := by simp
  obtain ⟨W0, hW0⟩ : ∃ W0, (W.alloc (.cells #[.func (.yield l) #[] #[]] 72)).alloc (.cells #[.int .u8 s] 31) = W0 := ⟨_, rfl⟩
  rw [hW0] at bF bS hBW hsz hit0 ⊢
  clear hW0 cb
  have hsub : ∀ {A B : World}, Itself (fun _ => False) W0.heap.size A B → Itself (fun e => e = 72 ∨ e = 31) W.heap.size A B := fun h => h.mono (fun _ h => h.elim) (by omega)
  refine wpIn_rangeIter (gf := 53) (lb := #[.pointer (some ⟨W.heap.size + 1, 0, none⟩)]) rfl (enters_of Tryd.func53 (by kernel_rfl) rfl) (flags1_iter s (W.heap.size + 1) HS.out) T (fun _ _ h => h) (fun _ => rfl)
    (fun k hk => by subst hk; omega) (fun W' hW' => ⟨HN.out.later ((hBW.trans (hW'.mono (by omega))).mono HN.out.lt), (hW'.block _ (by omega)).trans bS⟩)
    (fun pre W' => J pre W' ∧ Boxed W' W.heap.size 72 (.func (.yield l) #[] #[]) ∧ Boxed W' (W.heap.size + 1) 31 (.int .u8 s))
    (fun c pre W' => c = .ret ∧ Jx pre W')
    (fun s' A B h hAB => ⟨HJ.out _ _ _ h.1 (hsub hAB), hAB.boxed h.2.1 (.inl (by omega)), hAB.boxed h.2.2 (.inl (by omega))⟩)
    (fun c s' A B h hAB => ⟨h.1, HX.out _ _ _ h.2 (hsub hAB)⟩)
    ⟨HJ.out _ _ _ H0.out hit0, bF, bS⟩ ?round ?done ?stop
  case round =>
    rintro l' pre x W1 hl ⟨hj, hf, hb1⟩ hst
    gi_wp2
    refine ⟨Keeps.refl _ _ _ _, fun W2 hits hsz2 hrec hoth => ?_⟩
    have hj2 := HJ.out _ _ _ hj (hsub hits)
    have hf2 := hits.boxed hf (.inl (by omega))
    have hb2 := hits.boxed hb1 (.inl (by omega))
    have cf := hf2.cell
    obtain ⟨fn, tmps, assign, body, hy, hR⟩ := HY.out pre x W2 hj2 hst
    have HR := Lib.hid (RoundIn.inL (m := 0) l' hR)
    have HF2 := Lib.hid hf2
    have HB2 := Lib.hid hb2
    clear hR hf2 hb2 hj2 hj hf hb1 hst hsz2 hrec hoth hits
    gi_wp2
    refine HR.out.mono ?_
    rintro e W3 ⟨hk3, (⟨rfl, hj3⟩ | ⟨rfl, hx3⟩)⟩
    all_goals
      have hkk : Keeps T (fun k => k = W.heap.size + 1) W0.heap.size W2 W3 := hk3.mono (fun _ h => h) (by omega) (fun k o ho hk => .inr ⟨by omega, fun c e fz he heq => by
        subst hk
        have h24 := (show W2.heap[W.heap.size + 1]? = _ from HB2.out).symm.trans ho
        rw [heq] at h24
        cases h24
        exact HT.out _ he (.inr rfl)⟩)
      have hf3 := hk3.boxed HF2.out (.inr ⟨Nat.le_refl _, fun h => HT.out _ h (.inl rfl)⟩)
      have hb3 := hkk.boxed HB2.out (.inl rfl)
      have HKK := Lib.hid hkk
      have HF3 := Lib.hid hf3
      have HB3 := Lib.hid hb3
      clear hkk hf3 hb3 hk3 cf
    · gi_wp2
      exact ⟨HKK.out, hj3, HF3.out, HB3.out⟩
    · gi_wp2
      exact ⟨HKK.out, rfl, hx3⟩
  case done =>
    rintro D xs W1 hD hS ⟨hj, hf, hb1⟩ hK
    gi_wp2
    refine ⟨by simp, .inl ⟨_, _, rfl, run_takeDeferred hK, ?_⟩⟩
    exact ⟨_, results_none rfl _ _ _, ⟨_, rfl⟩, .inl ⟨xs, hS, HJ.out _ _ _ hj (Itself.putObj _ W1 _ _ _ (by omega) hK rfl)⟩⟩
  case stop =>
    rintro D c pre W1 hD hS ⟨rfl, hj⟩ hK
    gi_wp2
    refine ⟨by simp, .inl ⟨_, _, rfl, run_takeDeferred hK, ?_⟩⟩
    exact ⟨_, results_none rfl _ _ _, ⟨_, rfl⟩, .inr ⟨pre, hS, HX.out _ _ _ hj (Itself.putObj _ W1 _ _ _ (by omega) hK rfl)⟩⟩
end Go.Proofs.YtaomekmfgjgpmaaDoor

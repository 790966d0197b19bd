/-
  All slots of a tree: the iterator.
-/
import Derived.Test.YtdelhpogacccjaaTrI3
import Derived.Deep.RegionHeld3
set_option linter.unusedVariables false
set_option linter.unusedSimpArgs false
namespace Go.Proofs.Ytdelhpogacccjaa
open Go Go.RowKit
attribute [local go_sem] Oper.semAt_some wide_fn' wide_depth'

set_option maxRecDepth 100000 in
set_option maxHeartbeats 1000000 in
theorem slots1_iter (b1 b2 : Nat) (v : Value) (ns : List TN) (r : Int) (H : Nat) (l : List R7) (hT : TreeOf ns r H l) (hns : ns.length ≤ 100000) (hnd : ((preN ns H r).map Prod.fst).Nodup) (hn : (preN ns H r).length ≤ 100000) :
    Iter Try.prog 28 #[.pointer (some ⟨b1, 0, none⟩), .pointer (some ⟨b2, 0, none⟩)] (fun x : Int × TN => #[.int .i64 x.1, .agg (nodeA x.2)]) sT0 (scap b1 b2 v) (SCap b1 b2 v ns r H)
      (fun pre x => pre ++ [x] <+: preN ns H r) (fun xs => xs = preN ns H r) (fun pre => pre <+: preN ns H r) := by
  rintro l' T J Jx W hcap hTT hJ hJx hY h0
  have CT := Lib.hid (fun w => tTop_c r H w)
  rw [hT.top] at CT
  have hH8 := hT.le
  have c1 := hcap.st.cell
  obtain ⟨c2, c3⟩ := hcap.tr.cell
  have l1 := lt_of_block hcap.st
  have l2 := hcap.tr.lt
  have HC := Lib.hid hcap
  have HJ := Lib.hid hJ
  have HX := Lib.hid hJx
  have HY := Lib.hid hY
  have HTT := Lib.hid hTT
  clear hcap hJ hJx hY hTT
  have hwr : ((H : Int) - 1) = IntKind.i64.wrap ((H : Int) - 1) := by rw [IntKind.wrap_i64]; omega
  have HIT := Lib.hid (from1_iter H hH8)
  have HLA : Hid (∀ w M, Below W.heap.size W w → W.heap.size ≤ M → MetAt w M 0 (fun _ => False) →
      Calls Try.prog 29 #[iS v, .int .i64 r, .int .i64 (IntKind.i64.wrap ((H : Int) - 1)), .map (some M)] w fun e w' => (∃ a b c d, e = .returned (.func (.func 58) #[] #[.pointer (some ⟨a, 0, none⟩), .pointer (some ⟨b, 0, none⟩), .pointer (some ⟨c, 0, none⟩), .pointer (some ⟨d, 0, none⟩)]) ∧
        W.heap.size ≤ a ∧ W.heap.size ≤ b ∧ W.heap.size ≤ c ∧ W.heap.size ≤ d ∧ FCap a b c d M v ns r H 0 (fun _ => False) w') ∧ Below W.heap.size W w' ∧ W.heap.size ≤ M) := fun w M hb hM hmt => by
    rw [← hwr]
    refine (from_c v r ((H : Int) - 1) M).mono ?_
    rintro e w' ⟨rfl, hw⟩
    have hf := FCap.fresh (k := H) (HC.out.sh.below hb) hmt r w.heap.size rfl
    rw [hw] at hf
    have hb2 : Below w.heap.size w w' := by
      rw [← hw]
      exact ((((Below.refl _ _).alloc (Nat.le_refl _) _).alloc (by simp) _).alloc (by simp; omega) _).alloc (by simp; omega) _
    have := hb.size
    exact ⟨⟨_, _, _, _, rfl, by omega, by omega, by omega, by omega, hf⟩, hb.trans (hb2.mono hb.size), hM⟩
  have HLB : Hid (∀ w a b c d M, Below W.heap.size W w → W.heap.size ≤ a → W.heap.size ≤ b → W.heap.size ≤ c → W.heap.size ≤ d → W.heap.size ≤ M → FCap a b c d M v ns r H 0 (fun _ => False) w →
      Calls Try.prog 58 #[.func (.yield l') #[] #[], .pointer (some ⟨a, 0, none⟩), .pointer (some ⟨b, 0, none⟩), .pointer (some ⟨c, 0, none⟩), .pointer (some ⟨d, 0, none⟩)] w fun e W' => ((∃ v, e = .returned v) ∧ ((∃ xs, xs = preN ns H r ∧ J xs W') ∨ ∃ pre, pre <+: preN ns H r ∧ Jx pre W')) ∧ W'.heap[b1]? = W.heap[b1]? ∧ W'.heap[b2]? = W.heap[b2]?) := fun w a b c d M hb ha hbb hc hd hM hf => by
    have hlw := hb.size
    have hown : ∀ {A B : World}, ItselfM fT0 w.heap.size (fun k => k = M) A B → Itself sT0 W.heap.size A B := fun h => (h.own hb.size (fun k hk => by rw [hk]; exact hM)).mono (fun _ h => .inl h) (Nat.le_refl _)
    have hJw : J [] w := HJ.out _ _ _ h0 ⟨hb.os, hb.tape, hb.output, hb.size, hb.block, fun j c e fz _ hj => (hb.block j (Array.getElem?_eq_some_iff.1 hj).1).trans hj⟩
    obtain ⟨es, cl, hmo⟩ := hf.mt.obj
    have hne : ∀ {x : Nat} {t : TypeId} {u : Value}, Boxed w x t u → x < w.heap.size ∧ x ≠ M := fun {x t u} h => ⟨lt_of_block h, fun e => by
      rw [e] at h
      rw [show w.heap[M]? = _ from h] at hmo
      cases hmo⟩
    have hMl : M < w.heap.size := hf.mt.lt
    let CX : World → Prop := fun w' => w'.heap[b1]? = W.heap[b1]? ∧ w'.heap[b2]? = W.heap[b2]?
    have hCX : CX w := ⟨hb.block _ l1, hb.block _ l2⟩
    have iCX : ∀ {A B : World}, ItselfM fT0 w.heap.size (fun k => k = M) A B → CX A → CX B := fun h k => ⟨(h.below b1 (by omega) (by omega)).trans k.1, (h.below b2 (by omega) (by omega)).trans k.2⟩
    let BX : World → Prop := fun w' => Boxed w' a 82 (iS v) ∧ Boxed w' b 3 (.int .i64 r) ∧ Boxed w' c 3 (.int .i64 ((H : Int) - 1)) ∧ Boxed w' d 86 (.map (some M)) ∧ ∃ o, w'.heap[M]? = some o ∧ o.isCells = false
    have hBX : BX w := ⟨hf.st, hf.sl, hf.rk, hf.mp, _, hmo, rfl⟩
    refine ((HIT.out a b c d M 0 v ns r (fun _ => False) hns hnd (fun _ _ h => h) (by omega)) l' T (fun pre w' => J pre w' ∧ BX w' ∧ CX w') (fun pre w' => Jx pre w' ∧ CX w') w hf (fun e h hx => HTT.out e h (.inl hx))
      (fun s A B ⟨h1, h2, h3⟩ hi => ⟨HJ.out _ _ _ h1 (hown hi), ⟨hi.boxed h2.1 (.inl (hne hf.st)), hi.boxed h2.2.1 (.inl (hne hf.sl)), hi.boxed h2.2.2.1 (.inl (hne hf.rk)), hi.boxed h2.2.2.2.1 (.inl (hne hf.mp)), by
        obtain ⟨o, h1, h2⟩ := h2.2.2.2.2
        exact hi.kind M o hMl rfl h1 h2⟩, iCX hi h3⟩) (fun s A B h hi => ⟨HX.out _ _ _ h.1 (hown hi), iCX hi h.2⟩) ?_ ⟨hJw, hBX, hCX⟩).mono ?_
    · rintro pre x W1 ⟨hj, ⟨k1, k2, k3, k4, o, k5, k6⟩, kc1, kc2⟩ hst
      obtain ⟨fn, tmps, assign, body, hy, hR⟩ := HY.out pre x W1 hj hst
      refine ⟨fn, tmps, assign, body, hy, hR.mono ?_⟩
      rintro e W' ⟨hk, hr⟩
      have hoc : ∀ c e fz, T e → o ≠ .cells c e fz := fun c e fz _ h => by rw [h] at k6; cases k6
      have hty : ∀ {j : Nat} {t : TypeId} {u : Value}, Boxed W1 j t u → fT0 t → W.heap.size ≤ j → (scap b1 b2 v j ∨ (W.heap.size ≤ j ∧ ¬ T t)) := fun h ht hl => .inr ⟨hl, fun x => HTT.out _ x (.inl ht)⟩
      refine ⟨hk.mono (fun _ h => h) hb.size (fun j oo ho hj => ?_), ?_⟩
      · have typ : ∀ {t : TypeId} {u : Value}, Boxed W1 j t u → fT0 t → W.heap.size ≤ j → scap b1 b2 v j ∨ (W.heap.size ≤ j ∧ ∀ c e fz, T e → oo ≠ .cells c e fz) := fun {t u} hb' ht hl => .inr ⟨hl, fun c e fz he heq => by
          rw [show W1.heap[j]? = _ from hb'] at ho
          rw [heq] at ho
          cases ho
          exact HTT.out _ he (.inl ht)⟩
        rcases hj with rfl | rfl | rfl | rfl | rfl | hj
        · exact typ k1 (.inl rfl) ha
        · exact typ k2 (.inr (.inl rfl)) hbb
        · exact typ k3 (.inr (.inl rfl)) hc
        · exact typ k4 (.inr (.inr (.inl rfl))) hd
        · rw [k5] at ho; cases ho; exact .inr ⟨hM, hoc⟩
        · exact .inl (.inr (.inr hj))
      · have hcx : CX W' := by
          have q1 : W1.heap[b1]? = some (Obj.cells _ _ _) := kc1.trans HC.out.st
          have q2 : W1.heap[b2]? = some (Obj.cells _ _ _) := kc2.trans HC.out.tr
          exact ⟨(hk.same b1 _ q1 (.inl (.inl rfl))).trans HC.out.st.symm, (hk.same b2 _ q2 (.inl (.inr (.inl rfl)))).trans (show W.heap[b2]? = _ from HC.out.tr).symm⟩
        rcases hr with ⟨h1, h2⟩ | h1
        · exact .inl ⟨h1, h2, ⟨hk.boxed k1 (hty k1 (.inl rfl) ha), hk.boxed k2 (hty k2 (.inr (.inl rfl)) hbb), hk.boxed k3 (hty k3 (.inr (.inl rfl)) hc), hk.boxed k4 (hty k4 (.inr (.inr (.inl rfl))) hd), o, hk.same M o k5 (.inr ⟨hM, hoc⟩), k6⟩, hcx⟩
        · exact .inr ⟨h1.1, h1.2, hcx⟩
    · rintro e W' ⟨he, (⟨xs, h1, h2, _⟩ | h1)⟩
      · exact ⟨⟨he, .inl ⟨xs, h1, h2.1⟩⟩, h2.2.2⟩
      · obtain ⟨pre, h1, h2, h3⟩ := h1
        exact ⟨⟨he, .inr ⟨pre, h1, h2⟩⟩, h3⟩
  clear HIT hwr
  have HB0 : Hid (Below W.heap.size W W) := Below.refl _ _
  have hmm := @run_makeMap Try.prog
  go_enter Try.func28, Try.ntmps28
  have R0 : Below W.heap.size W W := Below.refl _ _
  have BF : Hid (∀ w, Below W.heap.size W w → w.cell? ⟨b1, 0, none⟩ = some (iS v) ∧ w.cell? ⟨b2, 0, none⟩ = some (.int .i64 r) ∧ w.cell? ⟨b2, 1, none⟩ = some (.int .i64 H)) := fun w h => by
    rw [h.cell (p := ⟨b1, 0, none⟩) l1, h.cell (p := ⟨b2, 0, none⟩) l2, h.cell (p := ⟨b2, 1, none⟩) l2]; exact ⟨c1, c2, c3⟩
  have CF : Hid (∀ w : World, w.heap[b1]? = W.heap[b1]? → w.heap[b2]? = W.heap[b2]? → w.cell? ⟨b1, 0, none⟩ = some (iS v) ∧ w.cell? ⟨b2, 0, none⟩ = some (.int .i64 r) ∧ w.cell? ⟨b2, 1, none⟩ = some (.int .i64 H)) := fun w h1 h2 => by
    have q1 : w.cell? ⟨b1, 0, none⟩ = W.cell? ⟨b1, 0, none⟩ := by unfold World.cell?; rw [h1]
    have q2 : ∀ o, w.cell? ⟨b2, o, none⟩ = W.cell? ⟨b2, o, none⟩ := fun o => by unfold World.cell?; rw [h2]
    rw [q1, q2, q2]; exact ⟨c1, c2, c3⟩
  have hD1 := R0.drew
  have hD2 := R0.drew.alloc R0.drew.size (.map #[] 0)
  obtain HD1 := Lib.hid hD1
  obtain HD2 := Lib.hid hD2
  clear hD1 hD2 R0
  go_region_held3 (fun w' => w'.cell? ⟨b1, 0, none⟩ = some (iS v) ∧ w'.cell? ⟨b2, 0, none⟩ = some (.int .i64 r) ∧ w'.cell? ⟨b2, 1, none⟩ = some (.int .i64 H))
    (first | exact BF.out _ HD1.out | exact BF.out _ HD2.out | exact BF.out _ HbW.out | exact BF.out _ (HbW.out.alloc HbW.out.size _) | exact BF.out _ Hb3.out | exact CF.out _ Hfin1.out Hfin2.out | assumption)
    (first
    | (go_at_call 30; refine (CT.out _).mono ?_; rintro e w2 ⟨rfl, hb2⟩; have HbW : Hid (Below W.heap.size W w2) := (by first | exact HD1.out.trans (hb2.mono HD1.out.size) | exact HD2.out.trans (hb2.mono HD2.out.size)); have Hb2 := Lib.hid hb2; clear hb2)
    | (go_at_call 29; refine (HLA.out _ _ (by first | exact HbW.out | exact HbW.out.alloc HbW.out.size _) (by first | exact HbW.out.size | exact HD1.out.size) (by first | exact MetAt.made _ | exact (MetAt.made _).later (Hb2.out.block _ (by simp)))).mono ?_; rintro e w3 ⟨⟨a, b, c, d, rfl, ha, hbb, hc, hd, hf⟩, hb3, hM3⟩; have Hb3 := Lib.hid hb3; have HF := Lib.hid hf; have HM3 := Lib.hid hM3; have HAB := Lib.hid (And.intro ha (And.intro hbb (And.intro hc hd))); clear hb3 hf hM3 ha hbb hc hd)
    | (go_at_call 58; refine (HLB.out _ _ _ _ _ _ Hb3.out HAB.out.1 HAB.out.2.1 HAB.out.2.2.1 HAB.out.2.2.2 HM3.out HF.out).mono ?_; rintro e w4 ⟨⟨⟨v9, rfl⟩, hfin⟩, hfin1, hfin2⟩; have Hfin := Lib.hid hfin; have Hfin1 := Lib.hid hfin1; have Hfin2 := Lib.hid hfin2; clear hfin hfin1 hfin2))
  all_goals
    exact ⟨rfl, _, results_none rfl _ _ _, ⟨_, rfl⟩, Hfin.out⟩
end Go.Proofs.Ytdelhpogacccjaa

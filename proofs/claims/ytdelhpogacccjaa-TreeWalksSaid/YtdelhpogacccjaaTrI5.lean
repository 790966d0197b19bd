/-
  All slots, and all messages, of a tree: the functions that make the walks; the walk through the messages.
-/
import Derived.Test.YtdelhpogacccjaaTrI4
set_option linter.unusedVariables false
set_option linter.unusedSimpArgs false
namespace Go.Proofs.Ytdelhpogacccjaa
open Go Go.RowKit
attribute [local go_sem] Oper.semAt_some wide_fn' wide_depth'

theorem CallsIn.wT {n : Nat} {P : Program} {f : FuncId} {args : Array Value} {w : World} {R R' : Ending → World → Prop} (h : Calls P f args w R) (hr : ∀ e w', R e w' → R' e w') : CallsIn Fence.wide n P f args w R' :=
  (callsIn_wide.2 h).mono hr
theorem CallsIn.wrT {l n : Nat} {P : Program} {f : FuncId} {args : Array Value} {w : World} {R R' : Ending → World → Prop} (h : Calls P f args w R) (hr : ∀ e w', R e w' → R' e w') : CallsIn (Fence.wide.inRound l) n P f args w R' :=
  (CallsIn.inRound l (callsIn_wide.2 h)).mono hr
theorem tSlots_c {W : World} (v : Value) (r H : Int) : Calls Try.prog 11 #[.agg #[.int .i64 r, .int .i64 H], iS v] W fun e w' =>
    e = .returned (.func (.func 28) #[] #[.pointer (some ⟨W.heap.size + 1, 0, none⟩), .pointer (some ⟨W.heap.size, 0, none⟩)]) ∧
      (W.alloc (.cells #[.int .i64 r, .int .i64 H] 27)).alloc (.cells #[iS v] 82) = w' := by
  unfold iS
  go_enter Try.func11, Try.ntmps11
  go_wp2_with fail
  go_ret
  exact ⟨rfl, rfl⟩
theorem tWalk_c {W : World} (v : Value) (r H : Int) : Calls Try.prog 12 #[.agg #[.int .i64 r, .int .i64 H], iS v] W fun e w' =>
    e = .returned (.func (.func 31) #[] #[.pointer (some ⟨W.heap.size, 0, none⟩), .pointer (some ⟨W.heap.size + 1, 0, none⟩)]) ∧
      (W.alloc (.cells #[.int .i64 r, .int .i64 H] 27)).alloc (.cells #[iS v] 82) = w' := by
  unfold iS
  go_enter Try.func12, Try.ntmps12
  go_wp2_with fail
  go_ret
  exact ⟨rfl, rfl⟩
theorem ItselfM.plain {T0 : TypeId → Prop} {D : Nat} {A B : World} (h : ItselfM T0 D (fun _ => False) A B) : Itself T0 D A B := ⟨h.os, h.tape, h.output, h.size, fun k hk => h.below k hk (fun x => x), h.same⟩
/-- XIter's law, where a round is also told that the loop's record is there. -/
theorem wpIn_rangeIterL {n : Nat} {P : Program} {α : Type} {g : Operand} {ps : Array Tmp} {assign body : Code} {Q : Exit → Act → World → Prop} {a : Act} {w : World}
    {gf : Nat} {lb : Array Value} (hg : a.eval g = .func (.func gf) #[] lb) (eg : ∀ args w, (callFunc gf args).run P w = .ok (.enter gf args) w)
    {encs : α → Array Value} {T0 : TypeId → Prop} {cap : Nat → Prop} {capW : World → Prop} {step : List α → α → Prop} {S Sp : List α → Prop}
    (hit : Iter P gf lb encs T0 cap capW step S Sp) (T : TypeId → Prop) (hT : ∀ e, T e → ¬ T0 e) (hps : ∀ x, (encs x).size = ps.size)
    (hcap : ∀ k, cap k → k < w.heap.size) (hcW : ∀ W, Below w.heap.size w W → capW W)
    (I : List α → World → Prop) (Ix : Code → List α → World → Prop)
    (hI : ∀ s A B, I s A → Itself T0 w.heap.size A B → I s B) (hIx : ∀ c s A B, Ix c s A → Itself T0 w.heap.size A B → Ix c s B) (h0 : I [] w)
    (hround : ∀ (l : Nat) (pre : List α) (x : α) (W : World), w.heap.size ≤ l → (∃ r, W.heap[l]? = some (.loop r)) → I pre W → step pre x →
      assign.wpIn (Fence.wide.inRound l) 0 P (Exit.then (fun a₁ W₁ => Keeps T cap w.heap.size W W₁ ∧ (∀ W₂, Itself T0 w.heap.size W₁ W₂ → W₂.heap.size = W₁.heap.size → (∃ r, W₂.heap[l]? = some (.loop r)) →
        (∀ k, k ≠ l → W₂.heap[k]? = W₁.heap[k]?) → body.wpIn (Fence.wide.inRound l) 0 P (bodyOf T cap w.heap.size I Ix (pre ++ [x]) W₂) a₁ W₂)) (fun _ _ _ => False))
        { tmps := (ps.zip (encs x)).foldl (fun t (p, v) => t.setIfInBounds p v) a.tmps, defers := [] } W)
    (hdone : ∀ (D : Nat) (xs : List α) (W : World), w.heap.size ≤ D → S xs → I xs W → W.heap[D]? = some (.deferred (some [])) → Q .normal { a with defers := { target := .collected D, args := #[] } :: a.defers } W)
    (hstop : ∀ (D : Nat) (c : Code) (pre : List α) (W : World), w.heap.size ≤ D → Sp pre → Ix c pre W → W.heap[D]? = some (.deferred (some [])) →
      c.wpIn Fence.wide n P Q { a with defers := { target := .collected D, args := #[] } :: a.defers } W) :
    (Code.rangeFunc g ps assign body).wpIn Fence.wide n P Q a w :=
  wpIn_rangeIterM hg eg hit.toM (fun _ h => h.elim) (fun _ _ _ _ _ _ => trivial) T hT hps hcap hcW I Ix (fun s A B h k => hI s A B h k.plain) (fun c s A B h k => hIx c s A B h k.plain) h0 hround (fun D xs W h1 h2 h3 _ h4 => hdone D xs W h1 h2 h3 h4) hstop
def wT0 (e : TypeId) : Prop := sT0 e ∨ e = 87
theorem recsOf_step {pre : List (Int × TN)} {x : Int × TN} {l : List (Int × TN)} (h : pre ++ [x] <+: l) (hk : x.2.kind = 2) : recsOf (pre ++ [x]) = recsOf pre ++ [x.2.rc] ∧ recsOf pre ++ [x.2.rc] <+: recsOf l := by
  have e : recsOf (pre ++ [x]) = recsOf pre ++ [x.2.rc] := by rw [recsOf_app]; simp [recsOf, hk]
  refine ⟨e, ?_⟩
  obtain ⟨t, ht⟩ := h
  exact ⟨recsOf t, by rw [← e, ← ht, recsOf_app (pre ++ [x])]⟩
theorem recsOf_skip {pre : List (Int × TN)} {x : Int × TN} (hk : ¬ x.2.kind = 2) : recsOf (pre ++ [x]) = recsOf pre := by
  rw [recsOf_app]; simp [recsOf, hk]
theorem recsOf_pre {a b : List (Int × TN)} (h : a <+: b) : recsOf a <+: recsOf b := by
  obtain ⟨t, ht⟩ := h
  rw [← ht, recsOf_app]
  exact ⟨_, rfl⟩

set_option maxRecDepth 100000 in
set_option maxHeartbeats 2000000 in
theorem walk7_iter (bt bs : Nat) (v : Value) (ns : List TN) (r : Int) (H : Nat) (l : List R7) (hT : TreeOf ns r H l) (hns : ns.length ≤ 100000) (hnd : ((preN ns H r).map Prod.fst).Nodup) (hn : (preN ns H r).length ≤ 100000) :
    Iter Try.prog 31 #[.pointer (some ⟨bt, 0, none⟩), .pointer (some ⟨bs, 0, none⟩)] (fun x : R7 => #[rV x]) wT0 (scap bs bt v) (fun W => SCap bs bt v ns r H W ∧ ∀ k, v.ownBlock = some k → k < W.heap.size)
      (fun pre x => pre ++ [x] <+: recsOf (preN ns H r)) (fun xs => xs = recsOf (preN ns H r)) (fun pre => pre <+: recsOf (preN ns H r)) := by
  rintro l' T J Jx W ⟨hcap, hvb⟩ hTT hJ hJx hY h0
  refine (callsIn_wide (n := 3)).1 ?_
  refine callsIn_of_wp_marks Try.func31 rfl trivial ?_
  simp only [Try.ntmps31, List.size_toArray, List.length_cons, List.length_nil, Nat.reduceAdd, Nat.reduceSub, Array.replicate_succ, Array.replicate_zero, List.push_toArray, List.append_toArray, List.nil_append, List.cons_append]
  have hb0 : Below W.heap.size W (W.alloc (.cells #[.func (.yield l') #[] #[]] 87)) := (Below.refl _ _).alloc (Nat.le_refl _) _
  have l1 := lt_of_block hcap.st
  have l2 := hcap.tr.lt
  have c1 := Boxed.cell (show Boxed _ bs 82 (iS v) from (hb0.block _ l1).trans hcap.st)
  obtain ⟨c2, c3⟩ := (hcap.tr.below hb0 l2).cell
  have HTT := Lib.hid hTT
  have HJ := Lib.hid hJ
  have HX := Lib.hid hJx
  have HY := Lib.hid hY
  have HC := Lib.hid hcap
  have H0 := Lib.hid h0
  have HIT := Lib.hid (fun b1 b2 => slots1_iter b1 b2 v ns r H l hT hns hnd hn)
  clear hTT hJ hJx hY hcap h0 hT hns hnd hn hb0
  gi_wp2_with (gi_at_call 11; refine CallsIn.wT (tSlots_c _ _ _) ?_; rintro e w' ⟨rfl, rfl⟩)
  have bF := ((Boxed.new W 87 (.func (.yield l') #[] #[])).alloc (.cells #[.int .i64 r, .int .i64 H] 27)).alloc (.cells #[iS v] 82)
  have bT : TB (((W.alloc (.cells #[.func (.yield l') #[] #[]] 87)).alloc (.cells #[.int .i64 r, .int .i64 H] 27)).alloc (.cells #[iS v] 82)) (W.heap.size + 1) r H := by
    have h := TB.new (W.alloc (.cells #[.func (.yield l') #[] #[]] 87)) r H
    rw [World.size_alloc] at h
    exact (Below.heap_alloc _ _ _ (by simp)).trans h
  have bS := Boxed.atNew ((W.alloc (.cells #[.func (.yield l') #[] #[]] 87)).alloc (.cells #[.int .i64 r, .int .i64 H] 27)) 82 (iS v) (W.heap.size + 2) (by simp)
  have hBW : Below W.heap.size W (((W.alloc (.cells #[.func (.yield l') #[] #[]] 87)).alloc (.cells #[.int .i64 r, .int .i64 H] 27)).alloc (.cells #[iS v] 82)) := (((Below.refl _ W).alloc (Nat.le_refl _) _).alloc (by simp) _).alloc (by simp; omega) _
  have hit0 : Itself wT0 W.heap.size W (((W.alloc (.cells #[.func (.yield l') #[] #[]] 87)).alloc (.cells #[.int .i64 r, .int .i64 H] 27)).alloc (.cells #[iS v] 82)) := ((Itself.alloc _ W _ (Nat.le_refl _)).trans (Itself.alloc _ _ _ (by simp))).trans (Itself.alloc _ _ _ (by simp; omega))
  have hsz : (((W.alloc (.cells #[.func (.yield l') #[] #[]] 87)).alloc (.cells #[.int .i64 r, .int .i64 H] 27)).alloc (.cells #[iS v] 82)).heap.size = W.heap.size + 3 := by simp
  obtain ⟨W0, hW0⟩ : ∃ W0, ((W.alloc (.cells #[.func (.yield l') #[] #[]] 87)).alloc (.cells #[.int .i64 r, .int .i64 H] 27)).alloc (.cells #[iS v] 82) = W0 := ⟨_, rfl⟩
  have hsub : ∀ {A B : World}, Itself sT0 W0.heap.size A B → Itself wT0 W.heap.size A B := fun h => h.mono (fun _ h => .inl h) (by rw [← hW0, hsz]; omega)
  have szT : (W.alloc (.cells #[.func (.yield l') #[] #[]] 87)).heap.size = W.heap.size + 1 := by simp
  simp only [szT] at *
  rw [hW0] at bF bT bS hBW hsz hit0 ⊢
  clear hW0 c1 c2 c3
  refine wpIn_rangeIterL (gf := 28) (lb := #[.pointer (some ⟨W.heap.size + 1 + 1, 0, none⟩), .pointer (some ⟨W.heap.size + 1, 0, none⟩)]) rfl (enters_of Try.func28 (by kernel_rfl) rfl) (HIT.out (W.heap.size + 2) (W.heap.size + 1)) T (fun e h hx => HTT.out e h (.inl hx)) (fun _ => rfl)
    (fun k hk => by
      rcases hk with rfl | rfl | hk
      · omega
      · omega
      · have := hvb k hk; omega) (fun W' hW' => ⟨(hW'.block _ (by omega)).trans bS, (hW'.block _ (by omega)).trans bT, (HC.out.sh.below hBW).below hW'⟩)
    (fun pre W' => J (recsOf pre) W' ∧ Boxed W' W.heap.size 87 (.func (.yield l') #[] #[]) ∧ TB W' (W.heap.size + 1) r H ∧ Boxed W' (W.heap.size + 2) 82 (iS v))
    (fun c pre W' => c = .ret ∧ Jx (recsOf pre) W')
    (fun s' A B h hAB => ⟨HJ.out _ _ _ h.1 (hsub hAB), hAB.boxed h.2.1 (.inl (by omega)), (hAB.below _ (by omega)).trans h.2.2.1, hAB.boxed h.2.2.2 (.inl (by omega))⟩)
    (fun c s' A B h hAB => ⟨h.1, HX.out _ _ _ h.2 (hsub hAB)⟩)
    ⟨HJ.out _ _ _ H0.out hit0, bF, bT, bS⟩ ?round ?done ?stop
  case round =>
    rintro l2 pre x W1 hl ⟨rl, hrl⟩ ⟨hj, hf, hb1, hb2⟩ hst
    obtain ⟨z, n⟩ := x
    have hz := heap_alloc_new W1 (.cells (nodeA noTN) 45)
    have HZ := Lib.hid hz
    have hlt2 : l2 < W1.heap.size := (Array.getElem?_eq_some_iff.1 hrl).1
    have hlt0 := lt_of_block hf
    clear hz
    gi_wp2_with (refine wpListIn_store_row (by rfl) 45 (.tmp 5) (.tmp 10) rfl W1.heap.size (nodeA n) rfl rfl 45 (nodeA noTN) HZ.out sizeNode rfl (nodeA_one _) ?_)
    refine ⟨(show Keeps T _ _ W1 ((W1.alloc (.cells (nodeA noTN) 45)).setRow W1.heap.size (nodeA n)) from by rw [World.setRow_alloc_new]; exact Keeps.alloc _ _ _ _ _), fun W2 hits0 hsz2 hrec hoth0 => ?_⟩
    have hits : Itself sT0 W0.heap.size (W1.alloc (.cells (nodeA n) 45)) W2 := by
      have h := (show Itself sT0 W0.heap.size ((W1.alloc (.cells (nodeA noTN) 45)).setRow W1.heap.size (nodeA n)) W2 from hits0)
      rw [World.setRow_alloc_new] at h; exact h
    have hoth : ∀ k, k ≠ l2 → W2.heap[k]? = (W1.alloc (.cells (nodeA n) 45)).heap[k]? := by
      have h := (show ∀ k, k ≠ l2 → W2.heap[k]? = ((W1.alloc (.cells (nodeA noTN) 45)).setRow W1.heap.size (nodeA n)).heap[k]? from hoth0)
      rw [World.setRow_alloc_new] at h; exact h
    have hit1 : Itself sT0 W0.heap.size W1 W2 := (Itself.alloc _ W1 _ (by omega)).trans hits
    have hj2 := HJ.out _ _ _ hj (hsub hit1)
    have hf2 := hit1.boxed hf (.inl (by omega))
    have ht2 : TB W2 (W.heap.size + 1) r H := (hit1.below _ (by omega)).trans hb1
    have hs2 := hit1.boxed hb2 (.inl (by omega))
    have hnew : W2.heap[W1.heap.size]? = some (.cells (nodeA n) 45 (0, 0)) := (hoth _ (by omega)).trans (heap_alloc_new W1 _)
    have hcell : ∀ j u, (nodeA n).toList[j]? = some u → W2.cell? ⟨W1.heap.size, j, none⟩ = some u := fun j u hu => by
      simp only [World.cell?, hnew]
      simpa using hu
    have k0 := hcell 0 _ rfl
    have k18 := hcell 18 _ rfl
    have k19 := hcell 19 _ rfl
    have k20 := hcell 20 _ rfl
    have kf := hf2.cell
    have HF2 := Lib.hid hf2
    have HT2 := Lib.hid ht2
    have HS2 := Lib.hid hs2
    clear HZ hits0 hits hoth0 hoth hit1 hsz2 hrec hrl hnew hcell hf hb1 hb2 hlt0 hlt2
    by_cases hk : n.kind = 2
    · have q : ((n.kind : Int) == 2) = true := by rw [beq_iff_eq]; omega
      obtain ⟨he, hpre⟩ := recsOf_step (x := (z, n)) hst hk
      obtain ⟨fn, tmps, assign, body, hy, hR⟩ := HY.out (recsOf pre) n.rc W2 hj2 hpre
      unfold rV at hy
      have HR := Lib.hid (RoundIn.inL (m := 0) l2 hR)
      have HE := Lib.hid he
      have HK := Lib.hid hk
      clear hR he hpre hst hj hj2 hk hf2 ht2 hs2
      gi_wp2_with fail
      refine HR.out.mono ?_
      rintro e W3 ⟨hk3, (⟨rfl, hj3⟩ | ⟨rfl, hx3⟩)⟩
      all_goals
        have hkk : Keeps T (scap (W.heap.size + 2) (W.heap.size + 1) v) W0.heap.size W2 W3 := hk3.mono (fun _ h => h) (by omega) (fun k o ho hk => by
          rcases hk with rfl | rfl | hk
          · exact .inr ⟨by omega, fun c e fz he heq => by
              have h24 := (show W2.heap[W.heap.size + 2]? = _ from HS2.out).symm.trans ho
              rw [heq] at h24
              cases h24
              exact HTT.out _ he (.inl (.inl (.inl rfl)))⟩
          · exact .inr ⟨by omega, fun c e fz he heq => by
              have h24 := (show W2.heap[W.heap.size + 1]? = _ from HT2.out).symm.trans ho
              rw [heq] at h24
              cases h24
              exact HTT.out _ he (.inl (.inr rfl))⟩
          · exact .inl (.inr (.inr hk)))
        have hf3 := hk3.boxed HF2.out (.inr ⟨Nat.le_refl _, fun h => HTT.out _ h (.inr rfl)⟩)
        have ht3 : TB W3 (W.heap.size + 1) r H := hkk.same _ _ HT2.out (.inl (.inr (.inl rfl)))
        have hs3 := hkk.boxed HS2.out (.inl (.inl rfl))
        have HKK := Lib.hid hkk
        have HF3 := Lib.hid hf3
        have HT3 := Lib.hid ht3
        have HS3 := Lib.hid hs3
        clear hkk hf3 ht3 hs3 hk3 kf k0 k18 k19 k20
      · gi_wp2_with fail
        exact ⟨HKK.out, by rw [HE.out]; exact hj3, HF3.out, HT3.out, HS3.out⟩
      · gi_wp2_with fail
        exact ⟨HKK.out, rfl, by rw [HE.out]; exact hx3⟩
    · have q : ((n.kind : Int) == 2) = false := by rw [beq_eq_false_iff_ne]; omega
      have HE := Lib.hid (recsOf_skip (pre := pre) (x := (z, n)) hk)
      have HJ2 := Lib.hid hj2
      clear hst hj hj2 hk hf2 ht2 hs2
      gi_wp2_with fail
      exact ⟨Keeps.refl _ _ _ _, by rw [HE.out]; exact HJ2.out, HF2.out, HT2.out, HS2.out⟩
  case done =>
    rintro D xs W1 hD hS ⟨hj, hf, hb1, hb2⟩ hK
    gi_wp2
    refine ⟨by simp, .inl ⟨_, _, rfl, run_takeDeferred hK, ?_⟩⟩
    exact ⟨_, results_none rfl _ _ _, ⟨_, rfl⟩, .inl ⟨_, by rw [hS], HJ.out _ _ _ hj (Itself.putObj _ W1 _ _ _ (by omega) hK rfl)⟩⟩
  case stop =>
    rintro D c pre W1 hD hS ⟨rfl, hj⟩ hK
    gi_wp2
    refine ⟨by simp, .inl ⟨_, _, rfl, run_takeDeferred hK, ?_⟩⟩
    exact ⟨_, results_none rfl _ _ _, ⟨_, rfl⟩, .inr ⟨_, recsOf_pre hS, HX.out _ _ _ hj (Itself.putObj _ W1 _ _ _ (by omega) hK rfl)⟩⟩
end Go.Proofs.Ytdelhpogacccjaa

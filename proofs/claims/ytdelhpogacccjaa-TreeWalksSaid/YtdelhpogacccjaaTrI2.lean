/-
  The walk through a node and all below it: the iterator's step.
-/
import Derived.Test.YtdelhpogacccjaaTrI1
import Derived.Test.YtdelhpogacccjaaMarks
set_option linter.unusedVariables false
set_option linter.unusedSimpArgs false
namespace Go.Proofs.Ytdelhpogacccjaa
open Go Go.RowKit
attribute [local go_sem] Oper.semAt_some wide_fn' wide_depth'

/-- What the loop over the digits holds. -/
structure LoopI (M lo b1 b2 b3 b4 : Nat) (v : Value) (ns : List TN) (s : Int) (k n : Nat) (S : Int → Prop) (n1 : TN) (l : Nat) (J : List (Int × TN) → World → Prop) (i : Nat) (ms : List Deferred) (w : World) : Prop where
  st : Boxed w b1 82 (iS v)
  sl : Boxed w b2 3 (.int .i64 s)
  rk : Boxed w b3 3 (.int .i64 k)
  mp : Boxed w b4 86 (.map (some M))
  yb : Boxed w lo 83 (.func (.yield l) #[] #[])
  sh : ShelfRow w v ns
  mt : MetAt w M (n + 1 + (preTo ns k n1 i).length) (fun x => (x = s ∨ S x) ∨ ∃ y, y ∈ preTo ns k n1 i ∧ y.1 = x)
  jj : J ((s, n1) :: preTo ns k n1 i) w
  sz : lo ≤ w.heap.size
  mks : Marks lo ms w
theorem ShelfRow.turned {W W' : World} {v : Value} {ns : List TN} (h : ShelfRow W v ns) {M nn : Nat} {S : Int → Prop} (hm : MetAt W M nn S) (hg : W.grownBy W' (some M)) : ShelfRow W' v ns := by
  obtain ⟨es, c, ho⟩ := hm.obj
  rcases h with h | ⟨ad, cap, rfl, h⟩
  · exact .inl h
  · refine .inr ⟨ad, cap, rfl, fun j n hj => ?_⟩
    obtain ⟨b, off, rfl, hlt, h0⟩ := h j n hj
    have hne : b ≠ M := fun e => by
      have h1 := h0 0 _ (show (nodeA n).toList[0]? = some _ from rfl)
      rw [e] at h1
      simp [World.cell?, ho] at h1
    have hk : W'.heap[b]? = W.heap[b]? := hg.block b hlt (fun e => hne (by cases e; rfl))
    refine ⟨b, off, rfl, Nat.lt_of_lt_of_le hlt hg.size, fun i u hu => ?_⟩
    have := h0 i u hu
    simp only [World.cell?, hk]
    exact this
/-- What a round of the inner range holds. -/
structure RI (M lo b1 b2 b3 b4 B : Nat) (v : Value) (ns : List TN) (s : Int) (k : Nat) (kd : Int) (l : Nat) (ms : List Deferred) (sz : Nat) (w : World) : Prop where
  st : Boxed w b1 82 (iS v)
  sl : Boxed w b2 3 (.int .i64 s)
  rk : Boxed w b3 3 (.int .i64 k)
  mp : Boxed w b4 86 (.map (some M))
  yb : Boxed w lo 83 (.func (.yield l) #[] #[])
  sh : ShelfRow w v ns
  mks : Marks lo ms w
  siz : sz ≤ w.heap.size
  nst : Boxed w B 82 (iS v)
  nsl : Boxed w (B + 1) 3 (.int .i64 kd)
  nrk : Boxed w (B + 2) 3 (.int .i64 ((k : Int) - 1))
  nmp : Boxed w (B + 3) 86 (.map (some M))
structure RS (M lo b1 b2 b3 b4 B : Nat) (v : Value) (ms : List Deferred) (sz : Nat) : Prop where
  a1 : b1 < lo ∧ b1 ≠ M
  a2 : b2 < lo ∧ b2 ≠ M
  a3 : b3 < lo ∧ b3 ≠ M
  a4 : b4 < lo ∧ b4 ≠ M
  am : M < lo
  aB : lo < B
  az : B + 3 < sz
  av : ∀ k, v.ownBlock = some k → k < lo ∧ k ≠ M
  ak : ∀ k, markOf k ∈ ms → k < sz ∧ lo ≤ k
section
variable {M lo b1 b2 b3 b4 B : Nat} {v : Value} {ns : List TN} {s : Int} {k : Nat} {kd : Int} {l : Nat} {ms : List Deferred} {sz : Nat} {w w' : World}
theorem RI.itself (h : RI M lo b1 b2 b3 b4 B v ns s k kd l ms sz w) (hs : RS M lo b1 b2 b3 b4 B v ms sz) (hi : ItselfM fT0 sz (fun k => k = M) w w') : RI M lo b1 b2 b3 b4 B v ns s k kd l ms sz w' := by
  have hB := hs.aB
  have hz := hs.az
  have hm := hs.am
  exact ⟨hi.boxed h.st (.inl ⟨by have := hs.a1.1; omega, hs.a1.2⟩), hi.boxed h.sl (.inl ⟨by have := hs.a2.1; omega, hs.a2.2⟩), hi.boxed h.rk (.inl ⟨by have := hs.a3.1; omega, hs.a3.2⟩), hi.boxed h.mp (.inl ⟨by have := hs.a4.1; omega, hs.a4.2⟩),
    hi.boxed h.yb (.inl ⟨by omega, by show lo ≠ M; omega⟩), h.sh.keep hi.size (fun j hj _ => hi.below j (by have := (hs.av j hj).1; omega) (hs.av j hj).2), h.mks.keep' (fun j hj => hi.below j (hs.ak j hj).1 (by have := (hs.ak j hj).2; show j ≠ M; omega)),
    Nat.le_trans h.siz hi.size, hi.boxed h.nst (.inl ⟨by omega, by show B ≠ M; omega⟩), hi.boxed h.nsl (.inl ⟨by omega, by show B + 1 ≠ M; omega⟩), hi.boxed h.nrk (.inl ⟨by omega, by show B + 2 ≠ M; omega⟩), hi.boxed h.nmp (.inl ⟨by omega, by show B + 3 ≠ M; omega⟩)⟩
theorem RI.keeps {T : TypeId → Prop} (h : RI M lo b1 b2 b3 b4 B v ns s k kd l ms sz w) (hs : RS M lo b1 b2 b3 b4 B v ms sz) (hT : ∀ e, T e → ¬ fT0 e) (hk : Keeps T (fcap b1 b2 b3 b4 M v) lo w w') : RI M lo b1 b2 b3 b4 B v ns s k kd l ms sz w' := by
  have hB := hs.aB
  exact ⟨hk.boxed h.st (.inl (.inl rfl)), hk.boxed h.sl (.inl (.inr (.inl rfl))), hk.boxed h.rk (.inl (.inr (.inr (.inl rfl)))), hk.boxed h.mp (.inl (.inr (.inr (.inr (.inl rfl))))),
    hk.boxed h.yb (.inr ⟨Nat.le_refl _, fun x => hT _ x (.inr (.inr (.inr (.inr rfl))))⟩), h.sh.keep hk.size (fun j hj hlt => by
      obtain ⟨o, ho⟩ := some_obj hlt
      rw [ho]; exact hk.same j o ho (.inl (.inr (.inr (.inr (.inr (.inr hj))))))), h.mks.keeps (Nat.le_refl _) hk, Nat.le_trans h.siz hk.size,
    hk.boxed h.nst (.inr ⟨by omega, fun x => hT _ x (.inl rfl)⟩), hk.boxed h.nsl (.inr ⟨by omega, fun x => hT _ x (.inr (.inl rfl))⟩), hk.boxed h.nrk (.inr ⟨by omega, fun x => hT _ x (.inr (.inl rfl))⟩), hk.boxed h.nmp (.inr ⟨by omega, fun x => hT _ x (.inr (.inr (.inl rfl)))⟩)⟩
/-- What the consumer's round keeps is enough for the inner iterator. -/
theorem RI.inner {T : TypeId → Prop} (h : RI M lo b1 b2 b3 b4 B v ns s k kd l ms sz w) (hs : RS M lo b1 b2 b3 b4 B v ms sz) (hT : ∀ e, T e → ¬ fT0 e) (hk : Keeps T (fcap b1 b2 b3 b4 M v) lo w w') : Keeps T (fcap B (B + 1) (B + 2) (B + 3) M v) sz w w' := by
  have hB := hs.aB
  have hz := hs.az
  refine hk.mono (fun _ h => h) (by omega) (fun j o ho hj => ?_)
  have typ : ∀ {t : TypeId} {u : Value}, Boxed w j t u → fT0 t → lo ≤ j → fcap b1 b2 b3 b4 M v j ∨ (lo ≤ j ∧ ∀ c e fz, T e → o ≠ .cells c e fz) := fun {t u} hb ht hl => .inr ⟨hl, fun c e fz he heq => by
    rw [show w.heap[j]? = _ from hb] at ho
    rw [heq] at ho
    cases ho
    exact hT _ he ht⟩
  rcases hj with rfl | rfl | rfl | rfl | rfl | hj
  · exact typ h.nst (.inl rfl) (by omega)
  · exact typ h.nsl (.inr (.inl rfl)) (by omega)
  · exact typ h.nrk (.inr (.inl rfl)) (by omega)
  · exact typ h.nmp (.inr (.inr (.inl rfl))) (by omega)
  · exact .inl (.inr (.inr (.inr (.inr (.inl rfl)))))
  · exact .inl (.inr (.inr (.inr (.inr (.inr hj)))))
end
set_option maxRecDepth 100000 in
set_option maxHeartbeats 4000000 in
theorem from1_step (k : Nat) (hk8 : k ≤ 8) (ih : ∀ k', k = k' + 1 → IterF k') : IterF k := by
  intro b1 b2 b3 b4 M n v ns s S hns hnd hS hn
  rintro l T J Jx W hcap hT hJ hJx hY h0
  refine (callsIn_wide (n := 3)).1 ?_
  refine callsIn_of_wp_marks Try.func58 rfl trivial ?_
  simp only [Try.ntmps58, List.size_toArray, List.length_cons, List.length_nil, Nat.reduceAdd, Nat.reduceSub, Array.replicate_succ, Array.replicate_zero, List.push_toArray, List.append_toArray, List.nil_append, List.cons_append]
  refine wpIn_wide.2 ?_
  obtain ⟨R, hR⟩ : ∃ R, ((k : Int) - 1) = R := ⟨_, rfl⟩
  have CN := fun w (hb : Below W.heap.size W w) => tNode_c (hcap.sh.below hb) s R
  have c1 := hcap.st.cell
  have c2 := hcap.sl.cell
  have c3 := hcap.rk.cell
  have c4 := hcap.mp.cell
  have hpre := preN_any ns k s
  rw [hR] at c3 hpre
  unfold NodeP at CN
  obtain ⟨n1, n2, hno⟩ : ∃ n1 n2, nodeOf ns s R = (n1, n2) := ⟨_, _, rfl⟩
  have hrange := nodeOf_range (ns := ns) (s := s) (R := R)
  rw [hno] at CN hpre hrange
  dsimp only at CN hpre hrange
  have HCN := Lib.hid CN
  have HC := Lib.hid hcap
  have HJ := Lib.hid hJ
  have HX := Lib.hid hJx
  have HY := Lib.hid hY
  have HT := Lib.hid hT
  have HP := Lib.hid hpre
  have HRR := Lib.hid hR
  have l1 := lt_of_block hcap.st
  have l2 := lt_of_block hcap.sl
  have l3 := lt_of_block hcap.rk
  have l4 := lt_of_block hcap.mp
  obtain ⟨V, hV⟩ : ∃ V, iS v = V := ⟨_, rfl⟩
  rw [hV] at c1 HCN
  have h5 := Boxed.new W 83 (.func (.yield l) #[] #[])
  have hb5 : Below W.heap.size W (W.alloc (.cells #[.func (.yield l) #[] #[]] 83)) := (Below.refl _ _).alloc (Nat.le_refl _) _
  have H5 := Lib.hid h5
  have HB5 := Lib.hid hb5
  clear hcap hJ hJx hY hT hpre hR CN hno hV h5 hb5
  have HRG := Lib.hid hrange
  clear hrange
  go_upto_region 2 with (first | (go_at_call 59; refine (HCN.out _ HB5.out).mono ?_; rintro e w2 ⟨rfl, hb2⟩; obtain ⟨w4, hw4, h4a, h4b, h4c, h4d⟩ := node_box n1 hb2 hb2.size; have HW4 := Lib.hid hw4; have H4A := Lib.hid h4a; have H4B := Lib.hid h4b; have H4C := Lib.hid h4c; have hge : (W.alloc (.cells #[.func (.yield l) #[] #[]] 83)).heap.size ≤ w2.heap.size := hb2.size; clear hw4 h4a h4b h4c h4d hb2) | (refine wpList_store_row rfl 45 (.tmp 6) (.tmp 17) rfl w2.heap.size (nodeA n1) rfl rfl 45 (nodeA noTN) (heap_alloc_new _ _) sizeNode rfl (nodeA_one _) ?_))
  refine (show Code.wp _ _ _ _ ((w2.alloc (.cells (nodeA noTN) 45)).setRow w2.heap.size (nodeA n1)) from ?_)
  rw [HW4.out]
  have hb4 : Below W.heap.size W w4 := HB5.out.trans (H4C.out.mono (by simp))
  have hB5 : Boxed w4 W.heap.size 83 (.func (.yield l) #[] #[]) := (H4C.out.block _ (by simp)).trans H5.out
  have hB6 : Bn7 w4 w2.heap.size n1 := H4A.out
  have HC4 := Lib.hid (HC.out.below hb4)
  have HB4 := Lib.hid hb4
  have H5b := Lib.hid hB5
  have H6b := Lib.hid hB6
  have hge2 : W.heap.size < w2.heap.size := by rw [World.size_alloc] at hge; omega
  have hw4s : w2.heap.size < w4.heap.size := hB6.lt
  obtain ⟨D, hD⟩ : ∃ D, w2.heap.size = D := ⟨_, rfl⟩
  rw [hD] at H6b hge2 hw4s hge ⊢
  clear hb4 hB5 hB6 hD HW4 H4A H4B H4C c1 c2 c3 c4 HCN hge
  have c2 := HC4.out.sl.cell
  have c3 := HC4.out.rk.cell
  have c4 := HC4.out.mp.cell
  have c5 := H5b.out.cell
  rw [HRR.out] at c3
  have l2' : b2 < w4.heap.size := by omega
  have l3' : b3 < w4.heap.size := by omega
  have l4' : b4 < w4.heap.size := by omega
  have l5' : W.heap.size < w4.heap.size := by omega
  refine (wpIn_wide (n := 3)).1 ?_
  have HJ4 : Hid (J [] w4) := HJ.out _ _ _ h0 (ItselfM.of ⟨HB4.out.os, HB4.out.tape, HB4.out.output, HB4.out.size, HB4.out.block, fun j c e fz _ hj => (HB4.out.block j (Array.getElem?_eq_some_iff.1 hj).1).trans hj⟩)
  cases n2 with
  | false =>
    have hP := HP.out
    rw [if_neg (by decide)] at hP
    have HE : Hid (MetAt w4 M (n + (preN ns k s).length) (fun x => S x ∨ ∃ y, y ∈ preN ns k s ∧ y.1 = x)) := HC4.out.mt.mono (Nat.le_add_right _ _) (fun s h => .inl h)
    have HPE := Lib.hid hP
    clear hP
    gi_wp2_with fail
    go_wp2_with fail
    exact ⟨_, results_none rfl _ _ _, ⟨_, rfl⟩, .inl ⟨[], HPE.out.symm, HJ4.out, HE.out⟩⟩
  | true =>
    obtain ⟨hs0, hs1⟩ := HRG.out rfl
    have hP := HP.out
    rw [if_pos rfl] at hP
    have hnS : ¬ S s := hS (s, n1) (by rw [hP]; exact List.mem_cons_self)
    have hlk := HC4.out.mt.look (s := s) (by omega) (by omega) hnS
    have hfst : [] ++ [(s, n1)] <+: preN ns k s := by rw [hP]; exact ⟨_, rfl⟩
    obtain ⟨fn, tmps, assign, body, hy, hRd⟩ := HY.out [] (s, n1) w4 HJ4.out hfst
    have HRd := Lib.hid (RoundIn.any (m := 2) hRd)
    have HPE := Lib.hid hP
    have HF := Lib.hid hfst
    have HNS := Lib.hid hnS
    clear hP hnS hfst hRd
    dsimp only at hy
    gi_wp2_with (refine wpListIn_load_mid (by rfl) 45 (.tmp 6) rfl D 0 rfl (nodeA n1).toList _ H6b.out.range Try.underlying45 rfl sizeNode ?_)
    refine HRd.out.mono ?_
    rintro e w5 ⟨hk5, (⟨rfl, hJ5⟩ | ⟨rfl, hX5⟩)⟩
    · have HC5 := Lib.hid (HC4.out.keeps hk5)
      have HJ5 := Lib.hid hJ5
      have HX5 := Lib.hid hk5
      have c3b := HC5.out.rk.cell
      rw [HRR.out] at c3b
      have l3b : b3 < w5.heap.size := lt_of_block HC5.out.rk
      clear hk5 hJ5 hlk hy
      cases k with
      | zero =>
        obtain rfl : R = -1 := by have := HRR.out; omega
        have HE : Hid (MetAt w5 M (n + (preN ns 0 s).length) (fun x => S x ∨ ∃ y, y ∈ preN ns 0 s ∧ y.1 = x)) := HC5.out.mt.mono (Nat.le_add_right _ _) (fun s h => .inl h)
        gi_wp2_with fail
        go_wp2_with fail
        exact ⟨_, results_none rfl _ _ _, ⟨_, rfl⟩, .inl ⟨_, HPE.out.symm, HJ5.out, HE.out⟩⟩
      | succ k =>
        obtain rfl : R = (k : Int) := by have := HRR.out; omega
        have g1 : ((k : Int) == -1) = false := by rw [beq_eq_false_iff_ne]; omega
        have c2b := HC5.out.sl.cell
        have c4b := HC5.out.mp.cell
        have l2b : b2 < w5.heap.size := lt_of_block HC5.out.sl
        have l4b : b4 < w5.heap.size := lt_of_block HC5.out.mp
        obtain ⟨w6, hrun6, hmt6, hg6⟩ := HC5.out.mt.put (s := s) (by unfold maxLen; omega) (by omega) (by omega)
        have H6 := Lib.hid hmt6
        have HG6 := Lib.hid hg6
        have H6c := Lib.hid (HX5.out.same D _ H6b.out (.inr ⟨by omega, fun c e fz he e2 => by cases e2; exact HT.out _ he (.inr (.inr (.inr (.inl rfl))))⟩))
        have H5c := Lib.hid (HX5.out.boxed H5b.out (.inr ⟨Nat.le_refl _, fun h => HT.out _ h (.inr (.inr (.inr (.inr rfl))))⟩))
        clear hmt6 hg6
        gi_wp2_with fail
        go_upto_region 4 with fail
        have hit6 : ItselfM fT0 W.heap.size (fun k => k = M) w5 w6 := HC5.out.mt.itself (Nat.le_trans HB4.out.size HX5.out.size) (.inl rfl) HG6.out H6.out
        have hsz6 := HG6.out.size
        have hW5 : W.heap.size ≤ w5.heap.size := Nat.le_trans HB4.out.size HX5.out.size
        have hMlt := HC5.out.mt.lt
        have hM4 : M < W.heap.size := HC.out.mt.lt
        have k6 : ∀ j, j ≠ M → j < w5.heap.size → w6.heap[j]? = w5.heap[j]? := fun j hj hlt => HG6.out.block j hlt (fun e => hj (by cases e; rfl))
        have HJ6 : Hid (J [(s, n1)] w6) := HJ.out _ _ _ HJ5.out hit6
        have hMb : ∀ {b : Nat} {t : TypeId} {u : Value}, Boxed w5 b t u → b ≠ M := fun {b t u} h e => by
          obtain ⟨es, c, ho⟩ := HC5.out.mt.obj
          rw [← e, show w5.heap[b]? = _ from h] at ho
          cases ho
        have bst6 : Boxed w6 b1 82 (iS v) := (k6 _ (hMb HC5.out.st) (lt_of_block HC5.out.st)).trans HC5.out.st
        have bsl6 : Boxed w6 b2 3 (.int .i64 s) := (k6 _ (hMb HC5.out.sl) (lt_of_block HC5.out.sl)).trans HC5.out.sl
        have brk6 : Boxed w6 b3 3 (.int .i64 (((k + 1 : Nat) : Int) - 1)) := (k6 _ (hMb HC5.out.rk) (lt_of_block HC5.out.rk)).trans HC5.out.rk
        have bmp6 : Boxed w6 b4 86 (.map (some M)) := (k6 _ (hMb HC5.out.mp) (lt_of_block HC5.out.mp)).trans HC5.out.mp
        have by6 : Boxed w6 W.heap.size 83 (.func (.yield l) #[] #[]) := (k6 _ (by omega) (lt_of_block H5c.out)).trans H5c.out
        have bn6 : Bn7 w6 D n1 := (k6 _ (by omega) (Array.getElem?_eq_some_iff.1 H6c.out).1).trans H6c.out
        have HKR := Lib.hid (kids_range bn6)
        have HIX : Hid (∀ i, i < 16 → ∀ w, (Instr.index 36 (.agg (kidsL n1).toArray) (.int .i64 (i : Nat))).run Try.prog w = .ok (.int .i64 (n1.kids i)) w) := kids_index n1
        obtain ⟨KA, hKA⟩ : ∃ KA, (kidsL n1).toArray = KA := ⟨_, rfl⟩
        have HKA := Lib.hid hKA
        rw [hKA] at HIX
        clear hKA
        go_wp2_with (refine wpList_load_mid rfl 36 (.tmp 39) rfl D 2 rfl (kidsL n1) _ HKR.out Try.underlying36 rfl sizeKids ?_)
        rw [HKA.out]
        have hsz4 : W.heap.size ≤ w6.heap.size := Nat.le_trans hW5 hsz6
        have HS0 : Hid (LoopI M W.heap.size b1 b2 b3 b4 v ns s k n S n1 l J 0 [] w6) :=
          ⟨bst6, bsl6, by rw [HRR.out] at brk6; exact brk6, bmp6, by6, HC5.out.sh.turned HC5.out.mt HG6.out, by
              have h := H6.out
              exact h.mono (by omega) (fun x hx => .inl hx), HJ6.out, hsz4, Marks.nil _ _⟩
        refine wp_loop (fun a w => ∃ (i : Nat) (ms : List Deferred) (x9 x10 x11 x42 x43 x44 x45 x46 x47 x48 x49 x50 x51 x52 x53 x54 x55 x56 x57 : Value), i ≤ 16 ∧ Hid (LoopI M W.heap.size b1 b2 b3 b4 v ns s k n S n1 l J i ms w) ∧ a = { tmps := #[.func (.yield l) #[] #[], .pointer (some ⟨b1, 0, none⟩), .pointer (some ⟨b2, 0, none⟩), .pointer (some ⟨b3, 0, none⟩), .pointer (some ⟨b4, 0, none⟩), .pointer (some ⟨W.heap.size, 0, none⟩),
            .pointer (some ⟨D, 0, none⟩), .bool true, undef, x9, x10, x11, .tuple #[.agg (nodeA n1), .bool true], V, .int .i64 s, .int .i64 k,
            .tuple #[.agg (nodeA n1), .bool true], .agg (nodeA n1), .bool true, .bool true, .bool false, .bool false, .map (some M), .int .i64 s, .bool false, .bool false, .bool false, .func (.yield l) #[] #[], .int .i64 s,
            .agg (nodeA n1), .bool true, .bool false, .bool false, .bool false, .int .i64 k, .bool false, .bool false, .map (some M), .int .i64 s, .pointer (some ⟨D, 2, none⟩), .agg KA, .int .i64 (i : Nat), x42, x43, x44, x45, x46, x47, x48, x49, x50, x51, x52, x53, x54, x55, x56, x57], defers := ms }) (fun a _ => 16 - (intOf (a.tmps.getD 41 undef)).toNat) ⟨0, [], undef, undef, undef, undef, undef, undef, undef, undef, undef, undef, undef, undef, undef, undef, undef, undef, undef, undef, undef, Nat.zero_le _, HS0, rfl⟩ ?_
        rintro a wr ⟨i, ms, x9, x10, x11, x42, x43, x44, x45, x46, x47, x48, x49, x50, x51, x52, x53, x54, x55, x56, x57, hi, HI, rfl⟩
        by_cases hlt : i < 16
        · have g3 : (i : Int) < 16 := by omega
          have hix := HIX.out i hlt
          obtain ⟨kd, hkd⟩ : ∃ kd, n1.kids i = kd := ⟨_, rfl⟩
          rw [hkd] at hix
          obtain ⟨tl, htl⟩ := seg ns k n1 i hlt
          rw [hkd] at htl
          have hLL : preN ns (k + 1) s = (s, n1) :: (preTo ns k n1 i ++ preN ns k kd ++ tl) := by rw [← htl]; exact HPE.out
          have hnx : preTo ns k n1 (i + 1) = preTo ns k n1 i ++ preN ns k kd := by rw [preTo_succ, hkd]
          have HLL := Lib.hid hLL
          have HNX := Lib.hid hnx
          have d1 := HI.out.st.cell
          have d3 := HI.out.rk.cell
          have d4 := HI.out.mp.cell
          have m1 := lt_of_block HI.out.st
          have m3 := lt_of_block HI.out.rk
          have m4 := lt_of_block HI.out.mp
          have q1 : (0 : Int) ≤ k := by omega
          have q2 : (k : Int) ≤ 7 := by omega
          clear htl hLL hnx hkd
          go_wp2_with (go_at_call 29; refine (from_c v kd ((k : Int) - 1) M).mono ?_; rintro e w7 ⟨rfl, hw7⟩; have HW7 := Lib.hid hw7; clear hw7)
          have hfc := FCap.fresh (k := k) HI.out.sh HI.out.mt kd wr.heap.size rfl
          rw [HW7.out] at hfc
          have hb7 : Below wr.heap.size wr w7 := by
            rw [← HW7.out]
            exact ((((Below.refl _ _).alloc (Nat.le_refl _) _).alloc (by simp) _).alloc (by simp; omega) _).alloc (by simp; omega) _
          have hs7 : w7.heap.size = wr.heap.size + 4 := by rw [← HW7.out]; simp
          have HFC := Lib.hid hfc
          have HB7 := Lib.hid hb7
          have hnd2 := hnd
          rw [HLL.out, List.map_cons, List.map_append, List.map_append] at hnd2
          have hnd3 : ((preN ns k kd).map Prod.fst).Nodup := (List.nodup_append.1 (List.nodup_append.1 (List.nodup_cons.1 hnd2).2).1).2.1
          have hS3 : ∀ x, x ∈ preN ns k kd → ¬ ((x.1 = s ∨ S x.1) ∨ ∃ y, y ∈ preTo ns k n1 i ∧ y.1 = x.1) := by
            rintro x hx ((h | h) | ⟨y, hy, h⟩)
            · exact (List.nodup_cons.1 hnd2).1 (List.mem_append_left _ (List.mem_append_right _ (h ▸ List.mem_map.2 ⟨x, hx, rfl⟩)))
            · exact hS x (by rw [HLL.out]; exact List.mem_cons_of_mem _ (List.mem_append_left _ (List.mem_append_right _ hx))) h
            · exact (List.nodup_append.1 (List.nodup_append.1 (List.nodup_cons.1 hnd2).2).1).2.2 _ (List.mem_map.2 ⟨y, hy, rfl⟩) _ (List.mem_map.2 ⟨x, hx, rfl⟩) h
          have hn3 : n + 1 + (preTo ns k n1 i).length + (preN ns k kd).length ≤ 100000 := by
            have h1 := congrArg List.length HLL.out
            rw [List.length_cons, List.length_append, List.length_append] at h1
            omega
          have HIT := (ih k rfl) wr.heap.size (wr.heap.size + 1) (wr.heap.size + 2) (wr.heap.size + 3) M (n + 1 + (preTo ns k n1 i).length) v ns kd (fun x => (x = s ∨ S x) ∨ ∃ y, y ∈ preTo ns k n1 i ∧ y.1 = x) hns hnd3 hS3 hn3
          clear hnd2 hnd3 hS3 hn3 hfc hb7 hix d1 d3 d4
          refine (wpIn_wide (n := 3)).1 ?_
          have hnl : 0 < ns.length := by omega
          have hsh0 := HC.out.sh
          have hMm : ∀ {b : Nat} {t : TypeId} {u : Value}, Boxed W b t u → b ≠ M := fun {b t u} h e => by
            obtain ⟨es, c, ho⟩ := HC.out.mt.obj
            rw [← e, show W.heap[b]? = _ from h] at ho
            cases ho
          have HRS : Hid (RS M W.heap.size b1 b2 b3 b4 wr.heap.size v ms w7.heap.size) := ⟨⟨l1, hMm HC.out.st⟩, ⟨l2, hMm HC.out.sl⟩, ⟨l3, hMm HC.out.rk⟩, ⟨l4, hMm HC.out.mp⟩, hM4, lt_of_block HI.out.yb, by omega, fun j hj => by
              obtain ⟨h1, c, h2⟩ := hsh0.blk hnl hj
              refine ⟨h1, fun e => h2 ?_⟩
              obtain ⟨es, cl, ho⟩ := HC.out.mt.obj
              rw [e]
              simp [World.cell?, ho], fun j hj => ⟨by have := HI.out.mks.lt hj; omega, by
              obtain ⟨Ds, hDs, _, h2⟩ := HI.out.mks
              rw [hDs] at hj
              obtain ⟨D', hD', he⟩ := List.mem_map.1 hj
              unfold markOf at he
              cases he
              exact (h2 _ hD').1⟩⟩
          have hk7 : ∀ j, j < wr.heap.size → w7.heap[j]? = wr.heap[j]? := HB7.out.block
          have HRI : Hid (RI M W.heap.size b1 b2 b3 b4 wr.heap.size v ns s k kd l ms w7.heap.size w7) := ⟨(hk7 _ (lt_of_block HI.out.st)).trans HI.out.st, (hk7 _ (lt_of_block HI.out.sl)).trans HI.out.sl, (hk7 _ (lt_of_block HI.out.rk)).trans HI.out.rk, (hk7 _ (lt_of_block HI.out.mp)).trans HI.out.mp, (hk7 _ (lt_of_block HI.out.yb)).trans HI.out.yb,
            HI.out.sh.below HB7.out, HI.out.mks.below HB7.out, Nat.le_refl _, HFC.out.st, HFC.out.sl, HFC.out.rk, HFC.out.mp⟩
          have hlo7 : W.heap.size ≤ w7.heap.size := by have := HI.out.sz; omega
          have HJ7 : Hid (J ((s, n1) :: (preTo ns k n1 i ++ [])) w7) := by
            show J _ _
            rw [List.append_nil]
            exact HJ.out _ _ _ HI.out.jj (ItselfM.of ⟨HB7.out.os, HB7.out.tape, HB7.out.output, HB7.out.size, fun j hj => HB7.out.block j (by have := HI.out.sz; omega), fun j c e fz _ hj => (HB7.out.block j (Array.getElem?_eq_some_iff.1 hj).1).trans hj⟩)
          have hup : ∀ {A B : World}, ItselfM fT0 w7.heap.size (fun k => k = M) A B → ItselfM fT0 W.heap.size (fun k => k = M) A B := fun h => h.mono (fun _ h => h) hlo7 (fun _ _ h => h)
          refine wpIn_rangeIterM (gf := 58) (lb := #[.pointer (some ⟨wr.heap.size, 0, none⟩), .pointer (some ⟨wr.heap.size + 1, 0, none⟩), .pointer (some ⟨wr.heap.size + 2, 0, none⟩), .pointer (some ⟨wr.heap.size + 3, 0, none⟩)]) rfl (enters_of Try.func58 (by kernel_rfl) rfl) HIT
            (fun j hj => by subst hj; omega) (fun A B l hl h hk => h.later (hk M (by omega))) T (fun e h => HT.out e h) (fun _ => rfl)
            (fun j hj => by
              rcases hj with rfl | rfl | rfl | rfl | rfl | hj
              · omega
              · omega
              · omega
              · omega
              · omega
              · have := (HRS.out.av j hj).1; omega)
            (fun W' hW' => HFC.out.below hW')
            (fun pre W' => J ((s, n1) :: (preTo ns k n1 i ++ pre)) W' ∧ RI M W.heap.size b1 b2 b3 b4 wr.heap.size v ns s k kd l ms w7.heap.size W')
            (fun c pre W' => c = .ret ∧ Jx ((s, n1) :: (preTo ns k n1 i ++ pre)) W' ∧ RI M W.heap.size b1 b2 b3 b4 wr.heap.size v ns s k kd l ms w7.heap.size W')
            (fun s' A B h hAB => ⟨HJ.out _ _ _ h.1 (hup hAB), h.2.itself HRS.out hAB⟩)
            (fun c s' A B h hAB => ⟨h.1, HX.out _ _ _ h.2.1 (hup hAB), h.2.2.itself HRS.out hAB⟩)
            ⟨HJ7.out, HRI.out⟩ ?round ?done ?stop
          case round =>
            rintro l' pre x W1 hl ⟨rr, hrr⟩ ⟨hj, hri⟩ hst
            have hl1 : l' < W1.heap.size := (Array.getElem?_eq_some_iff.1 hrr).1
            have HRI1 := Lib.hid hri
            have HJ1 := Lib.hid hj
            have HST := Lib.hid hst
            clear hri hj hst hrr
            gi_wp2_with (refine wpListIn_store_row (by rfl) 45 (.tmp 11) (.tmp 51) rfl W1.heap.size (nodeA x.2) rfl rfl 45 (nodeA noTN) (heap_alloc_new _ _) sizeNode rfl (nodeA_one _) ?_)
            have hWn : (W1.alloc (.cells (nodeA noTN) 45)).setRow W1.heap.size (nodeA x.2) = W1.alloc (.cells (nodeA x.2) 45) := World.setRow_alloc_new _ _ _ _
            refine ⟨by first | (show Keeps _ _ _ _ ((W1.alloc (.cells (nodeA noTN) 45)).setRow W1.heap.size (nodeA x.2)); rw [hWn]; exact Keeps.alloc _ _ _ _ _), fun W2 hits hsz2 hrec hoth => ?_⟩
            change Itself _ _ ((W1.alloc (.cells (nodeA noTN) 45)).setRow W1.heap.size (nodeA x.2)) W2 at hits
            change W2.heap.size = ((W1.alloc (.cells (nodeA noTN) 45)).setRow W1.heap.size (nodeA x.2)).heap.size at hsz2
            change ∀ k, k ≠ l' → W2.heap[k]? = ((W1.alloc (.cells (nodeA noTN) 45)).setRow W1.heap.size (nodeA x.2)).heap[k]? at hoth
            rw [hWn] at hits hsz2 hoth
            have hit1 : Itself fT0 w7.heap.size W1 (W1.alloc (.cells (nodeA x.2) 45)) := Itself.alloc _ _ _ HRI1.out.siz
            have hit2 := hit1.trans hits
            have HRI2 := Lib.hid (HRI1.out.itself HRS.out (ItselfM.of hit2))
            have HJ2 := Lib.hid (HJ.out _ _ _ HJ1.out (hup (ItselfM.of hit2)))
            have hbn : Bn7 W2 W1.heap.size x.2 := (hoth _ (by omega)).trans (heap_alloc_new W1 _)
            have HBN := Lib.hid hbn.range
            have hl2 : W1.heap.size < W2.heap.size := hbn.lt
            have c5 := HRI2.out.yb.cell
            have l5 := lt_of_block HRI2.out.yb
            have hpre : ((s, n1) :: (preTo ns k n1 i ++ pre)) ++ [x] <+: preN ns (k + 1) s := by
              obtain ⟨t2, ht2⟩ := HST.out
              rw [HLL.out, ← ht2]
              exact ⟨t2 ++ tl, by simp⟩
            obtain ⟨fn, tmps, assign, body, hy, hR⟩ := HY.out _ x W2 HJ2.out hpre
            have HR := Lib.hid (RoundIn.inL (m := 0) l' hR)
            clear hR hits hit1 hit2 hsz2 hrec hoth hbn hpre hWn
            gi_wp2_with (refine wpListIn_load_mid (by rfl) 45 (.tmp 11) rfl W1.heap.size 0 rfl (nodeA x.2).toList _ HBN.out Try.underlying45 rfl sizeNode ?_)
            refine HR.out.mono ?_
            rintro e W3 ⟨hk3, (⟨rfl, hj3⟩ | ⟨rfl, hx3⟩)⟩
            · have HKK := Lib.hid (HRI2.out.inner HRS.out HT.out hk3)
              have HR3 := Lib.hid (HRI2.out.keeps HRS.out HT.out hk3)
              have HJ3 : Hid (J ((s, n1) :: (preTo ns k n1 i ++ (pre ++ [x]))) W3) := by
                show J _ _
                have h := hj3
                rw [List.cons_append, List.append_assoc] at h
                exact h
              clear hk3 hj3 hy c5
              gi_wp2_with fail
              exact ⟨HKK.out, HJ3.out, HR3.out⟩
            · have HKK := Lib.hid (HRI2.out.inner HRS.out HT.out hk3)
              have HR3 := Lib.hid (HRI2.out.keeps HRS.out HT.out hk3)
              have HX3 : Hid (Jx ((s, n1) :: (preTo ns k n1 i ++ (pre ++ [x]))) W3) := by
                show Jx _ _
                have h := hx3
                rw [List.cons_append, List.append_assoc] at h
                exact h
              clear hk3 hx3 hy c5
              gi_wp2_with fail
              exact ⟨HKK.out, rfl, HX3.out, HR3.out⟩
          case done =>
            rintro D' xs W1 hD hxs ⟨hj, hri⟩ hE hK
            have hLI : LoopI M W.heap.size b1 b2 b3 b4 v ns s k n S n1 l J (i + 1) (markOf D' :: ms) W1 := by
              refine ⟨hri.st, hri.sl, hri.rk, hri.mp, hri.yb, hri.sh, ?_, ?_, Nat.le_trans hlo7 hri.siz, hri.mks.cons (by omega) hK (fun d hd he => ?_)⟩
              · refine hE.mono ?_ (fun y hy => ?_)
                · rw [HNX.out, List.length_append]; omega
                · rw [HNX.out]
                  rcases hy with (hy | ⟨z, hz, rfl⟩) | ⟨z, hz, rfl⟩
                  · exact .inl hy
                  · exact .inr ⟨z, List.mem_append_left _ hz, rfl⟩
                  · exact .inr ⟨z, List.mem_append_right _ hz, rfl⟩
              · rw [HNX.out, ← hxs]; exact hj
              · rw [he] at hd
                have := (HRS.out.ak D' hd).1
                omega
            have HLI := Lib.hid hLI
            clear hLI hj hri hE hK hxs
            go_wp2_with fail
            refine ⟨⟨i + 1, markOf D' :: ms, _, _, _, _, _, _, _, _, _, _, _, _, _, _, _, _, _, _, _, by omega, HLI, rfl⟩, ?_⟩
            simp [intOf]
            omega
          case stop =>
            rintro D' c pre W1 hD hpre ⟨rfl, hx, hri⟩ hK
            have HMK := Lib.hid (hri.mks.cons (D := D') (by omega) hK (fun d hd he => by
              rw [he] at hd
              have := (HRS.out.ak D' hd).1
              omega))
            have HXX := Lib.hid hx
            have hpre2 : ((s, n1) :: (preTo ns k n1 i ++ pre)) <+: preN ns (k + 1) s := by
              obtain ⟨t2, ht2⟩ := hpre
              rw [HLL.out, ← ht2]
              exact ⟨t2 ++ tl, by simp⟩
            have HPR := Lib.hid hpre2
            clear hx hri hK hpre hpre2
            gi_wp2_with fail
            refine HMK.out.leaves (fun W' hW' => ?_)
            exact ⟨_, results_none rfl _ _ _, ⟨_, rfl⟩, .inr ⟨_, HPR.out, HX.out _ _ _ HXX.out (ItselfM.of (hW'.mono (fun _ h => h.elim) (Nat.le_refl _)))⟩⟩
        · obtain rfl : i = 16 := by omega
          have g3 : ¬ (16 : Int) < 16 := by omega
          go_wp2_with fail
          refine HI.out.mks.leaves (fun W' hW' => ?_)
          refine ⟨_, results_none rfl _ _ _, ⟨_, rfl⟩, .inl ⟨?_, ?_⟩⟩
          · have h := HJ.out _ _ _ HI.out.jj (ItselfM.of (hW'.mono (fun _ h => h.elim) (Nat.le_refl _)))
            rw [HPE.out]
            exact h
          · have h := (HI.out.mt.later (hW'.below M hM4)).mono (n' := n + (preN ns (k + 1) s).length) (S' := fun x => S x ∨ ∃ x_1, (x, x_1) ∈ preN ns (k + 1) s) (by
              rw [HPE.out]
              show _ ≤ n + ((preTo ns k n1 16).length + 1)
              omega) (fun x hx => by
              rw [HPE.out]
              rcases hx with (hx | hx) | ⟨y, hy, rfl⟩
              · exact .inr ⟨n1, by rw [hx]; exact List.mem_cons_self⟩
              · exact .inl hx
              · exact .inr ⟨y.2, List.mem_cons_of_mem _ hy⟩)
            exact h
    · have HX5 := Lib.hid hX5
      clear hk5 hX5 hlk hy
      gi_wp2_with fail
      go_wp2_with fail
      exact ⟨_, results_none rfl _ _ _, ⟨_, rfl⟩, .inr ⟨_, HF.out, HX5.out⟩⟩
end Go.Proofs.Ytdelhpogacccjaa

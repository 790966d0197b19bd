/-
  A set's text.
-/
import Derived.Test.YtaomekmfgjgpmaaDoorFlagIt2
import Derived.Test.YtaomekmfgjgpmaaDoorBuild
set_option linter.unusedVariables false
set_option linter.unusedSimpArgs false
namespace Go.Proofs.YtaomekmfgjgpmaaDoor
open Go Go.RowKit Go.Shelf
attribute [local go_sem] Oper.semAt_some wide_fn wide_depth

theorem ownsRowF_itself {T0 : TypeId → Prop} {D : Nat} {A B : World} (h : Itself T0 D A B) {base : Nat} {e : TypeId} {size : Nat} {v : Value} {n : Nat} {xs : List Value} (hT : ¬ T0 e)
    (ho : A.ownsRowF base e size v n xs) : B.ownsRowF base e size v n xs := by
  refine ⟨ho.1, ?_⟩
  rcases ho.2 with hn | ⟨g, cap, cur, fz, hv, hb, hg, rest⟩
  · exact .inl hn
  · exact .inr ⟨g, cap, cur, fz, hv, hb, h.same _ _ _ _ hT hg, rest⟩
theorem builder_itself {T0 : TypeId → Prop} {D : Nat} {A B : World} (h : Itself T0 D A B) {T e : TypeId} {base b : Nat} {bs : List Value} (hT : ¬ T0 e) (hb : b < D)
    (hI : Lib.IsBuilderF T e base b bs A) : Lib.IsBuilderF T e base b bs B := by
  have one : ∀ p, Lib.BuilderAtF T e base b p bs A → Lib.BuilderAtF T e base b p bs B := by
    rintro p ⟨h1, v, h2, h3, h4⟩
    exact ⟨h1, v, (h.below _ hb).trans h2, ownsRowF_itself h hT h3, h4⟩
  exact hI.imp (one _) (one _)
theorem keeps_of_others {T : TypeId → Prop} {cap : Nat → Prop} {D : Nat} {W W' : World} {e : TypeId} {b : Nat} (h : Lib.OthersKept e (some b) W W') (hs : W.heap.size ≤ W'.heap.size) (hT : T e) (hb : b < D) (hcb : ¬ cap b)
    (hce : ∀ k c fz, cap k → W.heap[k]? ≠ some (.cells c e fz)) : Keeps T cap D W W' :=
  ⟨hs, fun k o hk hp => h k o hk (by
    intro he; cases he
    rcases hp with hp | hp
    · exact hcb hp
    · omega) (fun c fz ho => by
    subst ho
    rcases hp with hp | hp
    · exact hce k c fz hp hk
    · exact hp.2 c e fz hT rfl)⟩

theorem blen_c (B b : Nat) (bs : List Value) (n : Int) (hn : n = bs.length) (w : World) (h : Lib.IsBuilderF 55 5 B b bs w) :
    Calls Tryd.prog 31 #[.pointer (some ⟨b, 0, none⟩)] w fun e w' => e = .returned (.int .i64 n) ∧ w = w' :=
  (Tryd.Builder_Len_f B b bs w h).mono fun _ _ ⟨h1, h2⟩ => ⟨by rw [hn]; exact h1, h2.symm⟩
theorem put_c (b : Nat) (l : List UInt8) (c : UInt8) (n : Int) (hn : n = c.toNat) (w : World) (h : Lib.IsBuilderF 55 5 b b (Lib.byteCells l) w) (hlen : l.length ≤ 1000) (hBw : b ≤ w.heap.size) :
    Calls Tryd.prog 29 #[.pointer (some ⟨b, 0, none⟩), .int .u8 n] w fun e w' => e = .returned .nilIface ∧ Lib.IsBuilderF 55 5 b b (Lib.byteCells (l ++ [c])) w' ∧ Below b w w' ∧ Lib.OthersKept 5 (some b) w w' := by
  subst hn
  refine (writeByte_c b b _ _ w h (by rw [Lib.byteCells_length]; omega) hBw).mono ?_
  rintro e w' ⟨he, h1, h2, h3⟩
  refine ⟨he, .inr ?_, h2, h3⟩
  rw [Lib.byteCells_append]
  exact h1
theorem puts_c (b : Nat) (l : List UInt8) (s : ByteArray) (w : World) (h : Lib.IsBuilderF 55 5 b b (Lib.byteCells l) w) (hlen : l.length ≤ 1000) (hs : s.size ≤ 1000) (hBw : b ≤ w.heap.size) :
    Calls Tryd.prog 32 #[.pointer (some ⟨b, 0, none⟩), .string s] w fun e w' => e = .returned (.tuple #[.int .i64 s.size, .nilIface]) ∧ Lib.IsBuilderF 55 5 b b (Lib.byteCells (l ++ s.data.toList)) w' ∧ Below b w w' ∧ Lib.OthersKept 5 (some b) w w' := by
  refine (writeString_c b b _ _ w h (by rw [Lib.byteCells_length]; omega) hBw).mono ?_
  rintro e w' ⟨he, h1, h2, h3⟩
  refine ⟨he, .inr ?_, h2, h3⟩
  rw [Lib.byteCells_append]
  exact h1
theorem nmB_size (i : Nat) : (nmB i).size ≤ 9 := by show (nm i).toArray.size ≤ 9; simpa using (nm_le i).1

set_option maxRecDepth 100000 in
set_option maxHeartbeats 4000000 in
theorem string_c (s : Nat) (hs : s < 256) (w : World) (hN : Names w) : Calls Tryd.prog 18 #[.int .u8 s] w fun e w' => e = .returned (.string ⟨(textOf s).toArray⟩) ∧ Below w.heap.size w w' := by
  refine (callsIn_wide (n := 3)).1 ?_
  refine callsIn_of_wp_marks Tryd.func18 rfl trivial ?_
  simp only [Tryd.ntmps18, List.size_toArray, List.length_cons, List.length_nil, Nat.reduceAdd, Nat.reduceSub, Array.replicate_succ, Array.replicate_zero, List.push_toArray, List.append_toArray, List.nil_append, List.cons_append]
  have HN := Lib.hid hN
  have HS := Lib.hid hs
  clear hN hs
  have hI0 := Lib.IsBuilderF.of (Lib.fresh_isBuilder 55 5 w)
  have HI0 := Lib.hid hI0
  clear hI0
  gi_wp2_with (gi_at_call 29; refine CallsIn.w (writeByte_c w.heap.size w.heap.size [] 40 _ HI0.out (by simp) (by simp)) ?_)
  rintro e w1 ⟨rfl, h1, hb1, -⟩
  replace h1 : Lib.IsBuilderF 55 5 w.heap.size w.heap.size (Lib.byteCells (40 :: joined [])) w1 := .inr h1
  replace hb1 : Below w.heap.size w w1 := ((Below.refl _ w).alloc (Nat.le_refl _) _).trans hb1
  have hlt1 : w.heap.size < w1.heap.size := h1.elim (·.lt) (·.lt)
  have H1 := Lib.hid h1
  have HB1 := Lib.hid hb1
  clear h1 hb1
  gi_wp2_with (gi_at_call 30; refine CallsIn.w (names_c _ _) ?_; rintro e w' ⟨rfl, rfl⟩)
  have bS := Boxed.new w1 31 (.int .u8 s)
  have hi0 : Itself (fun e => e = 72 ∨ e = 31) w1.heap.size w1 (w1.alloc (.cells #[.int .u8 s] 31)) := Itself.alloc _ w1 _ (Nat.le_refl _)
  have hsz : (w1.alloc (.cells #[.int .u8 s] 31)).heap.size = w1.heap.size + 1 := by simp
  have hI1 := builder_itself hi0 (show ¬ ((5 : Nat) = 72 ∨ (5 : Nat) = 31) by decide) hlt1 H1.out
  have hB1 : Below w.heap.size w (w1.alloc (.cells #[.int .u8 s] 31)) := HB1.out.trans (hi0.toBelow.mono (by omega))
  obtain ⟨W0, hW0⟩ : ∃ W0, w1.alloc (.cells #[.int .u8 s] 31) = W0 := ⟨_, rfl⟩
  rw [hW0] at bS hsz hi0 hI1 hB1 ⊢
  clear hW0 hi0
  refine wpIn_rangeIter (gf := 43) (lb := #[.pointer (some ⟨w1.heap.size, 0, none⟩)]) rfl (enters_of Tryd.func43 (by kernel_rfl) rfl) (names1_iter s w1.heap.size HS.out) (fun e => e = 5) (fun e he h => by subst he; revert h; decide) (fun _ => rfl)
    (fun k hk => by subst hk; omega) (fun W' hW' => ⟨HN.out.later ((hB1.trans (hW'.mono (by omega))).mono HN.out.lt), (hW'.block _ (by omega)).trans bS⟩)
    (fun pre W' => Lib.IsBuilderF 55 5 w.heap.size w.heap.size (Lib.byteCells (40 :: joined pre)) W' ∧ Below w.heap.size w W' ∧ Boxed W' w1.heap.size 31 (.int .u8 s))
    (fun _ _ _ => False)
    (fun s' A B h hAB => ⟨builder_itself hAB (by decide) (by omega) h.1, h.2.1.trans (hAB.toBelow.mono (by omega)), hAB.boxed h.2.2 (.inl (by omega))⟩)
    (fun c s' A B h hAB => h)
    ⟨hI1, hB1, bS⟩ ?round ?done ?stop
  case round =>
    rintro l' pre x W1 hl ⟨hj, hf, hb1⟩ hst
    gi_wp2
    refine ⟨Keeps.refl _ _ _ _, fun W2 hits hsz2 hrec hoth => ?_⟩
    have hj2 := builder_itself hits (show ¬ ((5 : Nat) = 72 ∨ (5 : Nat) = 31) by decide) (show w.heap.size < W0.heap.size by omega) hj
    have hf2 := hf.trans (hits.toBelow.mono (show w.heap.size ≤ W0.heap.size by omega))
    have hb2 := hits.boxed hb1 (.inl (by omega))
    have HJ2 := Lib.hid hj2
    have HF2 := Lib.hid hf2
    have HB2 := Lib.hid hb2
    have HST := Lib.hid hst
    have hle : w.heap.size ≤ W2.heap.size := hf2.size
    clear hj2 hf2 hb2 hst hj hf hb1 hits hrec hoth hsz2
    have hpl : (joined pre).length ≤ 50 := by
      have h1 := joined_le pre
      have h2 := ((List.prefix_append pre [x]).trans HST.out).length_le
      have h3 := seqOf_len s 5
      omega
    have fin : ∀ (l : List UInt8) (W3 : World), l = 40 :: joined (pre ++ [x]) → Lib.IsBuilderF 55 5 w.heap.size w.heap.size (Lib.byteCells l) W3 → Below w.heap.size W2 W3 → Lib.OthersKept 5 (some w.heap.size) W2 W3 →
        Keeps (fun e => e = 5) (fun k => k = w1.heap.size) W0.heap.size W2 W3 ∧ Lib.IsBuilderF 55 5 w.heap.size w.heap.size (Lib.byteCells (40 :: joined (pre ++ [x]))) W3 ∧ Below w.heap.size w W3 ∧ Boxed W3 w1.heap.size 31 (.int .u8 s) := by
      intro l W3 hl h1 h2 h3
      subst hl
      have hk : Keeps (fun e => e = 5) (fun k => k = w1.heap.size) W0.heap.size W2 W3 := keeps_of_others h3 h2.size rfl (by omega) (by omega) (fun k c fz hk ho => by
        subst hk
        have h24 := (show W2.heap[w1.heap.size]? = _ from HB2.out).symm.trans ho
        cases h24)
      exact ⟨hk, h1, HF2.out.trans h2, hk.boxed HB2.out (.inl rfl)⟩
    have FIN := Lib.hid fin
    clear fin
    by_cases hp : pre = []
    · have HP := Lib.hid hp
      clear hp
      gi_wp2_with (gi_at_call 31; refine CallsIn.wr (blen_c _ _ _ 1 (by rw [HP.out]; rfl) _ HJ2.out) ?_; rintro e w' ⟨rfl, rfl⟩)
      refine CallsIn.wr (puts_c _ _ _ _ HJ2.out (by simp; omega) (Nat.le_trans (nmB_size x) (by omega)) hle) ?_
      rintro e w' ⟨rfl, g1, g2, g3⟩
      have HQ := Lib.hid (FIN.out _ w' (by rw [joined_snoc, HP.out]; rfl) g1 g2 g3)
      clear g1 g2 g3
      gi_wp2_with fail
      exact HQ.out
    · obtain ⟨i, pre', hpe⟩ : ∃ i pre', pre = i :: pre' := by
        cases pre with
        | nil => exact absurd rfl hp
        | cons i l => exact ⟨i, l, rfl⟩
      have HPE := Lib.hid hpe
      have HP := Lib.hid hp
      clear hp hpe
      obtain ⟨m, hm, hm1⟩ : ∃ m : Int, m = ((Lib.byteCells (40 :: joined pre)).length : Int) ∧ 1 < m := ⟨_, rfl, by
        rw [Lib.byteCells_length, HPE.out]; have := joined_pos i pre'; simp only [List.length_cons]; omega⟩
      have HM := Lib.hid hm
      clear hm
      gi_wp2_with (gi_at_call 31; refine CallsIn.wr (blen_c _ _ _ m HM.out _ HJ2.out) ?_; rintro e w' ⟨rfl, rfl⟩)
      refine CallsIn.wr (put_c _ _ 32 32 rfl _ HJ2.out (by simp; omega) hle) ?_
      rintro e w3 ⟨rfl, g1, g2, g3⟩
      have G1 := Lib.hid g1
      have G2 := Lib.hid g2
      have G3 := Lib.hid g3
      have hle3 : w.heap.size ≤ w3.heap.size := Nat.le_trans hle g2.size
      clear g1 g2 g3
      gi_wp2_with fail
      refine CallsIn.wr (puts_c _ _ _ _ G1.out (by simp; omega) (Nat.le_trans (nmB_size x) (by omega)) hle3) ?_
      rintro e w' ⟨rfl, g1, g2, g3⟩
      have HQ := Lib.hid (FIN.out _ w' (by rw [joined_snoc, if_neg HP.out]; simp [nmB]) g1 (G2.out.trans g2) (G3.out.trans g3))
      clear g1 g2 g3
      gi_wp2_with fail
      exact HQ.out
  case done =>
    rintro D xs W1 hD rfl ⟨hj, hf, hb1⟩ hK
    have hpl : (joined (seqOf s 5)).length ≤ 50 := by
      have h1 := joined_le (seqOf s 5)
      have h3 := seqOf_len s 5
      omega
    have hle : w.heap.size ≤ W1.heap.size := hf.size
    have HJ := Lib.hid hj
    have HF := Lib.hid hf
    have HK := Lib.hid hK
    clear hj hf hb1 hK
    gi_wp2_with fail
    refine CallsIn.w (put_c _ _ 41 41 rfl _ HJ.out (by simp; omega) hle) ?_
    rintro e w3 ⟨rfl, g1, g2, g3⟩
    have hle3 : w.heap.size ≤ w3.heap.size := Nat.le_trans hle g2.size
    have hK3 := g3 _ _ HK.out (by intro h; cases h; omega) (fun _ _ h => by cases h)
    have G1 := Lib.hid g1
    have G2 := Lib.hid (HF.out.trans g2)
    have HK3 := Lib.hid hK3
    clear g1 g2 g3 hK3
    gi_wp2_with fail
    refine CallsIn.w (Tryd.Builder_String_any_k _ _ _ _ G1.out hle3) ?_
    rintro e w4 ⟨rfl, -, g2, g3⟩
    have hK4 := g3 _ _ HK3.out (by intro h; cases h; omega) (fun _ _ h => by cases h)
    have G4 := Lib.hid (G2.out.trans g2)
    have HK4 := Lib.hid hK4
    clear g2 g3 hK4
    gi_wp2_with fail
    refine ⟨by simp, .inl ⟨_, _, rfl, run_takeDeferred HK4.out, ?_⟩⟩
    exact ⟨_, results_tmp rfl _ _ _, rfl, G4.out.trans (belowK_b (w := w) (Nat.le_refl _) w4 D _ _ (by omega) HK4.out rfl rfl)⟩
  case stop =>
    rintro D c pre W1 hD hS h hK
    exact h.elim
end Go.Proofs.YtaomekmfgjgpmaaDoor

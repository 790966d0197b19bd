/-
  A set's text.
  The document's text of a set that is an argument's; of a flag, as it stands in a key: contracts.
  A flag's name as it stands in a key, by the document: contracts.
  The program's reader: literals, quoted texts, strings: contracts.
  The program's reader: quoted texts, strings: contracts.
  The program's reader: strings: contract; the chapter's examples.
  The chapter's examples; the law TokenGivesUp: its walk.
  isAtom: contract.
  The document's reader: what is left, to give up, rows of bytes, numbers: contracts.
  The document's reader: atoms, numbers, words, literals: contracts.
  The document's reader: numbers, words, literals: contracts.
  The document's reader: literals, strings: contracts.
  A region that draws its order, by what holds behind whichever of its operations have come up: a case for each operation, not for each order.
  XInv's law inside a round. MADE by wip/tools/mkInvIn.py.
  The document's reader: strings: contract.
  A range over an iterator, what it hands out told of the world in which it does. MADE by wip/tools/mkIterV.py.
  A set's text, by the program, of a set that is an argument's: contract.
  Plain: a set's text spells that set.
-/
import Derived.Test.YtpnnchpaaopdcaaGreatDoorZB04
import Derived.Test.YtpnnchpaaopdcaaGreatDoorZB01
import Derived.Test.YtpnnchpaaopdcaaGreatDoorZB05
import Derived.Lib.UnsafeStr
import Derived.Lib.OthersKept
import Derived.Maps.AppendAt
import Derived.Deep.QuietTactic
import Derived.BigQuiet
import Derived.Orders
import Derived.RegionTactic
import Derived.Deep.RegionHeld
import Derived.Test.YtpnnchpaaopdcaaGreatDoorProg
import Derived.OrdersIn
set_option linter.unusedVariables false
set_option linter.unusedSimpArgs false
namespace Go.Proofs.YtpnnchpaaopdcaaGreatDoor
open Go Go.RowKit Go.Shelf
attribute [local go_sem] Oper.semAt_some wide_fn wide_depth
theorem ownsRowF_itself {T0 : TypeId → Prop} {D : Nat} {A B : World} (h : Itself T0 D A B) {base : Nat} {e : TypeId} {size : Nat} {v : Value} {n : Nat} {xs : List Value} (hT : ¬ T0 e)
    (ho : A.ownsRowF base e size v n xs) : B.ownsRowF base e size v n xs := by
  refine ⟨ho.1, ?_⟩
  rcases ho.2 with hn | ⟨g, cap, cur, fz, hv, hb, hg, rest⟩
  · exact .inl hn
  · exact .inr ⟨g, cap, cur, fz, hv, hb, h.same _ _ _ _ hT hg, rest⟩
theorem builder_itself {T0 : TypeId → Prop} {D : Nat} {A B : World} (h : Itself T0 D A B) {T e : TypeId} {base b : Nat} {bs : List Value} (hT : ¬ T0 e) (hb : b < D)
    (hI : Lib.IsBuilderF T e base b bs A) : Lib.IsBuilderF T e base b bs B := by
  have one : ∀ p, Lib.BuilderAtF T e base b p bs A → Lib.BuilderAtF T e base b p bs B := by
    rintro p ⟨h1, v, h2, h3, h4⟩
    exact ⟨h1, v, (h.below _ hb).trans h2, ownsRowF_itself h hT h3, h4⟩
  exact hI.imp (one _) (one _)
theorem keeps_of_others {T : TypeId → Prop} {cap : Nat → Prop} {D : Nat} {W W' : World} {e : TypeId} {b : Nat} (h : Lib.OthersKept e (some b) W W') (hs : W.heap.size ≤ W'.heap.size) (hT : T e) (hb : b < D) (hcb : ¬ cap b)
    (hce : ∀ k c fz, cap k → W.heap[k]? ≠ some (.cells c e fz)) : Keeps T cap D W W' :=
  ⟨hs, fun k o hk hp => h k o hk (by
    intro he; cases he
    rcases hp with hp | hp
    · exact hcb hp
    · omega) (fun c fz ho => by
    subst ho
    rcases hp with hp | hp
    · exact hce k c fz hp hk
    · exact hp.2 c e fz hT rfl)⟩
theorem blen_c (B b : Nat) (bs : List Value) (n : Int) (hn : n = bs.length) (w : World) (h : Lib.IsBuilderF 171 5 B b bs w) :
    Calls Tryz.prog 154 #[.pointer (some ⟨b, 0, none⟩)] w fun e w' => e = .returned (.int .i64 n) ∧ w = w' :=
  (Tryz.Builder_Len_f B b bs w h).mono fun _ _ ⟨h1, h2⟩ => ⟨by rw [hn]; exact h1, h2.symm⟩
theorem put_c (b : Nat) (l : List UInt8) (c : UInt8) (n : Int) (hn : n = c.toNat) (w : World) (h : Lib.IsBuilderF 171 5 b b (Lib.byteCells l) w) (hlen : l.length ≤ 1000) (hBw : b ≤ w.heap.size) :
    Calls Tryz.prog 152 #[.pointer (some ⟨b, 0, none⟩), .int .u8 n] w fun e w' => e = .returned .nilIface ∧ Lib.IsBuilderF 171 5 b b (Lib.byteCells (l ++ [c])) w' ∧ Below b w w' ∧ Lib.OthersKept 5 (some b) w w' := by
  subst hn
  refine (writeByte_c b b _ _ w h (by rw [Lib.byteCells_length]; omega) hBw).mono ?_
  rintro e w' ⟨he, h1, h2, h3⟩
  refine ⟨he, .inr ?_, h2, h3⟩
  rw [Lib.byteCells_append]
  exact h1
theorem puts_c (b : Nat) (l : List UInt8) (s : ByteArray) (w : World) (h : Lib.IsBuilderF 171 5 b b (Lib.byteCells l) w) (hlen : l.length ≤ 1000) (hs : s.size ≤ 1000) (hBw : b ≤ w.heap.size) :
    Calls Tryz.prog 155 #[.pointer (some ⟨b, 0, none⟩), .string s] w fun e w' => e = .returned (.tuple #[.int .i64 s.size, .nilIface]) ∧ Lib.IsBuilderF 171 5 b b (Lib.byteCells (l ++ s.data.toList)) w' ∧ Below b w w' ∧ Lib.OthersKept 5 (some b) w w' := by
  refine (writeString_c b b _ _ w h (by rw [Lib.byteCells_length]; omega) hBw).mono ?_
  rintro e w' ⟨he, h1, h2, h3⟩
  refine ⟨he, .inr ?_, h2, h3⟩
  rw [Lib.byteCells_append]
  exact h1
theorem nmB_size (i : Nat) : (nmB i).size ≤ 9 := by show (nm i).toArray.size ≤ 9; simpa using (nm_le i).1
set_option maxRecDepth 100000 in
set_option maxHeartbeats 4000000 in
theorem string_c (s : Nat) (hs : s < 256) (w : World) (hN : Names w) : Calls Tryz.prog 92 #[.int .u8 s] w fun e w' => e = .returned (.string ⟨(textOf s).toArray⟩) ∧ Below w.heap.size w w' := by
  refine (callsIn_wide (n := 3)).1 ?_
  refine callsIn_of_wp_marks Tryz.func92 rfl trivial ?_
  simp only [Tryz.ntmps92, List.size_toArray, List.length_cons, List.length_nil, Nat.reduceAdd, Nat.reduceSub, Array.replicate_succ, Array.replicate_zero, List.push_toArray, List.append_toArray, List.nil_append, List.cons_append]
  have HN := Lib.hid hN
  have HS := Lib.hid hs
  clear hN hs
  have hI0 := Lib.IsBuilderF.of (Lib.fresh_isBuilder 171 5 w)
  have HI0 := Lib.hid hI0
  clear hI0
  gi_wp2_with (gi_at_call 152; refine CallsIn.w (writeByte_c w.heap.size w.heap.size [] 40 _ HI0.out (by simp) (by simp)) ?_)
  rintro e w1 ⟨rfl, h1, hb1, -⟩
  replace h1 : Lib.IsBuilderF 171 5 w.heap.size w.heap.size (Lib.byteCells (40 :: joined [])) w1 := .inr h1
  replace hb1 : Below w.heap.size w w1 := ((Below.refl _ w).alloc (Nat.le_refl _) _).trans hb1
  have hlt1 : w.heap.size < w1.heap.size := h1.elim (·.lt) (·.lt)
  have H1 := Lib.hid h1
  have HB1 := Lib.hid hb1
  clear h1 hb1
  gi_wp2_with (gi_at_call 153; refine CallsIn.w (names_c _ _) ?_; rintro e w' ⟨rfl, rfl⟩)
  have bS := Boxed.new w1 32 (.int .u8 s)
  have hi0 : Itself (fun e => e = 68 ∨ e = 32) w1.heap.size w1 (w1.alloc (.cells #[.int .u8 s] 32)) := Itself.alloc _ w1 _ (Nat.le_refl _)
  have hsz : (w1.alloc (.cells #[.int .u8 s] 32)).heap.size = w1.heap.size + 1 := by simp
  have hI1 := builder_itself hi0 (show ¬ ((5 : Nat) = 68 ∨ (5 : Nat) = 32) by decide) hlt1 H1.out
  have hB1 : Below w.heap.size w (w1.alloc (.cells #[.int .u8 s] 32)) := HB1.out.trans (hi0.toBelow.mono (by omega))
  obtain ⟨W0, hW0⟩ : ∃ W0, w1.alloc (.cells #[.int .u8 s] 32) = W0 := ⟨_, rfl⟩
  rw [hW0] at bS hsz hi0 hI1 hB1 ⊢
  clear hW0 hi0
  refine wpIn_rangeIter (gf := 194) (lb := #[.pointer (some ⟨w1.heap.size, 0, none⟩)]) rfl (enters_of Tryz.func194 (by kernel_rfl) rfl) (names1_iter s w1.heap.size HS.out) (fun e => e = 5) (fun e he h => by subst he; revert h; decide) (fun _ => rfl)
    (fun k hk => by subst hk; omega) (fun W' hW' => ⟨HN.out.later ((hB1.trans (hW'.mono (by omega))).mono HN.out.lt), (hW'.block _ (by omega)).trans bS⟩)
    (fun pre W' => Lib.IsBuilderF 171 5 w.heap.size w.heap.size (Lib.byteCells (40 :: joined pre)) W' ∧ Below w.heap.size w W' ∧ Boxed W' w1.heap.size 32 (.int .u8 s))
    (fun _ _ _ => False)
    (fun s' A B h hAB => ⟨builder_itself hAB (by decide) (by omega) h.1, h.2.1.trans (hAB.toBelow.mono (by omega)), hAB.boxed h.2.2 (.inl (by omega))⟩)
    (fun c s' A B h hAB => h)
    ⟨hI1, hB1, bS⟩ ?round ?done ?stop
  case round =>
    rintro l' pre x W1 hl ⟨hj, hf, hb1⟩ hst
    gi_wp2
    refine ⟨Keeps.refl _ _ _ _, fun W2 hits hsz2 hrec hoth => ?_⟩
    have hj2 := builder_itself hits (show ¬ ((5 : Nat) = 68 ∨ (5 : Nat) = 32) by decide) (show w.heap.size < W0.heap.size by omega) hj
    have hf2 := hf.trans (hits.toBelow.mono (show w.heap.size ≤ W0.heap.size by omega))
    have hb2 := hits.boxed hb1 (.inl (by omega))
    have HJ2 := Lib.hid hj2
    have HF2 := Lib.hid hf2
    have HB2 := Lib.hid hb2
    have HST := Lib.hid hst
    have hle : w.heap.size ≤ W2.heap.size := hf2.size
    clear hj2 hf2 hb2 hst hj hf hb1 hits hrec hoth hsz2
    have hpl : (joined pre).length ≤ 50 := by
      have h1 := joined_le pre
      have h2 := ((List.prefix_append pre [x]).trans HST.out).length_le
      have h3 := seqOf_len s 5
      omega
    have fin : ∀ (l : List UInt8) (W3 : World), l = 40 :: joined (pre ++ [x]) → Lib.IsBuilderF 171 5 w.heap.size w.heap.size (Lib.byteCells l) W3 → Below w.heap.size W2 W3 → Lib.OthersKept 5 (some w.heap.size) W2 W3 →
        Keeps (fun e => e = 5) (fun k => k = w1.heap.size) W0.heap.size W2 W3 ∧ Lib.IsBuilderF 171 5 w.heap.size w.heap.size (Lib.byteCells (40 :: joined (pre ++ [x]))) W3 ∧ Below w.heap.size w W3 ∧ Boxed W3 w1.heap.size 32 (.int .u8 s) := by
      intro l W3 hl h1 h2 h3
      subst hl
      have hk : Keeps (fun e => e = 5) (fun k => k = w1.heap.size) W0.heap.size W2 W3 := keeps_of_others h3 h2.size rfl (by omega) (by omega) (fun k c fz hk ho => by
        subst hk
        have h24 := (show W2.heap[w1.heap.size]? = _ from HB2.out).symm.trans ho
        cases h24)
      exact ⟨hk, h1, HF2.out.trans h2, hk.boxed HB2.out (.inl rfl)⟩
    have FIN := Lib.hid fin
    clear fin
    by_cases hp : pre = []
    · have HP := Lib.hid hp
      clear hp
      gi_wp2_with (gi_at_call 154; refine CallsIn.wr (blen_c _ _ _ 1 (by rw [HP.out]; rfl) _ HJ2.out) ?_; rintro e w' ⟨rfl, rfl⟩)
      refine CallsIn.wr (puts_c _ _ _ _ HJ2.out (by simp; omega) (Nat.le_trans (nmB_size x) (by omega)) hle) ?_
      rintro e w' ⟨rfl, g1, g2, g3⟩
      have HQ := Lib.hid (FIN.out _ w' (by rw [joined_snoc, HP.out]; rfl) g1 g2 g3)
      clear g1 g2 g3
      gi_wp2_with fail
      exact HQ.out
    · obtain ⟨i, pre', hpe⟩ : ∃ i pre', pre = i :: pre' := by
        cases pre with
        | nil => exact absurd rfl hp
        | cons i l => exact ⟨i, l, rfl⟩
      have HPE := Lib.hid hpe
      have HP := Lib.hid hp
      clear hp hpe
      obtain ⟨m, hm, hm1⟩ : ∃ m : Int, m = ((Lib.byteCells (40 :: joined pre)).length : Int) ∧ 1 < m := ⟨_, rfl, by
        rw [Lib.byteCells_length, HPE.out]; have := joined_pos i pre'; simp only [List.length_cons]; omega⟩
      have HM := Lib.hid hm
      clear hm
      gi_wp2_with (gi_at_call 154; refine CallsIn.wr (blen_c _ _ _ m HM.out _ HJ2.out) ?_; rintro e w' ⟨rfl, rfl⟩)
      refine CallsIn.wr (put_c _ _ 32 32 rfl _ HJ2.out (by simp; omega) hle) ?_
      rintro e w3 ⟨rfl, g1, g2, g3⟩
      have G1 := Lib.hid g1
      have G2 := Lib.hid g2
      have G3 := Lib.hid g3
      have hle3 : w.heap.size ≤ w3.heap.size := Nat.le_trans hle g2.size
      clear g1 g2 g3
      gi_wp2_with fail
      refine CallsIn.wr (puts_c _ _ _ _ G1.out (by simp; omega) (Nat.le_trans (nmB_size x) (by omega)) hle3) ?_
      rintro e w' ⟨rfl, g1, g2, g3⟩
      have HQ := Lib.hid (FIN.out _ w' (by rw [joined_snoc, if_neg HP.out]; simp [nmB]) g1 (G2.out.trans g2) (G3.out.trans g3))
      clear g1 g2 g3
      gi_wp2_with fail
      exact HQ.out
  case done =>
    rintro D xs W1 hD rfl ⟨hj, hf, hb1⟩ hK
    have hpl : (joined (seqOf s 5)).length ≤ 50 := by
      have h1 := joined_le (seqOf s 5)
      have h3 := seqOf_len s 5
      omega
    have hle : w.heap.size ≤ W1.heap.size := hf.size
    have HJ := Lib.hid hj
    have HF := Lib.hid hf
    have HK := Lib.hid hK
    clear hj hf hb1 hK
    gi_wp2_with fail
    refine CallsIn.w (put_c _ _ 41 41 rfl _ HJ.out (by simp; omega) hle) ?_
    rintro e w3 ⟨rfl, g1, g2, g3⟩
    have hle3 : w.heap.size ≤ w3.heap.size := Nat.le_trans hle g2.size
    have hK3 := g3 _ _ HK.out (by intro h; cases h; omega) (fun _ _ h => by cases h)
    have G1 := Lib.hid g1
    have G2 := Lib.hid (HF.out.trans g2)
    have HK3 := Lib.hid hK3
    clear g1 g2 g3 hK3
    gi_wp2_with fail
    refine CallsIn.w (Tryz.Builder_String_any_k _ _ _ _ G1.out hle3) ?_
    rintro e w4 ⟨rfl, -, g2, g3⟩
    have hK4 := g3 _ _ HK3.out (by intro h; cases h; omega) (fun _ _ h => by cases h)
    have G4 := Lib.hid (G2.out.trans g2)
    have HK4 := Lib.hid hK4
    clear g2 g3 hK4
    gi_wp2_with fail
    refine ⟨by simp, .inl ⟨_, _, rfl, run_takeDeferred HK4.out, ?_⟩⟩
    exact ⟨_, results_tmp rfl _ _ _, rfl, G4.out.trans (belowK_b (w := w) (Nat.le_refl _) w4 D _ _ (by omega) HK4.out rfl rfl)⟩
  case stop =>
    rintro D c pre W1 hD hS h hK
    exact h.elim
end Go.Proofs.YtpnnchpaaopdcaaGreatDoor
namespace Go.Proofs.YtpnnchpaaopdcaaGreatDoor
open Go Go.RowKit
attribute [local go_sem ↓] Go.wp_at_zero Go.wp_at_succ
set_option maxRecDepth 100000 in
set_option maxHeartbeats 2000000 in
theorem rqtextP_c (ad : Option Addr) (cp : Nat) (l : List (Nat × Nat)) (hl : l.length ≤ 1000) (hS : Small l) (w : World) (ho : PairsAt w ad l) :
    Calls Tryz.prog 56 #[.slice ad l.length cp] w fun e w' => e = .returned (.string (txt (setT l))) ∧ Below w.heap.size w w' := by
  obtain ⟨N, hN⟩ : ∃ N, N = l.length := ⟨_, rfl⟩
  rw [← hN] at hl ⊢
  have HO := Lib.hid ho
  have HN := Lib.hid hN
  have HS := Lib.hid hS
  clear ho hN hS
  go_enter Tryz.func56, Tryz.ntmps56
  go_wp2_with fail
  go_loopw [3, 4] (fun t3 t4 wr => ∃ (k : Nat) (S : ByteArray), k ≤ N ∧ t4 = .int .i64 k ∧ t3 = .string S ∧ S.size ≤ 22 * k ∧ Hid (S = txt (setT (l.take k))) ∧ Hid (Below w.heap.size w wr)) (fun _ i _ => N - (intOf i).toNat)
  case atStart => exact ⟨0, _, by omega, rfl, rfl, by show (0 : Nat) ≤ _; omega, rfl, Below.refl _ _⟩
  case round =>
    obtain ⟨k, S, hk, rfl, rfl, hsz, HT, HB⟩ := hrel
    by_cases hlt : k < N
    · have hkl : k < l.length := by rw [← HN.out]; exact hlt
      obtain ⟨x, y, hxy⟩ : ∃ x y, l[k] = (x, y) := ⟨_, _, rfl⟩
      have hb := HS.out _ (List.getElem_mem hkl)
      rw [hxy] at hb
      have hx : x ≤ 4294967295 := hb.1
      have hy : y ≤ 4294967295 := hb.2
      have how := HO.out.below HB.out
      obtain ⟨g, off, rfl, _, k0, k1⟩ := how k (x, y) (by rw [List.getElem?_eq_getElem hkl, hxy])
      have hT2 := setT_take hkl
      rw [hxy] at hT2
      have HT2 := Lib.hid hT2
      have hq1 : (k : Int) < N := by omega
      have hex : (txt (endT x)).size ≤ 10 := by rw [txt_size]; exact endT_len hx
      have hey : (txt (endT y)).size ≤ 10 := by rw [txt_size]; exact endT_len hy
      clear hb how hxy hkl hT2
      by_cases hk0 : k = 0
      · subst hk0
        simp only [Nat.zero_mul, Nat.add_zero] at k0 k1
        go_wp2_with fail
        refine (rone_c x hx wr).mono ?_
        rintro e w2 ⟨rfl, hb2⟩
        have HB2 : Hid (Below w.heap.size w w2) := HB.out.trans (hb2.mono HB.out.size)
        have c0 : w2.cell? ⟨g, off, none⟩ = some (.int .u32 x) := (hb2.cell (p := ⟨g, off, none⟩) (cell_lt k0)).trans k0
        have c1 : w2.cell? ⟨g, off + 1, none⟩ = some (.int .u32 y) := (hb2.cell (p := ⟨g, off + 1, none⟩) (cell_lt k1)).trans k1
        clear hb2 k0 k1
        by_cases hxy : x = y
        · have exy : ((x : Int) != (y : Int)) = false := by simp [hxy]
          have HXY := Lib.hid hxy
          clear hxy
          go_wp2_with fail
          go_quiet (fail)
          go_wp2_with fail
          go_roundw
          case rel =>
            have e1 : setT (l.take (0 + 1)) = setT (l.take 0) ++ [] ++ endT x := by rw [HT2.out]; simp [rangeT, HXY.out]
            refine ⟨0 + 1, _, by omega, by go_num, rfl, ?_, ?_, below_drewN HB2.out _⟩
            · simp only [ByteArray.size_append]; have : (⟨#[44]⟩ : ByteArray).size = 1 := rfl; have : (⟨#[58]⟩ : ByteArray).size = 1 := rfl; omega
            · show _ = txt _
              rw [e1, HT.out]; simp [txt_58, txt_append]
          case measure => simp [intOf]; omega
        · have exy : ((x : Int) != (y : Int)) = true := by simp; omega
          have HXY := Lib.hid hxy
          clear hxy
          go_wp2_with fail
          go_quiet (fail)
          go_wp2_with fail
          refine (rone_c y hy _).mono ?_
          rintro e w3 ⟨rfl, hb3⟩
          have HB3 : Hid (Below w.heap.size w w3) := (below_drewN HB2.out _).trans (hb3.mono HB2.out.size)
          clear hb3
          go_wp2_with fail
          go_roundw
          case rel =>
            have e1 : setT (l.take (0 + 1)) = setT (l.take 0) ++ [] ++ endT x ++ [58] ++ endT y := by rw [HT2.out]; simp [rangeT, HXY.out]
            refine ⟨0 + 1, _, by omega, by go_num, rfl, ?_, ?_, HB3.out⟩
            · simp only [ByteArray.size_append]; have : (⟨#[44]⟩ : ByteArray).size = 1 := rfl; have : (⟨#[58]⟩ : ByteArray).size = 1 := rfl; omega
            · show _ = txt _
              rw [e1, HT.out]; simp [txt_58, txt_append]
          case measure => simp [intOf]; omega
      · have qk : (0 : Int) < k := by omega
        go_wp2_with fail
        refine (rone_c x hx wr).mono ?_
        rintro e w2 ⟨rfl, hb2⟩
        have HB2 : Hid (Below w.heap.size w w2) := HB.out.trans (hb2.mono HB.out.size)
        have c0 : w2.cell? ⟨g, off + k * 2, none⟩ = some (.int .u32 x) := (hb2.cell (p := ⟨g, off + k * 2, none⟩) (cell_lt k0)).trans k0
        have c1 : w2.cell? ⟨g, off + k * 2 + 1, none⟩ = some (.int .u32 y) := (hb2.cell (p := ⟨g, off + k * 2 + 1, none⟩) (cell_lt k1)).trans k1
        clear hb2 k0 k1
        by_cases hxy : x = y
        · have exy : ((x : Int) != (y : Int)) = false := by simp [hxy]
          have HXY := Lib.hid hxy
          clear hxy
          go_wp2_with fail
          go_quiet (fail)
          go_wp2_with fail
          go_roundw
          case rel =>
            have e1 : setT (l.take (k + 1)) = setT (l.take k) ++ [44] ++ endT x := by rw [HT2.out, if_neg (by omega)]; simp [rangeT, HXY.out]
            refine ⟨k + 1, _, by omega, by go_num, rfl, ?_, ?_, below_drewN HB2.out _⟩
            · simp only [ByteArray.size_append]; have : (⟨#[44]⟩ : ByteArray).size = 1 := rfl; have : (⟨#[58]⟩ : ByteArray).size = 1 := rfl; omega
            · show _ = txt _
              rw [e1, HT.out]; simp [txt_44, txt_58, txt_append]
          case measure => simp [intOf]; omega
        · have exy : ((x : Int) != (y : Int)) = true := by simp; omega
          have HXY := Lib.hid hxy
          clear hxy
          go_wp2_with fail
          go_quiet (fail)
          go_wp2_with fail
          refine (rone_c y hy _).mono ?_
          rintro e w3 ⟨rfl, hb3⟩
          have HB3 : Hid (Below w.heap.size w w3) := (below_drewN HB2.out _).trans (hb3.mono HB2.out.size)
          clear hb3
          go_wp2_with fail
          go_roundw
          case rel =>
            have e1 : setT (l.take (k + 1)) = setT (l.take k) ++ [44] ++ endT x ++ [58] ++ endT y := by rw [HT2.out, if_neg (by omega)]; simp [rangeT, HXY.out]
            refine ⟨k + 1, _, by omega, by go_num, rfl, ?_, ?_, HB3.out⟩
            · simp only [ByteArray.size_append]; have : (⟨#[44]⟩ : ByteArray).size = 1 := rfl; have : (⟨#[58]⟩ : ByteArray).size = 1 := rfl; omega
            · show _ = txt _
              rw [e1, HT.out]; simp [txt_44, txt_58, txt_append]
          case measure => simp [intOf]; omega
    · obtain rfl : k = N := by omega
      go_wp2_with fail
      go_ret
      refine ⟨ret_s ?_, HB.out⟩
      rw [HT.out, List.take_of_length_le (by rw [← HN.out]; exact Nat.le_refl _)]
end Go.Proofs.YtpnnchpaaopdcaaGreatDoor
namespace Go.Proofs.YtpnnchpaaopdcaaGreatDoor
open Go Go.RowKit
def flagT (i : Nat) : List UInt8 := ((nm i).drop 1).map upB
def flT (fl : Nat) : List UInt8 := match (seqOf fl 5).head? with
  | some i => flagT i
  | none => []
theorem flagT_len (i : Nat) : (flagT i).length ≤ 9 := by unfold flagT; have := (nm_le i).1; simp; omega
theorem nm_tail (i : Nat) : (nmB i).extract 1 (nmB i).size = txt ((nm i).drop 1) := by
  apply ByteArray.ext
  apply Array.ext'
  simp [txt, nmB, ByteArray.size]
  exact List.take_of_length_le (by simp)
set_option maxRecDepth 20000 in
theorem rFlag14_c (i : Nat) (hi : i < 5) (w : World) : Calls Tryz.prog 115 #[.int .i64 i] w fun e w' => e = .returned (.string (txt (flagT i))) ∧ Below w.heap.size w w' := by
  have kc := namesRow_cell w hi
  have hex := nm_tail i
  have hsz : (nmB i).size ≤ 9 ∧ 5 ≤ (nmB i).size := by
    have := nm_le i
    show (nm i).toArray.size ≤ 9 ∧ 5 ≤ (nm i).toArray.size
    simpa using this
  have CU := fun w => rtUpper_c ((nm i).drop 1) (by have := (nm_le i).1; simp; omega) w
  obtain ⟨B, hB⟩ : ∃ B, nmB i = B := ⟨_, rfl⟩
  obtain ⟨n, hn⟩ : ∃ n, B.size = n := ⟨_, rfl⟩
  rw [hB] at kc hex hsz
  rw [hn] at hex hsz
  obtain ⟨X, hX⟩ : ∃ X, txt ((nm i).drop 1) = X := ⟨_, rfl⟩
  rw [hX] at hex
  simp only [hX] at CU
  obtain ⟨U, hU⟩ : ∃ U, txt (flagT i) = U := ⟨_, rfl⟩
  have CU : Hid (∀ w, Calls Tryz.prog 61 #[.string X] w fun e w' => e = .returned (.string U) ∧ Below w.heap.size w w') := fun w => by rw [← hU]; exact CU w
  rw [hU]
  have q : (i : Int) < 5 := by omega
  have q0 : (0 : Int) ≤ i := by omega
  have q1 : (1 : Int) ≤ n := by omega
  have HB := Lib.hid hB
  have hb0 : Hid (Below w.heap.size w (w.alloc namesRow)) := (Below.refl _ _).alloc (Nat.le_refl _) _
  have HR := Lib.hid (fun w => rnames_c w)
  clear hB hX
  go_enter Tryz.func115, Tryz.ntmps115
  go_wp2_with (first | (go_at_call 145; refine (HR.out _).mono ?_; rintro e w1 ⟨rfl, rfl⟩) | (go_at_call 61; refine (CU.out _).mono ?_; rintro e w2 ⟨rfl, hb⟩; have H2 := Lib.hid hb; clear hb) | fail)
  go_ret
  exact ⟨rfl, hb0.out.trans (H2.out.mono hb0.out.size)⟩
set_option maxRecDepth 20000 in
theorem rflag14_c (fl : Nat) (hfl : fl < 256) (w : World) : Calls Tryz.prog 55 #[.int .u8 fl] w fun e w' => e = .returned (.string (txt (flT fl))) ∧ Below w.heap.size w w' := by
  have CB := Lib.hid (fun (k : Nat) (hk : k < 5) w => rbit_c fl k hfl hk w)
  have CF := Lib.hid (fun (k : Nat) (hk : k < 5) w => rFlag14_c k hk w)
  clear hfl
  go_enter Tryz.func55, Tryz.ntmps55
  go_wp2_with fail
  go_loopw [3] (fun t3 wr => wr = w ∧ ∃ k : Nat, k ≤ 5 ∧ t3 = .int .i64 k ∧ Hid (seqOf fl k = [])) (fun t3 _ => 5 - (intOf t3).toNat)
  case atStart => exact ⟨rfl, 0, Nat.zero_le _, rfl, rfl⟩
  case round =>
    obtain ⟨hww, k, hk, rfl, HE⟩ := hrel
    have hww := hww.symm
    subst hww
    by_cases hlt : k < 5
    · have hq : (k : Int) < 5 := by omega
      have C1 := CB.out k hlt w
      have hse := seqOf_succ fl k
      cases hb : bit fl k with
      | true =>
        rw [hb] at C1 hse
        have C1 := Lib.hid C1
        have C2 := Lib.hid (CF.out k hlt w)
        have HT : Hid (flT fl = flagT k) := by
          show _ = _
          have h1 : seqOf fl (k + 1) = [k] := by rw [hse, HE.out]; rfl
          have h2 := seqOf_prefix fl (show k + 1 ≤ 5 by omega)
          rw [h1] at h2
          obtain ⟨r, hr⟩ := h2
          unfold flT
          rw [← hr]
          rfl
        clear hse hb
        go_wp2_with (first | (go_at_call 114; refine C1.out.mono ?_; rintro e w1 ⟨rfl, rfl⟩) | (go_at_call 115; refine C2.out.mono ?_; rintro e w2 ⟨rfl, hb⟩; have H2 := Lib.hid hb; clear hb) | fail)
        go_ret
        exact ⟨by rw [HT.out]; rfl, H2.out⟩
      | false =>
        rw [hb] at C1 hse
        have C1 := Lib.hid C1
        have HE2 : Hid (seqOf fl (k + 1) = []) := by show _ = _; rw [hse]; exact HE.out
        clear hse hb
        go_wp2_with (first | (go_at_call 114; refine C1.out.mono ?_; rintro e w1 ⟨rfl, rfl⟩) | fail)
        refine ⟨⟨trivial, k + 1, by omega, by go_num, HE2.out⟩, ?_⟩
        simp [intOf]; omega
    · obtain rfl : k = 5 := by omega
      have HT : Hid (flT fl = []) := by show _ = _; unfold flT; rw [HE.out]; rfl
      go_wp2_with fail
      go_ret
      exact ⟨by rw [HT.out]; rfl, Below.refl _ _⟩
variable {W : World} {g : Nat} {s : RS}
theorem must_of (s : RS) (x : List UInt8) : (if wordB s x then wordS s x else .gone) = mustS s x := by
  unfold mustS wordS
  split <;> rfl
theorem numN_le (s : RS) : numN s ≤ 4294967295 := by
  unfold numN
  cases hn : numO s with
  | none => exact Nat.zero_le _
  | some v =>
    unfold numO numR at hn
    split at hn
    · cases hn
    · split at hn
      · split at hn
        · cases hn; assumption
        · cases hn
      · cases hn
set_option maxRecDepth 100000 in
set_option maxHeartbeats 1000000 in
theorem tkLiteral_c (h : PR W g s) (hok : s.Ok) (hl : s.l.length ≤ 1100000) (hE : Errs W) (hg : Away g) : Calls Tryz.prog 184 #[pt g] W (Does W g (.string (txt (litV s))) (litS s)) := by
  have C1 := tkWord_c h hl [123] (by decide)
  have M1 : ∀ w, PR w g (wordS s [123]) → Calls Tryz.prog 161 #[pt g, .bool (wordB s [123])] w (Does w g (.tuple #[]) (mustS s [123])) := fun w hw => by
    have := tkmust_c hw (wordB s [123])
    rwa [must_of] at this
  have C2 : ∀ w, PR w g (mustS s [123]) → Errs w → Calls Tryz.prog 136 #[pt g] w (Does w g (.int .u32 (litN s)) (numS (mustS s [123]))) := fun w hw he =>
    tkNumber_c hw (hok.must _) (Nat.le_trans (must_le _ _) hl) he hg
  have hl2 : (numS (mustS s [123])).l.length ≤ 1100000 := Nat.le_trans (num_le _) (Nat.le_trans (must_le _ _) hl)
  have C3 : ∀ w, PR w g (numS (mustS s [123])) → Calls Tryz.prog 99 #[pt g, .string (txt [125, 13, 10])] w (Does w g (.bool (wordB (numS (mustS s [123])) [125, 13, 10])) (wordS (numS (mustS s [123])) [125, 13, 10])) := fun w hw =>
    tkWord_c hw hl2 _ (by decide)
  have M3 : ∀ w, PR w g (wordS (numS (mustS s [123])) [125, 13, 10]) → Calls Tryz.prog 161 #[pt g, .bool (wordB (numS (mustS s [123])) [125, 13, 10])] w (Does w g (.tuple #[]) (litH s)) := fun w hw => by
    have := tkmust_c hw (wordB (numS (mustS s [123])) [125, 13, 10])
    rwa [must_of] at this
  have hn9 : litN s ≤ 4294967295 := numN_le _
  have hl3 := Nat.le_trans (litH_le s) hl
  unfold litV litS litB
  rw [show txt [123] = ⟨#[123]⟩ from rfl] at C1
  rw [show txt [125, 13, 10] = ⟨#[125, 13, 10]⟩ from rfl] at C3
  obtain ⟨v1, hv1⟩ : ∃ v, Value.bool (wordB s [123]) = v := ⟨_, rfl⟩
  obtain ⟨v3, hv3⟩ : ∃ v, Value.bool (wordB (numS (mustS s [123])) [125, 13, 10]) = v := ⟨_, rfl⟩
  obtain ⟨t3, ht3⟩ : ∃ t, wordS (numS (mustS s [123])) [125, 13, 10] = t := ⟨_, rfl⟩
  obtain ⟨s2, hs2⟩ : ∃ t, numS (mustS s [123]) = t := ⟨_, rfl⟩
  obtain ⟨s1, hs1⟩ : ∃ t, mustS s [123] = t := ⟨_, rfl⟩
  obtain ⟨t1, ht1⟩ : ∃ t, wordS s [123] = t := ⟨_, rfl⟩
  obtain ⟨n, hn⟩ : ∃ n, litN s = n := ⟨_, rfl⟩
  obtain ⟨⟨l, f⟩, hs3⟩ : ∃ t, litH s = t := ⟨_, rfl⟩
  rw [hv1, ht1] at C1
  rw [hv1, ht1, hs1] at M1
  rw [hs2, hs1, hn] at C2
  rw [hv3, ht3, hs2] at C3
  rw [hv3, ht3, hs3] at M3
  rw [hs3, hn]
  rw [hn] at hn9
  rw [hs3] at hl3
  dsimp only at hl3 ⊢
  have C1 := Lib.hid C1
  have M1 := Lib.hid M1
  have C2 := Lib.hid C2
  have C3 := Lib.hid C3
  have M3 := Lib.hid M3
  have HE := Lib.hid hE
  obtain ⟨rv, hrv⟩ : ∃ rv, (if (!f && (decide (n ≤ 65536) && decide (n ≤ l.length))) = true then l.take n else []) = rv := ⟨_, rfl⟩
  obtain ⟨rs, hrs⟩ : ∃ rs, (if (!f && (decide (n ≤ 65536) && decide (n ≤ l.length))) = true then (⟨l.drop n, false⟩ : RS) else .gone) = rs := ⟨_, rfl⟩
  rw [hrv, hrs]
  have e1 := txt_size l
  obtain ⟨N, hN⟩ : ∃ N, l.length = N := ⟨_, rfl⟩
  rw [hN] at hrv hrs e1 hl3
  have hex : (txt l).extract 0 n = txt (l.take n) := ext_take l
  have hed : (txt l).extract n N = txt (l.drop n) := ext_drop l hN.symm
  obtain ⟨B, hB⟩ : ∃ B, txt l = B := ⟨_, rfl⟩
  rw [hB] at e1 hex hed
  have HB := Lib.hid hB
  have HEX := Lib.hid hex
  have HED := Lib.hid hed
  have HRV := Lib.hid hrv
  have HRS := Lib.hid hrs
  clear h hE hv1 hv3 ht3 hs2 hs1 ht1 hn hs3 hrv hrs hN hB hex hed
  go_enter Tryz.func184, Tryz.ntmps184
  go_wp2_with fail
  refine C1.out.mono ?_
  rintro e w1 ⟨rfl, h1, k1⟩
  have D1 := Lib.hid (M1.out _ h1)
  have K1 := Lib.hid k1
  clear h1 k1
  go_wp2_with fail
  refine D1.out.mono ?_
  rintro e w2 ⟨rfl, h2, k2⟩
  have K2 := Lib.hid (K1.out.trans k2)
  have D2 := Lib.hid (C2.out _ h2 (HE.out.tk K2.out hg))
  clear h2 k2
  go_wp2_with fail
  refine D2.out.mono ?_
  rintro e w3 ⟨rfl, h3, k3⟩
  have K3 := Lib.hid (K2.out.trans k3)
  have D3 := Lib.hid (C3.out _ h3)
  clear h3 k3
  go_wp2_with fail
  refine D3.out.mono ?_
  rintro e w4 ⟨rfl, h4, k4⟩
  have K4 := Lib.hid (K3.out.trans k4)
  have D4 := Lib.hid (M3.out _ h4)
  clear h4 k4
  go_wp2_with fail
  refine D4.out.mono ?_
  rintro e w5 ⟨rfl, h5, k5⟩
  have K5 := Lib.hid (K4.out.trans k5)
  obtain ⟨c0, c1, hb, f0, f1⟩ := h5.facts
  dsimp only at c0 c1
  rw [HB.out] at c0
  have H5 := Lib.hid h5
  have CF := Lib.hid (tkFail_c h5)
  clear h5 k5 C1 M1 C2 C3 M3 D1 D2 D3 D4 K1 K2 K3 K4
  cases f with
  | true =>
    have HQ : Hid ([] = rv ∧ RS.gone = rs) := ⟨by rw [← HRV.out]; rfl, by rw [← HRS.out]; rfl⟩
    go_wp2_with fail
    refine CF.out.mono ?_
    rintro e w6 ⟨rfl, h6, k6⟩
    have H6 := Lib.hid h6
    have K6 := Lib.hid (K5.out.trans k6)
    clear h6 k6
    go_wp2_with fail
    go_ret
    exact ⟨by rw [← HQ.out.1]; rfl, HQ.out.2 ▸ H6.out, K6.out⟩
  | false =>
    by_cases h1 : n ≤ 65536
    · have q1 : ¬ (65536 : Int) < n := by omega
      by_cases h2 : n ≤ N
      · have q2 : ¬ (N : Int) < n := by omega
        have q3 : (n : Int) ≤ N := by omega
        have HQ : Hid (l.take n = rv ∧ (⟨l.drop n, false⟩ : RS) = rs) := ⟨by rw [← HRV.out]; simp [h1, h2], by rw [← HRS.out]; simp [h1, h2]⟩
        go_wp2_with fail
        go_ret
        refine ⟨by rw [← HQ.out.1, ← HEX.out]; rfl, ?_, K5.out.trans (Tk.set _ _ _)⟩
        rw [← HQ.out.2]
        have h7 := H5.out.set0 (l.drop n)
        rw [← HED.out] at h7
        exact h7
      · have q2 : (N : Int) < n := by omega
        have HQ : Hid ([] = rv ∧ RS.gone = rs) := ⟨by rw [← HRV.out]; simp [h2], by rw [← HRS.out]; simp [h2]⟩
        go_wp2_with fail
        refine CF.out.mono ?_
        rintro e w6 ⟨rfl, h6, k6⟩
        have H6 := Lib.hid h6
        have K6 := Lib.hid (K5.out.trans k6)
        clear h6 k6
        go_wp2_with fail
        go_ret
        exact ⟨by rw [← HQ.out.1]; rfl, HQ.out.2 ▸ H6.out, K6.out⟩
    · have q1 : (65536 : Int) < n := by omega
      have HQ : Hid ([] = rv ∧ RS.gone = rs) := ⟨by rw [← HRV.out]; simp [h1], by rw [← HRS.out]; simp [h1]⟩
      go_wp2_with fail
      refine CF.out.mono ?_
      rintro e w6 ⟨rfl, h6, k6⟩
      have H6 := Lib.hid h6
      have K6 := Lib.hid (K5.out.trans k6)
      clear h6 k6
      go_wp2_with fail
      go_ret
      exact ⟨by rw [← HQ.out.1]; rfl, HQ.out.2 ▸ H6.out, K6.out⟩
end Go.Proofs.YtpnnchpaaopdcaaGreatDoor
namespace Go.Proofs.YtpnnchpaaopdcaaGreatDoor
open Go Go.RowKit
variable {W : World} {g : Nat} {s : RS}
theorem own_str {w : World} {base n : Nat} {v : Value} {l : List UInt8} (ho : w.ownsRow base 5 1 v n (Lib.byteCells l)) (hn : l.length = n) : (convert 97 9 v).run Tryz.prog w = .ok (.string (txt l)) w := by
  subst hn
  rcases ho.2 with ⟨rfl, h0⟩ | ⟨g, cap, cur, rfl, hg, hgg, rest⟩
  · obtain rfl : l = [] := List.length_eq_zero_iff.1 h0
    kernel_rfl
  · refine run_convert_bytes_back (P := Tryz.prog) w 97 9 5 ⟨g, 0, none⟩ cap l Tryz.underlying97 Tryz.underlying5 Tryz.underlying9 (fun j hj => ?_)
    exact ho.cells (g := g) rfl j _ (by simp [Lib.byteCells, List.getElem?_map, List.getElem?_eq_getElem hj])
theorem qd_at {l : List UInt8} {k : Nat} (hk : k < l.length) {c : UInt8} (hc : l[k] = c) :
    qd (l.drop k) = if c = 34 then some ([], l.drop (k + 1)) else if c = 13 ∨ c = 10 then none else if c = 92 then
      (match l.drop (k + 1) with | [] => none | d :: r' => if d = 34 ∨ d = 92 then (qd r').map fun x => (d :: x.1, x.2) else none) else (qd (l.drop (k + 1))).map fun x => (c :: x.1, x.2) := by
  rw [List.drop_eq_getElem_cons hk, hc]
  conv => lhs; unfold qd
  rfl
theorem qd_end {l : List UInt8} {k : Nat} (hk : l.length ≤ k) : qd (l.drop k) = none := by
  rw [List.drop_of_length_le hk]; rfl
def qS (R : Option (List UInt8 × List UInt8)) : RS := match R with | some x => ⟨x.2, false⟩ | none => .gone
def qV (R : Option (List UInt8 × List UInt8)) : List UInt8 := (R.map (·.1)).getD []
set_option maxRecDepth 100000 in
set_option maxHeartbeats 4000000 in
theorem tkquoted_c (h : PR W g s) (hf : s.f = false) (hl : s.l.length ≤ 1100000) : Calls Tryz.prog 183 #[pt g] W
    (Does W g (.string (txt (qV (qd s.l.tail)))) (qS (qd s.l.tail))) := by
  obtain ⟨i0, hi, hz0, hz1, hz2⟩ := info_parts Tryz.infoByte
  obtain ⟨c0, c1, hb, f0, f1⟩ := h.facts
  have H := Lib.hid h
  obtain ⟨l, f⟩ := s
  dsimp only at hf c0 c1 hl ⊢
  subst hf
  have e1 := txt_size l
  obtain ⟨N, hN⟩ : ∃ N, l.length = N := ⟨_, rfl⟩
  obtain ⟨R, hR⟩ : ∃ R, qd l.tail = R := ⟨_, rfl⟩
  have hR1 : qd (l.drop 1) = R := by rw [← hR, List.drop_one]
  rw [hR]
  obtain ⟨X, hX⟩ : ∃ X, qV R = X := ⟨_, rfl⟩
  obtain ⟨Y, hY⟩ : ∃ Y, qS R = Y := ⟨_, rfl⟩
  rw [hX, hY]
  have HX := Lib.hid hX
  have HY := Lib.hid hY
  have hed : ∀ k, (txt l).extract k N = txt (l.drop k) := fun k => ext_drop l hN.symm
  obtain ⟨B, hB⟩ : ∃ B, txt l = B := ⟨_, rfl⟩
  have hat : ∀ k (hk : k < B.size), l[k]? = some B[k] := fun k hk => by
    subst hB
    rw [at_txt (by rw [txt_size] at hk; exact hk)]; exact List.getElem?_eq_getElem _
  simp only [hB] at hed
  rw [hB] at c0 e1
  rw [hN] at e1 hl
  have HN := Lib.hid hN
  have HR := Lib.hid hR1
  have HED := Lib.hid hed
  have HAT := Lib.hid hat
  have HB := Lib.hid hB
  clear h hN hR hR1 hed hat hB hX hY
  go_enter Tryz.func183, Tryz.ntmps183
  go_wp2_with fail
  go_step3
  go_wp2_with fail
  go_step3
  go_wp2_with fail
  clear c0 c1 f0 f1
  go_loopw [3, 4, 5, 6] (fun bv ev iv _ wr => ev = .int .i64 0 ∧ ∃ (k : Nat) (acc : List UInt8) (n : Nat), k ≤ N + 1 ∧ 1 ≤ k ∧ iv = .int .i64 k ∧ n ≤ k ∧ (∃ a c, bv = .slice a n c) ∧ Hid (acc.length = n) ∧ Hid (R = (qd (l.drop k)).map fun x => (acc ++ x.1, x.2)) ∧ Hid (wr.ownsRow W.heap.size 5 1 bv n (Lib.byteCells acc)) ∧ Hid (Below W.heap.size W wr)) (fun _ _ iv _ _ => N + 1 - (intOf iv).toNat)
  case atStart => exact ⟨rfl, 1, [], 0, by omega, Nat.le_refl _, rfl, Nat.zero_le _, ⟨none, 0, rfl⟩, rfl, by show R = _; rw [HR.out]; simp, World.ownsRow_nil _ _ _ _, Below.refl _ _⟩
  case round =>
    obtain ⟨rfl, k, acc, n, hk, hk1, rfl, hnk, ⟨ba, bc, rfl⟩, HL, HM, HO, HW⟩ := hrel
    have hp := H.out.tk (Tk.of_below (g := g + 1) HW.out) (by omega)
    obtain ⟨c0, c1, hbr, f0, f1⟩ := hp.facts
    dsimp only at c0 c1
    rw [HB.out] at c0
    have CF := Lib.hid (tkFail_c hp)
    have HP := Lib.hid hp
    have hsz := HW.out.size
    clear hp
    have hno : R = none → Hid ([] = X ∧ RS.gone = Y) := fun h => ⟨by rw [← HX.out, h]; rfl, by rw [← HY.out, h]; rfl⟩
    have HNO := Lib.hid hno
    clear hno
    by_cases hlt : k < N
    · have hq : (k : Int) < N := by omega
      have hq0 : (0 : Int) ≤ k := by omega
      have hkB : k < B.size := by omega
      have hc1 : B[k].toNat < 256 := B[k].toNat_lt
      obtain ⟨hkl, hkc⟩ := List.getElem?_eq_some_iff.1 (HAT.out k hkB)
      have hqd := qd_at hkl hkc
      by_cases h34 : B[k].toNat = 34
      · have ec : ((B[k].toNat : Int) == 34) = true := qT (by omega)
        have h34' : B[k] = 34 := UInt8.toNat_inj.1 h34
        rw [if_pos h34'] at hqd
        have HQ : Hid (acc = X ∧ (⟨l.drop (k + 1), false⟩ : RS) = Y) := by
          have hRR := HM.out
          rw [hqd] at hRR
          exact ⟨by rw [← HX.out, hRR]; simp [qV], by rw [← HY.out, hRR]; rfl⟩
        have ek : ((k : Int) == 0) = false := qF (by omega)
        have kc : ∀ v, (wr.setCell ⟨g, 0, none⟩ v).ownsRow W.heap.size 5 1 (.slice ba n bc) n (Lib.byteCells acc) → (convert 97 9 (.slice ba n bc)).run Tryz.prog (wr.setCell ⟨g, 0, none⟩ v) = .ok (.string (txt acc)) (wr.setCell ⟨g, 0, none⟩ v) := fun v h => own_str h HL.out
        have ho : ∀ v, (wr.setCell ⟨g, 0, none⟩ v).ownsRow W.heap.size 5 1 (.slice ba n bc) n (Lib.byteCells acc) := fun v => by
          have h0 := HO.out
          refine ⟨h0.1, ?_⟩
          rcases h0.2 with hn | ⟨g', cap, cur, hv, hg', hgg, rest⟩
          · exact .inl hn
          · exact .inr ⟨g', cap, cur, hv, hg', (Below.heap_setCell wr ⟨g, 0, none⟩ v g' (by show g' ≠ g; omega)).trans hgg, rest⟩
        have kc2 := fun v => kc v (ho v)
        have hkN : (k : Int) + 1 ≤ N := by omega
        clear kc ho hqd hkc h34 h34'
        go_wp2_with fail
        rw [Exit.noGoto_ret]
        go_ret
        refine ⟨by rw [← HQ.out.1]; rfl, ?_, (Tk.of_below HW.out).trans (Tk.set _ _ _)⟩
        rw [← HQ.out.2]
        have h7 := HP.out.set0 (l.drop (k + 1))
        rw [← HED.out] at h7
        exact h7
      · have ec : ((B[k].toNat : Int) == 34) = false := qF (by omega)
        have h34' : B[k] ≠ 34 := fun e => h34 (by rw [e]; rfl)
        rw [if_neg h34'] at hqd
        by_cases h13 : B[k].toNat = 13
        · have ed : ((B[k].toNat : Int) == 13) = true := qT (by omega)
          rw [if_pos (.inl (UInt8.toNat_inj.1 h13))] at hqd
          have HQ := HNO.out (by rw [HM.out, hqd]; rfl)
          clear hqd hkc h34 h34' h13
          go_wp2_with fail
          refine CF.out.mono ?_
          rintro e w6 ⟨rfl, h6, k6⟩
          have H6 := Lib.hid h6
          have K6 := Lib.hid ((Tk.of_below HW.out).trans k6)
          clear h6 k6
          go_wp2_with fail
          rw [Exit.noGoto_ret]
          go_ret
          exact ⟨by rw [← HQ.out.1]; rfl, HQ.out.2 ▸ H6.out, K6.out⟩
        · have ed : ((B[k].toNat : Int) == 13) = false := qF (by omega)
          by_cases h10 : B[k].toNat = 10
          · have ee : ((B[k].toNat : Int) == 10) = true := qT (by omega)
            rw [if_pos (.inr (UInt8.toNat_inj.1 h10))] at hqd
            have HQ := HNO.out (by rw [HM.out, hqd]; rfl)
            clear hqd hkc h34 h34' h13 h10
            go_wp2_with fail
            refine CF.out.mono ?_
            rintro e w6 ⟨rfl, h6, k6⟩
            have H6 := Lib.hid h6
            have K6 := Lib.hid ((Tk.of_below HW.out).trans k6)
            clear h6 k6
            go_wp2_with fail
            rw [Exit.noGoto_ret]
            go_ret
            exact ⟨by rw [← HQ.out.1]; rfl, HQ.out.2 ▸ H6.out, K6.out⟩
          · have ee : ((B[k].toNat : Int) == 10) = false := qF (by omega)
            rw [if_neg (by rintro (e | e); · exact h13 (by rw [e]; rfl)
                           · exact h10 (by rw [e]; rfl))] at hqd
            by_cases h92 : B[k].toNat = 92
            · have eg : ((B[k].toNat : Int) == 92) = true := qT (by omega)
              rw [if_pos (UInt8.toNat_inj.1 h92)] at hqd
              by_cases hlt2 : k + 1 < N
              · have eh : ((k : Int) + 1 == (N : Int)) = false := qF (by omega)
                have hr2 : (k : Int) + 1 < N := by omega
                have hkB2 : k + 1 < B.size := by omega
                have hc2 : B[k + 1].toNat < 256 := B[k + 1].toNat_lt
                obtain ⟨hkl2, hkc2⟩ := List.getElem?_eq_some_iff.1 (HAT.out (k + 1) hkB2)
                rw [List.drop_eq_getElem_cons hkl2, hkc2] at hqd
                dsimp only at hqd
                by_cases hd : B[k + 1].toNat = 34 ∨ B[k + 1].toNat = 92
                · rw [if_pos (by rcases hd with e | e; · exact .inl (UInt8.toNat_inj.1 e)
                                 · exact .inr (UInt8.toNat_inj.1 e))] at hqd
                  have HM2 : Hid (R = (qd (l.drop (k + 2))).map fun x => ((acc ++ [B[k + 1]]) ++ x.1, x.2)) := by
                    show R = _
                    rw [HM.out, hqd, Option.map_map]; congr 1; funext x; simp
                  rcases hd with hd | hd
                  · have ei : (B[k + 1].toNat : Int) = 34 := by omega
                    have HM2 : Hid (R = (qd (l.drop (k + 2))).map fun x => ((acc ++ [34]) ++ x.1, x.2)) := by have := HM2.out; rw [UInt8.toNat_inj.1 (show B[k + 1].toNat = (34 : UInt8).toNat from hd)] at this; exact this
                    clear hqd hkc hkc2 h34 h34' h13 h10 h92 hd
                    go_wp2_with (at_builtin; refine wpList_append_own _ rfl (.tmp 64) (.tmp 66) 97 rfl W.heap.size 5 i0 (.int .u8 0) 1 1 Tryz.underlying97 hi hz0 hz1 hz2 rfl (by decide) _ _ _ rfl (HO.out.alloc _) ⟨wr.heap.size, 0, none⟩ 1 1 [.int .u8 34] rfl rfl (cell_one_new _ _ _) (fun x hx => by simp at hx; subst hx; rfl) (by unfold maxLen; omega) (by omega) (by simp; omega) ?_)
                    intro v' w4 hown4 hgrow4 _
                    have hb4 : Below W.heap.size W w4 := Below.grown (HW.out.alloc HW.out.size _) hgrow4 (by simp; omega) (fun j hj => (HO.out.lt _ hj).1)
                    obtain ⟨a4, c4, hv4⟩ := own_form hown4
                    have HO4 : Hid (w4.ownsRow W.heap.size 5 1 v' (n + 1) (Lib.byteCells (acc ++ [34]))) := by
                      show World.ownsRow _ _ _ _ _ _ _
                      rw [Lib.byteCells_append]; exact hown4
                    have HB4 := Lib.hid hb4
                    subst hv4
                    clear hown4 hgrow4 hb4
                    go_wp2_with fail
                    go_roundw
                    case rel => exact ⟨rfl, k + 2, acc ++ [34], n + 1, by omega, by omega, by go_num, by omega, ⟨_, _, rfl⟩, by show (acc ++ [34]).length = n + 1; rw [List.length_append, HL.out]; rfl, HM2.out, HO4.out, HB4.out⟩
                    case measure => simp [intOf]; omega
                  · have ei : ¬ (B[k + 1].toNat : Int) = 34 := by omega
                    have ej : (B[k + 1].toNat : Int) = 92 := by omega
                    have HM2 : Hid (R = (qd (l.drop (k + 2))).map fun x => ((acc ++ [92]) ++ x.1, x.2)) := by have := HM2.out; rw [UInt8.toNat_inj.1 (show B[k + 1].toNat = (92 : UInt8).toNat from hd)] at this; exact this
                    have h34n : B[k + 1].toNat ≠ 34 := by omega
                    clear hqd hkc hkc2 h34 h34' h13 h10 h92 hd
                    go_wp2_with (at_builtin; refine wpList_append_own _ rfl (.tmp 64) (.tmp 66) 97 rfl W.heap.size 5 i0 (.int .u8 0) 1 1 Tryz.underlying97 hi hz0 hz1 hz2 rfl (by decide) _ _ _ rfl (HO.out.alloc _) ⟨wr.heap.size, 0, none⟩ 1 1 [.int .u8 92] rfl rfl (cell_one_new _ _ _) (fun x hx => by simp at hx; subst hx; rfl) (by unfold maxLen; omega) (by omega) (by simp; omega) ?_)
                    intro v' w4 hown4 hgrow4 _
                    have hb4 : Below W.heap.size W w4 := Below.grown (HW.out.alloc HW.out.size _) hgrow4 (by simp; omega) (fun j hj => (HO.out.lt _ hj).1)
                    obtain ⟨a4, c4, hv4⟩ := own_form hown4
                    have HO4 : Hid (w4.ownsRow W.heap.size 5 1 v' (n + 1) (Lib.byteCells (acc ++ [92]))) := by
                      show World.ownsRow _ _ _ _ _ _ _
                      rw [Lib.byteCells_append]; exact hown4
                    have HB4 := Lib.hid hb4
                    subst hv4
                    clear hown4 hgrow4 hb4
                    go_wp2_with fail
                    go_roundw
                    case rel => exact ⟨rfl, k + 2, acc ++ [92], n + 1, by omega, by omega, by go_num, by omega, ⟨_, _, rfl⟩, by show (acc ++ [92]).length = n + 1; rw [List.length_append, HL.out]; rfl, HM2.out, HO4.out, HB4.out⟩
                    case measure => simp [intOf]; omega
                · have ei : ¬ (B[k + 1].toNat : Int) = 34 := fun e => hd (.inl (by omega))
                  have ej : ¬ (B[k + 1].toNat : Int) = 92 := fun e => hd (.inr (by omega))
                  have ei2 : ((B[k + 1].toNat : Int) != 34) = true := by rw [bne_iff_ne]; exact ei
                  have ej2 : ((B[k + 1].toNat : Int) != 92) = true := by rw [bne_iff_ne]; exact ej
                  rw [if_neg (by rintro (e | e); · exact hd (.inl (by rw [e]; rfl))
                                 · exact hd (.inr (by rw [e]; rfl)))] at hqd
                  have HQ := HNO.out (by rw [HM.out, hqd]; rfl)
                  clear hqd hkc hkc2 h34 h34' h13 h10 h92 hd
                  go_wp2_with fail
                  refine CF.out.mono ?_
                  rintro e w6 ⟨rfl, h6, k6⟩
                  have H6 := Lib.hid h6
                  have K6 := Lib.hid ((Tk.of_below HW.out).trans k6)
                  clear h6 k6
                  go_wp2_with fail
                  rw [Exit.noGoto_ret]
                  go_ret
                  exact ⟨by rw [← HQ.out.1]; rfl, HQ.out.2 ▸ H6.out, K6.out⟩
              · have eh : ((k : Int) + 1 == (N : Int)) = true := qT (by omega)
                rw [show l.drop (k + 1) = [] from List.drop_of_length_le (by rw [HN.out]; omega)] at hqd
                dsimp only at hqd
                have HQ := HNO.out (by rw [HM.out, hqd]; rfl)
                clear hqd hkc h34 h34' h13 h10 h92
                go_wp2_with fail
                refine CF.out.mono ?_
                rintro e w6 ⟨rfl, h6, k6⟩
                have H6 := Lib.hid h6
                have K6 := Lib.hid ((Tk.of_below HW.out).trans k6)
                clear h6 k6
                go_wp2_with fail
                rw [Exit.noGoto_ret]
                go_ret
                exact ⟨by rw [← HQ.out.1]; rfl, HQ.out.2 ▸ H6.out, K6.out⟩
            · have eg : ((B[k].toNat : Int) == 92) = false := qF (by omega)
              rw [if_neg (fun e => h92 (by rw [e]; rfl))] at hqd
              have HM2 : Hid (R = (qd (l.drop (k + 1))).map fun x => ((acc ++ [B[k]]) ++ x.1, x.2)) := by
                show R = _
                rw [HM.out, hqd, Option.map_map]; congr 1; funext x; simp
              clear hqd hkc h34 h34' h13 h10 h92
              go_wp2_with (at_builtin; refine wpList_append_own _ rfl (.tmp 64) (.tmp 66) 97 rfl W.heap.size 5 i0 (.int .u8 0) 1 1 Tryz.underlying97 hi hz0 hz1 hz2 rfl (by decide) _ _ _ rfl (HO.out.alloc _) ⟨wr.heap.size, 0, none⟩ 1 1 [.int .u8 B[k].toNat] rfl rfl (cell_one_new _ _ _) (fun x hx => by simp at hx; subst hx; rfl) (by unfold maxLen; omega) (by omega) (by simp; omega) ?_)
              intro v' w4 hown4 hgrow4 _
              have hb4 : Below W.heap.size W w4 := Below.grown (HW.out.alloc HW.out.size _) hgrow4 (by simp; omega) (fun j hj => (HO.out.lt _ hj).1)
              obtain ⟨a4, c4, hv4⟩ := own_form hown4
              have HO4 : Hid (w4.ownsRow W.heap.size 5 1 v' (n + 1) (Lib.byteCells (acc ++ [B[k]]))) := by
                show World.ownsRow _ _ _ _ _ _ _
                rw [Lib.byteCells_append]; exact hown4
              have HB4 := Lib.hid hb4
              subst hv4
              clear hown4 hgrow4 hb4
              go_wp2_with fail
              go_roundw
              case rel => exact ⟨rfl, k + 1, acc ++ [B[k]], n + 1, by omega, by omega, by go_num, by omega, ⟨_, _, rfl⟩, by show (acc ++ [B[k]]).length = n + 1; rw [List.length_append, HL.out]; rfl, HM2.out, HO4.out, HB4.out⟩
              case measure => simp [intOf]; omega
    · have hq : ¬ (k : Int) < N := by omega
      have HQ := HNO.out (by rw [HM.out, qd_end (by rw [HN.out]; omega)]; rfl)
      go_wp2_with fail
      refine CF.out.mono ?_
      rintro e w6 ⟨rfl, h6, k6⟩
      have H6 := Lib.hid h6
      have K6 := Lib.hid ((Tk.of_below HW.out).trans k6)
      clear h6 k6
      go_wp2_with fail
      rw [Exit.noGoto_ret]
      go_ret
      exact ⟨by rw [← HQ.out.1]; rfl, HQ.out.2 ▸ H6.out, K6.out⟩
end Go.Proofs.YtpnnchpaaopdcaaGreatDoor
namespace Go.Proofs.YtpnnchpaaopdcaaGreatDoor
open Go Go.RowKit
variable {W : World} {g : Nat} {s : RS}
set_option maxRecDepth 100000 in
set_option maxHeartbeats 1000000 in
theorem tkString_c (h : PR W g s) (hok : s.Ok) (hl : s.l.length ≤ 1100000) (hE : Errs W) (hg : Away g) : Calls Tryz.prog 137 #[pt g] W (Does W g (.string (txt (strV s))) (strS s)) := by
  have N1 := tkNext_c h 34 34 rfl
  have N2 := tkNext_c h 123 123 rfl
  unfold nextB at N1 N2
  rw [show ((34 : Nat) : Int) = 34 from rfl] at N1
  rw [show ((123 : Nat) : Int) = 123 from rfl] at N2
  by_cases h1 : s.l.head? = some 34
  · have hf : s.f = false := by
      cases hf : s.f with
      | false => rfl
      | true => rw [hok hf] at h1; cases h1
    have C := tkquoted_c h hf hl
    have hv : strV s = qV (qd s.l.tail) := by unfold strV; rw [if_pos h1]; rfl
    have hs : strS s = qS (qd s.l.tail) := by unfold strS qS; rw [if_pos h1]; cases qd s.l.tail <;> simp [hf]
    rw [hv, hs]
    rw [show (s.l.head? == some 34) = true by rw [h1]; rfl] at N1
    obtain ⟨V, hV⟩ : ∃ V, txt (qV (qd s.l.tail)) = V := ⟨_, rfl⟩
    obtain ⟨T, hT⟩ : ∃ T, qS (qd s.l.tail) = T := ⟨_, rfl⟩
    rw [hV, hT] at C ⊢
    have C := Lib.hid C
    have N1 := Lib.hid N1
    clear h hV hT hv hs h1 N2
    go_enter Tryz.func137, Tryz.ntmps137
    go_wp2_with fail
    refine N1.out.mono ?_
    rintro e w1 ⟨rfl, rfl⟩
    go_wp2_with fail
    refine C.out.mono ?_
    rintro e w2 ⟨rfl, h2, k2⟩
    have H2 := Lib.hid h2
    have K2 := Lib.hid k2
    clear h2 k2
    go_wp2_with fail
    go_ret
    exact ⟨rfl, H2.out, K2.out⟩
  · rw [show (s.l.head? == some 34) = false by rw [beq_eq_false_iff_ne]; exact h1] at N1
    by_cases h2 : s.l.head? = some 123
    · have C := tkLiteral_c h hok hl hE hg
      have hv : strV s = litV s := by unfold strV; rw [if_neg h1, if_pos h2]
      have hs : strS s = litS s := by unfold strS; rw [if_neg h1, if_pos h2]
      rw [hv, hs]
      rw [show (s.l.head? == some 123) = true by rw [h2]; rfl] at N2
      obtain ⟨V, hV⟩ : ∃ V, txt (litV s) = V := ⟨_, rfl⟩
      obtain ⟨T, hT⟩ : ∃ T, litS s = T := ⟨_, rfl⟩
      rw [hV, hT] at C ⊢
      have C := Lib.hid C
      have N1 := Lib.hid N1
      have N2 := Lib.hid N2
      clear h hV hT hv hs h1 h2
      go_enter Tryz.func137, Tryz.ntmps137
      go_wp2_with fail
      refine N1.out.mono ?_
      rintro e w1 ⟨rfl, rfl⟩
      go_wp2_with fail
      refine N2.out.mono ?_
      rintro e w1 ⟨rfl, rfl⟩
      go_wp2_with fail
      refine C.out.mono ?_
      rintro e w2 ⟨rfl, h2, k2⟩
      have H2 := Lib.hid h2
      have K2 := Lib.hid k2
      clear h2 k2
      go_wp2_with fail
      go_ret
      exact ⟨rfl, H2.out, K2.out⟩
    · have C := tkAtom_c h hok hl
      have hv : strV s = atomV s := by unfold strV; rw [if_neg h1, if_neg h2]
      have hs : strS s = atomS s := by unfold strS; rw [if_neg h1, if_neg h2]
      rw [hv, hs]
      rw [show (s.l.head? == some 123) = false by rw [beq_eq_false_iff_ne]; exact h2] at N2
      obtain ⟨V, hV⟩ : ∃ V, txt (atomV s) = V := ⟨_, rfl⟩
      obtain ⟨T, hT⟩ : ∃ T, atomS s = T := ⟨_, rfl⟩
      rw [hV, hT] at C ⊢
      have C := Lib.hid C
      have N1 := Lib.hid N1
      have N2 := Lib.hid N2
      clear h hV hT hv hs h1 h2
      go_enter Tryz.func137, Tryz.ntmps137
      go_wp2_with fail
      refine N1.out.mono ?_
      rintro e w1 ⟨rfl, rfl⟩
      go_wp2_with fail
      refine N2.out.mono ?_
      rintro e w1 ⟨rfl, rfl⟩
      go_wp2_with fail
      refine C.out.mono ?_
      rintro e w2 ⟨rfl, h2, k2⟩
      have H2 := Lib.hid h2
      have K2 := Lib.hid k2
      clear h2 k2
      go_wp2_with fail
      go_ret
      exact ⟨rfl, H2.out, K2.out⟩
end Go.Proofs.YtpnnchpaaopdcaaGreatDoor
namespace Go.Proofs.YtpnnchpaaopdcaaGreatDoor
open Go Go.RowKit
variable {W : World} {g : Nat} {s : RS}
theorem Errs.away {w : World} (h : Errs w) (hg : w.heap.size ≤ g) : Away g := by
  obtain ⟨⟨t1, p1, h1⟩, t2, p2, h2⟩ := h
  have a := cell_ltA h1
  have b := cell_ltA h2
  exact ⟨by dsimp only at a; omega, by dsimp only at b; omega⟩
end Go.Proofs.YtpnnchpaaopdcaaGreatDoor
namespace Go.Proofs.YtpnnchpaaopdcaaGreatDoor
open Go Go.RowKit
def isAtomB (l : List UInt8) : Bool := !(atomS ⟨l, false⟩).f && (atomS ⟨l, false⟩).l.isEmpty
theorem tkisAtom_c (l : List UInt8) (hl : l.length ≤ 100000) (W : World) : Calls Tryz.prog 147 #[.string (txt l)] W fun e w' => e = .returned (.bool (isAtomB l)) ∧ Below W.heap.size W w' := by
  have C := Lib.hid (tkRead_c l W)
  obtain ⟨B, hB⟩ : ∃ B, txt l = B := ⟨_, rfl⟩
  rw [hB] at C ⊢
  go_enter Tryz.func147, Tryz.ntmps147
  go_wp2_with (first | (refine C.out.mono ?_; rintro e w1 ⟨rfl, hp, hb⟩; have C2 := Lib.hid (tkAtom_c hp (fun h => by cases h) (Nat.le_trans hl (by omega))); have HB := Lib.hid hb; clear hp hb) | (refine C2.out.mono ?_; rintro e w2 ⟨rfl, hp, hk⟩; have C3 := Lib.hid (tkEnd_c hp); have HD := Lib.hid hk; clear hp hk) | (refine C3.out.mono ?_; rintro e w3 ⟨rfl, rfl⟩))
  go_ret
  exact ⟨rfl, HB.out.trans (HD.out.below (Nat.le_refl _) HB.out.size)⟩
variable {W : World} {g : Nat} {s : RS} {S : List UInt8}
def DR (W : World) (g : Nat) (S : List UInt8) (a : Nat) (f : Bool) : Prop := Cells W g 60 #[.string (txt S), .int .i64 a, .bool f]
def dS (S : List UInt8) (a : Nat) (f : Bool) : RS := if f then .gone else ⟨S.drop a, false⟩
def DRS (W : World) (g : Nat) (S : List UInt8) (s : RS) : Prop := ∃ a f, DR W g S a f ∧ a ≤ S.length ∧ dS S a f = s
theorem atomic_eq : ∀ n < 256, (decide (32 < n) && (decide (n ≤ 126) && !offL.contains (UInt8.ofNat n))) = decide (33 ≤ n ∧ n ≤ 126 ∧ n ≠ 40 ∧ n ≠ 41 ∧ n ≠ 123 ∧ n ≠ 37 ∧ n ≠ 42 ∧ n ≠ 34 ∧ n ≠ 92 ∧ n ≠ 93) := by decide +kernel
set_option maxRecDepth 20000 in
set_option maxHeartbeats 1000000 in
theorem rtAtomic_c (n : Nat) (x : UInt8) (hx : x.toNat = n) (w : World) : Calls Tryz.prog 112 #[.int .u8 n] w fun e w' => e = .returned (.bool (atomB x)) ∧ w' = w := by
  have hn : n < 256 := by rw [← hx]; exact x.toNat_lt
  have hxn : x = UInt8.ofNat n := by rw [← hx]; exact UInt8.toNat_inj.1 (by rw [UInt8.toNat_ofNat']; have := x.toNat_lt; omega)
  have hA : atomB x = (decide (32 < n) && (decide (n ≤ 126) && !offL.contains (UInt8.ofNat n))) := by
    unfold atomB; rw [hx, hxn]; rfl
  rw [hA, atomic_eq n hn]
  clear hA hxn hx
  obtain ⟨v, hv⟩ : ∃ v, decide (33 ≤ n ∧ n ≤ 126 ∧ n ≠ 40 ∧ n ≠ 41 ∧ n ≠ 123 ∧ n ≠ 37 ∧ n ≠ 42 ∧ n ≠ 34 ∧ n ≠ 92 ∧ n ≠ 93) = v := ⟨_, rfl⟩
  rw [hv]
  by_cases h1 : n < 33
  · have q : (n : Int) < 33 := by omega
    obtain rfl : v = false := by rw [← hv, decide_eq_false_iff_not]; omega
    clear hv
    go_enter Tryz.func112, Tryz.ntmps112
    go_wp2_with fail
    go_ret
    exact ⟨rfl, rfl⟩
  have q : ¬ (n : Int) < 33 := by omega
  by_cases h2 : 126 < n
  · have q2 : (126 : Int) < n := by omega
    obtain rfl : v = false := by rw [← hv, decide_eq_false_iff_not]; omega
    clear hv
    go_enter Tryz.func112, Tryz.ntmps112
    go_wp2_with fail
    go_ret
    exact ⟨rfl, rfl⟩
  have q2 : ¬ (126 : Int) < n := by omega
  by_cases k40 : n = 40
  · subst k40
    obtain rfl : v = false := by rw [← hv]; rfl
    clear hv q q2
    go_enter Tryz.func112, Tryz.ntmps112
    go_wp2_with fail
    go_ret
    exact ⟨rfl, rfl⟩
  have b40 : ((n : Int) == 40) = false := qF (by omega)
  have d40 : ((n : Int) != 40) = true := qN (by omega)
  by_cases k41 : n = 41
  · subst k41
    obtain rfl : v = false := by rw [← hv]; rfl
    clear hv q q2
    go_enter Tryz.func112, Tryz.ntmps112
    go_wp2_with fail
    go_ret
    exact ⟨rfl, rfl⟩
  have b41 : ((n : Int) == 41) = false := qF (by omega)
  have d41 : ((n : Int) != 41) = true := qN (by omega)
  by_cases k123 : n = 123
  · subst k123
    obtain rfl : v = false := by rw [← hv]; rfl
    clear hv q q2
    go_enter Tryz.func112, Tryz.ntmps112
    go_wp2_with fail
    go_ret
    exact ⟨rfl, rfl⟩
  have b123 : ((n : Int) == 123) = false := qF (by omega)
  have d123 : ((n : Int) != 123) = true := qN (by omega)
  by_cases k37 : n = 37
  · subst k37
    obtain rfl : v = false := by rw [← hv]; rfl
    clear hv q q2
    go_enter Tryz.func112, Tryz.ntmps112
    go_wp2_with fail
    go_ret
    exact ⟨rfl, rfl⟩
  have b37 : ((n : Int) == 37) = false := qF (by omega)
  have d37 : ((n : Int) != 37) = true := qN (by omega)
  by_cases k42 : n = 42
  · subst k42
    obtain rfl : v = false := by rw [← hv]; rfl
    clear hv q q2
    go_enter Tryz.func112, Tryz.ntmps112
    go_wp2_with fail
    go_ret
    exact ⟨rfl, rfl⟩
  have b42 : ((n : Int) == 42) = false := qF (by omega)
  have d42 : ((n : Int) != 42) = true := qN (by omega)
  by_cases k34 : n = 34
  · subst k34
    obtain rfl : v = false := by rw [← hv]; rfl
    clear hv q q2
    go_enter Tryz.func112, Tryz.ntmps112
    go_wp2_with fail
    go_ret
    exact ⟨rfl, rfl⟩
  have b34 : ((n : Int) == 34) = false := qF (by omega)
  have d34 : ((n : Int) != 34) = true := qN (by omega)
  by_cases k92 : n = 92
  · subst k92
    obtain rfl : v = false := by rw [← hv]; rfl
    clear hv q q2
    go_enter Tryz.func112, Tryz.ntmps112
    go_wp2_with fail
    go_ret
    exact ⟨rfl, rfl⟩
  have b92 : ((n : Int) == 92) = false := qF (by omega)
  have d92 : ((n : Int) != 92) = true := qN (by omega)
  by_cases k93 : n = 93
  · subst k93
    obtain rfl : v = false := by rw [← hv]; rfl
    clear hv q q2
    go_enter Tryz.func112, Tryz.ntmps112
    go_wp2_with fail
    go_ret
    exact ⟨rfl, rfl⟩
  have b93 : ((n : Int) == 93) = false := qF (by omega)
  have d93 : ((n : Int) != 93) = true := qN (by omega)
  obtain rfl : v = true := by rw [← hv, decide_eq_true_iff]; omega
  clear hv
  go_enter Tryz.func112, Tryz.ntmps112
  go_wp2_with fail
  go_ret
  exact ⟨by simp [b93, d93], rfl⟩
set_option maxRecDepth 100000 in
set_option maxHeartbeats 1000000 in
theorem rtrow0_c (l : List UInt8) (hl : l.length ≤ 100000) (W : World) : Calls Tryz.prog 117 #[.string (txt l), .int .i64 0] W fun e w' => e = .returned (.int .i64 (l.takeWhile atomB).length) ∧ w' = W := by
  have e1 := txt_size l
  obtain ⟨N, hN⟩ : ∃ N, l.length = N := ⟨_, rfl⟩
  obtain ⟨B, hB⟩ : ∃ B, txt l = B := ⟨_, rfl⟩
  have hat : ∀ k (hk : k < B.size), l[k]? = some B[k] := fun k hk => by
    subst hB
    rw [at_txt (by rw [txt_size] at hk; exact hk)]; exact List.getElem?_eq_getElem _
  rw [hB] at e1 ⊢
  rw [hN] at e1 hl
  have HAT := Lib.hid hat
  have HN := Lib.hid hN
  clear hB hN hat
  go_enter Tryz.func117, Tryz.ntmps117
  go_wp2_with fail
  go_loop [5] (fun i => ∃ k : Nat, k ≤ N ∧ i = .int .i64 k ∧ Hid (k ≤ (l.takeWhile atomB).length)) (fun i => N - (intOf i).toNat)
  case atStart => exact ⟨0, Nat.zero_le _, rfl, Nat.zero_le _⟩
  case round =>
    obtain ⟨k, hk, rfl, HK⟩ := hrel
    by_cases hlt : k < N
    · have hq : (k : Int) < N := by omega
      have hq0 : (0 : Int) ≤ k := by omega
      have hkB : k < B.size := by omega
      have hc1 : B[k].toNat < 256 := B[k].toNat_lt
      have hstep := tw_step HK.out (by rw [HN.out]; exact hlt)
      obtain ⟨_, hbk⟩ := List.getElem?_eq_some_iff.1 (HAT.out k hkB)
      rw [hbk] at hstep
      have C := rtAtomic_c (B[k].toNat) B[k] rfl W
      obtain ⟨b, hbb⟩ : ∃ b, atomB B[k] = b := ⟨_, rfl⟩
      rw [hbb] at C hstep
      have C := Lib.hid C
      have HS := Lib.hid hstep
      clear hstep hbb hbk
      cases b with
      | true =>
        have HK2 : Hid (k + 1 ≤ (l.takeWhile atomB).length) := HS.out.1 rfl
        go_wp2_with fail
        refine C.out.mono ?_
        rintro e w' ⟨rfl, rfl⟩
        go_wp2_with fail
        go_round
        case rel => exact ⟨k + 1, by omega, by go_num, HK2.out⟩
        case measure => simp [intOf]; omega
      | false =>
        have HZ : Hid (k = (l.takeWhile atomB).length) := HS.out.2 rfl
        go_wp2_with fail
        refine C.out.mono ?_
        rintro e w' ⟨rfl, rfl⟩
        go_wp2_with fail
        go_ret
        exact ⟨by rw [← HZ.out]; rfl, rfl⟩
    · obtain rfl : k = N := by omega
      have hq : ¬ (k : Int) < k := by omega
      have HZ : Hid (k = (l.takeWhile atomB).length) := tw_end HK.out (by rw [HN.out]; omega)
      go_wp2_with fail
      go_ret
      exact ⟨by rw [← HZ.out]; rfl, rfl⟩
end Go.Proofs.YtpnnchpaaopdcaaGreatDoor
namespace Go.Proofs.YtpnnchpaaopdcaaGreatDoor
open Go Go.RowKit
variable {W : World} {g : Nat} {s : RS} {S : List UInt8}
end Go.Proofs.YtpnnchpaaopdcaaGreatDoor
namespace Go.Proofs.YtpnnchpaaopdcaaGreatDoor
open Go Go.RowKit
variable {W : World} {g : Nat} {s : RS} {S : List UInt8}
end Go.Proofs.YtpnnchpaaopdcaaGreatDoor
namespace Go.Proofs.YtpnnchpaaopdcaaGreatDoor
open Go Go.RowKit
variable {W : World} {g : Nat} {s : RS} {S : List UInt8}
end Go.Proofs.YtpnnchpaaopdcaaGreatDoor
namespace Go.Proofs.YtpnnchpaaopdcaaGreatDoor
open Go
theorem countP_less {l : List Nat} {p q : Nat → Bool} (h : ∀ x ∈ l, q x = true → p x = true) {i : Nat} (hi : i ∈ l) (hp : p i = true) (hq : q i = false) : l.countP q < l.countP p := by
  induction l with
  | nil => simp at hi
  | cons x r ih =>
    rw [List.countP_cons, List.countP_cons]
    have hle : r.countP q ≤ r.countP p := List.countP_mono_left fun y hy => h y (by simp [hy])
    rcases List.mem_cons.1 hi with e | hi
    · subst e
      rw [hp, hq]
      simp
      omega
    · have := ih (fun y hy => h y (by simp [hy])) hi
      have hx := h x (by simp)
      by_cases hqx : q x = true
      · rw [hqx, hx hqx]; simp; omega
      · rw [if_neg hqx]
        split <;> omega
def backB (ops : Array Oper) : Bool := (List.range ops.size).all fun i => ((ops[i]?).map fun o => o.after.all fun e => decide (e.on < i)).getD true
theorem backB_at {ops : Array Oper} (h : backB ops = true) {i : Nat} {o : Oper} (ho : ops[i]? = some o) : ∀ e ∈ o.after, e.on < i := by
  intro e he
  have hi := (Array.getElem?_eq_some_iff.1 ho).1
  have h2 := List.all_eq_true.1 h i (List.mem_range.2 hi)
  rw [ho] at h2
  have h3 : (o.after.all fun e => decide (e.on < i)) = true := h2
  rw [Array.all_eq_true'] at h3
  simpa using h3 e he
theorem wpAny_inv {P : Program} {md : Region.Mode} {ops : Array Oper} {Q : Exit → Act → World → Prop} (I : (Nat → Bool) → Act → World → Prop) (hb : backB ops = true)
    (hstep : ∀ (i : Nat) (o : Oper) (L : Nat → Bool) (a : Act) (w : World), ops[i]? = some o → L i = false → (∀ e ∈ o.after, Region.binds md e = true → L e.on = true) → I L a w →
      wpOp P ops Q i (fun a' w' => I (fun j => if j = i then true else L j) a' w') a w)
    (hend : ∀ (L : Nat → Bool) (a : Act) (w : World), (∀ i, i < ops.size → L i = true) → I L a w → Q .normal a w) :
    ∀ (fuel : Nat) (listed : Array Bool) (a : Act) (w : World), listed.size = ops.size → (List.range ops.size).countP (fun j => !listed.getD j true) ≤ fuel → I (fun j => listed.getD j false) a w → wpAny P md ops Q fuel listed a w := by
  have hnil : ∀ listed : Array Bool, listed.size = ops.size → Region.ready md ops listed = [] → ∀ i, i < ops.size → listed.getD i false = true := by
    intro listed hs hr i
    induction i using Nat.strongRecOn with
    | _ i ih =>
      intro hi
      cases hl : listed.getD i true with
      | true => simpa [show i < listed.size by omega] using hl
      | false =>
        have : i ∈ Region.ready md ops listed := mem_ready.2 ⟨hl, ops[i], Array.getElem?_eq_getElem hi, fun e he _ => by
          have hlt := backB_at hb (Array.getElem?_eq_getElem hi) e he
          exact ih e.on hlt (by omega)⟩
        rw [hr] at this
        simp at this
  intro fuel
  induction fuel with
  | zero =>
    intro listed a w hs hc hI
    have hall : ∀ i, i < ops.size → listed.getD i true = true := fun i hi => by
      have h0 := List.countP_eq_zero.1 (Nat.le_zero.1 hc) i (List.mem_range.2 hi)
      simpa using h0
    have hr : Region.ready md ops listed = [] := by
      cases hq : Region.ready md ops listed with
      | nil => rfl
      | cons x xs =>
        have hx : x ∈ Region.ready md ops listed := by rw [hq]; simp
        obtain ⟨h1, o, ho, _⟩ := mem_ready.1 hx
        have := hall x (Array.getElem?_eq_some_iff.1 ho).1
        rw [this] at h1; cases h1
    exact ⟨hr, hend _ _ _ (hnil listed hs hr) hI⟩
  | succ fuel ih =>
    intro listed a w hs hc hI
    refine ⟨fun hr => hend _ _ _ (hnil listed hs hr) hI, fun i hi => ?_⟩
    obtain ⟨h1, o, ho, hall⟩ := mem_ready.1 hi
    have hil := (Array.getElem?_eq_some_iff.1 ho).1
    have h2 : listed.getD i false = false := by simpa [show i < listed.size by omega] using h1
    refine wpOp_mono (fun a' w' h => ih _ _ _ (by simpa using hs) ?_ ?_) (hstep i o _ a w ho h2 hall hI)
    · have hlt : (List.range ops.size).countP (fun j => !(listed.setIfInBounds i true).getD j true) < (List.range ops.size).countP (fun j => !listed.getD j true) :=
        countP_less (i := i) (fun x hx hq => by
          by_cases e : i = x
          · subst e; simp [show i < listed.size by omega] at hq
          · rw [getD_set_ne true e] at hq; exact hq) (List.mem_range.2 hil) (by rw [h1]; rfl) (by simp [show i < listed.size by omega])
      omega
    · have e : (fun j => (listed.setIfInBounds i true).getD j false) = fun j => if j = i then true else listed.getD j false := by
        funext j
        by_cases e : i = j
        · subst e; simp [show i < listed.size by omega]
        · rw [getD_set_ne false e, if_neg (fun h => e h.symm)]
      rw [e]
      exact h
def slotsPut : List Nat → (Nat → Value) → Act → Act
  | [], _, a => a
  | s :: r, vs, a => slotsPut r vs (a.put (some s) (vs s))
theorem wp_region_slots {P : Program} {id : Nat} {ops : Array Oper} {Q : Exit → Act → World → Prop} {a : Act} {w : World} (slots : List Nat) (J : (Nat → Bool) → (Nat → Value) → World → Prop) (hm : P.follows .mixedOrders = true) (hb : backB ops = true)
    (h0 : ∃ vs, a = slotsPut slots vs a ∧ J (fun _ => false) vs w.drew)
    (hstep : ∀ (i : Nat) (o : Oper) (L : Nat → Bool) (vs : Nat → Value) (w : World), ops[i]? = some o → L i = false → (∀ e ∈ o.after, Region.binds .any e = true → L e.on = true) → J L vs w →
      wpOp P ops Q i (fun a' w' => ∃ vs', a' = slotsPut slots vs' a ∧ J (fun j => if j = i then true else L j) vs' w') (slotsPut slots vs a) w)
    (hend : ∀ (L : Nat → Bool) (vs : Nat → Value) (w : World), (∀ i, i < ops.size → L i = true) → J L vs w → Q .normal (slotsPut slots vs a) w) : (Code.region id ops true).wp P Q a w := by
  refine wp_region_any hm (wpAny_inv (fun L a' w' => ∃ vs, a' = slotsPut slots vs a ∧ J L vs w') hb (fun i o L a' w' ho hL hA hI => ?_) (fun L a' w' hL hI => ?_) ops.size _ a _ (by simp) ?_ ?_)
  · obtain ⟨vs, rfl, hJ⟩ := hI
    exact hstep i o L vs w' ho hL hA hJ
  · obtain ⟨vs, rfl, hJ⟩ := hI
    exact hend L vs w' hL hJ
  · exact Nat.le_trans List.countP_le_length (by simp)
  · have e : (fun j => (Array.replicate ops.size false).getD j false) = fun _ => false := by
      funext j
      by_cases h : j < ops.size <;> simp [h]
    rw [e]
    exact h0
theorem put_self (a : Act) (s : Nat) : a.put (some s) (a.tmps.getD s undef) = a := by
  cases a with
  | mk t d =>
    show Act.mk (t.setIfInBounds s (t.getD s undef)) d = Act.mk t d
    congr 1
    apply Array.ext
    · simp
    · intro i h1 h2
      rw [Array.getElem_setIfInBounds]
      split
      · rename_i e; subst e; simp [h2]
      · rfl
theorem slots_self (slots : List Nat) (a : Act) : slotsPut slots (fun s => a.tmps.getD s undef) a = a := by
  induction slots with
  | nil => rfl
  | cons s r ih =>
    unfold slotsPut
    rw [put_self, ih]
theorem wp_region_slots2 {P : Program} {id : Nat} {ops : Array Oper} {Q : Exit → Act → World → Prop} {a : Act} {w : World} (slots : List Nat) (J : (Nat → Bool) → (Nat → Value) → World → Prop) (hm : P.follows .mixedOrders = true) (hb : backB ops = true)
    (h0 : ∀ vs, J (fun _ => false) vs w.drew)
    (hstep : ∀ (i : Nat) (o : Oper) (L : Nat → Bool) (vs : Nat → Value) (w : World), ops[i]? = some o → L i = false → (∀ e ∈ o.after, Region.binds .any e = true → L e.on = true) → J L vs w →
      wpOp P ops Q i (fun a' w' => ∃ vs', a' = slotsPut slots vs' a ∧ J (fun j => if j = i then true else L j) vs' w') (slotsPut slots vs a) w)
    (hend : ∀ (L : Nat → Bool) (vs : Nat → Value) (w : World), (∀ i, i < ops.size → L i = true) → J L vs w → Q .normal (slotsPut slots vs a) w) : (Code.region id ops true).wp P Q a w :=
  wp_region_slots slots J hm hb ⟨_, (slots_self slots a).symm, h0 _⟩ hstep hend
theorem wpAnyIn_inv {F : Fence} {n : Nat} {P : Program} {md : Region.Mode} {ops : Array Oper} {Q : Exit → Act → World → Prop} (I : (Nat → Bool) → Act → World → Prop) (hb : backB ops = true)
    (hstep : ∀ (i : Nat) (o : Oper) (L : Nat → Bool) (a : Act) (w : World), ops[i]? = some o → L i = false → (∀ e ∈ o.after, Region.binds md e = true → L e.on = true) → I L a w →
      wpOpIn F n P ops Q i (fun a' w' => I (fun j => if j = i then true else L j) a' w') a w)
    (hend : ∀ (L : Nat → Bool) (a : Act) (w : World), (∀ i, i < ops.size → L i = true) → I L a w → Q .normal a w) :
    ∀ (fuel : Nat) (listed : Array Bool) (a : Act) (w : World), listed.size = ops.size → (List.range ops.size).countP (fun j => !listed.getD j true) ≤ fuel → I (fun j => listed.getD j false) a w → wpAnyIn F n P md ops Q fuel listed a w := by
  have hnil : ∀ listed : Array Bool, listed.size = ops.size → Region.ready md ops listed = [] → ∀ i, i < ops.size → listed.getD i false = true := by
    intro listed hs hr i
    induction i using Nat.strongRecOn with
    | _ i ih =>
      intro hi
      cases hl : listed.getD i true with
      | true => simpa [show i < listed.size by omega] using hl
      | false =>
        have : i ∈ Region.ready md ops listed := mem_ready.2 ⟨hl, ops[i], Array.getElem?_eq_getElem hi, fun e he _ => by
          have hlt := backB_at hb (Array.getElem?_eq_getElem hi) e he
          exact ih e.on hlt (by omega)⟩
        rw [hr] at this
        simp at this
  intro fuel
  induction fuel with
  | zero =>
    intro listed a w hs hc hI
    have hall : ∀ i, i < ops.size → listed.getD i true = true := fun i hi => by
      have h0 := List.countP_eq_zero.1 (Nat.le_zero.1 hc) i (List.mem_range.2 hi)
      simpa using h0
    have hr : Region.ready md ops listed = [] := by
      cases hq : Region.ready md ops listed with
      | nil => rfl
      | cons x xs =>
        have hx : x ∈ Region.ready md ops listed := by rw [hq]; simp
        obtain ⟨h1, o, ho, _⟩ := mem_ready.1 hx
        have := hall x (Array.getElem?_eq_some_iff.1 ho).1
        rw [this] at h1; cases h1
    exact ⟨hr, hend _ _ _ (hnil listed hs hr) hI⟩
  | succ fuel ih =>
    intro listed a w hs hc hI
    refine ⟨fun hr => hend _ _ _ (hnil listed hs hr) hI, fun i hi => ?_⟩
    obtain ⟨h1, o, ho, hall⟩ := mem_ready.1 hi
    have hil := (Array.getElem?_eq_some_iff.1 ho).1
    have h2 : listed.getD i false = false := by simpa [show i < listed.size by omega] using h1
    refine wpOpIn_mono (fun a' w' h => ih _ _ _ (by simpa using hs) ?_ ?_) (hstep i o _ a w ho h2 hall hI)
    · have hlt : (List.range ops.size).countP (fun j => !(listed.setIfInBounds i true).getD j true) < (List.range ops.size).countP (fun j => !listed.getD j true) :=
        countP_less (i := i) (fun x hx hq => by
          by_cases e : i = x
          · subst e; simp [show i < listed.size by omega] at hq
          · rw [getD_set_ne true e] at hq; exact hq) (List.mem_range.2 hil) (by rw [h1]; rfl) (by simp [show i < listed.size by omega])
      omega
    · have e : (fun j => (listed.setIfInBounds i true).getD j false) = fun j => if j = i then true else listed.getD j false := by
        funext j
        by_cases e : i = j
        · subst e; simp [show i < listed.size by omega]
        · rw [getD_set_ne false e, if_neg (fun h => e h.symm)]
      rw [e]
      exact h
theorem wpIn_region_slots {F : Fence} {n : Nat} {P : Program} {id : Nat} {ops : Array Oper} {Q : Exit → Act → World → Prop} {a : Act} {w : World} (slots : List Nat) (J : (Nat → Bool) → (Nat → Value) → World → Prop) (hm : P.follows .mixedOrders = true) (hb : backB ops = true)
    (h0 : ∃ vs, a = slotsPut slots vs a ∧ J (fun _ => false) vs w.drew)
    (hstep : ∀ (i : Nat) (o : Oper) (L : Nat → Bool) (vs : Nat → Value) (w : World), ops[i]? = some o → L i = false → (∀ e ∈ o.after, Region.binds .any e = true → L e.on = true) → J L vs w →
      wpOpIn F n P ops Q i (fun a' w' => ∃ vs', a' = slotsPut slots vs' a ∧ J (fun j => if j = i then true else L j) vs' w') (slotsPut slots vs a) w)
    (hend : ∀ (L : Nat → Bool) (vs : Nat → Value) (w : World), (∀ i, i < ops.size → L i = true) → J L vs w → Q .normal (slotsPut slots vs a) w) : (Code.region id ops true).wpIn F n P Q a w := by
  refine wpIn_region_any hm (wpAnyIn_inv (fun L a' w' => ∃ vs, a' = slotsPut slots vs a ∧ J L vs w') hb (fun i o L a' w' ho hL hA hI => ?_) (fun L a' w' hL hI => ?_) ops.size _ a _ (by simp) ?_ ?_)
  · obtain ⟨vs, rfl, hJ⟩ := hI
    exact hstep i o L vs w' ho hL hA hJ
  · obtain ⟨vs, rfl, hJ⟩ := hI
    exact hend L vs w' hL hJ
  · exact Nat.le_trans List.countP_le_length (by simp)
  · have e : (fun j => (Array.replicate ops.size false).getD j false) = fun _ => false := by
      funext j
      by_cases h : j < ops.size <;> simp [h]
    rw [e]
    exact h0
theorem wpIn_region_slots2 {F : Fence} {n : Nat} {P : Program} {id : Nat} {ops : Array Oper} {Q : Exit → Act → World → Prop} {a : Act} {w : World} (slots : List Nat) (J : (Nat → Bool) → (Nat → Value) → World → Prop) (hm : P.follows .mixedOrders = true) (hb : backB ops = true)
    (h0 : ∀ vs, J (fun _ => false) vs w.drew)
    (hstep : ∀ (i : Nat) (o : Oper) (L : Nat → Bool) (vs : Nat → Value) (w : World), ops[i]? = some o → L i = false → (∀ e ∈ o.after, Region.binds .any e = true → L e.on = true) → J L vs w →
      wpOpIn F n P ops Q i (fun a' w' => ∃ vs', a' = slotsPut slots vs' a ∧ J (fun j => if j = i then true else L j) vs' w') (slotsPut slots vs a) w)
    (hend : ∀ (L : Nat → Bool) (vs : Nat → Value) (w : World), (∀ i, i < ops.size → L i = true) → J L vs w → Q .normal (slotsPut slots vs a) w) : (Code.region id ops true).wpIn F n P Q a w :=
  wpIn_region_slots slots J hm hb ⟨_, (slots_self slots a).symm, h0 _⟩ hstep hend
end Go.Proofs.YtpnnchpaaopdcaaGreatDoor
namespace Go.Proofs.YtpnnchpaaopdcaaGreatDoor
open Go Go.RowKit
variable {W : World} {g : Nat} {s : RS} {S : List UInt8}
end Go.Proofs.YtpnnchpaaopdcaaGreatDoor
namespace Go.Proofs.YtpnnchpaaopdcaaGreatDoor
open Go Go.RowKit
def IterV {α : Type} (P : Program) (g : Nat) (lb : Array Value) (encs : α → Array Value) (T0 : TypeId → Prop) (cap mut' : Nat → Prop) (capW : World → Prop)
    (step : List α → α → World → Prop) (S Sp : List α → Prop) (E : World → Prop) : Prop :=
  ∀ (l : Nat) (T : TypeId → Prop) (J Jx : List α → World → Prop) (W : World), capW W → (∀ e, T e → ¬ T0 e) →
    (∀ s A B, J s A → ItselfM T0 W.heap.size mut' A B → J s B) → (∀ s A B, Jx s A → ItselfM T0 W.heap.size mut' A B → Jx s B) →
    (∀ pre x W1, J pre W1 → step pre x W1 → YieldAt Fence.wide 0 P l (encs x) W1 fun e W' =>
      Keeps T cap W.heap.size W1 W' ∧ ((e = .returned (.bool true) ∧ J (pre ++ [x]) W') ∨ (e = .returned (.bool false) ∧ Jx (pre ++ [x]) W'))) →
    J [] W →
    Calls P g (#[.func (.yield l) #[] #[]] ++ lb) W fun e W' => (∃ v, e = .returned v) ∧ ((∃ xs, S xs ∧ J xs W' ∧ E W') ∨ (∃ pre, Sp pre ∧ Jx pre W'))
variable {n : Nat} {P : Program}
set_option maxHeartbeats 1000000 in
theorem wpIn_rangeIterV {α : Type} {g : Operand} {ps : Array Tmp} {assign body : Code} {Q : Exit → Act → World → Prop} {a : Act} {w : World}
    {gf : Nat} {lb : Array Value} (hg : a.eval g = .func (.func gf) #[] lb) (eg : ∀ args w, (callFunc gf args).run P w = .ok (.enter gf args) w)
    {encs : α → Array Value} {T0 : TypeId → Prop} {cap mut' : Nat → Prop} {capW : World → Prop} {step : List α → α → World → Prop} {S Sp : List α → Prop} {E : World → Prop}
    (hit : IterV P gf lb encs T0 cap mut' capW step S Sp E) (hmut : ∀ k, mut' k → k < w.heap.size) (hE : ∀ A B l, w.heap.size ≤ l → E A → (∀ k, k ≠ l → B.heap[k]? = A.heap[k]?) → E B) (T : TypeId → Prop) (hT : ∀ e, T e → ¬ T0 e) (hps : ∀ x, (encs x).size = ps.size)
    (hcap : ∀ k, cap k → k < w.heap.size) (hcW : ∀ W, Below w.heap.size w W → capW W)
    (I : List α → World → Prop) (Ix : Code → List α → World → Prop)
    (hI : ∀ s A B, I s A → ItselfM T0 w.heap.size mut' A B → I s B) (hIx : ∀ c s A B, Ix c s A → ItselfM T0 w.heap.size mut' A B → Ix c s B) (h0 : I [] w)
    (hround : ∀ (l : Nat) (pre : List α) (x : α) (W : World), w.heap.size ≤ l → (∃ r, W.heap[l]? = some (.loop r)) → I pre W → step pre x W →
      assign.wpIn (Fence.wide.inRound l) 0 P (Exit.then (fun a₁ W₁ => Keeps T cap w.heap.size W W₁ ∧ (∀ W₂, Itself T0 w.heap.size W₁ W₂ → W₂.heap.size = W₁.heap.size → (∃ r, W₂.heap[l]? = some (.loop r)) →
        (∀ k, k ≠ l → W₂.heap[k]? = W₁.heap[k]?) → body.wpIn (Fence.wide.inRound l) 0 P (bodyOf T cap w.heap.size I Ix (pre ++ [x]) W₂) a₁ W₂)) (fun _ _ _ => False))
        { tmps := (ps.zip (encs x)).foldl (fun t (p, v) => t.setIfInBounds p v) a.tmps, defers := [] } W)
    (hdone : ∀ (D : Nat) (xs : List α) (W : World), w.heap.size ≤ D → S xs → I xs W → E W → W.heap[D]? = some (.deferred (some [])) → Q .normal { a with defers := { target := .collected D, args := #[] } :: a.defers } W)
    (hstop : ∀ (D : Nat) (c : Code) (pre : List α) (W : World), w.heap.size ≤ D → Sp pre → Ix c pre W → W.heap[D]? = some (.deferred (some [])) →
      c.wpIn Fence.wide n P Q { a with defers := { target := .collected D, args := #[] } :: a.defers } W) :
    (Code.rangeFunc g ps assign body).wpIn Fence.wide n P Q a w := by
  refine wpIn_rangeFunc fun fn hfn => ?_
  obtain ⟨rec, hrec⟩ : ∃ rec : LoopState → Option Code → Loop, rec = fun st pe => { state := st, pending := pe, fn, tmps := a.tmps, params := ps, assign, body, defers := w.heap.size } := ⟨_, rfl⟩
  obtain ⟨W1, hW1⟩ : ∃ W1, (w.alloc (.deferred (some []))).alloc (.loop (rec .ready none)) = W1 := ⟨_, rfl⟩
  have hsz : W1.heap.size = w.heap.size + 2 := by rw [← hW1]; simp
  have hI01 : Itself T0 w.heap.size w W1 := by
    rw [← hW1]; exact (Itself.alloc T0 w _ (Nat.le_refl _)).trans (Itself.alloc T0 _ _ (by simp))
  have hL1 : W1.heap[w.heap.size + 1]? = some (.loop (rec .ready none)) := by
    rw [← hW1]; have := World.alloc_heap_new (w.alloc (.deferred (some []))) (.loop (rec .ready none)); rwa [World.size_alloc] at this
  have hK1 : W1.heap[w.heap.size]? = some (.deferred (some [])) := by
    rw [← hW1]; exact (Below.heap_alloc _ _ _ (by simp)).trans (World.alloc_heap_new w _)
  refine ⟨w.heap.size + 1, [{ target := .collected w.heap.size, args := #[] }], W1, { target := .fn (.func gf) lb, args := #[.func (.yield (w.heap.size + 1)) #[] #[]] }, W1, gf,
    #[.func (.yield (w.heap.size + 1)) #[] #[]] ++ lb, W1, ?_, ?_, fun _ _ => trivial, ?_, (fun h => by cases h), ?_⟩
  · rw [← hW1, hrec]; exact run_enterLoop_outer _ _ _ _ _
  · simp only [resolve, hg]
    simp [go_sem]
  · simp [invoke, go_sem, eg]
  refine callsIn_wide.2 ((hit (w.heap.size + 1) T
      (fun pre W => I pre W ∧ W.heap[w.heap.size + 1]? = some (.loop (rec .ready none)) ∧ W.heap[w.heap.size]? = some (.deferred (some [])))
      (fun pre W => ∃ c, Ix c pre W ∧ W.heap[w.heap.size + 1]? = some (.loop (rec .done (some c))) ∧ W.heap[w.heap.size]? = some (.deferred (some [])))
      W1 (hcW _ hI01.toBelow) hT ?_ ?_ ?_ ⟨hI _ _ _ h0 (ItselfM.of hI01), hL1, hK1⟩).mono ?_)
  · rintro s A B ⟨h1, h2, h3⟩ hAB
    rw [hsz] at hAB
    exact ⟨hI _ _ _ h1 (hAB.mono (fun _ h => h) (by omega) (fun _ _ h => h)), (hAB.below _ (by omega) (fun x => by have := hmut _ x; omega)).trans h2, (hAB.below _ (by omega) (fun x => by have := hmut _ x; omega)).trans h3⟩
  · rintro s A B ⟨c, h1, h2, h3⟩ hAB
    rw [hsz] at hAB
    exact ⟨c, hIx c _ _ _ h1 (hAB.mono (fun _ h => h) (by omega) (fun _ _ h => h)), (hAB.below _ (by omega) (fun x => by have := hmut _ x; omega)).trans h2, (hAB.below _ (by omega) (fun x => by have := hmut _ x; omega)).trans h3⟩
  · -- one round
    rintro pre x W ⟨hi, hl, hk⟩ hst
    have hy := run_yield (P := P) (args := encs x) hl (by rw [hrec]; exact hps x)
    rw [hrec] at hy
    refine ⟨fn, _, assign, body, hy, roundIn_of_wpIn hfn (wpIn_mono (hround _ pre x W (by omega) ⟨_, hl⟩ hi hst) ?_)⟩
    rintro e a₁ Wa hq
    cases e with
    | normal =>
      obtain ⟨hka, hnext⟩ := hq
      have hnc : ¬ cap (w.heap.size + 1) := fun h => by have := hcap _ h; omega
      have hkeep : ∀ {X Y : World}, Keeps T cap w.heap.size X Y → X.heap[w.heap.size]? = some (.deferred (some [])) → Y.heap[w.heap.size]? = some (.deferred (some [])) :=
        fun h h' => h.same _ _ h' (.inr ⟨Nat.le_refl _, fun _ _ _ _ e => by cases e⟩)
      have hkeepL : ∀ {X Y : World} {r : Loop}, Keeps T cap w.heap.size X Y → X.heap[w.heap.size + 1]? = some (.loop r) → Y.heap[w.heap.size + 1]? = some (.loop r) :=
        fun h h' => h.same _ _ h' (.inr ⟨by omega, fun _ _ _ _ e => by cases e⟩)
      have hl1 := hkeepL hka hl
      have hk1 := hkeep hka hk
      refine ⟨_, run_beginRound hl1 (by rw [hrec]), ?_⟩
      have hlt : w.heap.size + 1 < Wa.heap.size := (Array.getElem?_eq_some_iff.1 hl1).1
      have hit2 : Itself T0 w.heap.size Wa (Wa.putObj (w.heap.size + 1) (.loop { rec .ready none with state := .busy })) := Itself.putObj T0 Wa _ _ _ (by omega) hl1 rfl
      have hl2 : (Wa.putObj (w.heap.size + 1) (.loop { rec .ready none with state := .busy })).heap[w.heap.size + 1]? = some (.loop { rec .ready none with state := .busy }) := World.putObj_heap_same hlt
      have hk2 : (Wa.putObj (w.heap.size + 1) (.loop { rec .ready none with state := .busy })).heap[w.heap.size]? = some (.deferred (some [])) := (World.putObj_heap_other (by omega)).trans hk1
      have hkp : ∀ {X : World} (o' : Obj), Keeps T cap W1.heap.size X (X.putObj (w.heap.size + 1) o') := fun o' => Keeps.putObj T _ _ o' hnc (by omega)
      have hup : ∀ {X Y : World}, Keeps T cap w.heap.size X Y → Keeps T cap W1.heap.size X Y := fun h => h.mono (fun _ h => h) (by omega) (fun _ _ _ h => .inl h)
      have hkW2 : Keeps T cap W1.heap.size W (Wa.putObj (w.heap.size + 1) (.loop { rec .ready none with state := .busy })) := (hup hka).trans (hkp _)
      have fin : ∀ (jump : Option Code) (W3 : World), Keeps T cap w.heap.size (Wa.putObj (w.heap.size + 1) (.loop { rec .ready none with state := .busy })) W3 →
          (Instr.endRound (w.heap.size + 1) jump).run P W3 = .ok (.bool jump.isNone) (W3.putObj (w.heap.size + 1) (.loop (rec (if jump.isNone then .ready else .done) jump))) ∧
          Itself T0 w.heap.size W3 (W3.putObj (w.heap.size + 1) (.loop (rec (if jump.isNone then .ready else .done) jump))) ∧
          (W3.putObj (w.heap.size + 1) (.loop (rec (if jump.isNone then .ready else .done) jump))).heap[w.heap.size + 1]? = some (.loop (rec (if jump.isNone then .ready else .done) jump)) ∧
          (W3.putObj (w.heap.size + 1) (.loop (rec (if jump.isNone then .ready else .done) jump))).heap[w.heap.size]? = some (.deferred (some [])) ∧
          Keeps T cap W1.heap.size W (W3.putObj (w.heap.size + 1) (.loop (rec (if jump.isNone then .ready else .done) jump))) := fun jump W3 hk3 => by
        have hl3 := hkeepL hk3 hl2
        have hk3' := hkeep hk3 hk2
        have he := run_endRound (P := P) jump hl3
        rw [hrec] at he ⊢
        refine ⟨he, Itself.putObj T0 W3 _ _ _ (by omega) hl3 rfl, World.putObj_heap_same (Array.getElem?_eq_some_iff.1 hl3).1, (World.putObj_heap_other (by omega)).trans hk3', ?_⟩
        have := (hkW2.trans (hup hk3)).trans (hkp (X := W3) (.loop (rec (if jump.isNone then .ready else .done) jump)))
        rw [hrec] at this
        exact this
      refine wpIn_mono (hnext _ hit2 (by simp) ⟨_, hl2⟩ (fun k hk => World.putObj_heap_other hk)) ?_
      · rintro e a3 W3 hp
        cases e with
        | normal =>
          obtain ⟨hk3, hi3⟩ := hp
          obtain ⟨hr, hits, hl4, hk4, hkk⟩ := fin none W3 hk3
          exact ⟨_, _, hr, hkk, .inl ⟨rfl, hI _ _ _ hi3 (ItselfM.of hits), hl4, hk4⟩⟩
        | ret =>
          obtain ⟨hk3, hi3⟩ := hp
          obtain ⟨hr, hits, hl4, hk4, hkk⟩ := fin (some .ret) W3 hk3
          exact ⟨_, _, hr, hkk, .inr ⟨rfl, .ret, hIx _ _ _ _ hi3 (ItselfM.of hits), hl4, hk4⟩⟩
        | exit id =>
          obtain ⟨hk3, hi3⟩ := hp
          obtain ⟨hr, hits, hl4, hk4, hkk⟩ := fin (some (.exit id)) W3 hk3
          exact ⟨_, _, hr, hkk, .inr ⟨rfl, .exit id, hIx _ _ _ _ hi3 (ItselfM.of hits), hl4, hk4⟩⟩
        | goto t =>
          obtain ⟨hk3, hi3⟩ := hp
          obtain ⟨hr, hits, hl4, hk4, hkk⟩ := fin (some (.goto t)) W3 hk3
          exact ⟨_, _, hr, hkk, .inr ⟨rfl, .goto t, hIx _ _ _ _ hi3 (ItselfM.of hits), hl4, hk4⟩⟩
        | panic ch => exact hp.elim
        | outgrown => exact hp.elim
    | exit id => exact hq.elim
    | goto t => exact hq.elim
    | ret => exact hq.elim
    | panic ch => exact hq.elim
    | outgrown => exact hq.elim
  · rintro e W2 ⟨⟨v, rfl⟩, (⟨xs, hS, ⟨hi, hl, hk⟩, hEW⟩ | ⟨pre, hSp, c, hi, hl, hk⟩)⟩
    · refine ⟨none, _, by have := run_endLoop (P := P) hl (by rw [hrec]; simp); rw [hrec] at this; exact this, ?_⟩
      exact hdone _ xs _ (Nat.le_refl _) hS (hI _ _ _ hi (ItselfM.of (Itself.putObj T0 W2 _ _ _ (by omega) hl rfl))) (hE _ _ (w.heap.size + 1) (by omega) hEW (fun k hk => World.putObj_heap_other hk)) ((World.putObj_heap_other (by omega)).trans hk)
    · refine ⟨some c, _, by have := run_endLoop (P := P) hl (by rw [hrec]; simp); rw [hrec] at this; exact this, ?_⟩
      exact hstop _ c pre _ (Nat.le_refl _) hSp (hIx c _ _ _ hi (ItselfM.of (Itself.putObj T0 W2 _ _ _ (by omega) hl rfl))) ((World.putObj_heap_other (by omega)).trans hk)
end Go.Proofs.YtpnnchpaaopdcaaGreatDoor
namespace Go.Proofs.YtpnnchpaaopdcaaGreatDoor
open Go Go.RowKit
set_option maxRecDepth 100000 in
set_option maxHeartbeats 4000000 in
theorem qstringP_c (ad : Option Addr) (cp : Nat) (l : List (Nat × Nat)) (hl : l.length ≤ 1000) (hS : Small l) (w : World) (hT : Tab w) (ho : PairsAt w ad l) :
    Calls Tryz.prog 94 #[.slice ad l.length cp] w fun e w' => e = .returned (.string (txt (setT l))) ∧ Below w.heap.size w w' := by
  obtain ⟨i0, hi, hz0, hz1, hz2⟩ := info_parts Tryz.infoByte
  obtain ⟨N, hN⟩ : ∃ N, N = l.length := ⟨_, rfl⟩
  rw [← hN] at hl ⊢
  have HO := Lib.hid ho
  have HN := Lib.hid hN
  have HS := Lib.hid hS
  have HTAB := Lib.hid hT
  clear ho hN hS hT
  go_enter Tryz.func94, Tryz.ntmps94
  go_wp2_with fail
  go_loopw [3, 4, 5, 8] (fun t3 _ _ t8 wr => ∃ (k n cb : Nat) (ab : Option Addr), k ≤ N ∧ t8 = .int .i64 k ∧ t3 = .slice ab n cb ∧ n ≤ 22 * k ∧ Hid (n = (setT (l.take k)).length) ∧
      Hid (wr.ownsRow w.heap.size 5 1 (.slice ab n cb) n (Lib.byteCells (setT (l.take k)))) ∧ Hid (Below w.heap.size w wr)) (fun _ _ _ i _ => N - (intOf i).toNat)
  case atStart => exact ⟨0, 0, 0, none, by omega, rfl, rfl, by omega, rfl, World.ownsRow_nil _ _ _ _, Below.refl _ _⟩
  case round =>
    obtain ⟨k, n, cb, ab, hk, rfl, rfl, hn, HL, HR, HB⟩ := hrel
    have hls := HB.out.size
    by_cases hlt : k < N
    · have hkl : k < l.length := by rw [← HN.out]; exact hlt
      obtain ⟨x, y, hxy⟩ : ∃ x y, l[k] = (x, y) := ⟨_, _, rfl⟩
      have hb := HS.out _ (List.getElem_mem hkl)
      rw [hxy] at hb
      have hx : x ≤ 4294967295 := hb.1
      have hy : y ≤ 4294967295 := hb.2
      have how := HO.out.below HB.out
      obtain ⟨g, off, rfl, _, k0, k1⟩ := how k (x, y) (by rw [List.getElem?_eq_getElem hkl, hxy])
      dsimp only at k0 k1
      have hT2 := setT_take hkl
      rw [hxy] at hT2
      have HT2 := Lib.hid hT2
      have hex := endT_len hx
      have hey := endT_len hy
      have hq1 : (k : Int) < N := by omega
      have hP := Pair.new wr 112 (.int .u32 x) (.int .u32 y)
      have HP := Lib.hid hP
      have HR1 : Hid ((wr.alloc (.cells #[.int .u32 x, .int .u32 y] 112)).ownsRow w.heap.size 5 1 (.slice ab n cb) n (Lib.byteCells (setT (l.take k)))) := HR.out.alloc _
      have HB1 : Hid (Below w.heap.size w (wr.alloc (.cells #[.int .u32 x, .int .u32 y] 112))) := HB.out.alloc hls _
      clear hb how hxy hkl hT2 hP
      by_cases hk0 : k = 0
      · subst hk0
        simp only [Nat.zero_mul, Nat.add_zero] at k0 k1
        go_wp2_with fail
        refine (append_end_c w.heap.size n x hx _ _ _ HR1.out HB1.out.size (by omega) (HTAB.out.later HB1.out HTAB.out.lt)).mono ?_
        rintro e w5 ⟨vw5, rfl, ho, hbb, hkk⟩
        have Pw5 : Hid (Pair w5 wr.heap.size 112 (.int .u32 x) (.int .u32 y)) := HP.out.others hkk
        have Bw5 : Hid (Below w.heap.size w w5) := HB1.out.trans hbb
        rw [← Lib.byteCells_append] at ho
        obtain ⟨aw5, cw5, rfl⟩ := own_form ho
        obtain ⟨nw5, hnw5⟩ : ∃ m, m = n + (endT x).length := ⟨_, rfl⟩
        have lw5 : nw5 ≤ n + 10 := by omega
        rw [← hnw5] at ho ⊢
        have Ow5 := Lib.hid ho
        have Nw5 := Lib.hid hnw5
        clear hnw5
        clear ho hbb hkk
        have p0 := Pw5.out.c0
        have p1 := Pw5.out.c1
        by_cases hxy : x = y
        · have exy : ((x : Int) != (y : Int)) = false := by simp [hxy]
          have HXY := Lib.hid hxy
          clear hxy
          go_wp2_with fail
          go_roundw
          case rel =>
            have e1 : setT (l.take (0 + 1)) = setT (l.take 0) ++ [] ++ endT x := by rw [HT2.out]; simp [rangeT, HXY.out]
            refine ⟨0 + 1, nw5, cw5, aw5, by omega, by go_num, rfl, by omega, ?_, ?_, Bw5.out⟩
            · show nw5 = _
              rw [e1]; have h1 := HL.out; have h5 := Nw5.out; simp only [List.length_append, List.length_cons, List.length_nil]; omega
            · show World.ownsRow _ _ _ _ _ _ _
              rw [e1]; have := Ow5.out; simpa using this
          case measure => simp [intOf]; omega
        · have exy : ((x : Int) != (y : Int)) = true := by simp; omega
          have HXY := Lib.hid hxy
          clear hxy
          have hls5 := Bw5.out.size
          go_wp2_with (at_builtin; refine wpList_append_own _ rfl (.tmp 27) (.tmp 28) 97 rfl w.heap.size 5 i0 (.int .u8 0) 1 1 Tryz.underlying97 hi hz0 hz1 hz2 rfl (by decide) _ _ _ rfl (Ow5.out.alloc _) ⟨w5.heap.size, 0, none⟩ 1 1 [.int .u8 58] rfl rfl (cell_new_at _ (by simp)) (fun x hx => by simp at hx; subst hx; rfl) (by unfold maxLen; omega) (by omega) (by simp; omega) ?_)
          intro v6 w6 hown6 hgrow6 _
          have hk6 : Lib.OthersKept 5 none w5 w6 := ((Lib.OthersKept.refl _ _ w5).alloc _).grown hgrow6 (own_row (Ow5.out.alloc _))
          have B6 : Hid (Below w.heap.size w w6) := Below.grown (Bw5.out.alloc Bw5.out.size _) hgrow6 (by have := Bw5.out.size; simp; omega) (fun j hj => (Ow5.out.lt _ hj).1)
          have P6 : Hid (Pair w6 wr.heap.size 112 (.int .u32 x) (.int .u32 y)) := Pw5.out.others hk6
          rw [show [Value.int .u8 58] = Lib.byteCells [58] from rfl, ← Lib.byteCells_append] at hown6
          obtain ⟨a6, c6, rfl⟩ := own_form hown6
          have O6 := Lib.hid hown6
          clear hown6 hgrow6 hk6 p0 p1
          have p0 := P6.out.c0
          have p1 := P6.out.c1
          go_wp2_with fail
          refine (append_end_c w.heap.size (nw5 + 1) y hy _ _ _ O6.out B6.out.size (by omega) (HTAB.out.later B6.out HTAB.out.lt)).mono ?_
          rintro e w7 ⟨vw7, rfl, ho, hbb, hkk⟩
          have Pw7 : Hid (Pair w7 wr.heap.size 112 (.int .u32 x) (.int .u32 y)) := P6.out.others hkk
          have Bw7 : Hid (Below w.heap.size w w7) := B6.out.trans hbb
          rw [← Lib.byteCells_append] at ho
          obtain ⟨aw7, cw7, rfl⟩ := own_form ho
          obtain ⟨nw7, hnw7⟩ : ∃ m, m = (nw5 + 1) + (endT y).length := ⟨_, rfl⟩
          have lw7 : nw7 ≤ (nw5 + 1) + 10 := by omega
          rw [← hnw7] at ho ⊢
          have Ow7 := Lib.hid ho
          have Nw7 := Lib.hid hnw7
          clear hnw7
          clear ho hbb hkk
          go_wp2_with fail
          go_roundw
          case rel =>
            have e1 : setT (l.take (0 + 1)) = setT (l.take 0) ++ [] ++ endT x ++ [58] ++ endT y := by rw [HT2.out]; simp [rangeT, HXY.out]
            refine ⟨0 + 1, nw7, cw7, aw7, by omega, by go_num, rfl, by omega, ?_, ?_, Bw7.out⟩
            · show nw7 = _
              rw [e1]; have h1 := HL.out; have h5 := Nw5.out; have h7 := Nw7.out; simp only [List.length_append, List.length_cons, List.length_nil]; omega
            · show World.ownsRow _ _ _ _ _ _ _
              rw [e1]; have := Ow7.out; simpa using this
          case measure => simp [intOf]; omega
      · have qk : (0 : Int) < k := by omega
        go_wp2_with (at_builtin; refine wpList_append_own _ rfl (.tmp 15) (.tmp 16) 97 rfl w.heap.size 5 i0 (.int .u8 0) 1 1 Tryz.underlying97 hi hz0 hz1 hz2 rfl (by decide) _ _ _ rfl (HR1.out.alloc _) ⟨wr.heap.size + 1, 0, none⟩ 1 1 [.int .u8 44] rfl rfl (cell_new_at _ (by simp)) (fun x hx => by simp at hx; subst hx; rfl) (by unfold maxLen; omega) (by omega) (by simp; omega) ?_)
        intro v4 w4 hown4 hgrow4 _
        have hk4 : Lib.OthersKept 5 none (wr.alloc (.cells #[.int .u32 x, .int .u32 y] 112)) w4 := ((Lib.OthersKept.refl _ _ _).alloc _).grown hgrow4 (own_row (HR1.out.alloc _))
        have B4 : Hid (Below w.heap.size w w4) := Below.grown (HB1.out.alloc HB1.out.size _) hgrow4 (by have := HB1.out.size; simp; omega) (fun j hj => (HR1.out.lt _ hj).1)
        have P4 : Hid (Pair w4 wr.heap.size 112 (.int .u32 x) (.int .u32 y)) := HP.out.others hk4
        rw [show [Value.int .u8 44] = Lib.byteCells [44] from rfl, ← Lib.byteCells_append] at hown4
        obtain ⟨a4, c4, rfl⟩ := own_form hown4
        have O4 := Lib.hid hown4
        clear hown4 hgrow4 hk4
        have p0 := P4.out.c0
        have p1 := P4.out.c1
        go_wp2_with fail
        clear p0 p1
        refine (append_end_c w.heap.size (n + 1) x hx _ _ _ O4.out B4.out.size (by omega) (HTAB.out.later B4.out HTAB.out.lt)).mono ?_
        rintro e w5 ⟨vw5, rfl, ho, hbb, hkk⟩
        have Pw5 : Hid (Pair w5 wr.heap.size 112 (.int .u32 x) (.int .u32 y)) := P4.out.others hkk
        have Bw5 : Hid (Below w.heap.size w w5) := B4.out.trans hbb
        rw [← Lib.byteCells_append] at ho
        obtain ⟨aw5, cw5, rfl⟩ := own_form ho
        obtain ⟨nw5, hnw5⟩ : ∃ m, m = (n + 1) + (endT x).length := ⟨_, rfl⟩
        have lw5 : nw5 ≤ (n + 1) + 10 := by omega
        rw [← hnw5] at ho ⊢
        have Ow5 := Lib.hid ho
        have Nw5 := Lib.hid hnw5
        clear hnw5
        clear ho hbb hkk
        have p0 := Pw5.out.c0
        have p1 := Pw5.out.c1
        by_cases hxy : x = y
        · have exy : ((x : Int) != (y : Int)) = false := by simp [hxy]
          have HXY := Lib.hid hxy
          clear hxy
          go_wp2_with fail
          go_roundw
          case rel =>
            have e1 : setT (l.take (k + 1)) = setT (l.take k) ++ [44] ++ endT x := by rw [HT2.out, if_neg (by omega)]; simp [rangeT, HXY.out]
            refine ⟨k + 1, nw5, cw5, aw5, by omega, by go_num, rfl, by omega, ?_, ?_, Bw5.out⟩
            · show nw5 = _
              rw [e1]; have h1 := HL.out; have h5 := Nw5.out; simp only [List.length_append, List.length_cons, List.length_nil]; omega
            · show World.ownsRow _ _ _ _ _ _ _
              rw [e1]; have := Ow5.out; simpa using this
          case measure => simp [intOf]; omega
        · have exy : ((x : Int) != (y : Int)) = true := by simp; omega
          have HXY := Lib.hid hxy
          clear hxy
          have hls5 := Bw5.out.size
          go_wp2_with (at_builtin; refine wpList_append_own _ rfl (.tmp 27) (.tmp 28) 97 rfl w.heap.size 5 i0 (.int .u8 0) 1 1 Tryz.underlying97 hi hz0 hz1 hz2 rfl (by decide) _ _ _ rfl (Ow5.out.alloc _) ⟨w5.heap.size, 0, none⟩ 1 1 [.int .u8 58] rfl rfl (cell_new_at _ (by simp)) (fun x hx => by simp at hx; subst hx; rfl) (by unfold maxLen; omega) (by omega) (by simp; omega) ?_)
          intro v6 w6 hown6 hgrow6 _
          have hk6 : Lib.OthersKept 5 none w5 w6 := ((Lib.OthersKept.refl _ _ w5).alloc _).grown hgrow6 (own_row (Ow5.out.alloc _))
          have B6 : Hid (Below w.heap.size w w6) := Below.grown (Bw5.out.alloc Bw5.out.size _) hgrow6 (by have := Bw5.out.size; simp; omega) (fun j hj => (Ow5.out.lt _ hj).1)
          have P6 : Hid (Pair w6 wr.heap.size 112 (.int .u32 x) (.int .u32 y)) := Pw5.out.others hk6
          rw [show [Value.int .u8 58] = Lib.byteCells [58] from rfl, ← Lib.byteCells_append] at hown6
          obtain ⟨a6, c6, rfl⟩ := own_form hown6
          have O6 := Lib.hid hown6
          clear hown6 hgrow6 hk6 p0 p1
          have p0 := P6.out.c0
          have p1 := P6.out.c1
          go_wp2_with fail
          refine (append_end_c w.heap.size (nw5 + 1) y hy _ _ _ O6.out B6.out.size (by omega) (HTAB.out.later B6.out HTAB.out.lt)).mono ?_
          rintro e w7 ⟨vw7, rfl, ho, hbb, hkk⟩
          have Pw7 : Hid (Pair w7 wr.heap.size 112 (.int .u32 x) (.int .u32 y)) := P6.out.others hkk
          have Bw7 : Hid (Below w.heap.size w w7) := B6.out.trans hbb
          rw [← Lib.byteCells_append] at ho
          obtain ⟨aw7, cw7, rfl⟩ := own_form ho
          obtain ⟨nw7, hnw7⟩ : ∃ m, m = (nw5 + 1) + (endT y).length := ⟨_, rfl⟩
          have lw7 : nw7 ≤ (nw5 + 1) + 10 := by omega
          rw [← hnw7] at ho ⊢
          have Ow7 := Lib.hid ho
          have Nw7 := Lib.hid hnw7
          clear hnw7
          clear ho hbb hkk
          go_wp2_with fail
          go_roundw
          case rel =>
            have e1 : setT (l.take (k + 1)) = setT (l.take k) ++ [44] ++ endT x ++ [58] ++ endT y := by rw [HT2.out, if_neg (by omega)]; simp [rangeT, HXY.out]
            refine ⟨k + 1, nw7, cw7, aw7, by omega, by go_num, rfl, by omega, ?_, ?_, Bw7.out⟩
            · show nw7 = _
              rw [e1]; have h1 := HL.out; have h5 := Nw5.out; have h7 := Nw7.out; simp only [List.length_append, List.length_cons, List.length_nil]; omega
            · show World.ownsRow _ _ _ _ _ _ _
              rw [e1]; have := Ow7.out; simpa using this
          case measure => simp [intOf]; omega
    · obtain rfl : k = N := by omega
      have htk : l.take k = l := List.take_of_length_le (by rw [← HN.out]; exact Nat.le_refl _)
      have hR := HR.out
      have hL := HL.out
      rw [htk] at hR hL
      clear HR HL HTAB HS
      cases ab with
      | none =>
        have hn0 : setT l = [] ∧ n = 0 ∧ cb = 0 := by
          rcases hR.2 with ⟨h1, h2⟩ | ⟨g, cap, cur, h1, _⟩
          · cases h1; exact ⟨List.length_eq_zero_iff.1 (by omega), rfl, rfl⟩
          · cases h1
        obtain ⟨h1, rfl, rfl⟩ := hn0
        have HE := Lib.hid h1
        have kc : (convert 97 9 (.slice none 0 0)).run Tryz.prog wr = .ok (.string (txt [])) wr := by kernel_rfl
        clear hR hL htk h1
        go_wp2_with fail
        go_ret
        exact ⟨by rw [HE.out]; rfl, HB.out⟩
      | some a =>
        obtain ⟨g, rfl⟩ : ∃ g, a = ⟨g, 0, none⟩ := by
          rcases hR.2 with ⟨h1, h2⟩ | ⟨g, cap, cur, h1, _⟩
          · cases h1
          · cases h1; exact ⟨g, rfl⟩
        have kc : (convert 97 9 (.slice (some ⟨g, 0, none⟩) n cb)).run Tryz.prog wr = .ok (.string (txt (setT l))) wr := by
          rw [hL]
          refine run_convert_bytes_back (P := Tryz.prog) wr 97 9 5 ⟨g, 0, none⟩ cb (setT l) Tryz.underlying97 Tryz.underlying5 Tryz.underlying9 (fun j hj => ?_)
          rw [Addr.add_lit, Nat.zero_add, hR.cellAt j (by omega)]
          simp [Lib.byteCells, hj]
        clear hR hL htk
        go_wp2_with fail
        go_ret
        exact ⟨rfl, HB.out⟩
end Go.Proofs.YtpnnchpaaopdcaaGreatDoor
namespace Go.Proofs.YtpnnchpaaopdcaaGreatDoor
open Go
theorem numV_snoc : ∀ (l : List UInt8) (a u : Nat) (c : UInt8), numV a l = some u → dig c → numV a (l ++ [c]) = some (10 * u + (c.toNat - 48))
  | [], a, u, c, h, hc => by have : a = u := Option.some.inj h; subst this; simp [numV, hc]
  | x :: r, a, u, c, h, hc => by
    unfold numV at h
    split at h
    · rename_i hx
      show (if dig x then numV _ (r ++ [c]) else none) = _
      rw [if_pos hx]
      exact numV_snoc r _ u c h hc
    · cases h
theorem dig_of {d : Nat} (h : d < 10) : dig (UInt8.ofNat (48 + d)) ∧ (UInt8.ofNat (48 + d)).toNat - 48 = d := by
  have e : (UInt8.ofNat (48 + d)).toNat = 48 + d := by simp; omega
  unfold dig; rw [e]; omega
theorem dec_spell (n : Nat) : numV 0 (Lib.decDigits n) = some n ∧ (∀ c ∈ Lib.decDigits n, dig c) ∧ Lib.decDigits n ≠ [] ∧ (0 < n → (Lib.decDigits n).head? ≠ some 48) := by
  induction n using Nat.strongRecOn with
  | _ n ih =>
    by_cases h : n < 10
    · rw [dec_small h]
      obtain ⟨d1, d2⟩ := dig_of h
      refine ⟨?_, fun c hc => by rw [List.mem_singleton.1 hc]; exact d1, by simp, fun h0 e => ?_⟩
      · show (if dig _ then numV _ [] else none) = _
        rw [if_pos d1, d2]; simp [numV]
      · have e2 : UInt8.ofNat (48 + n) = 48 := by simpa using e
        have e3 : (UInt8.ofNat (48 + n)).toNat = 48 := by rw [e2]; rfl
        have e4 : (UInt8.ofNat (48 + n)).toNat = 48 + n := by simp; omega
        omega
    · obtain ⟨i1, i2, i3, i4⟩ := ih (n / 10) (by omega)
      rw [dec_big h]
      obtain ⟨d1, d2⟩ := dig_of (d := n % 10) (by omega)
      refine ⟨?_, fun c hc => ?_, by simp, fun h0 => ?_⟩
      · rw [numV_snoc _ _ _ _ i1 d1, d2]; congr 1; omega
      · rcases List.mem_append.1 hc with hc | hc
        · exact i2 c hc
        · rw [List.mem_singleton.1 hc]; exact d1
      · have := i4 (by omega)
        cases hd : Lib.decDigits (n / 10) with
        | nil => exact absurd hd i3
        | cons a t => rw [hd] at this; simpa using this
theorem endT_chars {n : Nat} : ∀ c ∈ endT n, c ≠ 44 ∧ c ≠ 58 := by
  intro c hc
  unfold endT at hc
  split at hc
  · rw [List.mem_singleton.1 hc]; decide
  · have h := (dec_spell n).2.1 c hc
    unfold dig at h
    constructor
    · intro e; subst e; revert h; decide
    · intro e; subst e; revert h; decide
theorem endB_endT {n : Nat} (h : n ≤ 4294967295) : endB (endT n) = some n := by
  unfold endT
  by_cases h0 : n = 0
  · subst h0; simp [endB]
  · rw [if_neg h0]
    obtain ⟨i1, i2, i3, i4⟩ := dec_spell n
    refine (endB_ok ?_ (i4 (by omega)) n).2 ⟨i3, i1, h⟩
    intro e
    have := i2 42 (by rw [e]; simp)
    revert this; decide
theorem rangeT_chars (x : Nat × Nat) : ∀ c ∈ rangeT x, c ≠ 44 := by
  intro c hc
  unfold rangeT at hc
  rcases List.mem_append.1 hc with hc | hc
  · exact (endT_chars c hc).1
  · split at hc
    · simp at hc
    · rcases List.mem_cons.1 hc with rfl | hc
      · decide
      · exact (endT_chars c hc).1
theorem rangeOf_rangeT {x : Nat × Nat} (h1 : x.1 ≤ 4294967295) (h2 : x.2 ≤ 4294967295) : rangeOf (rangeT x) = some x := by
  obtain ⟨a, b⟩ := x
  unfold rangeT
  by_cases e : a = b
  · rw [if_pos e, List.append_nil, rangeOf_one (fun c hc => (endT_chars c hc).2), endB_endT h1]
    show some (a, a) = _
    rw [show (a, b) = (a, a) by rw [e]]
  · rw [if_neg e, rangeOf_two (fun c hc => (endT_chars c hc).2), endB_endT h1, endB_endT h2]; rfl
theorem split_ranges : ∀ (r : List (Nat × Nat)) (p : List UInt8), (∀ c ∈ p, c ≠ 44) → splitB 44 (p ++ rangesT false r) = p :: r.map rangeT
  | [], p, hp => by
    show splitB 44 (p ++ []) = _
    rw [List.append_nil, splitB_none hp]; rfl
  | x :: r, p, hp => by
    show splitB 44 (p ++ ([44] ++ rangeT x ++ rangesT false r)) = _
    rw [List.append_assoc, List.singleton_append, splitB_some hp, split_ranges r (rangeT x) (rangeT_chars x)]
    rfl
theorem mapR_ranges : ∀ (l : List (Nat × Nat)), Small l → mapR (l.map rangeT) = some l
  | [], _ => rfl
  | x :: r, h => by
    have hx := h x (List.mem_cons_self ..)
    rw [List.map_cons, mapR_cons, rangeOf_rangeT hx.1 hx.2, mapR_ranges r (fun y hy => h y (List.mem_cons_of_mem _ hy))]
    rfl
theorem setOf_setT {l : List (Nat × Nat)} (h0 : l ≠ []) (h : Small l) : setOf (setT l) = some l := by
  cases l with
  | nil => exact absurd rfl h0
  | cons x r =>
    unfold setOf setT
    have e : rangesT true (x :: r) = rangeT x ++ rangesT false r := by simp [rangesT]
    rw [e, split_ranges r _ (rangeT_chars x)]
    exact mapR_ranges (x :: r) h
end Go.Proofs.YtpnnchpaaopdcaaGreatDoor

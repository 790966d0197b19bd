/-
  A set's text.
  The document's text of a set that is an argument's; of a flag, as it stands in a key: contracts.
  A flag's name as it stands in a key, by the document: contracts.
  The program's reader: literals, quoted texts, strings: contracts.
  The program's reader: quoted texts, strings: contracts.
  The program's reader: strings: contract; the chapter's examples.
  The chapter's examples; the law TokenGivesUp: its walk.
  isAtom: contract.
  The document's reader: what is left, to give up, rows of bytes, numbers: contracts.
  The document's reader: atoms, numbers, words, literals: contracts.
  The document's reader: numbers, words, literals: contracts.
  The document's reader: literals, strings: contracts.
  A region that draws its order, by what holds behind whichever of its operations have come up: a case for each operation, not for each order.
  XInv's law inside a round. MADE by wip/tools/mkInvIn.py.
  The document's reader: strings: contract.
  A range over an iterator, what it hands out told of the world in which it does. MADE by wip/tools/mkIterV.py.
-/
import Derived.Test.YtpnnchpaaopdcaaGreatDoorZR04
import Derived.Test.YtpnnchpaaopdcaaGreatDoorZR01
import Derived.Test.YtpnnchpaaopdcaaGreatDoorZR05
import Derived.Lib.UnsafeStr
import Derived.Lib.OthersKept
import Derived.Maps.AppendAt
import Derived.Deep.QuietTactic
import Derived.BigQuiet
import Derived.Orders
import Derived.RegionTactic
import Derived.Deep.RegionHeld
import Derived.Test.YtpnnchpaaopdcaaGreatDoorProg
import Derived.OrdersIn
set_option linter.unusedVariables false
set_option linter.unusedSimpArgs false
namespace Go.Proofs.YtpnnchpaaopdcaaGreatDoor
open Go Go.RowKit Go.Shelf
attribute [local go_sem] Oper.semAt_some wide_fn wide_depth
theorem ownsRowF_itself {T0 : TypeId → Prop} {D : Nat} {A B : World} (h : Itself T0 D A B) {base : Nat} {e : TypeId} {size : Nat} {v : Value} {n : Nat} {xs : List Value} (hT : ¬ T0 e)
    (ho : A.ownsRowF base e size v n xs) : B.ownsRowF base e size v n xs := by
  refine ⟨ho.1, ?_⟩
  rcases ho.2 with hn | ⟨g, cap, cur, fz, hv, hb, hg, rest⟩
  · exact .inl hn
  · exact .inr ⟨g, cap, cur, fz, hv, hb, h.same _ _ _ _ hT hg, rest⟩
theorem builder_itself {T0 : TypeId → Prop} {D : Nat} {A B : World} (h : Itself T0 D A B) {T e : TypeId} {base b : Nat} {bs : List Value} (hT : ¬ T0 e) (hb : b < D)
    (hI : Lib.IsBuilderF T e base b bs A) : Lib.IsBuilderF T e base b bs B := by
  have one : ∀ p, Lib.BuilderAtF T e base b p bs A → Lib.BuilderAtF T e base b p bs B := by
    rintro p ⟨h1, v, h2, h3, h4⟩
    exact ⟨h1, v, (h.below _ hb).trans h2, ownsRowF_itself h hT h3, h4⟩
  exact hI.imp (one _) (one _)
theorem keeps_of_others {T : TypeId → Prop} {cap : Nat → Prop} {D : Nat} {W W' : World} {e : TypeId} {b : Nat} (h : Lib.OthersKept e (some b) W W') (hs : W.heap.size ≤ W'.heap.size) (hT : T e) (hb : b < D) (hcb : ¬ cap b)
    (hce : ∀ k c fz, cap k → W.heap[k]? ≠ some (.cells c e fz)) : Keeps T cap D W W' :=
  ⟨hs, fun k o hk hp => h k o hk (by
    intro he; cases he
    rcases hp with hp | hp
    · exact hcb hp
    · omega) (fun c fz ho => by
    subst ho
    rcases hp with hp | hp
    · exact hce k c fz hp hk
    · exact hp.2 c e fz hT rfl)⟩
theorem blen_c (B b : Nat) (bs : List Value) (n : Int) (hn : n = bs.length) (w : World) (h : Lib.IsBuilderF 171 5 B b bs w) :
    Calls Tryz.prog 154 #[.pointer (some ⟨b, 0, none⟩)] w fun e w' => e = .returned (.int .i64 n) ∧ w = w' :=
  (Tryz.Builder_Len_f B b bs w h).mono fun _ _ ⟨h1, h2⟩ => ⟨by rw [hn]; exact h1, h2.symm⟩
theorem put_c (b : Nat) (l : List UInt8) (c : UInt8) (n : Int) (hn : n = c.toNat) (w : World) (h : Lib.IsBuilderF 171 5 b b (Lib.byteCells l) w) (hlen : l.length ≤ 1000) (hBw : b ≤ w.heap.size) :
    Calls Tryz.prog 152 #[.pointer (some ⟨b, 0, none⟩), .int .u8 n] w fun e w' => e = .returned .nilIface ∧ Lib.IsBuilderF 171 5 b b (Lib.byteCells (l ++ [c])) w' ∧ Below b w w' ∧ Lib.OthersKept 5 (some b) w w' := by
  subst hn
  refine (writeByte_c b b _ _ w h (by rw [Lib.byteCells_length]; omega) hBw).mono ?_
  rintro e w' ⟨he, h1, h2, h3⟩
  refine ⟨he, .inr ?_, h2, h3⟩
  rw [Lib.byteCells_append]
  exact h1
theorem puts_c (b : Nat) (l : List UInt8) (s : ByteArray) (w : World) (h : Lib.IsBuilderF 171 5 b b (Lib.byteCells l) w) (hlen : l.length ≤ 1000) (hs : s.size ≤ 1000) (hBw : b ≤ w.heap.size) :
    Calls Tryz.prog 155 #[.pointer (some ⟨b, 0, none⟩), .string s] w fun e w' => e = .returned (.tuple #[.int .i64 s.size, .nilIface]) ∧ Lib.IsBuilderF 171 5 b b (Lib.byteCells (l ++ s.data.toList)) w' ∧ Below b w w' ∧ Lib.OthersKept 5 (some b) w w' := by
  refine (writeString_c b b _ _ w h (by rw [Lib.byteCells_length]; omega) hBw).mono ?_
  rintro e w' ⟨he, h1, h2, h3⟩
  refine ⟨he, .inr ?_, h2, h3⟩
  rw [Lib.byteCells_append]
  exact h1
theorem nmB_size (i : Nat) : (nmB i).size ≤ 9 := by show (nm i).toArray.size ≤ 9; simpa using (nm_le i).1
set_option maxRecDepth 100000 in
set_option maxHeartbeats 4000000 in
theorem string_c (s : Nat) (hs : s < 256) (w : World) (hN : Names w) : Calls Tryz.prog 92 #[.int .u8 s] w fun e w' => e = .returned (.string ⟨(textOf s).toArray⟩) ∧ Below w.heap.size w w' := by
  refine (callsIn_wide (n := 3)).1 ?_
  refine callsIn_of_wp_marks Tryz.func92 rfl trivial ?_
  simp only [Tryz.ntmps92, List.size_toArray, List.length_cons, List.length_nil, Nat.reduceAdd, Nat.reduceSub, Array.replicate_succ, Array.replicate_zero, List.push_toArray, List.append_toArray, List.nil_append, List.cons_append]
  have HN := Lib.hid hN
  have HS := Lib.hid hs
  clear hN hs
  have hI0 := Lib.IsBuilderF.of (Lib.fresh_isBuilder 171 5 w)
  have HI0 := Lib.hid hI0
  clear hI0
  gi_wp2_with (gi_at_call 152; refine CallsIn.w (writeByte_c w.heap.size w.heap.size [] 40 _ HI0.out (by simp) (by simp)) ?_)
  rintro e w1 ⟨rfl, h1, hb1, -⟩
  replace h1 : Lib.IsBuilderF 171 5 w.heap.size w.heap.size (Lib.byteCells (40 :: joined [])) w1 := .inr h1
  replace hb1 : Below w.heap.size w w1 := ((Below.refl _ w).alloc (Nat.le_refl _) _).trans hb1
  have hlt1 : w.heap.size < w1.heap.size := h1.elim (·.lt) (·.lt)
  have H1 := Lib.hid h1
  have HB1 := Lib.hid hb1
  clear h1 hb1
  gi_wp2_with (gi_at_call 153; refine CallsIn.w (names_c _ _) ?_; rintro e w' ⟨rfl, rfl⟩)
  have bS := Boxed.new w1 32 (.int .u8 s)
  have hi0 : Itself (fun e => e = 68 ∨ e = 32) w1.heap.size w1 (w1.alloc (.cells #[.int .u8 s] 32)) := Itself.alloc _ w1 _ (Nat.le_refl _)
  have hsz : (w1.alloc (.cells #[.int .u8 s] 32)).heap.size = w1.heap.size + 1 := by simp
  have hI1 := builder_itself hi0 (show ¬ ((5 : Nat) = 68 ∨ (5 : Nat) = 32) by decide) hlt1 H1.out
  have hB1 : Below w.heap.size w (w1.alloc (.cells #[.int .u8 s] 32)) := HB1.out.trans (hi0.toBelow.mono (by omega))
  obtain ⟨W0, hW0⟩ : ∃ W0, w1.alloc (.cells #[.int .u8 s] 32) = W0 := ⟨_, rfl⟩
  rw [hW0] at bS hsz hi0 hI1 hB1 ⊢
  clear hW0 hi0
  refine wpIn_rangeIter (gf := 194) (lb := #[.pointer (some ⟨w1.heap.size, 0, none⟩)]) rfl (enters_of Tryz.func194 (by kernel_rfl) rfl) (names1_iter s w1.heap.size HS.out) (fun e => e = 5) (fun e he h => by subst he; revert h; decide) (fun _ => rfl)
    (fun k hk => by subst hk; omega) (fun W' hW' => ⟨HN.out.later ((hB1.trans (hW'.mono (by omega))).mono HN.out.lt), (hW'.block _ (by omega)).trans bS⟩)
    (fun pre W' => Lib.IsBuilderF 171 5 w.heap.size w.heap.size (Lib.byteCells (40 :: joined pre)) W' ∧ Below w.heap.size w W' ∧ Boxed W' w1.heap.size 32 (.int .u8 s))
    (fun _ _ _ => False)
    (fun s' A B h hAB => ⟨builder_itself hAB (by decide) (by omega) h.1, h.2.1.trans (hAB.toBelow.mono (by omega)), hAB.boxed h.2.2 (.inl (by omega))⟩)
    (fun c s' A B h hAB => h)
    ⟨hI1, hB1, bS⟩ ?round ?done ?stop
  case round =>
    rintro l' pre x W1 hl ⟨hj, hf, hb1⟩ hst
    gi_wp2
    refine ⟨Keeps.refl _ _ _ _, fun W2 hits hsz2 hrec hoth => ?_⟩
    have hj2 := builder_itself hits (show ¬ ((5 : Nat) = 68 ∨ (5 : Nat) = 32) by decide) (show w.heap.size < W0.heap.size by omega) hj
    have hf2 := hf.trans (hits.toBelow.mono (show w.heap.size ≤ W0.heap.size by omega))
    have hb2 := hits.boxed hb1 (.inl (by omega))
    have HJ2 := Lib.hid hj2
    have HF2 := Lib.hid hf2
    have HB2 := Lib.hid hb2
    have HST := Lib.hid hst
    have hle : w.heap.size ≤ W2.heap.size := hf2.size
    clear hj2 hf2 hb2 hst hj hf hb1 hits hrec hoth hsz2
    have hpl : (joined pre).length ≤ 50 := by
      have h1 := joined_le pre
      have h2 := ((List.prefix_append pre [x]).trans HST.out).length_le
      have h3 := seqOf_len s 5
      omega
    have fin : ∀ (l : List UInt8) (W3 : World), l = 40 :: joined (pre ++ [x]) → Lib.IsBuilderF 171 5 w.heap.size w.heap.size (Lib.byteCells l) W3 → Below w.heap.size W2 W3 → Lib.OthersKept 5 (some w.heap.size) W2 W3 →
        Keeps (fun e => e = 5) (fun k => k = w1.heap.size) W0.heap.size W2 W3 ∧ Lib.IsBuilderF 171 5 w.heap.size w.heap.size (Lib.byteCells (40 :: joined (pre ++ [x]))) W3 ∧ Below w.heap.size w W3 ∧ Boxed W3 w1.heap.size 32 (.int .u8 s) := by
      intro l W3 hl h1 h2 h3
      subst hl
      have hk : Keeps (fun e => e = 5) (fun k => k = w1.heap.size) W0.heap.size W2 W3 := keeps_of_others h3 h2.size rfl (by omega) (by omega) (fun k c fz hk ho => by
        subst hk
        have h24 := (show W2.heap[w1.heap.size]? = _ from HB2.out).symm.trans ho
        cases h24)
      exact ⟨hk, h1, HF2.out.trans h2, hk.boxed HB2.out (.inl rfl)⟩
    have FIN := Lib.hid fin
    clear fin
    by_cases hp : pre = []
    · have HP := Lib.hid hp
      clear hp
      gi_wp2_with (gi_at_call 154; refine CallsIn.wr (blen_c _ _ _ 1 (by rw [HP.out]; rfl) _ HJ2.out) ?_; rintro e w' ⟨rfl, rfl⟩)
      refine CallsIn.wr (puts_c _ _ _ _ HJ2.out (by simp; omega) (Nat.le_trans (nmB_size x) (by omega)) hle) ?_
      rintro e w' ⟨rfl, g1, g2, g3⟩
      have HQ := Lib.hid (FIN.out _ w' (by rw [joined_snoc, HP.out]; rfl) g1 g2 g3)
      clear g1 g2 g3
      gi_wp2_with fail
      exact HQ.out
    · obtain ⟨i, pre', hpe⟩ : ∃ i pre', pre = i :: pre' := by
        cases pre with
        | nil => exact absurd rfl hp
        | cons i l => exact ⟨i, l, rfl⟩
      have HPE := Lib.hid hpe
      have HP := Lib.hid hp
      clear hp hpe
      obtain ⟨m, hm, hm1⟩ : ∃ m : Int, m = ((Lib.byteCells (40 :: joined pre)).length : Int) ∧ 1 < m := ⟨_, rfl, by
        rw [Lib.byteCells_length, HPE.out]; have := joined_pos i pre'; simp only [List.length_cons]; omega⟩
      have HM := Lib.hid hm
      clear hm
      gi_wp2_with (gi_at_call 154; refine CallsIn.wr (blen_c _ _ _ m HM.out _ HJ2.out) ?_; rintro e w' ⟨rfl, rfl⟩)
      refine CallsIn.wr (put_c _ _ 32 32 rfl _ HJ2.out (by simp; omega) hle) ?_
      rintro e w3 ⟨rfl, g1, g2, g3⟩
      have G1 := Lib.hid g1
      have G2 := Lib.hid g2
      have G3 := Lib.hid g3
      have hle3 : w.heap.size ≤ w3.heap.size := Nat.le_trans hle g2.size
      clear g1 g2 g3
      gi_wp2_with fail
      refine CallsIn.wr (puts_c _ _ _ _ G1.out (by simp; omega) (Nat.le_trans (nmB_size x) (by omega)) hle3) ?_
      rintro e w' ⟨rfl, g1, g2, g3⟩
      have HQ := Lib.hid (FIN.out _ w' (by rw [joined_snoc, if_neg HP.out]; simp [nmB]) g1 (G2.out.trans g2) (G3.out.trans g3))
      clear g1 g2 g3
      gi_wp2_with fail
      exact HQ.out
  case done =>
    rintro D xs W1 hD rfl ⟨hj, hf, hb1⟩ hK
    have hpl : (joined (seqOf s 5)).length ≤ 50 := by
      have h1 := joined_le (seqOf s 5)
      have h3 := seqOf_len s 5
      omega
    have hle : w.heap.size ≤ W1.heap.size := hf.size
    have HJ := Lib.hid hj
    have HF := Lib.hid hf
    have HK := Lib.hid hK
    clear hj hf hb1 hK
    gi_wp2_with fail
    refine CallsIn.w (put_c _ _ 41 41 rfl _ HJ.out (by simp; omega) hle) ?_
    rintro e w3 ⟨rfl, g1, g2, g3⟩
    have hle3 : w.heap.size ≤ w3.heap.size := Nat.le_trans hle g2.size
    have hK3 := g3 _ _ HK.out (by intro h; cases h; omega) (fun _ _ h => by cases h)
    have G1 := Lib.hid g1
    have G2 := Lib.hid (HF.out.trans g2)
    have HK3 := Lib.hid hK3
    clear g1 g2 g3 hK3
    gi_wp2_with fail
    refine CallsIn.w (Tryz.Builder_String_any_k _ _ _ _ G1.out hle3) ?_
    rintro e w4 ⟨rfl, -, g2, g3⟩
    have hK4 := g3 _ _ HK3.out (by intro h; cases h; omega) (fun _ _ h => by cases h)
    have G4 := Lib.hid (G2.out.trans g2)
    have HK4 := Lib.hid hK4
    clear g2 g3 hK4
    gi_wp2_with fail
    refine ⟨by simp, .inl ⟨_, _, rfl, run_takeDeferred HK4.out, ?_⟩⟩
    exact ⟨_, results_tmp rfl _ _ _, rfl, G4.out.trans (belowK_b (w := w) (Nat.le_refl _) w4 D _ _ (by omega) HK4.out rfl rfl)⟩
  case stop =>
    rintro D c pre W1 hD hS h hK
    exact h.elim
end Go.Proofs.YtpnnchpaaopdcaaGreatDoor
namespace Go.Proofs.YtpnnchpaaopdcaaGreatDoor
open Go Go.RowKit
attribute [local go_sem ↓] Go.wp_at_zero Go.wp_at_succ
end Go.Proofs.YtpnnchpaaopdcaaGreatDoor
namespace Go.Proofs.YtpnnchpaaopdcaaGreatDoor
open Go Go.RowKit
def flagT (i : Nat) : List UInt8 := ((nm i).drop 1).map upB
theorem flagT_len (i : Nat) : (flagT i).length ≤ 9 := by unfold flagT; have := (nm_le i).1; simp; omega
theorem nm_tail (i : Nat) : (nmB i).extract 1 (nmB i).size = txt ((nm i).drop 1) := by
  apply ByteArray.ext
  apply Array.ext'
  simp [txt, nmB, ByteArray.size]
  exact List.take_of_length_le (by simp)
set_option maxRecDepth 20000 in
theorem rFlag14_c (i : Nat) (hi : i < 5) (w : World) : Calls Tryz.prog 115 #[.int .i64 i] w fun e w' => e = .returned (.string (txt (flagT i))) ∧ Below w.heap.size w w' := by
  have kc := namesRow_cell w hi
  have hex := nm_tail i
  have hsz : (nmB i).size ≤ 9 ∧ 5 ≤ (nmB i).size := by
    have := nm_le i
    show (nm i).toArray.size ≤ 9 ∧ 5 ≤ (nm i).toArray.size
    simpa using this
  have CU := fun w => rtUpper_c ((nm i).drop 1) (by have := (nm_le i).1; simp; omega) w
  obtain ⟨B, hB⟩ : ∃ B, nmB i = B := ⟨_, rfl⟩
  obtain ⟨n, hn⟩ : ∃ n, B.size = n := ⟨_, rfl⟩
  rw [hB] at kc hex hsz
  rw [hn] at hex hsz
  obtain ⟨X, hX⟩ : ∃ X, txt ((nm i).drop 1) = X := ⟨_, rfl⟩
  rw [hX] at hex
  simp only [hX] at CU
  obtain ⟨U, hU⟩ : ∃ U, txt (flagT i) = U := ⟨_, rfl⟩
  have CU : Hid (∀ w, Calls Tryz.prog 61 #[.string X] w fun e w' => e = .returned (.string U) ∧ Below w.heap.size w w') := fun w => by rw [← hU]; exact CU w
  rw [hU]
  have q : (i : Int) < 5 := by omega
  have q0 : (0 : Int) ≤ i := by omega
  have q1 : (1 : Int) ≤ n := by omega
  have HB := Lib.hid hB
  have hb0 : Hid (Below w.heap.size w (w.alloc namesRow)) := (Below.refl _ _).alloc (Nat.le_refl _) _
  have HR := Lib.hid (fun w => rnames_c w)
  clear hB hX
  go_enter Tryz.func115, Tryz.ntmps115
  go_wp2_with (first | (go_at_call 145; refine (HR.out _).mono ?_; rintro e w1 ⟨rfl, rfl⟩) | (go_at_call 61; refine (CU.out _).mono ?_; rintro e w2 ⟨rfl, hb⟩; have H2 := Lib.hid hb; clear hb) | fail)
  go_ret
  exact ⟨rfl, hb0.out.trans (H2.out.mono hb0.out.size)⟩
variable {W : World} {g : Nat} {s : RS}
theorem must_of (s : RS) (x : List UInt8) : (if wordB s x then wordS s x else .gone) = mustS s x := by
  unfold mustS wordS
  split <;> rfl
theorem numN_le (s : RS) : numN s ≤ 4294967295 := by
  unfold numN
  cases hn : numO s with
  | none => exact Nat.zero_le _
  | some v =>
    unfold numO numR at hn
    split at hn
    · cases hn
    · split at hn
      · split at hn
        · cases hn; assumption
        · cases hn
      · cases hn
set_option maxRecDepth 100000 in
set_option maxHeartbeats 1000000 in
theorem tkLiteral_c (h : PR W g s) (hok : s.Ok) (hl : s.l.length ≤ 100000) (hE : Errs W) (hg : Away g) : Calls Tryz.prog 184 #[pt g] W (Does W g (.string (txt (litV s))) (litS s)) := by
  have C1 := tkWord_c h hl [123] (by decide)
  have M1 : ∀ w, PR w g (wordS s [123]) → Calls Tryz.prog 161 #[pt g, .bool (wordB s [123])] w (Does w g (.tuple #[]) (mustS s [123])) := fun w hw => by
    have := tkmust_c hw (wordB s [123])
    rwa [must_of] at this
  have C2 : ∀ w, PR w g (mustS s [123]) → Errs w → Calls Tryz.prog 136 #[pt g] w (Does w g (.int .u32 (litN s)) (numS (mustS s [123]))) := fun w hw he =>
    tkNumber_c hw (hok.must _) (Nat.le_trans (must_le _ _) hl) he hg
  have hl2 : (numS (mustS s [123])).l.length ≤ 100000 := Nat.le_trans (num_le _) (Nat.le_trans (must_le _ _) hl)
  have C3 : ∀ w, PR w g (numS (mustS s [123])) → Calls Tryz.prog 99 #[pt g, .string (txt [125, 13, 10])] w (Does w g (.bool (wordB (numS (mustS s [123])) [125, 13, 10])) (wordS (numS (mustS s [123])) [125, 13, 10])) := fun w hw =>
    tkWord_c hw hl2 _ (by decide)
  have M3 : ∀ w, PR w g (wordS (numS (mustS s [123])) [125, 13, 10]) → Calls Tryz.prog 161 #[pt g, .bool (wordB (numS (mustS s [123])) [125, 13, 10])] w (Does w g (.tuple #[]) (litH s)) := fun w hw => by
    have := tkmust_c hw (wordB (numS (mustS s [123])) [125, 13, 10])
    rwa [must_of] at this
  have hn9 : litN s ≤ 4294967295 := numN_le _
  have hl3 := Nat.le_trans (litH_le s) hl
  unfold litV litS litB
  rw [show txt [123] = ⟨#[123]⟩ from rfl] at C1
  rw [show txt [125, 13, 10] = ⟨#[125, 13, 10]⟩ from rfl] at C3
  obtain ⟨v1, hv1⟩ : ∃ v, Value.bool (wordB s [123]) = v := ⟨_, rfl⟩
  obtain ⟨v3, hv3⟩ : ∃ v, Value.bool (wordB (numS (mustS s [123])) [125, 13, 10]) = v := ⟨_, rfl⟩
  obtain ⟨t3, ht3⟩ : ∃ t, wordS (numS (mustS s [123])) [125, 13, 10] = t := ⟨_, rfl⟩
  obtain ⟨s2, hs2⟩ : ∃ t, numS (mustS s [123]) = t := ⟨_, rfl⟩
  obtain ⟨s1, hs1⟩ : ∃ t, mustS s [123] = t := ⟨_, rfl⟩
  obtain ⟨t1, ht1⟩ : ∃ t, wordS s [123] = t := ⟨_, rfl⟩
  obtain ⟨n, hn⟩ : ∃ n, litN s = n := ⟨_, rfl⟩
  obtain ⟨⟨l, f⟩, hs3⟩ : ∃ t, litH s = t := ⟨_, rfl⟩
  rw [hv1, ht1] at C1
  rw [hv1, ht1, hs1] at M1
  rw [hs2, hs1, hn] at C2
  rw [hv3, ht3, hs2] at C3
  rw [hv3, ht3, hs3] at M3
  rw [hs3, hn]
  rw [hn] at hn9
  rw [hs3] at hl3
  dsimp only at hl3 ⊢
  have C1 := Lib.hid C1
  have M1 := Lib.hid M1
  have C2 := Lib.hid C2
  have C3 := Lib.hid C3
  have M3 := Lib.hid M3
  have HE := Lib.hid hE
  obtain ⟨rv, hrv⟩ : ∃ rv, (if (!f && (decide (n ≤ 65536) && decide (n ≤ l.length))) = true then l.take n else []) = rv := ⟨_, rfl⟩
  obtain ⟨rs, hrs⟩ : ∃ rs, (if (!f && (decide (n ≤ 65536) && decide (n ≤ l.length))) = true then (⟨l.drop n, false⟩ : RS) else .gone) = rs := ⟨_, rfl⟩
  rw [hrv, hrs]
  have e1 := txt_size l
  obtain ⟨N, hN⟩ : ∃ N, l.length = N := ⟨_, rfl⟩
  rw [hN] at hrv hrs e1 hl3
  have hex : (txt l).extract 0 n = txt (l.take n) := ext_take l
  have hed : (txt l).extract n N = txt (l.drop n) := ext_drop l hN.symm
  obtain ⟨B, hB⟩ : ∃ B, txt l = B := ⟨_, rfl⟩
  rw [hB] at e1 hex hed
  have HB := Lib.hid hB
  have HEX := Lib.hid hex
  have HED := Lib.hid hed
  have HRV := Lib.hid hrv
  have HRS := Lib.hid hrs
  clear h hE hv1 hv3 ht3 hs2 hs1 ht1 hn hs3 hrv hrs hN hB hex hed
  go_enter Tryz.func184, Tryz.ntmps184
  go_wp2_with fail
  refine C1.out.mono ?_
  rintro e w1 ⟨rfl, h1, k1⟩
  have D1 := Lib.hid (M1.out _ h1)
  have K1 := Lib.hid k1
  clear h1 k1
  go_wp2_with fail
  refine D1.out.mono ?_
  rintro e w2 ⟨rfl, h2, k2⟩
  have K2 := Lib.hid (K1.out.trans k2)
  have D2 := Lib.hid (C2.out _ h2 (HE.out.tk K2.out hg))
  clear h2 k2
  go_wp2_with fail
  refine D2.out.mono ?_
  rintro e w3 ⟨rfl, h3, k3⟩
  have K3 := Lib.hid (K2.out.trans k3)
  have D3 := Lib.hid (C3.out _ h3)
  clear h3 k3
  go_wp2_with fail
  refine D3.out.mono ?_
  rintro e w4 ⟨rfl, h4, k4⟩
  have K4 := Lib.hid (K3.out.trans k4)
  have D4 := Lib.hid (M3.out _ h4)
  clear h4 k4
  go_wp2_with fail
  refine D4.out.mono ?_
  rintro e w5 ⟨rfl, h5, k5⟩
  have K5 := Lib.hid (K4.out.trans k5)
  obtain ⟨c0, c1, hb, f0, f1⟩ := h5.facts
  dsimp only at c0 c1
  rw [HB.out] at c0
  have H5 := Lib.hid h5
  have CF := Lib.hid (tkFail_c h5)
  clear h5 k5 C1 M1 C2 C3 M3 D1 D2 D3 D4 K1 K2 K3 K4
  cases f with
  | true =>
    have HQ : Hid ([] = rv ∧ RS.gone = rs) := ⟨by rw [← HRV.out]; rfl, by rw [← HRS.out]; rfl⟩
    go_wp2_with fail
    refine CF.out.mono ?_
    rintro e w6 ⟨rfl, h6, k6⟩
    have H6 := Lib.hid h6
    have K6 := Lib.hid (K5.out.trans k6)
    clear h6 k6
    go_wp2_with fail
    go_ret
    exact ⟨by rw [← HQ.out.1]; rfl, HQ.out.2 ▸ H6.out, K6.out⟩
  | false =>
    by_cases h1 : n ≤ 65536
    · have q1 : ¬ (65536 : Int) < n := by omega
      by_cases h2 : n ≤ N
      · have q2 : ¬ (N : Int) < n := by omega
        have q3 : (n : Int) ≤ N := by omega
        have HQ : Hid (l.take n = rv ∧ (⟨l.drop n, false⟩ : RS) = rs) := ⟨by rw [← HRV.out]; simp [h1, h2], by rw [← HRS.out]; simp [h1, h2]⟩
        go_wp2_with fail
        go_ret
        refine ⟨by rw [← HQ.out.1, ← HEX.out]; rfl, ?_, K5.out.trans (Tk.set _ _ _)⟩
        rw [← HQ.out.2]
        have h7 := H5.out.set0 (l.drop n)
        rw [← HED.out] at h7
        exact h7
      · have q2 : (N : Int) < n := by omega
        have HQ : Hid ([] = rv ∧ RS.gone = rs) := ⟨by rw [← HRV.out]; simp [h2], by rw [← HRS.out]; simp [h2]⟩
        go_wp2_with fail
        refine CF.out.mono ?_
        rintro e w6 ⟨rfl, h6, k6⟩
        have H6 := Lib.hid h6
        have K6 := Lib.hid (K5.out.trans k6)
        clear h6 k6
        go_wp2_with fail
        go_ret
        exact ⟨by rw [← HQ.out.1]; rfl, HQ.out.2 ▸ H6.out, K6.out⟩
    · have q1 : (65536 : Int) < n := by omega
      have HQ : Hid ([] = rv ∧ RS.gone = rs) := ⟨by rw [← HRV.out]; simp [h1], by rw [← HRS.out]; simp [h1]⟩
      go_wp2_with fail
      refine CF.out.mono ?_
      rintro e w6 ⟨rfl, h6, k6⟩
      have H6 := Lib.hid h6
      have K6 := Lib.hid (K5.out.trans k6)
      clear h6 k6
      go_wp2_with fail
      go_ret
      exact ⟨by rw [← HQ.out.1]; rfl, HQ.out.2 ▸ H6.out, K6.out⟩
end Go.Proofs.YtpnnchpaaopdcaaGreatDoor
namespace Go.Proofs.YtpnnchpaaopdcaaGreatDoor
open Go Go.RowKit
variable {W : World} {g : Nat} {s : RS}
theorem own_str {w : World} {base n : Nat} {v : Value} {l : List UInt8} (ho : w.ownsRow base 5 1 v n (Lib.byteCells l)) (hn : l.length = n) : (convert 97 9 v).run Tryz.prog w = .ok (.string (txt l)) w := by
  subst hn
  rcases ho.2 with ⟨rfl, h0⟩ | ⟨g, cap, cur, rfl, hg, hgg, rest⟩
  · obtain rfl : l = [] := List.length_eq_zero_iff.1 h0
    kernel_rfl
  · refine run_convert_bytes_back (P := Tryz.prog) w 97 9 5 ⟨g, 0, none⟩ cap l Tryz.underlying97 Tryz.underlying5 Tryz.underlying9 (fun j hj => ?_)
    exact ho.cells (g := g) rfl j _ (by simp [Lib.byteCells, List.getElem?_map, List.getElem?_eq_getElem hj])
theorem qd_at {l : List UInt8} {k : Nat} (hk : k < l.length) {c : UInt8} (hc : l[k] = c) :
    qd (l.drop k) = if c = 34 then some ([], l.drop (k + 1)) else if c = 13 ∨ c = 10 then none else if c = 92 then
      (match l.drop (k + 1) with | [] => none | d :: r' => if d = 34 ∨ d = 92 then (qd r').map fun x => (d :: x.1, x.2) else none) else (qd (l.drop (k + 1))).map fun x => (c :: x.1, x.2) := by
  rw [List.drop_eq_getElem_cons hk, hc]
  conv => lhs; unfold qd
  rfl
theorem qd_end {l : List UInt8} {k : Nat} (hk : l.length ≤ k) : qd (l.drop k) = none := by
  rw [List.drop_of_length_le hk]; rfl
def qS (R : Option (List UInt8 × List UInt8)) : RS := match R with | some x => ⟨x.2, false⟩ | none => .gone
def qV (R : Option (List UInt8 × List UInt8)) : List UInt8 := (R.map (·.1)).getD []
set_option maxRecDepth 100000 in
set_option maxHeartbeats 4000000 in
theorem tkquoted_c (h : PR W g s) (hf : s.f = false) (hl : s.l.length ≤ 100000) : Calls Tryz.prog 183 #[pt g] W
    (Does W g (.string (txt (qV (qd s.l.tail)))) (qS (qd s.l.tail))) := by
  obtain ⟨i0, hi, hz0, hz1, hz2⟩ := info_parts Tryz.infoByte
  obtain ⟨c0, c1, hb, f0, f1⟩ := h.facts
  have H := Lib.hid h
  obtain ⟨l, f⟩ := s
  dsimp only at hf c0 c1 hl ⊢
  subst hf
  have e1 := txt_size l
  obtain ⟨N, hN⟩ : ∃ N, l.length = N := ⟨_, rfl⟩
  obtain ⟨R, hR⟩ : ∃ R, qd l.tail = R := ⟨_, rfl⟩
  have hR1 : qd (l.drop 1) = R := by rw [← hR, List.drop_one]
  rw [hR]
  obtain ⟨X, hX⟩ : ∃ X, qV R = X := ⟨_, rfl⟩
  obtain ⟨Y, hY⟩ : ∃ Y, qS R = Y := ⟨_, rfl⟩
  rw [hX, hY]
  have HX := Lib.hid hX
  have HY := Lib.hid hY
  have hed : ∀ k, (txt l).extract k N = txt (l.drop k) := fun k => ext_drop l hN.symm
  obtain ⟨B, hB⟩ : ∃ B, txt l = B := ⟨_, rfl⟩
  have hat : ∀ k (hk : k < B.size), l[k]? = some B[k] := fun k hk => by
    subst hB
    rw [at_txt (by rw [txt_size] at hk; exact hk)]; exact List.getElem?_eq_getElem _
  simp only [hB] at hed
  rw [hB] at c0 e1
  rw [hN] at e1 hl
  have HN := Lib.hid hN
  have HR := Lib.hid hR1
  have HED := Lib.hid hed
  have HAT := Lib.hid hat
  have HB := Lib.hid hB
  clear h hN hR hR1 hed hat hB hX hY
  go_enter Tryz.func183, Tryz.ntmps183
  go_wp2_with fail
  go_step3
  go_wp2_with fail
  go_step3
  go_wp2_with fail
  clear c0 c1 f0 f1
  go_loopw [3, 4, 5, 6] (fun bv ev iv _ wr => ev = .int .i64 0 ∧ ∃ (k : Nat) (acc : List UInt8) (n : Nat), k ≤ N + 1 ∧ 1 ≤ k ∧ iv = .int .i64 k ∧ n ≤ k ∧ (∃ a c, bv = .slice a n c) ∧ Hid (acc.length = n) ∧ Hid (R = (qd (l.drop k)).map fun x => (acc ++ x.1, x.2)) ∧ Hid (wr.ownsRow W.heap.size 5 1 bv n (Lib.byteCells acc)) ∧ Hid (Below W.heap.size W wr)) (fun _ _ iv _ _ => N + 1 - (intOf iv).toNat)
  case atStart => exact ⟨rfl, 1, [], 0, by omega, Nat.le_refl _, rfl, Nat.zero_le _, ⟨none, 0, rfl⟩, rfl, by show R = _; rw [HR.out]; simp, World.ownsRow_nil _ _ _ _, Below.refl _ _⟩
  case round =>
    obtain ⟨rfl, k, acc, n, hk, hk1, rfl, hnk, ⟨ba, bc, rfl⟩, HL, HM, HO, HW⟩ := hrel
    have hp := H.out.tk (Tk.of_below (g := g + 1) HW.out) (by omega)
    obtain ⟨c0, c1, hbr, f0, f1⟩ := hp.facts
    dsimp only at c0 c1
    rw [HB.out] at c0
    have CF := Lib.hid (tkFail_c hp)
    have HP := Lib.hid hp
    have hsz := HW.out.size
    clear hp
    have hno : R = none → Hid ([] = X ∧ RS.gone = Y) := fun h => ⟨by rw [← HX.out, h]; rfl, by rw [← HY.out, h]; rfl⟩
    have HNO := Lib.hid hno
    clear hno
    by_cases hlt : k < N
    · have hq : (k : Int) < N := by omega
      have hq0 : (0 : Int) ≤ k := by omega
      have hkB : k < B.size := by omega
      have hc1 : B[k].toNat < 256 := B[k].toNat_lt
      obtain ⟨hkl, hkc⟩ := List.getElem?_eq_some_iff.1 (HAT.out k hkB)
      have hqd := qd_at hkl hkc
      by_cases h34 : B[k].toNat = 34
      · have ec : ((B[k].toNat : Int) == 34) = true := qT (by omega)
        have h34' : B[k] = 34 := UInt8.toNat_inj.1 h34
        rw [if_pos h34'] at hqd
        have HQ : Hid (acc = X ∧ (⟨l.drop (k + 1), false⟩ : RS) = Y) := by
          have hRR := HM.out
          rw [hqd] at hRR
          exact ⟨by rw [← HX.out, hRR]; simp [qV], by rw [← HY.out, hRR]; rfl⟩
        have ek : ((k : Int) == 0) = false := qF (by omega)
        have kc : ∀ v, (wr.setCell ⟨g, 0, none⟩ v).ownsRow W.heap.size 5 1 (.slice ba n bc) n (Lib.byteCells acc) → (convert 97 9 (.slice ba n bc)).run Tryz.prog (wr.setCell ⟨g, 0, none⟩ v) = .ok (.string (txt acc)) (wr.setCell ⟨g, 0, none⟩ v) := fun v h => own_str h HL.out
        have ho : ∀ v, (wr.setCell ⟨g, 0, none⟩ v).ownsRow W.heap.size 5 1 (.slice ba n bc) n (Lib.byteCells acc) := fun v => by
          have h0 := HO.out
          refine ⟨h0.1, ?_⟩
          rcases h0.2 with hn | ⟨g', cap, cur, hv, hg', hgg, rest⟩
          · exact .inl hn
          · exact .inr ⟨g', cap, cur, hv, hg', (Below.heap_setCell wr ⟨g, 0, none⟩ v g' (by show g' ≠ g; omega)).trans hgg, rest⟩
        have kc2 := fun v => kc v (ho v)
        have hkN : (k : Int) + 1 ≤ N := by omega
        clear kc ho hqd hkc h34 h34'
        go_wp2_with fail
        rw [Exit.noGoto_ret]
        go_ret
        refine ⟨by rw [← HQ.out.1]; rfl, ?_, (Tk.of_below HW.out).trans (Tk.set _ _ _)⟩
        rw [← HQ.out.2]
        have h7 := HP.out.set0 (l.drop (k + 1))
        rw [← HED.out] at h7
        exact h7
      · have ec : ((B[k].toNat : Int) == 34) = false := qF (by omega)
        have h34' : B[k] ≠ 34 := fun e => h34 (by rw [e]; rfl)
        rw [if_neg h34'] at hqd
        by_cases h13 : B[k].toNat = 13
        · have ed : ((B[k].toNat : Int) == 13) = true := qT (by omega)
          rw [if_pos (.inl (UInt8.toNat_inj.1 h13))] at hqd
          have HQ := HNO.out (by rw [HM.out, hqd]; rfl)
          clear hqd hkc h34 h34' h13
          go_wp2_with fail
          refine CF.out.mono ?_
          rintro e w6 ⟨rfl, h6, k6⟩
          have H6 := Lib.hid h6
          have K6 := Lib.hid ((Tk.of_below HW.out).trans k6)
          clear h6 k6
          go_wp2_with fail
          rw [Exit.noGoto_ret]
          go_ret
          exact ⟨by rw [← HQ.out.1]; rfl, HQ.out.2 ▸ H6.out, K6.out⟩
        · have ed : ((B[k].toNat : Int) == 13) = false := qF (by omega)
          by_cases h10 : B[k].toNat = 10
          · have ee : ((B[k].toNat : Int) == 10) = true := qT (by omega)
            rw [if_pos (.inr (UInt8.toNat_inj.1 h10))] at hqd
            have HQ := HNO.out (by rw [HM.out, hqd]; rfl)
            clear hqd hkc h34 h34' h13 h10
            go_wp2_with fail
            refine CF.out.mono ?_
            rintro e w6 ⟨rfl, h6, k6⟩
            have H6 := Lib.hid h6
            have K6 := Lib.hid ((Tk.of_below HW.out).trans k6)
            clear h6 k6
            go_wp2_with fail
            rw [Exit.noGoto_ret]
            go_ret
            exact ⟨by rw [← HQ.out.1]; rfl, HQ.out.2 ▸ H6.out, K6.out⟩
          · have ee : ((B[k].toNat : Int) == 10) = false := qF (by omega)
            rw [if_neg (by rintro (e | e); · exact h13 (by rw [e]; rfl)
                           · exact h10 (by rw [e]; rfl))] at hqd
            by_cases h92 : B[k].toNat = 92
            · have eg : ((B[k].toNat : Int) == 92) = true := qT (by omega)
              rw [if_pos (UInt8.toNat_inj.1 h92)] at hqd
              by_cases hlt2 : k + 1 < N
              · have eh : ((k : Int) + 1 == (N : Int)) = false := qF (by omega)
                have hr2 : (k : Int) + 1 < N := by omega
                have hkB2 : k + 1 < B.size := by omega
                have hc2 : B[k + 1].toNat < 256 := B[k + 1].toNat_lt
                obtain ⟨hkl2, hkc2⟩ := List.getElem?_eq_some_iff.1 (HAT.out (k + 1) hkB2)
                rw [List.drop_eq_getElem_cons hkl2, hkc2] at hqd
                dsimp only at hqd
                by_cases hd : B[k + 1].toNat = 34 ∨ B[k + 1].toNat = 92
                · rw [if_pos (by rcases hd with e | e; · exact .inl (UInt8.toNat_inj.1 e)
                                 · exact .inr (UInt8.toNat_inj.1 e))] at hqd
                  have HM2 : Hid (R = (qd (l.drop (k + 2))).map fun x => ((acc ++ [B[k + 1]]) ++ x.1, x.2)) := by
                    show R = _
                    rw [HM.out, hqd, Option.map_map]; congr 1; funext x; simp
                  rcases hd with hd | hd
                  · have ei : (B[k + 1].toNat : Int) = 34 := by omega
                    have HM2 : Hid (R = (qd (l.drop (k + 2))).map fun x => ((acc ++ [34]) ++ x.1, x.2)) := by have := HM2.out; rw [UInt8.toNat_inj.1 (show B[k + 1].toNat = (34 : UInt8).toNat from hd)] at this; exact this
                    clear hqd hkc hkc2 h34 h34' h13 h10 h92 hd
                    go_wp2_with (at_builtin; refine wpList_append_own _ rfl (.tmp 64) (.tmp 66) 97 rfl W.heap.size 5 i0 (.int .u8 0) 1 1 Tryz.underlying97 hi hz0 hz1 hz2 rfl (by decide) _ _ _ rfl (HO.out.alloc _) ⟨wr.heap.size, 0, none⟩ 1 1 [.int .u8 34] rfl rfl (cell_one_new _ _ _) (fun x hx => by simp at hx; subst hx; rfl) (by unfold maxLen; omega) (by omega) (by simp; omega) ?_)
                    intro v' w4 hown4 hgrow4 _
                    have hb4 : Below W.heap.size W w4 := Below.grown (HW.out.alloc HW.out.size _) hgrow4 (by simp; omega) (fun j hj => (HO.out.lt _ hj).1)
                    obtain ⟨a4, c4, hv4⟩ := own_form hown4
                    have HO4 : Hid (w4.ownsRow W.heap.size 5 1 v' (n + 1) (Lib.byteCells (acc ++ [34]))) := by
                      show World.ownsRow _ _ _ _ _ _ _
                      rw [Lib.byteCells_append]; exact hown4
                    have HB4 := Lib.hid hb4
                    subst hv4
                    clear hown4 hgrow4 hb4
                    go_wp2_with fail
                    go_roundw
                    case rel => exact ⟨rfl, k + 2, acc ++ [34], n + 1, by omega, by omega, by go_num, by omega, ⟨_, _, rfl⟩, by show (acc ++ [34]).length = n + 1; rw [List.length_append, HL.out]; rfl, HM2.out, HO4.out, HB4.out⟩
                    case measure => simp [intOf]; omega
                  · have ei : ¬ (B[k + 1].toNat : Int) = 34 := by omega
                    have ej : (B[k + 1].toNat : Int) = 92 := by omega
                    have HM2 : Hid (R = (qd (l.drop (k + 2))).map fun x => ((acc ++ [92]) ++ x.1, x.2)) := by have := HM2.out; rw [UInt8.toNat_inj.1 (show B[k + 1].toNat = (92 : UInt8).toNat from hd)] at this; exact this
                    have h34n : B[k + 1].toNat ≠ 34 := by omega
                    clear hqd hkc hkc2 h34 h34' h13 h10 h92 hd
                    go_wp2_with (at_builtin; refine wpList_append_own _ rfl (.tmp 64) (.tmp 66) 97 rfl W.heap.size 5 i0 (.int .u8 0) 1 1 Tryz.underlying97 hi hz0 hz1 hz2 rfl (by decide) _ _ _ rfl (HO.out.alloc _) ⟨wr.heap.size, 0, none⟩ 1 1 [.int .u8 92] rfl rfl (cell_one_new _ _ _) (fun x hx => by simp at hx; subst hx; rfl) (by unfold maxLen; omega) (by omega) (by simp; omega) ?_)
                    intro v' w4 hown4 hgrow4 _
                    have hb4 : Below W.heap.size W w4 := Below.grown (HW.out.alloc HW.out.size _) hgrow4 (by simp; omega) (fun j hj => (HO.out.lt _ hj).1)
                    obtain ⟨a4, c4, hv4⟩ := own_form hown4
                    have HO4 : Hid (w4.ownsRow W.heap.size 5 1 v' (n + 1) (Lib.byteCells (acc ++ [92]))) := by
                      show World.ownsRow _ _ _ _ _ _ _
                      rw [Lib.byteCells_append]; exact hown4
                    have HB4 := Lib.hid hb4
                    subst hv4
                    clear hown4 hgrow4 hb4
                    go_wp2_with fail
                    go_roundw
                    case rel => exact ⟨rfl, k + 2, acc ++ [92], n + 1, by omega, by omega, by go_num, by omega, ⟨_, _, rfl⟩, by show (acc ++ [92]).length = n + 1; rw [List.length_append, HL.out]; rfl, HM2.out, HO4.out, HB4.out⟩
                    case measure => simp [intOf]; omega
                · have ei : ¬ (B[k + 1].toNat : Int) = 34 := fun e => hd (.inl (by omega))
                  have ej : ¬ (B[k + 1].toNat : Int) = 92 := fun e => hd (.inr (by omega))
                  have ei2 : ((B[k + 1].toNat : Int) != 34) = true := by rw [bne_iff_ne]; exact ei
                  have ej2 : ((B[k + 1].toNat : Int) != 92) = true := by rw [bne_iff_ne]; exact ej
                  rw [if_neg (by rintro (e | e); · exact hd (.inl (by rw [e]; rfl))
                                 · exact hd (.inr (by rw [e]; rfl)))] at hqd
                  have HQ := HNO.out (by rw [HM.out, hqd]; rfl)
                  clear hqd hkc hkc2 h34 h34' h13 h10 h92 hd
                  go_wp2_with fail
                  refine CF.out.mono ?_
                  rintro e w6 ⟨rfl, h6, k6⟩
                  have H6 := Lib.hid h6
                  have K6 := Lib.hid ((Tk.of_below HW.out).trans k6)
                  clear h6 k6
                  go_wp2_with fail
                  rw [Exit.noGoto_ret]
                  go_ret
                  exact ⟨by rw [← HQ.out.1]; rfl, HQ.out.2 ▸ H6.out, K6.out⟩
              · have eh : ((k : Int) + 1 == (N : Int)) = true := qT (by omega)
                rw [show l.drop (k + 1) = [] from List.drop_of_length_le (by rw [HN.out]; omega)] at hqd
                dsimp only at hqd
                have HQ := HNO.out (by rw [HM.out, hqd]; rfl)
                clear hqd hkc h34 h34' h13 h10 h92
                go_wp2_with fail
                refine CF.out.mono ?_
                rintro e w6 ⟨rfl, h6, k6⟩
                have H6 := Lib.hid h6
                have K6 := Lib.hid ((Tk.of_below HW.out).trans k6)
                clear h6 k6
                go_wp2_with fail
                rw [Exit.noGoto_ret]
                go_ret
                exact ⟨by rw [← HQ.out.1]; rfl, HQ.out.2 ▸ H6.out, K6.out⟩
            · have eg : ((B[k].toNat : Int) == 92) = false := qF (by omega)
              rw [if_neg (fun e => h92 (by rw [e]; rfl))] at hqd
              have HM2 : Hid (R = (qd (l.drop (k + 1))).map fun x => ((acc ++ [B[k]]) ++ x.1, x.2)) := by
                show R = _
                rw [HM.out, hqd, Option.map_map]; congr 1; funext x; simp
              clear hqd hkc h34 h34' h13 h10 h92
              go_wp2_with (at_builtin; refine wpList_append_own _ rfl (.tmp 64) (.tmp 66) 97 rfl W.heap.size 5 i0 (.int .u8 0) 1 1 Tryz.underlying97 hi hz0 hz1 hz2 rfl (by decide) _ _ _ rfl (HO.out.alloc _) ⟨wr.heap.size, 0, none⟩ 1 1 [.int .u8 B[k].toNat] rfl rfl (cell_one_new _ _ _) (fun x hx => by simp at hx; subst hx; rfl) (by unfold maxLen; omega) (by omega) (by simp; omega) ?_)
              intro v' w4 hown4 hgrow4 _
              have hb4 : Below W.heap.size W w4 := Below.grown (HW.out.alloc HW.out.size _) hgrow4 (by simp; omega) (fun j hj => (HO.out.lt _ hj).1)
              obtain ⟨a4, c4, hv4⟩ := own_form hown4
              have HO4 : Hid (w4.ownsRow W.heap.size 5 1 v' (n + 1) (Lib.byteCells (acc ++ [B[k]]))) := by
                show World.ownsRow _ _ _ _ _ _ _
                rw [Lib.byteCells_append]; exact hown4
              have HB4 := Lib.hid hb4
              subst hv4
              clear hown4 hgrow4 hb4
              go_wp2_with fail
              go_roundw
              case rel => exact ⟨rfl, k + 1, acc ++ [B[k]], n + 1, by omega, by omega, by go_num, by omega, ⟨_, _, rfl⟩, by show (acc ++ [B[k]]).length = n + 1; rw [List.length_append, HL.out]; rfl, HM2.out, HO4.out, HB4.out⟩
              case measure => simp [intOf]; omega
    · have hq : ¬ (k : Int) < N := by omega
      have HQ := HNO.out (by rw [HM.out, qd_end (by rw [HN.out]; omega)]; rfl)
      go_wp2_with fail
      refine CF.out.mono ?_
      rintro e w6 ⟨rfl, h6, k6⟩
      have H6 := Lib.hid h6
      have K6 := Lib.hid ((Tk.of_below HW.out).trans k6)
      clear h6 k6
      go_wp2_with fail
      rw [Exit.noGoto_ret]
      go_ret
      exact ⟨by rw [← HQ.out.1]; rfl, HQ.out.2 ▸ H6.out, K6.out⟩
end Go.Proofs.YtpnnchpaaopdcaaGreatDoor
namespace Go.Proofs.YtpnnchpaaopdcaaGreatDoor
open Go Go.RowKit
variable {W : World} {g : Nat} {s : RS}
set_option maxRecDepth 100000 in
set_option maxHeartbeats 1000000 in
theorem tkString_c (h : PR W g s) (hok : s.Ok) (hl : s.l.length ≤ 100000) (hE : Errs W) (hg : Away g) : Calls Tryz.prog 137 #[pt g] W (Does W g (.string (txt (strV s))) (strS s)) := by
  have N1 := tkNext_c h 34 34 rfl
  have N2 := tkNext_c h 123 123 rfl
  unfold nextB at N1 N2
  rw [show ((34 : Nat) : Int) = 34 from rfl] at N1
  rw [show ((123 : Nat) : Int) = 123 from rfl] at N2
  by_cases h1 : s.l.head? = some 34
  · have hf : s.f = false := by
      cases hf : s.f with
      | false => rfl
      | true => rw [hok hf] at h1; cases h1
    have C := tkquoted_c h hf hl
    have hv : strV s = qV (qd s.l.tail) := by unfold strV; rw [if_pos h1]; rfl
    have hs : strS s = qS (qd s.l.tail) := by unfold strS qS; rw [if_pos h1]; cases qd s.l.tail <;> simp [hf]
    rw [hv, hs]
    rw [show (s.l.head? == some 34) = true by rw [h1]; rfl] at N1
    obtain ⟨V, hV⟩ : ∃ V, txt (qV (qd s.l.tail)) = V := ⟨_, rfl⟩
    obtain ⟨T, hT⟩ : ∃ T, qS (qd s.l.tail) = T := ⟨_, rfl⟩
    rw [hV, hT] at C ⊢
    have C := Lib.hid C
    have N1 := Lib.hid N1
    clear h hV hT hv hs h1 N2
    go_enter Tryz.func137, Tryz.ntmps137
    go_wp2_with fail
    refine N1.out.mono ?_
    rintro e w1 ⟨rfl, rfl⟩
    go_wp2_with fail
    refine C.out.mono ?_
    rintro e w2 ⟨rfl, h2, k2⟩
    have H2 := Lib.hid h2
    have K2 := Lib.hid k2
    clear h2 k2
    go_wp2_with fail
    go_ret
    exact ⟨rfl, H2.out, K2.out⟩
  · rw [show (s.l.head? == some 34) = false by rw [beq_eq_false_iff_ne]; exact h1] at N1
    by_cases h2 : s.l.head? = some 123
    · have C := tkLiteral_c h hok hl hE hg
      have hv : strV s = litV s := by unfold strV; rw [if_neg h1, if_pos h2]
      have hs : strS s = litS s := by unfold strS; rw [if_neg h1, if_pos h2]
      rw [hv, hs]
      rw [show (s.l.head? == some 123) = true by rw [h2]; rfl] at N2
      obtain ⟨V, hV⟩ : ∃ V, txt (litV s) = V := ⟨_, rfl⟩
      obtain ⟨T, hT⟩ : ∃ T, litS s = T := ⟨_, rfl⟩
      rw [hV, hT] at C ⊢
      have C := Lib.hid C
      have N1 := Lib.hid N1
      have N2 := Lib.hid N2
      clear h hV hT hv hs h1 h2
      go_enter Tryz.func137, Tryz.ntmps137
      go_wp2_with fail
      refine N1.out.mono ?_
      rintro e w1 ⟨rfl, rfl⟩
      go_wp2_with fail
      refine N2.out.mono ?_
      rintro e w1 ⟨rfl, rfl⟩
      go_wp2_with fail
      refine C.out.mono ?_
      rintro e w2 ⟨rfl, h2, k2⟩
      have H2 := Lib.hid h2
      have K2 := Lib.hid k2
      clear h2 k2
      go_wp2_with fail
      go_ret
      exact ⟨rfl, H2.out, K2.out⟩
    · have C := tkAtom_c h hok hl
      have hv : strV s = atomV s := by unfold strV; rw [if_neg h1, if_neg h2]
      have hs : strS s = atomS s := by unfold strS; rw [if_neg h1, if_neg h2]
      rw [hv, hs]
      rw [show (s.l.head? == some 123) = false by rw [beq_eq_false_iff_ne]; exact h2] at N2
      obtain ⟨V, hV⟩ : ∃ V, txt (atomV s) = V := ⟨_, rfl⟩
      obtain ⟨T, hT⟩ : ∃ T, atomS s = T := ⟨_, rfl⟩
      rw [hV, hT] at C ⊢
      have C := Lib.hid C
      have N1 := Lib.hid N1
      have N2 := Lib.hid N2
      clear h hV hT hv hs h1 h2
      go_enter Tryz.func137, Tryz.ntmps137
      go_wp2_with fail
      refine N1.out.mono ?_
      rintro e w1 ⟨rfl, rfl⟩
      go_wp2_with fail
      refine N2.out.mono ?_
      rintro e w1 ⟨rfl, rfl⟩
      go_wp2_with fail
      refine C.out.mono ?_
      rintro e w2 ⟨rfl, h2, k2⟩
      have H2 := Lib.hid h2
      have K2 := Lib.hid k2
      clear h2 k2
      go_wp2_with fail
      go_ret
      exact ⟨rfl, H2.out, K2.out⟩
end Go.Proofs.YtpnnchpaaopdcaaGreatDoor
namespace Go.Proofs.YtpnnchpaaopdcaaGreatDoor
open Go Go.RowKit
variable {W : World} {g : Nat} {s : RS}
theorem Errs.away {w : World} (h : Errs w) (hg : w.heap.size ≤ g) : Away g := by
  obtain ⟨⟨t1, p1, h1⟩, t2, p2, h2⟩ := h
  have a := cell_ltA h1
  have b := cell_ltA h2
  exact ⟨by dsimp only at a; omega, by dsimp only at b; omega⟩
theorem word_gone (x : List UInt8) : wordB .gone x = false ∧ wordS .gone x = .gone ∧ mustS .gone x = .gone := by
  have h : wordB .gone x = false := rfl
  unfold wordS mustS
  rw [h]
  exact ⟨rfl, rfl, rfl⟩
end Go.Proofs.YtpnnchpaaopdcaaGreatDoor
namespace Go.Proofs.YtpnnchpaaopdcaaGreatDoor
open Go Go.RowKit
variable {W : World} {g : Nat} {s : RS} {S : List UInt8}
def DR (W : World) (g : Nat) (S : List UInt8) (a : Nat) (f : Bool) : Prop := Cells W g 60 #[.string (txt S), .int .i64 a, .bool f]
def dS (S : List UInt8) (a : Nat) (f : Bool) : RS := if f then .gone else ⟨S.drop a, false⟩
def DRS (W : World) (g : Nat) (S : List UInt8) (s : RS) : Prop := ∃ a f, DR W g S a f ∧ a ≤ S.length ∧ dS S a f = s
theorem DR.facts {a : Nat} {f : Bool} (h : DR W g S a f) : W.cell? ⟨g, 0, none⟩ = some (.string (txt S)) ∧ W.cell? ⟨g, 1, none⟩ = some (.int .i64 a) ∧ W.cell? ⟨g, 2, none⟩ = some (.bool f) ∧ g < W.heap.size ∧ W.frozen? ⟨g, 1, none⟩ = false ∧ W.frozen? ⟨g, 2, none⟩ = false :=
  ⟨Cells.cell h rfl, Cells.cell h rfl, Cells.cell h rfl, Cells.lt h, Cells.frozen h 1, Cells.frozen h 2⟩
theorem DR.set1 {a : Nat} {f : Bool} (h : DR W g S a f) (b : Int) (c : Nat) (hb : b = c) : DR (W.setCell ⟨g, 1, none⟩ (.int .i64 b)) g S c f := by subst hb; exact Cells.set h 1 _
theorem DR.set2 {a : Nat} {f : Bool} (h : DR W g S a f) (b : Bool) : DR (W.setCell ⟨g, 2, none⟩ (.bool b)) g S a b := Cells.set h 2 _
theorem DRS.tk {W' : World} {k : Nat} (h : DRS W g S s) (ht : Tk k W W') (hne : g ≠ k) : DRS W' g S s := by
  obtain ⟨a, f, h1, h2⟩ := h
  exact ⟨a, f, Cells.later h1 (ht.blk g (Cells.lt h1) hne), h2⟩
theorem DRS.lt (h : DRS W g S s) : g < W.heap.size := by obtain ⟨a, f, h1, _⟩ := h; exact Cells.lt h1
theorem DRS.ok (h : DRS W g S s) : s.Ok := by
  obtain ⟨a, f, _, _, rfl⟩ := h
  unfold dS
  split
  · exact gone_ok
  · intro hf; cases hf
theorem DRS.le (h : DRS W g S s) : s.l.length ≤ S.length := by
  obtain ⟨a, f, _, _, rfl⟩ := h
  unfold dS
  split
  · exact Nat.zero_le _
  · simp
def DoesD (W : World) (g : Nat) (S : List UInt8) (v : Value) (s' : RS) (e : Ending) (w' : World) : Prop := e = .returned v ∧ DRS w' g S s' ∧ Tk g W w'
set_option maxRecDepth 20000 in
theorem rtRest_c (h : DRS W g S s) : Calls Tryz.prog 32 #[pt g] W fun e w' => e = .returned (.string (txt s.l)) ∧ ∃ n, w' = W.drewN n := by
  obtain ⟨a, f, h1, h2, rfl⟩ := h
  obtain ⟨c0, c1, c2, hb, f1, f2⟩ := h1.facts
  clear h1
  cases f with
  | true =>
    obtain ⟨B, hB⟩ : ∃ B, txt S = B := ⟨_, rfl⟩
    rw [hB] at c0
    clear hB
    go_enter Tryz.func32, Tryz.ntmps32
    go_wp2_with fail
    go_ret
    exact ⟨rfl, 0, rfl⟩
  | false =>
    have e1 := txt_size S
    have hed : (txt S).extract a S.length = txt (S.drop a) := ext_drop S rfl
    obtain ⟨N, hN⟩ : ∃ N, S.length = N := ⟨_, rfl⟩
    rw [hN] at e1 hed h2
    have hq : (a : Int) ≤ N := by omega
    unfold dS
    rw [if_neg (by decide)]
    dsimp only
    rw [← hed]
    obtain ⟨B, hB⟩ : ∃ B, txt S = B := ⟨_, rfl⟩
    rw [hB] at c0 e1 ⊢
    clear hB hN hed
    go_enter Tryz.func32, Tryz.ntmps32
    go_wp2_with fail
    go_quiet (fail)
    go_wp2_with fail
    go_ret
    exact ⟨rfl, nq, rfl⟩
theorem rtFail_c (h : DRS W g S s) : Calls Tryz.prog 82 #[pt g] W (DoesD W g S (.tuple #[]) .gone) := by
  obtain ⟨a, f, h1, h2, rfl⟩ := h
  obtain ⟨c0, c1, c2, hb, f1, f2⟩ := h1.facts
  have H := Lib.hid h1
  clear h1
  go_enter Tryz.func82, Tryz.ntmps82
  go_wp2_with fail
  go_end0
  exact ⟨rfl, ⟨a, true, H.out.set2 true, h2, rfl⟩, Tk.set _ _ _⟩
theorem atomic_eq : ∀ n < 256, (decide (32 < n) && (decide (n ≤ 126) && !offL.contains (UInt8.ofNat n))) = decide (33 ≤ n ∧ n ≤ 126 ∧ n ≠ 40 ∧ n ≠ 41 ∧ n ≠ 123 ∧ n ≠ 37 ∧ n ≠ 42 ∧ n ≠ 34 ∧ n ≠ 92 ∧ n ≠ 93) := by decide +kernel
set_option maxRecDepth 20000 in
set_option maxHeartbeats 1000000 in
theorem rtAtomic_c (n : Nat) (x : UInt8) (hx : x.toNat = n) (w : World) : Calls Tryz.prog 112 #[.int .u8 n] w fun e w' => e = .returned (.bool (atomB x)) ∧ w' = w := by
  have hn : n < 256 := by rw [← hx]; exact x.toNat_lt
  have hxn : x = UInt8.ofNat n := by rw [← hx]; exact UInt8.toNat_inj.1 (by rw [UInt8.toNat_ofNat']; have := x.toNat_lt; omega)
  have hA : atomB x = (decide (32 < n) && (decide (n ≤ 126) && !offL.contains (UInt8.ofNat n))) := by
    unfold atomB; rw [hx, hxn]; rfl
  rw [hA, atomic_eq n hn]
  clear hA hxn hx
  obtain ⟨v, hv⟩ : ∃ v, decide (33 ≤ n ∧ n ≤ 126 ∧ n ≠ 40 ∧ n ≠ 41 ∧ n ≠ 123 ∧ n ≠ 37 ∧ n ≠ 42 ∧ n ≠ 34 ∧ n ≠ 92 ∧ n ≠ 93) = v := ⟨_, rfl⟩
  rw [hv]
  by_cases h1 : n < 33
  · have q : (n : Int) < 33 := by omega
    obtain rfl : v = false := by rw [← hv, decide_eq_false_iff_not]; omega
    clear hv
    go_enter Tryz.func112, Tryz.ntmps112
    go_wp2_with fail
    go_ret
    exact ⟨rfl, rfl⟩
  have q : ¬ (n : Int) < 33 := by omega
  by_cases h2 : 126 < n
  · have q2 : (126 : Int) < n := by omega
    obtain rfl : v = false := by rw [← hv, decide_eq_false_iff_not]; omega
    clear hv
    go_enter Tryz.func112, Tryz.ntmps112
    go_wp2_with fail
    go_ret
    exact ⟨rfl, rfl⟩
  have q2 : ¬ (126 : Int) < n := by omega
  by_cases k40 : n = 40
  · subst k40
    obtain rfl : v = false := by rw [← hv]; rfl
    clear hv q q2
    go_enter Tryz.func112, Tryz.ntmps112
    go_wp2_with fail
    go_ret
    exact ⟨rfl, rfl⟩
  have b40 : ((n : Int) == 40) = false := qF (by omega)
  have d40 : ((n : Int) != 40) = true := qN (by omega)
  by_cases k41 : n = 41
  · subst k41
    obtain rfl : v = false := by rw [← hv]; rfl
    clear hv q q2
    go_enter Tryz.func112, Tryz.ntmps112
    go_wp2_with fail
    go_ret
    exact ⟨rfl, rfl⟩
  have b41 : ((n : Int) == 41) = false := qF (by omega)
  have d41 : ((n : Int) != 41) = true := qN (by omega)
  by_cases k123 : n = 123
  · subst k123
    obtain rfl : v = false := by rw [← hv]; rfl
    clear hv q q2
    go_enter Tryz.func112, Tryz.ntmps112
    go_wp2_with fail
    go_ret
    exact ⟨rfl, rfl⟩
  have b123 : ((n : Int) == 123) = false := qF (by omega)
  have d123 : ((n : Int) != 123) = true := qN (by omega)
  by_cases k37 : n = 37
  · subst k37
    obtain rfl : v = false := by rw [← hv]; rfl
    clear hv q q2
    go_enter Tryz.func112, Tryz.ntmps112
    go_wp2_with fail
    go_ret
    exact ⟨rfl, rfl⟩
  have b37 : ((n : Int) == 37) = false := qF (by omega)
  have d37 : ((n : Int) != 37) = true := qN (by omega)
  by_cases k42 : n = 42
  · subst k42
    obtain rfl : v = false := by rw [← hv]; rfl
    clear hv q q2
    go_enter Tryz.func112, Tryz.ntmps112
    go_wp2_with fail
    go_ret
    exact ⟨rfl, rfl⟩
  have b42 : ((n : Int) == 42) = false := qF (by omega)
  have d42 : ((n : Int) != 42) = true := qN (by omega)
  by_cases k34 : n = 34
  · subst k34
    obtain rfl : v = false := by rw [← hv]; rfl
    clear hv q q2
    go_enter Tryz.func112, Tryz.ntmps112
    go_wp2_with fail
    go_ret
    exact ⟨rfl, rfl⟩
  have b34 : ((n : Int) == 34) = false := qF (by omega)
  have d34 : ((n : Int) != 34) = true := qN (by omega)
  by_cases k92 : n = 92
  · subst k92
    obtain rfl : v = false := by rw [← hv]; rfl
    clear hv q q2
    go_enter Tryz.func112, Tryz.ntmps112
    go_wp2_with fail
    go_ret
    exact ⟨rfl, rfl⟩
  have b92 : ((n : Int) == 92) = false := qF (by omega)
  have d92 : ((n : Int) != 92) = true := qN (by omega)
  by_cases k93 : n = 93
  · subst k93
    obtain rfl : v = false := by rw [← hv]; rfl
    clear hv q q2
    go_enter Tryz.func112, Tryz.ntmps112
    go_wp2_with fail
    go_ret
    exact ⟨rfl, rfl⟩
  have b93 : ((n : Int) == 93) = false := qF (by omega)
  have d93 : ((n : Int) != 93) = true := qN (by omega)
  obtain rfl : v = true := by rw [← hv, decide_eq_true_iff]; omega
  clear hv
  go_enter Tryz.func112, Tryz.ntmps112
  go_wp2_with fail
  go_ret
  exact ⟨by simp [b93, d93], rfl⟩
set_option maxRecDepth 100000 in
set_option maxHeartbeats 1000000 in
theorem rtrow0_c (l : List UInt8) (hl : l.length ≤ 100000) (W : World) : Calls Tryz.prog 117 #[.string (txt l), .int .i64 0] W fun e w' => e = .returned (.int .i64 (l.takeWhile atomB).length) ∧ w' = W := by
  have e1 := txt_size l
  obtain ⟨N, hN⟩ : ∃ N, l.length = N := ⟨_, rfl⟩
  obtain ⟨B, hB⟩ : ∃ B, txt l = B := ⟨_, rfl⟩
  have hat : ∀ k (hk : k < B.size), l[k]? = some B[k] := fun k hk => by
    subst hB
    rw [at_txt (by rw [txt_size] at hk; exact hk)]; exact List.getElem?_eq_getElem _
  rw [hB] at e1 ⊢
  rw [hN] at e1 hl
  have HAT := Lib.hid hat
  have HN := Lib.hid hN
  clear hB hN hat
  go_enter Tryz.func117, Tryz.ntmps117
  go_wp2_with fail
  go_loop [5] (fun i => ∃ k : Nat, k ≤ N ∧ i = .int .i64 k ∧ Hid (k ≤ (l.takeWhile atomB).length)) (fun i => N - (intOf i).toNat)
  case atStart => exact ⟨0, Nat.zero_le _, rfl, Nat.zero_le _⟩
  case round =>
    obtain ⟨k, hk, rfl, HK⟩ := hrel
    by_cases hlt : k < N
    · have hq : (k : Int) < N := by omega
      have hq0 : (0 : Int) ≤ k := by omega
      have hkB : k < B.size := by omega
      have hc1 : B[k].toNat < 256 := B[k].toNat_lt
      have hstep := tw_step HK.out (by rw [HN.out]; exact hlt)
      obtain ⟨_, hbk⟩ := List.getElem?_eq_some_iff.1 (HAT.out k hkB)
      rw [hbk] at hstep
      have C := rtAtomic_c (B[k].toNat) B[k] rfl W
      obtain ⟨b, hbb⟩ : ∃ b, atomB B[k] = b := ⟨_, rfl⟩
      rw [hbb] at C hstep
      have C := Lib.hid C
      have HS := Lib.hid hstep
      clear hstep hbb hbk
      cases b with
      | true =>
        have HK2 : Hid (k + 1 ≤ (l.takeWhile atomB).length) := HS.out.1 rfl
        go_wp2_with fail
        refine C.out.mono ?_
        rintro e w' ⟨rfl, rfl⟩
        go_wp2_with fail
        go_round
        case rel => exact ⟨k + 1, by omega, by go_num, HK2.out⟩
        case measure => simp [intOf]; omega
      | false =>
        have HZ : Hid (k = (l.takeWhile atomB).length) := HS.out.2 rfl
        go_wp2_with fail
        refine C.out.mono ?_
        rintro e w' ⟨rfl, rfl⟩
        go_wp2_with fail
        go_ret
        exact ⟨by rw [← HZ.out]; rfl, rfl⟩
    · obtain rfl : k = N := by omega
      have hq : ¬ (k : Int) < k := by omega
      have HZ : Hid (k = (l.takeWhile atomB).length) := tw_end HK.out (by rw [HN.out]; omega)
      go_wp2_with fail
      go_ret
      exact ⟨by rw [← HZ.out]; rfl, rfl⟩
set_option maxRecDepth 100000 in
set_option maxHeartbeats 1000000 in
theorem rtrow1_c (l : List UInt8) (hl : l.length ≤ 100000) (W : World) : Calls Tryz.prog 117 #[.string (txt l), .int .i64 1] W fun e w' => e = .returned (.int .i64 (l.takeWhile digB).length) ∧ w' = W := by
  have e1 := txt_size l
  obtain ⟨N, hN⟩ : ∃ N, l.length = N := ⟨_, rfl⟩
  obtain ⟨B, hB⟩ : ∃ B, txt l = B := ⟨_, rfl⟩
  have hat : ∀ k (hk : k < B.size), l[k]? = some B[k] := fun k hk => by
    subst hB
    rw [at_txt (by rw [txt_size] at hk; exact hk)]; exact List.getElem?_eq_getElem _
  rw [hB] at e1 ⊢
  rw [hN] at e1 hl
  have HAT := Lib.hid hat
  have HN := Lib.hid hN
  clear hB hN hat
  go_enter Tryz.func117, Tryz.ntmps117
  go_wp2_with fail
  go_loop [5] (fun i => ∃ k : Nat, k ≤ N ∧ i = .int .i64 k ∧ Hid (k ≤ (l.takeWhile digB).length)) (fun i => N - (intOf i).toNat)
  case atStart => exact ⟨0, Nat.zero_le _, rfl, Nat.zero_le _⟩
  case round =>
    obtain ⟨k, hk, rfl, HK⟩ := hrel
    by_cases hlt : k < N
    · have hq : (k : Int) < N := by omega
      have hq0 : (0 : Int) ≤ k := by omega
      have hkB : k < B.size := by omega
      have hc1 : B[k].toNat < 256 := B[k].toNat_lt
      have hstep := tw_step HK.out (by rw [HN.out]; exact hlt)
      obtain ⟨_, hbk⟩ := List.getElem?_eq_some_iff.1 (HAT.out k hkB)
      rw [hbk] at hstep
      by_cases h1 : 48 ≤ B[k].toNat
      · have q1 : (48 : Int) ≤ B[k].toNat := by omega
        by_cases h2 : B[k].toNat ≤ 57
        · have q2 : (B[k].toNat : Int) ≤ 57 := by omega
          have HK2 : Hid (k + 1 ≤ (l.takeWhile digB).length) := hstep.1 (by unfold digB; simp [h1, h2])
          clear hstep hbk h1 h2
          go_wp2_with fail
          go_round
          case rel => exact ⟨k + 1, by omega, by go_num, HK2.out⟩
          case measure => simp [intOf]; omega
        · have q2 : ¬ (B[k].toNat : Int) ≤ 57 := by omega
          have HZ : Hid (k = (l.takeWhile digB).length) := hstep.2 (by unfold digB; simp [h2])
          clear hstep hbk h1 h2
          go_wp2_with fail
          go_ret
          exact ⟨by rw [← HZ.out]; rfl, rfl⟩
      · have q1 : ¬ (48 : Int) ≤ B[k].toNat := by omega
        have HZ : Hid (k = (l.takeWhile digB).length) := hstep.2 (by unfold digB; simp [h1])
        clear hstep hbk h1
        go_wp2_with fail
        go_ret
        exact ⟨by rw [← HZ.out]; rfl, rfl⟩
    · obtain rfl : k = N := by omega
      have hq : ¬ (k : Int) < k := by omega
      have HZ : Hid (k = (l.takeWhile digB).length) := tw_end HK.out (by rw [HN.out]; omega)
      go_wp2_with fail
      go_ret
      exact ⟨by rw [← HZ.out]; rfl, rfl⟩
end Go.Proofs.YtpnnchpaaopdcaaGreatDoor
namespace Go.Proofs.YtpnnchpaaopdcaaGreatDoor
open Go Go.RowKit
variable {W : World} {g : Nat} {s : RS} {S : List UInt8}
theorem mid_tw {p : UInt8 → Bool} {S : List UInt8} {a K : Nat} (hK : ((S.drop a).takeWhile p).length = K) : (S.take (a + K)).drop a = (S.drop a).takeWhile p := by
  rw [List.drop_take, Nat.add_sub_cancel_left, ← hK]
  exact (tw_take (S.drop a)).1
theorem dS_drop {S : List UInt8} {a K : Nat} : dS S (a + K) false = ⟨(S.drop a).drop K, false⟩ := by
  unfold dS; rw [if_neg (by decide), List.drop_drop]
theorem DRS.at (h : DRS W g S s) (hf : s.f = false) : ∃ a, DR W g S a false ∧ a ≤ S.length ∧ s.l = S.drop a := by
  obtain ⟨a, f, h1, h2, rfl⟩ := h
  cases f with
  | true => cases hf
  | false => exact ⟨a, h1, h2, rfl⟩
theorem Tk.drew {g : Nat} (a : World) (n : Nat) : Tk g a (a.drewN n) := ⟨rfl, rfl, rfl, Nat.le_refl _, fun _ _ _ => rfl⟩
set_option maxRecDepth 100000 in
set_option maxHeartbeats 1000000 in
theorem rtAtom_c (h : DRS W g S s) (hl : S.length ≤ 100000) : Calls Tryz.prog 169 #[pt g] W (DoesD W g S (.string (txt (atomV s))) (atomS s)) := by
  have CR := Lib.hid (rtRest_c h)
  have hle := h.le
  have CW := Lib.hid (fun w => rtrow0_c s.l (by omega) w)
  obtain ⟨K, hK⟩ : ∃ K, (s.l.takeWhile atomB).length = K := ⟨_, rfl⟩
  rw [hK] at CW
  have H := Lib.hid h
  obtain ⟨Bs, hBs⟩ : ∃ B, txt s.l = B := ⟨_, rfl⟩
  rw [hBs] at CR CW
  by_cases hz : K = 0
  · have h0 : s.l.takeWhile atomB = [] := List.length_eq_zero_iff.1 (by omega)
    have hv : atomV s = [] := h0
    have hs : atomS s = .gone := by unfold atomS; rw [if_pos h0]
    rw [hv, hs]
    subst hz
    clear h h0 hv hs hK hBs
    go_enter Tryz.func169, Tryz.ntmps169
    go_wp2_with fail
    refine CR.out.mono ?_
    rintro e w1 ⟨rfl, m, hm⟩
    have h1 : DRS w1 g S s := by rw [hm]; exact H.out
    have K1 : Hid (Tk g W w1) := by rw [hm]; exact Tk.drew _ _
    have CF := Lib.hid (rtFail_c h1)
    clear h1 hm
    go_wp2_with fail
    refine (CW.out _).mono ?_
    rintro e w' ⟨rfl, rfl⟩
    go_wp2_with fail
    refine CF.out.mono ?_
    rintro e w2 ⟨rfl, h2, k2⟩
    have H2 := Lib.hid h2
    have K2 := Lib.hid (K1.out.trans k2)
    clear h2 k2
    go_wp2_with fail
    go_ret
    exact ⟨rfl, H2.out, K2.out⟩
  · have hf : s.f = false := by
      cases hf : s.f with
      | false => rfl
      | true => rw [h.ok hf] at hK; exact absurd hK.symm hz
    obtain ⟨a, hD, ha, hla⟩ := h.at hf
    have hs : atomS s = dS S (a + K) false := by
      rw [dS_drop, ← hla]
      unfold atomS
      rw [if_neg (fun e => hz (by rw [← hK, e]; rfl)), ← hK, (tw_take s.l).2, hf]
    have hv : txt (atomV s) = (txt S).extract a (a + K) := by
      rw [ext_mid, mid_tw (by rw [← hla]; exact hK), ← hla]; rfl
    rw [hv, hs]
    have haK : a + K ≤ S.length := by
      have h1 := tw_le (p := atomB) s.l
      rw [hK, hla, List.length_drop] at h1
      omega
    have e1 := txt_size S
    obtain ⟨N, hN⟩ : ∃ N, S.length = N := ⟨_, rfl⟩
    obtain ⟨B, hB⟩ : ∃ B, txt S = B := ⟨_, rfl⟩
    rw [hN] at e1 haK hl
    have e0 : ((K : Int) == 0) = false := qF (by omega)
    have hKq : ¬ (K : Int) = 0 := by omega
    have HB := Lib.hid hB
    have HD := Lib.hid hD
    rw [hB] at e1 ⊢
    have HN := Lib.hid hN
    clear h hv hs hK hBs hN hB hD hla ha hle
    go_enter Tryz.func169, Tryz.ntmps169
    go_wp2_with fail
    refine CR.out.mono ?_
    rintro e w1 ⟨rfl, m, hm⟩
    have h1 : DR w1 g S a false := by rw [hm]; exact HD.out
    have K1 : Hid (Tk g W w1) := by rw [hm]; exact Tk.drew _ _
    obtain ⟨c0, c1, c2, hb, f1, f2⟩ := h1.facts
    rw [HB.out] at c0
    have H1 := Lib.hid h1
    clear h1 hm
    go_wp2_with fail
    refine (CW.out _).mono ?_
    rintro e w' ⟨rfl, rfl⟩
    go_wp2_with fail
    obtain ⟨w2, hw2⟩ : ∃ w2, w'.setCell ⟨g, 1, none⟩ (.int .i64 ((a : Int) + K)) = w2 := ⟨_, rfl⟩
    have h2 : DR w2 g S (a + K) false := by rw [← hw2]; exact H1.out.set1 _ _ (by omega)
    have K2 : Hid (Tk g W w2) := by rw [← hw2]; exact K1.out.trans (Tk.set _ _ _)
    obtain ⟨d0, d1, d2, hd, g1, g2⟩ := h2.facts
    rw [HB.out] at d0
    have H2 := Lib.hid h2
    rw [hw2]
    rw [show ((a + K : Nat) : Int) = (a : Int) + K by omega] at d1
    have q1 : (a : Int) + K ≤ N := by omega
    have kw : IntKind.i64.wrap (a : Int) = a := IntWalk.i64_in _ (by omega)
    have q4 : (a : Int) ≤ (a : Int) + K := by omega
    have q5 : (0 : Int) ≤ (a : Int) := by omega
    have q2 : (0 : Int) ≤ (a : Int) + K - K := by omega
    have q3 : (a : Int) + K - K ≤ (a : Int) + K := by omega
    clear h2 hw2 c0 c1 c2 hb f1 f2 H1 K1
    go_quiet (fail)
    go_wp2_with fail
    go_ret
    refine ⟨?_, ⟨a + K, false, H2.out, by have := HN.out; omega, rfl⟩, K2.out.drewN _⟩
    rfl
end Go.Proofs.YtpnnchpaaopdcaaGreatDoor
namespace Go.Proofs.YtpnnchpaaopdcaaGreatDoor
open Go Go.RowKit
variable {W : World} {g : Nat} {s : RS} {S : List UInt8}
set_option maxRecDepth 100000 in
set_option maxHeartbeats 1000000 in
theorem rtNumber_c (h : DRS W g S s) (hl : S.length ≤ 100000) : Calls Tryz.prog 139 #[pt g] W (DoesD W g S (.int .u32 (numN s)) (numS s)) := by
  have CR := Lib.hid (rtRest_c h)
  have hle := h.le
  have CW := Lib.hid (fun w => rtrow1_c s.l (by omega) w)
  have hex : (txt s.l).extract 0 (s.l.takeWhile digB).length = txt (s.l.takeWhile digB) := by rw [ext_take, (tw_take s.l).1]
  have hKN := tw_le (p := digB) s.l
  have CN := fun w => rnumber_c (txt (s.l.takeWhile digB)) (by rw [txt_size]; omega) 4294967295 (Nat.le_refl _) w
  rw [data_txt, ← hex] at CN
  obtain ⟨K, hK⟩ : ∃ K, (s.l.takeWhile digB).length = K := ⟨_, rfl⟩
  rw [hK] at CW CN hKN
  have CN := Lib.hid CN
  have H := Lib.hid h
  have e2 := txt_size s.l
  obtain ⟨M, hM⟩ : ∃ M, s.l.length = M := ⟨_, rfl⟩
  rw [hM] at e2 hKN hle
  obtain ⟨Bs, hBs⟩ : ∃ B, txt s.l = B := ⟨_, rfl⟩
  rw [hBs] at CR CW CN e2
  have qK : (K : Int) ≤ M := by omega
  have hnum : ∀ v, numR (s.l.takeWhile digB) 4294967295 = some v → ∃ a, DR W g S a false ∧ a + K ≤ S.length ∧ numN s = v ∧ numS s = dS S (a + K) false := fun v hv => by
    have hf : s.f = false := by
      cases hf : s.f with
      | false => rfl
      | true => rw [h.ok hf] at hv; cases hv
    obtain ⟨a, hD, ha, hla⟩ := h.at hf
    have h0 : numO s = some v := hv
    refine ⟨a, hD, ?_, ?_, ?_⟩
    · have h1 := tw_le (p := digB) s.l
      rw [hK, hla, List.length_drop] at h1
      omega
    · unfold numN; rw [h0]; rfl
    · unfold numS; rw [h0, dS_drop, ← hla, ← hK, (tw_take s.l).2, hf]; rfl
  have hnone : numR (s.l.takeWhile digB) 4294967295 = none → numN s = 0 ∧ numS s = .gone := fun hv => by
    have h0 : numO s = none := hv
    unfold numN numS; rw [h0]; exact ⟨rfl, rfl⟩
  obtain ⟨n, hn⟩ : ∃ n, numN s = n := ⟨_, rfl⟩
  obtain ⟨t, ht⟩ : ∃ t, numS s = t := ⟨_, rfl⟩
  rw [hn, ht] at hnum hnone ⊢
  have HNU := Lib.hid hnum
  have HNO := Lib.hid hnone
  clear h hex hK hM hBs hnum hnone hn ht
  go_enter Tryz.func139, Tryz.ntmps139
  go_wp2_with fail
  refine CR.out.mono ?_
  rintro e w1 ⟨rfl, m, hm⟩
  have h1 : DRS w1 g S s := by rw [hm]; exact H.out
  have hd : ∀ a, DR W g S a false → DR w1 g S a false := fun a h => by rw [hm]; exact h
  have K1 : Hid (Tk g W w1) := by rw [hm]; exact Tk.drew _ _
  have CF := Lib.hid (rtFail_c h1)
  have HD1 := Lib.hid hd
  clear h1 hm hd
  go_wp2_with fail
  refine (CW.out _).mono ?_
  rintro e w' ⟨rfl, rfl⟩
  go_wp2_with fail
  refine (CN.out _).mono ?_
  rintro e w2 ⟨hr, rfl⟩
  rcases hr with ⟨v, hv, hv9, rfl⟩ | ⟨hv, x, hx, rfl⟩
  · obtain ⟨a, hD, ha, rfl, rfl⟩ := HNU.out v hv
    have h1 := HD1.out a hD
    obtain ⟨c0, c1, c2, hb, f1, f2⟩ := h1.facts
    have HH : Hid (DRS (w'.setCell ⟨g, 1, none⟩ (.int .i64 ((a : Int) + K))) g S (dS S (a + K) false)) := ⟨a + K, false, h1.set1 _ _ (by omega), ha, rfl⟩
    have hm : (n : Int) % 4294967296 = n := by omega
    have q9 : (a : Int) + K ≤ 100000 := by omega
    clear h1 hD hv c0 c2 f2
    go_wp2_with fail
    go_ret
    exact ⟨by simp [hm], HH.out, K1.out.trans (Tk.set _ _ _)⟩
  · obtain ⟨rfl, rfl⟩ := HNO.out hv
    clear hv
    go_wp2_with fail
    refine CF.out.mono ?_
    rintro e w3 ⟨rfl, h2, k2⟩
    have H2 := Lib.hid h2
    have K2 := Lib.hid (K1.out.trans k2)
    clear h2 k2
    go_wp2_with fail
    go_ret
    exact ⟨rfl, H2.out, K2.out⟩
set_option maxRecDepth 100000 in
set_option maxHeartbeats 1000000 in
theorem rtWord_c (h : DRS W g S s) (hl : S.length ≤ 100000) (x : List UInt8) (hx : x.length ≤ 100000) : Calls Tryz.prog 102 #[pt g, .string (txt x)] W (DoesD W g S (.bool (wordB s x)) (wordS s x)) := by
  have CR := Lib.hid (rtRest_c h)
  have hle := h.le
  have H := Lib.hid h
  have e2 := txt_size x
  obtain ⟨X, hX⟩ : ∃ X, txt x = X := ⟨_, rfl⟩
  obtain ⟨M, hM⟩ : ∃ M, x.length = M := ⟨_, rfl⟩
  cases hf : s.f with
  | true =>
    have hw : wordB s x = false := by unfold wordB; rw [hf]; rfl
    have hD : ∃ a, DR W g S a true := by
      obtain ⟨a, f, h1, h2, rfl⟩ := h
      cases f with
      | true => exact ⟨a, h1⟩
      | false => cases hf
    obtain ⟨a, hD⟩ := hD
    unfold wordS
    rw [hw, hX]
    rw [hX, hM] at e2
    obtain ⟨Bs, hBs⟩ : ∃ B, txt s.l = B := ⟨_, rfl⟩
    rw [hBs] at CR
    have HD := Lib.hid hD
    clear h hw hf hX hM hBs hD
    go_enter Tryz.func102, Tryz.ntmps102
    go_wp2_with fail
    refine CR.out.mono ?_
    rintro e w1 ⟨rfl, m, hm⟩
    have h1 : DRS w1 g S s := by rw [hm]; exact H.out
    have hd : DR w1 g S a true := by rw [hm]; exact HD.out
    obtain ⟨c0, c1, c2, hb, f1, f2⟩ := hd.facts
    have K1 : Hid (Tk g W w1) := by rw [hm]; exact Tk.drew _ _
    have H1 := Lib.hid h1
    clear h1 hm hd c0 c1 f1
    go_wp2_with fail
    go_ret
    exact ⟨rfl, H1.out, K1.out⟩
  | false =>
    obtain ⟨a, hD, ha, hla⟩ := h.at hf
    have e1 := txt_size s.l
    obtain ⟨N, hN⟩ : ∃ N, s.l.length = N := ⟨_, rfl⟩
    have haN : a + N = S.length := by rw [← hN, hla, List.length_drop]; omega
    by_cases hlt : N < M
    · have hw : wordB s x = false := by unfold wordB; rw [hN, hM, hf]; simp; omega
      unfold wordS
      rw [hw, hX]
      rw [hX, hM] at e2
      obtain ⟨Bs, hBs⟩ : ∃ B, txt s.l = B := ⟨_, rfl⟩
      rw [hBs] at CR e1
      rw [hN] at e1
      have q1 : (N : Int) < M := by omega
      have HD := Lib.hid hD
      clear h hw hf hX hM hBs hD hla
      go_enter Tryz.func102, Tryz.ntmps102
      go_wp2_with fail
      refine CR.out.mono ?_
      rintro e w1 ⟨rfl, m, hm⟩
      have h1 : DRS w1 g S s := by rw [hm]; exact H.out
      have hd : DR w1 g S a false := by rw [hm]; exact HD.out
      obtain ⟨c0, c1, c2, hb, f1, f2⟩ := hd.facts
      have K1 : Hid (Tk g W w1) := by rw [hm]; exact Tk.drew _ _
      have H1 := Lib.hid h1
      clear h1 hm hd c0 c1 f1
      go_wp2_with fail
      go_ret
      exact ⟨rfl, H1.out, K1.out⟩
    · have q1 : ¬ (N : Int) < M := by omega
      have q2 : (M : Int) ≤ N := by omega
      have hex : (txt s.l).extract 0 M = txt (s.l.take M) := ext_take s.l
      have C1 := fun w => rtUpper_c (s.l.take M) (by rw [List.length_take]; omega) w
      have C2 := fun w => rtUpper_c x hx w
      rw [← hex] at C1
      obtain ⟨Bs, hBs⟩ : ∃ B, txt s.l = B := ⟨_, rfl⟩
      rw [hBs] at CR e1 C1
      rw [hX] at e2 C2 ⊢
      rw [hN] at e1
      rw [hM] at e2
      have C1 := Lib.hid C1
      have C2 := Lib.hid C2
      have HD := Lib.hid hD
      by_cases hup : (s.l.take M).map upB = x.map upB
      · have hw : wordB s x = true := by unfold wordB; rw [hN, hM, hup, hf]; simp; omega
        have hS : wordS s x = dS S (a + M) false := by unfold wordS; rw [hw, hM, dS_drop, ← hla]; rfl
        rw [hw, hS]
        rw [hup] at C1
        obtain ⟨Y, hY⟩ : ∃ Y, txt (x.map upB) = Y := ⟨_, rfl⟩
        rw [hY] at C1 C2
        have HA : Hid (a + M ≤ S.length) := by show _ ≤ _; omega
        have q9 : (a : Int) + M ≤ 100000 := by omega
        clear h hw hf hX hM hN hBs hD hla hup hY hex hS
        go_enter Tryz.func102, Tryz.ntmps102
        go_wp2_with fail
        refine CR.out.mono ?_
        rintro e w1 ⟨rfl, m, hm⟩
        have hd : DR w1 g S a false := by rw [hm]; exact HD.out
        obtain ⟨c0, c1, c2, hb, f1, f2⟩ := hd.facts
        have K1 : Hid (Tk g W w1) := by rw [hm]; exact Tk.drew _ _
        have HD1 := Lib.hid hd
        clear hm hd c0 c1 f1
        go_wp2_with fail
        refine (C1.out _).mono ?_
        rintro e w2 ⟨rfl, b2⟩
        have B2 := Lib.hid b2
        clear b2
        go_wp2_with fail
        refine (C2.out _).mono ?_
        rintro e w3 ⟨rfl, b3⟩
        have hb3 := B2.out.trans (b3.mono B2.out.size)
        have h3 : DR w3 g S a false := Cells.later HD1.out (hb3.block g (Cells.lt HD1.out))
        obtain ⟨d0, d1, d2, hd, g1, g2⟩ := h3.facts
        have K3 : Hid (Tk g W w3) := K1.out.trans (Tk.of_below hb3)
        have HH : Hid (DRS (w3.setCell ⟨g, 1, none⟩ (.int .i64 ((a : Int) + M))) g S (dS S (a + M) false)) := ⟨a + M, false, h3.set1 _ _ (by omega), HA.out, rfl⟩
        clear b3 hb3 h3 d0 d2 g2 c2 hb f2
        go_wp2_with fail
        go_ret
        exact ⟨rfl, HH.out, K3.out.trans (Tk.set _ _ _)⟩
      · have hne : ((s.l.take M).map upB == x.map upB) = false := by rw [beq_eq_false_iff_ne]; exact hup
        have hw : wordB s x = false := by unfold wordB; rw [hM, hne]; simp
        have hS : wordS s x = s := by unfold wordS; rw [hw]; rfl
        rw [hw, hS]
        have u0 := bne_txt hup
        obtain ⟨Y, hY⟩ : ∃ Y, txt (x.map upB) = Y := ⟨_, rfl⟩
        obtain ⟨Z, hZ⟩ : ∃ Z, txt ((s.l.take M).map upB) = Z := ⟨_, rfl⟩
        rw [hY] at C2 u0
        rw [hZ] at C1 u0
        clear h hw hf hX hM hN hBs hD hla hup hY hex hS hZ hne
        go_enter Tryz.func102, Tryz.ntmps102
        go_wp2_with fail
        refine CR.out.mono ?_
        rintro e w1 ⟨rfl, m, hm⟩
        have h1 : DRS w1 g S s := by rw [hm]; exact H.out
        have hd : DR w1 g S a false := by rw [hm]; exact HD.out
        obtain ⟨c0, c1, c2, hb, f1, f2⟩ := hd.facts
        have K1 : Hid (Tk g W w1) := by rw [hm]; exact Tk.drew _ _
        have H1 := Lib.hid h1
        clear h1 hm hd c0 c1 f1
        go_wp2_with fail
        refine (C1.out _).mono ?_
        rintro e w2 ⟨rfl, b2⟩
        have B2 := Lib.hid b2
        clear b2
        go_wp2_with fail
        refine (C2.out _).mono ?_
        rintro e w3 ⟨rfl, b3⟩
        have hb3 := B2.out.trans (b3.mono B2.out.size)
        have HB3 := Lib.hid hb3
        clear b3 hb3
        go_wp2_with fail
        go_ret
        exact ⟨rfl, H1.out.tk (Tk.of_below (g := g + 1) HB3.out) (by omega), K1.out.trans (Tk.of_below HB3.out)⟩
set_option maxRecDepth 100000 in
theorem rtMust_c (h : DRS W g S s) (hl : S.length ≤ 100000) (x : List UInt8) (hx : x.length ≤ 100000) : Calls Tryz.prog 103 #[pt g, .string (txt x)] W (DoesD W g S (.tuple #[]) (mustS s x)) := by
  have C := rtWord_c h hl x hx
  have hm := must_of s x
  obtain ⟨X, hX⟩ : ∃ X, txt x = X := ⟨_, rfl⟩
  obtain ⟨b, hb⟩ : ∃ b, wordB s x = b := ⟨_, rfl⟩
  obtain ⟨t, ht⟩ : ∃ t, wordS s x = t := ⟨_, rfl⟩
  rw [hX, hb, ht] at C
  rw [hb, ht] at hm
  rw [hX, ← hm]
  have C := Lib.hid C
  clear h hm hX hb ht
  cases b with
  | true =>
    go_enter Tryz.func103, Tryz.ntmps103
    go_wp2_with fail
    refine C.out.mono ?_
    rintro e w1 ⟨rfl, h1, k1⟩
    have H1 := Lib.hid h1
    have K1 := Lib.hid k1
    clear h1 k1
    go_wp2_with fail
    go_end0
    exact ⟨rfl, H1.out, K1.out⟩
  | false =>
    go_enter Tryz.func103, Tryz.ntmps103
    go_wp2_with fail
    refine C.out.mono ?_
    rintro e w1 ⟨rfl, h1, k1⟩
    have CF := Lib.hid (rtFail_c h1)
    have K1 := Lib.hid k1
    clear h1 k1
    go_wp2_with fail
    refine CF.out.mono ?_
    rintro e w2 ⟨rfl, h2, k2⟩
    have H2 := Lib.hid h2
    have K2 := Lib.hid (K1.out.trans k2)
    clear h2 k2
    go_wp2_with fail
    go_end0
    exact ⟨rfl, H2.out, K2.out⟩
set_option maxRecDepth 20000 in
theorem rtNext_c (h : DRS W g S s) (n : Nat) (c : UInt8) (hn : n = c.toNat) : Calls Tryz.prog 105 #[pt g, .int .u8 n] W fun e w' => e = .returned (.bool (nextB s c)) ∧ ∃ m, w' = W.drewN m := by
  have CR := rtRest_c h
  unfold nextB
  cases hl : s.l with
  | nil =>
    rw [hl] at CR
    have e0 : (txt []).toList.isEmpty = true := isEmpty_txt' []
    obtain ⟨B, hB⟩ : ∃ B, txt [] = B := ⟨_, rfl⟩
    rw [hB] at CR e0
    have CR := Lib.hid CR
    clear h
    go_enter Tryz.func105, Tryz.ntmps105
    go_wp2_with fail
    refine CR.out.mono ?_
    rintro e w1 ⟨rfl, m, rfl⟩
    go_wp2_with fail
    go_ret
    exact ⟨by simp [e0], m, rfl⟩
  | cons x r =>
    rw [hl] at CR
    have e0 : (txt (x :: r)).toList.isEmpty = false := isEmpty_txt' (x :: r)
    have e1 : (txt (x :: r)).size = r.length + 1 := txt_size (x :: r)
    have e2 : (txt (x :: r))[0]'(by omega) = x := at_txt (l := x :: r) (k := 0) (by simp)
    obtain ⟨B, hB⟩ : ∃ B, txt (x :: r) = B := ⟨_, rfl⟩
    rw [hB] at CR
    simp only [hB] at e0 e1 e2
    have CR := Lib.hid CR
    have hsz : 0 < B.size := by omega
    have hq1 : (0 : Int) < B.size := by omega
    have hc1 : B[0].toNat < 256 := B[0].toNat_lt
    by_cases hx : x = c
    · subst hx
      subst hn
      have u : ((x.toNat : Int) == (x.toNat : Int)) = true := by rw [beq_iff_eq]
      go_enter Tryz.func105, Tryz.ntmps105
      go_wp2_with fail
      refine CR.out.mono ?_
      rintro e w1 ⟨rfl, m, rfl⟩
      go_wp2_with fail
      go_ret
      exact ⟨by simp, m, rfl⟩
    · have u : ((x.toNat : Int) == (n : Int)) = false := by
        rw [beq_eq_false_iff_ne, hn]; intro h; exact hx (UInt8.toNat_inj.1 (by omega))
      have u2 : ((x :: r).head? == some c) = false := by simp [hx]
      rw [u2]
      clear hx hn
      go_enter Tryz.func105, Tryz.ntmps105
      go_wp2_with fail
      refine CR.out.mono ?_
      rintro e w1 ⟨rfl, m, rfl⟩
      go_wp2_with fail
      go_ret
      exact ⟨by simp [u], m, rfl⟩
end Go.Proofs.YtpnnchpaaopdcaaGreatDoor
namespace Go.Proofs.YtpnnchpaaopdcaaGreatDoor
open Go Go.RowKit
variable {W : World} {g : Nat} {s : RS} {S : List UInt8}
theorem DRS.gone_of (h : DRS W g S s) (hf : s.f = true) : s = .gone := by
  obtain ⟨a, f, _, _, rfl⟩ := h
  cases f with
  | true => rfl
  | false => cases hf
theorem litH_ok (s : RS) : (litH s).f = true → litV s = [] ∧ litS s = .gone := fun h => by
  have hb : litB s = false := by unfold litB; rw [h]; rfl
  unfold litV litS; rw [hb]; exact ⟨rfl, rfl⟩
set_option maxRecDepth 100000 in
set_option maxHeartbeats 2000000 in
theorem rtLiteral_c (h : DRS W g S s) (hl : S.length ≤ 100000) : Calls Tryz.prog 107 #[pt g] W (DoesD W g S (.string (txt (litV s))) (litS s)) := by
  have M1 := rtMust_c h hl [123] (by decide)
  have C2 : ∀ w, DRS w g S (mustS s [123]) → Calls Tryz.prog 139 #[pt g] w (DoesD w g S (.int .u32 (litN s)) (numS (mustS s [123]))) := fun w hw => rtNumber_c hw hl
  have M3 : ∀ w, DRS w g S (numS (mustS s [123])) → Calls Tryz.prog 103 #[pt g, .string (txt [125, 13, 10])] w (DoesD w g S (.tuple #[]) (litH s)) := fun w hw => rtMust_c hw hl _ (by decide)
  have hn9 : litN s ≤ 4294967295 := numN_le _
  have hgone := litH_ok s
  have hbad : (litH s).f = false → ¬ (litN s ≤ 65536 ∧ litN s ≤ (litH s).l.length) → litV s = [] ∧ litS s = .gone := fun hf hn => by
    have hb : litB s = false := by
      unfold litB; rw [hf]
      by_cases h1 : litN s ≤ 65536
      · have h2 : ¬ litN s ≤ (litH s).l.length := fun h => hn ⟨h1, h⟩
        simp [h1, h2]
      · simp [h1]
    unfold litV litS; rw [hb]; exact ⟨rfl, rfl⟩
  have hgood : (litH s).f = false → litN s ≤ 65536 → litN s ≤ (litH s).l.length → litV s = (litH s).l.take (litN s) ∧ litS s = ⟨(litH s).l.drop (litN s), false⟩ := fun hf h1 h2 => by
    have hb : litB s = true := by unfold litB; rw [hf]; simp [h1, h2]
    unfold litV litS; rw [hb]; exact ⟨rfl, rfl⟩
  rw [show txt [123] = ⟨#[123]⟩ from rfl] at M1
  rw [show txt [125, 13, 10] = ⟨#[125, 13, 10]⟩ from rfl] at M3
  obtain ⟨s2, hs2⟩ : ∃ t, numS (mustS s [123]) = t := ⟨_, rfl⟩
  obtain ⟨s1, hs1⟩ : ∃ t, mustS s [123] = t := ⟨_, rfl⟩
  obtain ⟨n, hn⟩ : ∃ n, litN s = n := ⟨_, rfl⟩
  obtain ⟨s3, hs3⟩ : ∃ t, litH s = t := ⟨_, rfl⟩
  obtain ⟨rv, hrv⟩ : ∃ rv, litV s = rv := ⟨_, rfl⟩
  obtain ⟨rs, hrs⟩ : ∃ rs, litS s = rs := ⟨_, rfl⟩
  rw [hs1] at M1
  rw [hs2, hs1, hn] at C2
  rw [hs2, hs3] at M3
  rw [hs3, hrv, hrs] at hgone
  rw [hs3, hrv, hrs, hn] at hbad hgood
  rw [hrv, hrs]
  rw [hn] at hn9
  have M1 := Lib.hid M1
  have C2 := Lib.hid C2
  have M3 := Lib.hid M3
  have HG := Lib.hid hgone
  have HBAD := Lib.hid hbad
  have HGOOD := Lib.hid hgood
  clear h hs2 hs1 hn hs3 hrv hrs hgone hbad hgood
  go_enter Tryz.func107, Tryz.ntmps107
  go_wp2_with fail
  refine M1.out.mono ?_
  rintro e w1 ⟨rfl, h1, k1⟩
  have D1 := Lib.hid (C2.out _ h1)
  have K1 := Lib.hid k1
  clear h1 k1
  go_wp2_with fail
  refine D1.out.mono ?_
  rintro e w2 ⟨rfl, h2, k2⟩
  have K2 := Lib.hid (K1.out.trans k2)
  have D2 := Lib.hid (M3.out _ h2)
  clear h2 k2
  go_wp2_with fail
  refine D2.out.mono ?_
  rintro e w3 ⟨rfl, h3, k3⟩
  have K3 := Lib.hid (K2.out.trans k3)
  have H3 := Lib.hid h3
  have CF := Lib.hid (rtFail_c h3)
  have CR := rtRest_c h3
  have e1 := txt_size s3.l
  obtain ⟨N, hN⟩ : ∃ N, s3.l.length = N := ⟨_, rfl⟩
  have hle := h3.le
  rw [hN] at e1 hle
  obtain ⟨Bs, hBs⟩ : ∃ B, txt s3.l = B := ⟨_, rfl⟩
  rw [hBs] at CR e1
  have CR := Lib.hid CR
  have HN := Lib.hid hN
  clear h3 k3 hN hBs M1 C2 M3 D1 D2 K1 K2
  have hrest : s3.f = true ∨ s3.f = false := by cases s3.f <;> simp
  by_cases q1 : 65536 < n
  · have u1 : (65536 : Int) < n := by omega
    have HQ : Hid ([] = rv ∧ RS.gone = rs) := by
      rcases hrest with hf | hf
      · exact ⟨(HG.out hf).1.symm, (HG.out hf).2.symm⟩
      · have := HBAD.out hf (by omega); exact ⟨this.1.symm, this.2.symm⟩
    clear hrest
    go_wp2_with fail
    refine CF.out.mono ?_
    rintro e w4 ⟨rfl, h4, k4⟩
    have K4 := Lib.hid (K3.out.trans k4)
    have H4 := Lib.hid h4
    obtain ⟨a, f, hD, ha, hds⟩ := h4
    obtain rfl : f = true := by
      cases f with
      | true => rfl
      | false => have := congrArg RS.f hds; cases this
    obtain ⟨c0, c1, c2, hb, f1, f2⟩ := hD.facts
    clear hD hds k4 c0 c1 f1
    go_wp2_with fail
    go_ret
    exact ⟨by rw [← HQ.out.1]; rfl, HQ.out.2 ▸ H4.out, K4.out⟩
  · have u1 : ¬ (65536 : Int) < n := by omega
    by_cases q2 : N < n
    · have u2 : (N : Int) < n := by omega
      have HQ : Hid ([] = rv ∧ RS.gone = rs) := by
        rcases hrest with hf | hf
        · exact ⟨(HG.out hf).1.symm, (HG.out hf).2.symm⟩
        · have := HBAD.out hf (by rw [HN.out]; omega); exact ⟨this.1.symm, this.2.symm⟩
      clear hrest
      go_wp2_with fail
      refine CR.out.mono ?_
      rintro e w4 ⟨rfl, m, hm⟩
      have h4 : DRS w4 g S s3 := by rw [hm]; exact H3.out
      have CF4 := Lib.hid (rtFail_c h4)
      have K4 : Hid (Tk g W w4) := by rw [hm]; exact K3.out.drewN _
      clear h4 hm
      go_wp2_with fail
      refine CF4.out.mono ?_
      rintro e w5 ⟨rfl, h5, k5⟩
      have K5 := Lib.hid (K4.out.trans k5)
      have H5 := Lib.hid h5
      obtain ⟨a, f, hD, ha, hds⟩ := h5
      obtain rfl : f = true := by
        cases f with
        | true => rfl
        | false => have := congrArg RS.f hds; cases this
      obtain ⟨c0, c1, c2, hb, f1, f2⟩ := hD.facts
      clear hD hds k5 c0 c1 f1
      go_wp2_with fail
      go_ret
      exact ⟨by rw [← HQ.out.1]; rfl, HQ.out.2 ▸ H5.out, K5.out⟩
    · have u2 : ¬ (N : Int) < n := by omega
      rcases hrest with hf | hf
      · have HQ : Hid ([] = rv ∧ RS.gone = rs) := ⟨(HG.out hf).1.symm, (HG.out hf).2.symm⟩
        have h9 := H3.out.gone_of hf
        have HS9 := Lib.hid h9
        clear hf h9
        go_wp2_with fail
        refine CR.out.mono ?_
        rintro e w4 ⟨rfl, m, hm⟩
        have h4 : DRS w4 g S .gone := by rw [hm, ← HS9.out]; exact H3.out
        have K4 : Hid (Tk g W w4) := by rw [hm]; exact K3.out.drewN _
        have H4 := Lib.hid h4
        obtain ⟨a, f, hD, ha, hds⟩ := h4
        obtain rfl : f = true := by
          cases f with
          | true => rfl
          | false => have := congrArg RS.f hds; cases this
        obtain ⟨c0, c1, c2, hb, f1, f2⟩ := hD.facts
        clear hD hds hm c0 c1 f1
        go_wp2_with fail
        go_ret
        exact ⟨by rw [← HQ.out.1]; rfl, HQ.out.2 ▸ H4.out, K4.out⟩
      · obtain ⟨a, hD, ha, hla⟩ := H3.out.at hf
        have hgo := HGOOD.out hf (by omega) (by rw [HN.out]; omega)
        have haN : a + N = S.length := by rw [← HN.out, hla, List.length_drop]; omega
        have haK : a + n ≤ S.length := by omega
        have hv : txt rv = (txt S).extract a (a + n) := by
          rw [ext_mid, List.drop_take, Nat.add_sub_cancel_left, ← hla, hgo.1]
        have hs : rs = dS S (a + n) false := by rw [dS_drop, ← hla, hgo.2]
        have e3 := txt_size S
        obtain ⟨M, hM⟩ : ∃ M, S.length = M := ⟨_, rfl⟩
        obtain ⟨B, hB⟩ : ∃ B, txt S = B := ⟨_, rfl⟩
        rw [hM] at e3 haK hl
        rw [hB] at e3 hv
        have HV := Lib.hid hv
        have HS := Lib.hid hs
        have HB := Lib.hid hB
        have HM := Lib.hid hM
        have HD := Lib.hid hD
        clear hf hD ha hla hgo haN hv hs hB hM
        go_wp2_with fail
        refine CR.out.mono ?_
        rintro e w4 ⟨rfl, m, hm⟩
        have h4 : DR w4 g S a false := by rw [hm]; exact HD.out
        have K4 : Hid (Tk g W w4) := by rw [hm]; exact K3.out.drewN _
        obtain ⟨c0, c1, c2, hb, f1, f2⟩ := h4.facts
        rw [HB.out] at c0
        have H4 := Lib.hid h4
        clear h4 hm
        go_wp2_with fail
        obtain ⟨w5, hw5⟩ : ∃ w5, w4.setCell ⟨g, 1, none⟩ (.int .i64 ((a : Int) + n)) = w5 := ⟨_, rfl⟩
        have h5 : DR w5 g S (a + n) false := by rw [← hw5]; exact H4.out.set1 _ _ (by omega)
        have K5 : Hid (Tk g W w5) := by rw [← hw5]; exact K4.out.trans (Tk.set _ _ _)
        obtain ⟨d0, d1, d2, hd, g1, g2⟩ := h5.facts
        rw [HB.out] at d0
        have H5 := Lib.hid h5
        rw [hw5]
        rw [show ((a + n : Nat) : Int) = (a : Int) + n by omega] at d1
        have q1 : (a : Int) + n ≤ M := by omega
        have kw : IntKind.i64.wrap (a : Int) = a := IntWalk.i64_in _ (by omega)
        have q4 : (a : Int) ≤ (a : Int) + n := by omega
        have q5 : (0 : Int) ≤ (a : Int) := by omega
        clear h5 hw5 c0 c1 c2 hb f1 f2 H4 K4
        go_quiet (fail)
        go_wp2_with fail
        go_ret
        refine ⟨?_, HS.out ▸ ⟨a + n, false, H5.out, by have := HM.out; omega, rfl⟩, K5.out.drewN _⟩
        rw [HV.out]; rfl
end Go.Proofs.YtpnnchpaaopdcaaGreatDoor
namespace Go.Proofs.YtpnnchpaaopdcaaGreatDoor
open Go
theorem countP_less {l : List Nat} {p q : Nat → Bool} (h : ∀ x ∈ l, q x = true → p x = true) {i : Nat} (hi : i ∈ l) (hp : p i = true) (hq : q i = false) : l.countP q < l.countP p := by
  induction l with
  | nil => simp at hi
  | cons x r ih =>
    rw [List.countP_cons, List.countP_cons]
    have hle : r.countP q ≤ r.countP p := List.countP_mono_left fun y hy => h y (by simp [hy])
    rcases List.mem_cons.1 hi with e | hi
    · subst e
      rw [hp, hq]
      simp
      omega
    · have := ih (fun y hy => h y (by simp [hy])) hi
      have hx := h x (by simp)
      by_cases hqx : q x = true
      · rw [hqx, hx hqx]; simp; omega
      · rw [if_neg hqx]
        split <;> omega
def backB (ops : Array Oper) : Bool := (List.range ops.size).all fun i => ((ops[i]?).map fun o => o.after.all fun e => decide (e.on < i)).getD true
theorem backB_at {ops : Array Oper} (h : backB ops = true) {i : Nat} {o : Oper} (ho : ops[i]? = some o) : ∀ e ∈ o.after, e.on < i := by
  intro e he
  have hi := (Array.getElem?_eq_some_iff.1 ho).1
  have h2 := List.all_eq_true.1 h i (List.mem_range.2 hi)
  rw [ho] at h2
  have h3 : (o.after.all fun e => decide (e.on < i)) = true := h2
  rw [Array.all_eq_true'] at h3
  simpa using h3 e he
theorem wpAny_inv {P : Program} {md : Region.Mode} {ops : Array Oper} {Q : Exit → Act → World → Prop} (I : (Nat → Bool) → Act → World → Prop) (hb : backB ops = true)
    (hstep : ∀ (i : Nat) (o : Oper) (L : Nat → Bool) (a : Act) (w : World), ops[i]? = some o → L i = false → (∀ e ∈ o.after, Region.binds md e = true → L e.on = true) → I L a w →
      wpOp P ops Q i (fun a' w' => I (fun j => if j = i then true else L j) a' w') a w)
    (hend : ∀ (L : Nat → Bool) (a : Act) (w : World), (∀ i, i < ops.size → L i = true) → I L a w → Q .normal a w) :
    ∀ (fuel : Nat) (listed : Array Bool) (a : Act) (w : World), listed.size = ops.size → (List.range ops.size).countP (fun j => !listed.getD j true) ≤ fuel → I (fun j => listed.getD j false) a w → wpAny P md ops Q fuel listed a w := by
  have hnil : ∀ listed : Array Bool, listed.size = ops.size → Region.ready md ops listed = [] → ∀ i, i < ops.size → listed.getD i false = true := by
    intro listed hs hr i
    induction i using Nat.strongRecOn with
    | _ i ih =>
      intro hi
      cases hl : listed.getD i true with
      | true => simpa [show i < listed.size by omega] using hl
      | false =>
        have : i ∈ Region.ready md ops listed := mem_ready.2 ⟨hl, ops[i], Array.getElem?_eq_getElem hi, fun e he _ => by
          have hlt := backB_at hb (Array.getElem?_eq_getElem hi) e he
          exact ih e.on hlt (by omega)⟩
        rw [hr] at this
        simp at this
  intro fuel
  induction fuel with
  | zero =>
    intro listed a w hs hc hI
    have hall : ∀ i, i < ops.size → listed.getD i true = true := fun i hi => by
      have h0 := List.countP_eq_zero.1 (Nat.le_zero.1 hc) i (List.mem_range.2 hi)
      simpa using h0
    have hr : Region.ready md ops listed = [] := by
      cases hq : Region.ready md ops listed with
      | nil => rfl
      | cons x xs =>
        have hx : x ∈ Region.ready md ops listed := by rw [hq]; simp
        obtain ⟨h1, o, ho, _⟩ := mem_ready.1 hx
        have := hall x (Array.getElem?_eq_some_iff.1 ho).1
        rw [this] at h1; cases h1
    exact ⟨hr, hend _ _ _ (hnil listed hs hr) hI⟩
  | succ fuel ih =>
    intro listed a w hs hc hI
    refine ⟨fun hr => hend _ _ _ (hnil listed hs hr) hI, fun i hi => ?_⟩
    obtain ⟨h1, o, ho, hall⟩ := mem_ready.1 hi
    have hil := (Array.getElem?_eq_some_iff.1 ho).1
    have h2 : listed.getD i false = false := by simpa [show i < listed.size by omega] using h1
    refine wpOp_mono (fun a' w' h => ih _ _ _ (by simpa using hs) ?_ ?_) (hstep i o _ a w ho h2 hall hI)
    · have hlt : (List.range ops.size).countP (fun j => !(listed.setIfInBounds i true).getD j true) < (List.range ops.size).countP (fun j => !listed.getD j true) :=
        countP_less (i := i) (fun x hx hq => by
          by_cases e : i = x
          · subst e; simp [show i < listed.size by omega] at hq
          · rw [getD_set_ne true e] at hq; exact hq) (List.mem_range.2 hil) (by rw [h1]; rfl) (by simp [show i < listed.size by omega])
      omega
    · have e : (fun j => (listed.setIfInBounds i true).getD j false) = fun j => if j = i then true else listed.getD j false := by
        funext j
        by_cases e : i = j
        · subst e; simp [show i < listed.size by omega]
        · rw [getD_set_ne false e, if_neg (fun h => e h.symm)]
      rw [e]
      exact h
def slotsPut : List Nat → (Nat → Value) → Act → Act
  | [], _, a => a
  | s :: r, vs, a => slotsPut r vs (a.put (some s) (vs s))
theorem wp_region_slots {P : Program} {id : Nat} {ops : Array Oper} {Q : Exit → Act → World → Prop} {a : Act} {w : World} (slots : List Nat) (J : (Nat → Bool) → (Nat → Value) → World → Prop) (hm : P.follows .mixedOrders = true) (hb : backB ops = true)
    (h0 : ∃ vs, a = slotsPut slots vs a ∧ J (fun _ => false) vs w.drew)
    (hstep : ∀ (i : Nat) (o : Oper) (L : Nat → Bool) (vs : Nat → Value) (w : World), ops[i]? = some o → L i = false → (∀ e ∈ o.after, Region.binds .any e = true → L e.on = true) → J L vs w →
      wpOp P ops Q i (fun a' w' => ∃ vs', a' = slotsPut slots vs' a ∧ J (fun j => if j = i then true else L j) vs' w') (slotsPut slots vs a) w)
    (hend : ∀ (L : Nat → Bool) (vs : Nat → Value) (w : World), (∀ i, i < ops.size → L i = true) → J L vs w → Q .normal (slotsPut slots vs a) w) : (Code.region id ops true).wp P Q a w := by
  refine wp_region_any hm (wpAny_inv (fun L a' w' => ∃ vs, a' = slotsPut slots vs a ∧ J L vs w') hb (fun i o L a' w' ho hL hA hI => ?_) (fun L a' w' hL hI => ?_) ops.size _ a _ (by simp) ?_ ?_)
  · obtain ⟨vs, rfl, hJ⟩ := hI
    exact hstep i o L vs w' ho hL hA hJ
  · obtain ⟨vs, rfl, hJ⟩ := hI
    exact hend L vs w' hL hJ
  · exact Nat.le_trans List.countP_le_length (by simp)
  · have e : (fun j => (Array.replicate ops.size false).getD j false) = fun _ => false := by
      funext j
      by_cases h : j < ops.size <;> simp [h]
    rw [e]
    exact h0
theorem put_self (a : Act) (s : Nat) : a.put (some s) (a.tmps.getD s undef) = a := by
  cases a with
  | mk t d =>
    show Act.mk (t.setIfInBounds s (t.getD s undef)) d = Act.mk t d
    congr 1
    apply Array.ext
    · simp
    · intro i h1 h2
      rw [Array.getElem_setIfInBounds]
      split
      · rename_i e; subst e; simp [h2]
      · rfl
theorem slots_self (slots : List Nat) (a : Act) : slotsPut slots (fun s => a.tmps.getD s undef) a = a := by
  induction slots with
  | nil => rfl
  | cons s r ih =>
    unfold slotsPut
    rw [put_self, ih]
theorem wp_region_slots2 {P : Program} {id : Nat} {ops : Array Oper} {Q : Exit → Act → World → Prop} {a : Act} {w : World} (slots : List Nat) (J : (Nat → Bool) → (Nat → Value) → World → Prop) (hm : P.follows .mixedOrders = true) (hb : backB ops = true)
    (h0 : ∀ vs, J (fun _ => false) vs w.drew)
    (hstep : ∀ (i : Nat) (o : Oper) (L : Nat → Bool) (vs : Nat → Value) (w : World), ops[i]? = some o → L i = false → (∀ e ∈ o.after, Region.binds .any e = true → L e.on = true) → J L vs w →
      wpOp P ops Q i (fun a' w' => ∃ vs', a' = slotsPut slots vs' a ∧ J (fun j => if j = i then true else L j) vs' w') (slotsPut slots vs a) w)
    (hend : ∀ (L : Nat → Bool) (vs : Nat → Value) (w : World), (∀ i, i < ops.size → L i = true) → J L vs w → Q .normal (slotsPut slots vs a) w) : (Code.region id ops true).wp P Q a w :=
  wp_region_slots slots J hm hb ⟨_, (slots_self slots a).symm, h0 _⟩ hstep hend
end Go.Proofs.YtpnnchpaaopdcaaGreatDoor
namespace Go.Proofs.YtpnnchpaaopdcaaGreatDoor
open Go Go.RowKit
variable {W : World} {g : Nat} {s : RS} {S : List UInt8}
def szV : Value → Nat | .string B => B.size | _ => 0
theorem qd_cons (c : UInt8) (r : List UInt8) : qd (c :: r) = if c = 34 then some ([], r) else if c = 13 ∨ c = 10 then none else if c = 92 then
      (match r with | [] => none | d :: r' => if d = 34 ∨ d = 92 then (qd r').map fun x => (d :: x.1, x.2) else none) else (qd r).map fun x => (c :: x.1, x.2) := by
  conv => lhs; unfold qd
  rfl
theorem drop_consF {S : List UInt8} {a : Nat} {c : UInt8} {r : List UInt8} (h : S.drop a = c :: r) : S.drop (a + 1) = r := by
  rw [← List.drop_drop, h]; rfl
theorem drop_cons2 {S : List UInt8} {a : Nat} {c d : UInt8} {r : List UInt8} (h : S.drop a = c :: d :: r) : S.drop (a + 2) = r := by
  rw [← List.drop_drop, h]; rfl
set_option maxRecDepth 100000 in
set_option maxHeartbeats 4000000 in
theorem rtString_c (h : DRS W g S s) (hl : S.length ≤ 100000) : Calls Tryz.prog 104 #[pt g] W (DoesD W g S (.string (txt (strV s))) (strS s)) := by
  have N1 := rtNext_c h 123 123 rfl
  rw [show ((123 : Nat) : Int) = 123 from rfl] at N1
  unfold nextB at N1
  have H := Lib.hid h
  by_cases h2 : s.l.head? = some 123
  · have h1 : ¬ s.l.head? = some 34 := fun e => by rw [h2] at e; cases e
    have hv : strV s = litV s := by unfold strV; rw [if_neg h1, if_pos h2]
    have hs : strS s = litS s := by unfold strS; rw [if_neg h1, if_pos h2]
    rw [hv, hs]
    rw [show (s.l.head? == some 123) = true by rw [h2]; rfl] at N1
    have C := fun w (hw : DRS w g S s) => rtLiteral_c hw hl
    obtain ⟨V, hV⟩ : ∃ V, txt (litV s) = V := ⟨_, rfl⟩
    obtain ⟨T, hT⟩ : ∃ T, litS s = T := ⟨_, rfl⟩
    rw [hV, hT] at C ⊢
    have C := Lib.hid C
    have N1 := Lib.hid N1
    clear h hV hT hv hs h1 h2
    go_enter Tryz.func104, Tryz.ntmps104
    go_wp2_with fail
    refine N1.out.mono ?_
    rintro e w1 ⟨rfl, m, hm⟩
    have h1 : DRS w1 g S s := by rw [hm]; exact H.out
    have C1 := Lib.hid (C.out _ h1)
    have K1 : Hid (Tk g W w1) := by rw [hm]; exact Tk.drew _ _
    clear h1 hm
    go_wp2_with fail
    refine C1.out.mono ?_
    rintro e w2 ⟨rfl, h2, k2⟩
    have H2 := Lib.hid h2
    have K2 := Lib.hid (K1.out.trans k2)
    clear h2 k2
    go_wp2_with fail
    go_ret
    exact ⟨rfl, H2.out, K2.out⟩
  · rw [show (s.l.head? == some 123) = false by rw [beq_eq_false_iff_ne]; exact h2] at N1
    have N2 : ∀ w, DRS w g S s → _ := fun w hw => rtNext_c hw 34 34 rfl
    rw [show ((34 : Nat) : Int) = 34 from rfl] at N2
    unfold nextB at N2
    by_cases h1 : s.l.head? = some 34
    · rw [show (s.l.head? == some 34) = true by rw [h1]; rfl] at N2
      have hf : s.f = false := by
        cases hf : s.f with
        | false => rfl
        | true => rw [h.ok hf] at h1; cases h1
      obtain ⟨a0, hD, ha0, hla⟩ := h.at hf
      obtain ⟨R, hR⟩ : ∃ R, qd s.l.tail = R := ⟨_, rfl⟩
      have hv : strV s = qV R := by unfold strV; rw [if_pos h1, hR]; rfl
      have hs : strS s = qS R := by unfold strS qS; rw [if_pos h1, hR]; cases R <;> simp [hf]
      have hne : a0 < S.length := by
        rcases Nat.lt_or_ge a0 S.length with h | h
        · exact h
        · rw [hla, List.drop_of_length_le h] at h1; cases h1
      have hR1 : qd (S.drop (a0 + 1)) = R := by
        rw [← hR, hla, ← List.drop_drop, List.drop_one]
      rw [hv, hs]
      obtain ⟨X, hX⟩ : ∃ X, qV R = X := ⟨_, rfl⟩
      obtain ⟨Y, hY⟩ : ∃ Y, qS R = Y := ⟨_, rfl⟩
      rw [hX, hY]
      obtain ⟨NL, hNL⟩ : ∃ NL, S.length = NL := ⟨_, rfl⟩
      rw [hNL] at hl hne
      have HX := Lib.hid hX
      have HY := Lib.hid hY
      have HR1 := Lib.hid hR1
      have HNL := Lib.hid hNL
      have HD0 := Lib.hid hD
      have N1 := Lib.hid N1
      have N2 := Lib.hid N2
      clear h hR hv hs hX hY hR1 hNL hD hla h1 h2 hf ha0
      go_enter Tryz.func104, Tryz.ntmps104
      go_wp2_with fail
      refine N1.out.mono ?_
      rintro e w1 ⟨rfl, m, hm⟩
      have C2 := Lib.hid (N2.out w1 (by rw [hm]; exact H.out))
      have hd1 : DR w1 g S a0 false := by rw [hm]; exact HD0.out
      have HD1 := Lib.hid hd1
      have K1 : Hid (Tk g W w1) := by rw [hm]; exact Tk.drew _ _
      clear hd1 hm
      go_wp2_with fail
      refine C2.out.mono ?_
      rintro e w2 ⟨rfl, m, hm⟩
      have hd2 : DR w2 g S a0 false := by rw [hm]; exact HD1.out
      obtain ⟨c0, c1, c2, hb, f1, f2⟩ := hd2.facts
      have HD2 := Lib.hid hd2
      have K2 : Hid (Tk g W w2) := by rw [hm]; exact K1.out.drewN _
      have HH : Hid (DR (w2.setCell ⟨g, 1, none⟩ (.int .i64 ((a0 : Int) + 1))) g S (a0 + 1) false) := hd2.set1 _ _ (by omega)
      have HKK : Hid (Tk g W (w2.setCell ⟨g, 1, none⟩ (.int .i64 ((a0 : Int) + 1)))) := K2.out.trans (Tk.set _ _ _)
      clear hd2 hm c0 c2 f2 HD1 K1 C2
      go_wp2_with fail
      clear c1 f1
      go_loopw [3, 4] (fun ov _ wr => ∃ (a : Nat) (acc : List UInt8) (B : ByteArray), ov = .string B ∧ B.size ≤ a ∧ Hid (B = txt acc) ∧ Hid (a ≤ NL) ∧ Hid (R = (qd (S.drop a)).map fun x => (acc ++ x.1, x.2)) ∧ Hid (DR wr g S a false) ∧ Hid (Tk g W wr)) (fun ov _ _ => NL + 1 - szV ov)
      case atStart => exact ⟨a0 + 1, [], _, rfl, Nat.zero_le _, rfl, by show _ ≤ _; omega, by show R = _; rw [HR1.out]; simp, HH.out, HKK.out⟩
      case round =>
        obtain ⟨a, acc, B, rfl, hBa, HBT, HAL, HM, HD, HK⟩ := hrel
        have haL := HAL.out
        have HA : Hid (a ≤ S.length) := by show _ ≤ _; rw [HNL.out]; exact haL
        have CR := rtRest_c (s := dS S a false) ⟨a, false, HD.out, HA.out, rfl⟩
        rw [show (dS S a false).l = S.drop a from rfl] at CR
        have hno : R = none → Hid ([] = X ∧ RS.gone = Y) := fun h => ⟨by rw [← HX.out, h]; rfl, by rw [← HY.out, h]; rfl⟩
        have HNO := Lib.hid hno
        clear hno
        cases hdr : S.drop a with
        | nil =>
          rw [hdr] at CR
          have HQ := HNO.out (by rw [HM.out, hdr]; rfl)
          have e0 : (txt []).toList.isEmpty = true := isEmpty_txt' []
          obtain ⟨Bs, hBs⟩ : ∃ B, txt [] = B := ⟨_, rfl⟩
          rw [hBs] at CR e0
          have CR := Lib.hid CR
          clear hdr hBs
          go_wp2_with fail
          refine CR.out.mono ?_
          rintro e w1 ⟨rfl, m, hm⟩
          have h1 : DR w1 g S a false := by rw [hm]; exact HD.out
          have K1 : Hid (Tk g W w1) := by rw [hm]; exact HK.out.drewN _
          have CF := Lib.hid (rtFail_c (s := dS S a false) ⟨a, false, h1, HA.out, rfl⟩)
          obtain ⟨c0, c1, c2, hb, f1, f2⟩ := h1.facts
          have H1 := Lib.hid h1
          clear h1 hm c0 c2 f2
          go_wp2_with fail
          refine CF.out.mono ?_
          rintro e w6 ⟨rfl, h6, k6⟩
          have H6 := Lib.hid h6
          have K6 := Lib.hid (K1.out.trans k6)
          clear h6 k6
          go_wp2_with fail
          go_ret
          exact ⟨by rw [← HQ.out.1]; rfl, HQ.out.2 ▸ H6.out, K6.out⟩
        | cons c r =>
          rw [hdr] at CR
          have hRR := HM.out
          rw [hdr, qd_cons] at hRR
          have hlen : r.length + 1 + a = NL := by
            have := congrArg List.length hdr
            rw [List.length_drop, HNL.out, List.length_cons] at this
            omega
          have e0 : (txt (c :: r)).toList.isEmpty = false := isEmpty_txt' (c :: r)
          have e1 : (txt (c :: r)).size = r.length + 1 := txt_size (c :: r)
          have hx01 : (txt (c :: r)).extract 0 1 = txt [c] := ext_take (c :: r)
          obtain ⟨Bs, hBs⟩ : ∃ B, txt (c :: r) = B := ⟨_, rfl⟩
          have hat : ∀ k (hk : k < Bs.size), (c :: r)[k]? = some Bs[k] := fun k hk => by
            subst hBs
            rw [at_txt (by rw [txt_size] at hk; exact hk)]; exact List.getElem?_eq_getElem _
          rw [hBs] at CR e0 e1 hx01
          have hsz : 0 < Bs.size := by omega
          have hq1 : (0 : Int) < Bs.size := by omega
          have hc1 : Bs[0].toNat < 256 := Bs[0].toNat_lt
          have hb0 : c = Bs[0] := by have := hat 0 hsz; simpa using this
          rw [hb0] at hRR
          have CR := Lib.hid CR
          obtain ⟨rl, hrl⟩ : ∃ rl, r.length = rl := ⟨_, rfl⟩
          rw [hrl] at e1 hlen
          have HX01 := Lib.hid hx01
          have HAT := Lib.hid hat
          have HDR := Lib.hid hdr
          have HB0 := Lib.hid hb0
          have HRL := Lib.hid hrl
          clear hdr hx01 hBs hat hb0 hrl
          by_cases h13 : Bs[0].toNat = 13
          · have ed : ((Bs[0].toNat : Int) == 13) = true := qT (by omega)
            have hz : Bs[0] = 13 := UInt8.toNat_inj.1 h13
            rw [if_neg (by rw [hz]; decide), if_pos (.inl hz)] at hRR
            have HQ := HNO.out (by rw [hRR]; rfl)
            clear hRR hz h13
            go_wp2_with fail
            refine CR.out.mono ?_
            rintro e w1 ⟨rfl, m, hm⟩
            have h1 : DR w1 g S a false := by rw [hm]; exact HD.out
            have K1 : Hid (Tk g W w1) := by rw [hm]; exact HK.out.drewN _
            have CF := Lib.hid (rtFail_c (s := dS S a false) ⟨a, false, h1, HA.out, rfl⟩)
            obtain ⟨c0, c1, c2, hb, f1, f2⟩ := h1.facts
            have H1 := Lib.hid h1
            clear h1 hm c0 c2 f2
            go_wp2_with fail
            refine CF.out.mono ?_
            rintro e w6 ⟨rfl, h6, k6⟩
            have H6 := Lib.hid h6
            have K6 := Lib.hid (K1.out.trans k6)
            clear h6 k6
            go_wp2_with fail
            go_ret
            exact ⟨by rw [← HQ.out.1]; rfl, HQ.out.2 ▸ H6.out, K6.out⟩
          have ed : ((Bs[0].toNat : Int) == 13) = false := qF (by omega)
          by_cases h10 : Bs[0].toNat = 10
          · have ee : ((Bs[0].toNat : Int) == 10) = true := qT (by omega)
            have hz : Bs[0] = 10 := UInt8.toNat_inj.1 h10
            rw [if_neg (by rw [hz]; decide), if_pos (.inr hz)] at hRR
            have HQ := HNO.out (by rw [hRR]; rfl)
            clear hRR hz h10 h13
            go_wp2_with fail
            refine CR.out.mono ?_
            rintro e w1 ⟨rfl, m, hm⟩
            have h1 : DR w1 g S a false := by rw [hm]; exact HD.out
            have K1 : Hid (Tk g W w1) := by rw [hm]; exact HK.out.drewN _
            have CF := Lib.hid (rtFail_c (s := dS S a false) ⟨a, false, h1, HA.out, rfl⟩)
            obtain ⟨c0, c1, c2, hb, f1, f2⟩ := h1.facts
            have H1 := Lib.hid h1
            clear h1 hm c0 c2 f2
            go_wp2_with fail
            refine CF.out.mono ?_
            rintro e w6 ⟨rfl, h6, k6⟩
            have H6 := Lib.hid h6
            have K6 := Lib.hid (K1.out.trans k6)
            clear h6 k6
            go_wp2_with fail
            go_ret
            exact ⟨by rw [← HQ.out.1]; rfl, HQ.out.2 ▸ H6.out, K6.out⟩
          have ee : ((Bs[0].toNat : Int) == 10) = false := qF (by omega)
          by_cases h34 : Bs[0].toNat = 34
          · have ec : ((Bs[0].toNat : Int) == 34) = true := qT (by omega)
            rw [if_pos (UInt8.toNat_inj.1 h34)] at hRR
            have HQ : Hid (acc = X ∧ (⟨r, false⟩ : RS) = Y) := ⟨by rw [← HX.out, hRR]; simp [qV], by rw [← HY.out, hRR]; rfl⟩
            clear hRR h34 h10 h13
            go_wp2_with fail
            refine CR.out.mono ?_
            rintro e w1 ⟨rfl, m, hm⟩
            have h1 : DR w1 g S a false := by rw [hm]; exact HD.out
            have K1 : Hid (Tk g W w1) := by rw [hm]; exact HK.out.drewN _
            have CF := Lib.hid (rtFail_c (s := dS S a false) ⟨a, false, h1, HA.out, rfl⟩)
            obtain ⟨c0, c1, c2, hb, f1, f2⟩ := h1.facts
            have H1 := Lib.hid h1
            clear h1 hm c0 c2 f2
            have HH2 : Hid (DRS (w1.setCell ⟨g, 1, none⟩ (.int .i64 ((a : Int) + 1))) g S ⟨r, false⟩) := ⟨a + 1, false, H1.out.set1 _ _ (by omega), by rw [HNL.out]; omega, by unfold dS; rw [drop_consF HDR.out]; rfl⟩
            have HKK2 : Hid (Tk g W (w1.setCell ⟨g, 1, none⟩ (.int .i64 ((a : Int) + 1)))) := K1.out.trans (Tk.set _ _ _)
            go_wp2_with fail
            go_ret
            exact ⟨by rw [← HQ.out.1, ← HBT.out]; rfl, HQ.out.2 ▸ HH2.out, HKK2.out⟩
          have ec : ((Bs[0].toNat : Int) == 34) = false := qF (by omega)
          rw [if_neg (fun e => h34 (by rw [e]; rfl)), if_neg (not_or.2 ⟨fun e => h13 (by rw [e]; rfl), fun e => h10 (by rw [e]; rfl)⟩)] at hRR
          by_cases h92 : Bs[0].toNat = 92
          · have eg : ((Bs[0].toNat : Int) == 92) = true := qT (by omega)
            rw [if_pos (UInt8.toNat_inj.1 h92)] at hRR
            match hrr : r with
            | [] =>
              have hrl0 : rl = 0 := by rw [← HRL.out]; rfl
              have q2 : (Bs.size : Int) < 2 := by omega
              dsimp only at hRR
              have HQ := HNO.out (by rw [hRR]; rfl)
              clear hRR h92 h34 h10 h13
              go_wp2_with fail
              refine CR.out.mono ?_
              rintro e w1 ⟨rfl, m, hm⟩
              have h1 : DR w1 g S a false := by rw [hm]; exact HD.out
              have K1 : Hid (Tk g W w1) := by rw [hm]; exact HK.out.drewN _
              have CF := Lib.hid (rtFail_c (s := dS S a false) ⟨a, false, h1, HA.out, rfl⟩)
              obtain ⟨c0, c1, c2, hb, f1, f2⟩ := h1.facts
              have H1 := Lib.hid h1
              clear h1 hm c0 c2 f2
              go_wp2_with fail
              refine CF.out.mono ?_
              rintro e w6 ⟨rfl, h6, k6⟩
              have H6 := Lib.hid h6
              have K6 := Lib.hid (K1.out.trans k6)
              clear h6 k6
              go_wp2_with fail
              go_ret
              exact ⟨by rw [← HQ.out.1]; rfl, HQ.out.2 ▸ H6.out, K6.out⟩
            | d :: r' =>
              have hrl1 : rl = r'.length + 1 := by rw [← HRL.out]; rfl
              have q2 : ¬ (Bs.size : Int) < 2 := by omega
              have hsz2 : 1 < Bs.size := by omega
              have hq2 : (1 : Int) < Bs.size := by omega
              have hc2 : Bs[1].toNat < 256 := Bs[1].toNat_lt
              have hb1 : d = Bs[1] := by have := HAT.out 1 hsz2; simpa using this
              dsimp only at hRR
              have hx12 : Bs.extract 1 2 = txt [d] := by
                have h01 := HX01.out
                apply extract_txt
                apply List.ext_getElem?
                intro i
                rw [List.getElem?_drop, List.getElem?_take]
                match i with
                | 0 =>
                  rw [if_pos (by omega), Array.getElem?_toList, Array.getElem?_eq_getElem (show 1 < Bs.data.size from hsz2), hb1]; rfl
                | i + 1 => rw [if_neg (by omega)]; rfl
              have HX12 := Lib.hid hx12
              clear hx12
              by_cases hd : Bs[1].toNat = 34 ∨ Bs[1].toNat = 92
              · rw [if_pos (by rw [hb1]; exact hd.imp (fun e => UInt8.toNat_inj.1 e) (fun e => UInt8.toNat_inj.1 e))] at hRR
                have HM2 : Hid (R = (qd (S.drop (a + 2))).map fun x => ((acc ++ [d]) ++ x.1, x.2)) := by
                  show R = _
                  rw [hRR, drop_cons2 HDR.out, Option.map_map]; congr 1; funext x; simp
                have hob : (B ++ Bs.extract 1 2).size = B.size + 1 := by rw [ByteArray.size_append, HX12.out]; rfl
                have HOB := Lib.hid hob
                have ha2 : a + 2 ≤ NL := by omega
                clear hob
                rcases hd with hd | hd
                · have ei : (Bs[1].toNat : Int) = 34 := by omega
                  clear hRR h92 h34 h10 h13 hb1
                  go_wp2_with fail
                  refine CR.out.mono ?_
                  rintro e w1 ⟨rfl, m, hm⟩
                  have h1 : DR w1 g S a false := by rw [hm]; exact HD.out
                  have K1 : Hid (Tk g W w1) := by rw [hm]; exact HK.out.drewN _
                  have CF := Lib.hid (rtFail_c (s := dS S a false) ⟨a, false, h1, HA.out, rfl⟩)
                  obtain ⟨c0, c1, c2, hb, f1, f2⟩ := h1.facts
                  have H1 := Lib.hid h1
                  clear h1 hm c0 c2 f2
                  have HH : Hid (DR (w1.setCell ⟨g, 1, none⟩ (.int .i64 ((a : Int) + 2))) g S (a + 2) false) := H1.out.set1 _ _ (by omega)
                  have HKK : Hid (Tk g W (w1.setCell ⟨g, 1, none⟩ (.int .i64 ((a : Int) + 2)))) := K1.out.trans (Tk.set _ _ _)
                  go_wp2_with fail
                  go_roundw
                  case rel => exact ⟨a + 2, acc ++ [d], _, rfl, by rw [HOB.out]; omega, by show _ = _; rw [HBT.out, HX12.out, txt_append], by show _ ≤ _; omega, HM2.out, HH.out, HKK.out⟩
                  case measure => (first | (show NL + 1 - ByteArray.size _ < NL + 1 - B.size; rw [HOB.out]; omega) | (simp only [szV]; rw [HOB.out]; omega))
                · have ei : ¬ (Bs[1].toNat : Int) = 34 := by omega
                  have ej : (Bs[1].toNat : Int) = 92 := by omega
                  clear hRR h92 h34 h10 h13 hb1
                  go_wp2_with fail
                  refine CR.out.mono ?_
                  rintro e w1 ⟨rfl, m, hm⟩
                  have h1 : DR w1 g S a false := by rw [hm]; exact HD.out
                  have K1 : Hid (Tk g W w1) := by rw [hm]; exact HK.out.drewN _
                  have CF := Lib.hid (rtFail_c (s := dS S a false) ⟨a, false, h1, HA.out, rfl⟩)
                  obtain ⟨c0, c1, c2, hb, f1, f2⟩ := h1.facts
                  have H1 := Lib.hid h1
                  clear h1 hm c0 c2 f2
                  have HH : Hid (DR (w1.setCell ⟨g, 1, none⟩ (.int .i64 ((a : Int) + 2))) g S (a + 2) false) := H1.out.set1 _ _ (by omega)
                  have HKK : Hid (Tk g W (w1.setCell ⟨g, 1, none⟩ (.int .i64 ((a : Int) + 2)))) := K1.out.trans (Tk.set _ _ _)
                  go_wp2_with fail
                  go_roundw
                  case rel => exact ⟨a + 2, acc ++ [d], _, rfl, by rw [HOB.out]; omega, by show _ = _; rw [HBT.out, HX12.out, txt_append], by show _ ≤ _; omega, HM2.out, HH.out, HKK.out⟩
                  case measure => (first | (show NL + 1 - ByteArray.size _ < NL + 1 - B.size; rw [HOB.out]; omega) | (simp only [szV]; rw [HOB.out]; omega))
              · have ei : ¬ (Bs[1].toNat : Int) = 34 := fun e => hd (.inl (by omega))
                have ej : ¬ (Bs[1].toNat : Int) = 92 := fun e => hd (.inr (by omega))
                have ei2 : ((Bs[1].toNat : Int) != 34) = true := by rw [bne_iff_ne]; exact ei
                have ej2 : ((Bs[1].toNat : Int) != 92) = true := by rw [bne_iff_ne]; exact ej
                rw [if_neg (by rw [hb1]; exact not_or.2 ⟨fun e => hd (.inl (by rw [e]; rfl)), fun e => hd (.inr (by rw [e]; rfl))⟩)] at hRR
                have HQ := HNO.out (by rw [hRR]; rfl)
                clear hRR h92 h34 h10 h13 hb1 hd
                go_wp2_with fail
                refine CR.out.mono ?_
                rintro e w1 ⟨rfl, m, hm⟩
                have h1 : DR w1 g S a false := by rw [hm]; exact HD.out
                have K1 : Hid (Tk g W w1) := by rw [hm]; exact HK.out.drewN _
                have CF := Lib.hid (rtFail_c (s := dS S a false) ⟨a, false, h1, HA.out, rfl⟩)
                obtain ⟨c0, c1, c2, hb, f1, f2⟩ := h1.facts
                have H1 := Lib.hid h1
                clear h1 hm c0 c2 f2
                go_wp2_with fail
                refine CF.out.mono ?_
                rintro e w6 ⟨rfl, h6, k6⟩
                have H6 := Lib.hid h6
                have K6 := Lib.hid (K1.out.trans k6)
                clear h6 k6
                go_wp2_with fail
                go_ret
                exact ⟨by rw [← HQ.out.1]; rfl, HQ.out.2 ▸ H6.out, K6.out⟩
          have eg : ((Bs[0].toNat : Int) == 92) = false := qF (by omega)
          rw [if_neg (fun e => h92 (by rw [e]; rfl))] at hRR
          have HM2 : Hid (R = (qd (S.drop (a + 1))).map fun x => ((acc ++ [c]) ++ x.1, x.2)) := by
            show R = _
            rw [hRR, drop_consF HDR.out, Option.map_map]; congr 1; funext x; simp [HB0.out]
          have hob : (B ++ Bs.extract 0 1).size = B.size + 1 := by rw [ByteArray.size_append, HX01.out]; rfl
          have HOB := Lib.hid hob
          have ha2 : a + 1 ≤ NL := by omega
          clear hob hRR h92 h34 h10 h13
          go_wp2_with fail
          refine CR.out.mono ?_
          rintro e w1 ⟨rfl, m, hm⟩
          have h1 : DR w1 g S a false := by rw [hm]; exact HD.out
          have K1 : Hid (Tk g W w1) := by rw [hm]; exact HK.out.drewN _
          have CF := Lib.hid (rtFail_c (s := dS S a false) ⟨a, false, h1, HA.out, rfl⟩)
          obtain ⟨c0, c1, c2, hb, f1, f2⟩ := h1.facts
          have H1 := Lib.hid h1
          clear h1 hm c0 c2 f2
          have HH : Hid (DR (w1.setCell ⟨g, 1, none⟩ (.int .i64 ((a : Int) + 1))) g S (a + 1) false) := H1.out.set1 _ _ (by omega)
          have HKK : Hid (Tk g W (w1.setCell ⟨g, 1, none⟩ (.int .i64 ((a : Int) + 1)))) := K1.out.trans (Tk.set _ _ _)
          go_wp2_with fail
          go_roundw
          case rel => exact ⟨a + 1, acc ++ [c], _, rfl, by rw [HOB.out]; omega, by show _ = _; rw [HBT.out, HX01.out, txt_append], by show _ ≤ _; omega, HM2.out, HH.out, HKK.out⟩
          case measure => (first | (show NL + 1 - ByteArray.size _ < NL + 1 - B.size; rw [HOB.out]; omega) | (simp only [szV]; rw [HOB.out]; omega))
    · rw [show (s.l.head? == some 34) = false by rw [beq_eq_false_iff_ne]; exact h1] at N2
      have hv : strV s = atomV s := by unfold strV; rw [if_neg h1, if_neg h2]
      have hs : strS s = atomS s := by unfold strS; rw [if_neg h1, if_neg h2]
      rw [hv, hs]
      have C := fun w (hw : DRS w g S s) => rtAtom_c hw hl
      obtain ⟨V, hV⟩ : ∃ V, txt (atomV s) = V := ⟨_, rfl⟩
      obtain ⟨T, hT⟩ : ∃ T, atomS s = T := ⟨_, rfl⟩
      rw [hV, hT] at C ⊢
      have C := Lib.hid C
      have N1 := Lib.hid N1
      have N2 := Lib.hid N2
      clear h hV hT hv hs h1 h2
      go_enter Tryz.func104, Tryz.ntmps104
      go_wp2_with fail
      refine N1.out.mono ?_
      rintro e w1 ⟨rfl, m, hm⟩
      have h1 : DRS w1 g S s := by rw [hm]; exact H.out
      have C1 := Lib.hid (N2.out _ h1)
      have HH1 := Lib.hid h1
      have K1 : Hid (Tk g W w1) := by rw [hm]; exact Tk.drew _ _
      clear h1 hm
      go_wp2_with fail
      refine C1.out.mono ?_
      rintro e w2 ⟨rfl, m, hm⟩
      have h2 : DRS w2 g S s := by rw [hm]; exact HH1.out
      have C2 := Lib.hid (C.out _ h2)
      have K2 : Hid (Tk g W w2) := by rw [hm]; exact K1.out.drewN _
      clear h2 hm
      go_wp2_with fail
      refine C2.out.mono ?_
      rintro e w3 ⟨rfl, h3, k3⟩
      have H3 := Lib.hid h3
      have K3 := Lib.hid (K2.out.trans k3)
      clear h3 k3
      go_wp2_with fail
      go_ret
      exact ⟨rfl, H3.out, K3.out⟩
end Go.Proofs.YtpnnchpaaopdcaaGreatDoor
namespace Go.Proofs.YtpnnchpaaopdcaaGreatDoor
open Go Go.RowKit
variable {n : Nat} {P : Program}
end Go.Proofs.YtpnnchpaaopdcaaGreatDoor

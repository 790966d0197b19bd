/-
  The law FlagsTells, walked.
-/
import Derived.Test.YtkgjjdgcmhhifaaDoorTellsP
import Derived.Test.YtkgjjdgcmhhifaaDoorBackW
import Derived.Shelf.RegionOpen
import Derived.Deep.RegionHeld3
import Derived.Deep.RegionWith
set_option linter.unusedVariables false
set_option linter.unusedSimpArgs false
namespace Go.Proofs.YtkgjjdgcmhhifaaDoor
open Go Go.RowKit Go.Shelf
attribute [local go_sem] Oper.semAt_some wide_fn wide_depth

def cellNat (W : World) (b : Nat) : Nat := match W.cell? ⟨b, 0, none⟩ with
  | some (.int _ n) => n.toNat
  | _ => 0
theorem cellNat_boxed {W : World} {b : Nat} {t : TypeId} {k : IntKind} {n : Int} (h : Boxed W b t (.int k n)) : cellNat W b = n.toNat := by
  unfold cellNat; rw [h.cell]

/-- What the law's own variables and the rest of the world are while the last test runs. -/
def Good (w : World) (s D : Nat) (W : World) : Prop := Names W ∧ Boxed W w.heap.size 5 (.int .u8 s) ∧ Boxed W (w.heap.size + 1) 4 (.bool false) ∧ Below w.heap.size w W ∧ W.heap[D]? = some (.deferred (some []))
theorem Good.later {w : World} {s D : Nat} {W W' : World} (h : Good w s D W) (hb : Below W.heap.size W W') : Good w s D W' := by
  obtain ⟨h1, h2, h3, h4, h5⟩ := h
  exact ⟨h1.later (hb.mono h1.lt), (hb.block _ h2.lt).trans h2, (hb.block _ h3.lt).trans h3, h4.trans (hb.mono h4.size), (hb.block _ (Array.getElem?_eq_some_iff.1 h5).1).trans h5⟩
theorem Good.drew {w : World} {s D : Nat} {W : World} (h : Good w s D W) : Good w s D W.drew :=
  ⟨h.1, h.2.1, h.2.2.1, h.2.2.2.1.drew, h.2.2.2.2⟩

set_option maxRecDepth 100000 in
set_option maxHeartbeats 4000000 in
theorem tells_c (s o : Nat) (how : Int) (hs : s < 256) (ho : o < 256) (w : World) (hN : Names w) : Calls Tryd.prog 3 #[.int .u8 s, .int .u8 o, .int .i64 how] w fun e w' => e = .returned (.bool true) ∧ Below w.heap.size w w' := by
  refine (callsIn_wide (n := 3)).1 ?_
  refine callsIn_of_wp_marks Tryd.func3 rfl trivial ?_
  simp only [Tryd.ntmps3, List.size_toArray, List.length_cons, List.length_nil, Nat.reduceAdd, Nat.reduceSub, Array.replicate_succ, Array.replicate_zero, List.push_toArray, List.append_toArray, List.nil_append, List.cons_append]
  refine wpIn_wide.2 ?_
  have HN := Lib.hid hN
  have HS := Lib.hid hs
  have HO := Lib.hid ho
  clear hN hs ho
  have hnf : ∀ (b : Nat) w, (binOp .eql 23 (.func (.func 32) #[] #[.pointer (some ⟨b, 0, none⟩)]) Value.nilFunc).run Tryd.prog w = .ok (.bool false) w := fun b w => by kernel_rfl
  go_wp2_with (go_at_call 9; refine (names_c _ _).mono ?_; rintro e w' ⟨rfl, rfl⟩)
  clear hnf
  have b0 := (((Boxed.new w 5 (.int .u8 s)).alloc (.cells #[.bool false] 4)).alloc (.cells #[.int .u8 s] 24)).alloc (.cells #[.int .i64 0] 3)
  have b1 := ((Boxed.new (w.alloc (.cells #[.int .u8 s] 5)) 4 (.bool false)).alloc (.cells #[.int .u8 s] 24)).alloc (.cells #[.int .i64 0] 3)
  have b2 := (Boxed.new ((w.alloc (.cells #[.int .u8 s] 5)).alloc (.cells #[.bool false] 4)) 24 (.int .u8 s)).alloc (.cells #[.int .i64 0] 3)
  have b3 := Boxed.new (((w.alloc (.cells #[.int .u8 s] 5)).alloc (.cells #[.bool false] 4)).alloc (.cells #[.int .u8 s] 24)) 3 (.int .i64 0)
  have hB0 : Below w.heap.size w ((((w.alloc (.cells #[.int .u8 s] 5)).alloc (.cells #[.bool false] 4)).alloc (.cells #[.int .u8 s] 24)).alloc (.cells #[.int .i64 0] 3)) := ((((Below.refl _ w).alloc (Nat.le_refl _) _).alloc (by simp) _).alloc (by simp; omega) _).alloc (by simp; omega) _
  have hsz : ((((w.alloc (.cells #[.int .u8 s] 5)).alloc (.cells #[.bool false] 4)).alloc (.cells #[.int .u8 s] 24)).alloc (.cells #[.int .i64 0] 3)).heap.size = w.heap.size + 4 := by simp
  simp only [World.size_alloc] at b1 b2 b3
  obtain ⟨W0, hW0⟩ : ∃ W0, (((w.alloc (.cells #[.int .u8 s] 5)).alloc (.cells #[.bool false] 4)).alloc (.cells #[.int .u8 s] 24)).alloc (.cells #[.int .i64 0] 3) = W0 := ⟨_, rfl⟩
  rw [hW0] at b0 b1 b2 b3 hB0 hsz ⊢
  clear hW0
  refine (wpIn_wide (n := 3)).1 ?_
  refine wpIn_rangeIter (gf := 32) (lb := #[.pointer (some ⟨w.heap.size + 1 + 1, 0, none⟩)]) rfl (enters_of Tryd.func32 (by kernel_rfl) rfl) (names1_iter s (w.heap.size + 1 + 1) HS.out) (fun _ => False) (fun _ h => h.elim) (fun _ => rfl)
    (fun k hk => by subst hk; omega) (fun W' hW' => ⟨HN.out.later ((hB0.trans (hW'.mono (by omega))).mono HN.out.lt), (hW'.block _ (by omega)).trans b2⟩)
    (fun pre W' => (∃ n : Nat, n ≤ 5 ∧ Boxed W' (w.heap.size + 1 + 1 + 1) 3 (.int .i64 n) ∧ pre = seqOf s n) ∧ Boxed W' w.heap.size 5 (.int .u8 s) ∧ Boxed W' (w.heap.size + 1) 4 (.bool false) ∧ Below w.heap.size w W')
    (fun c pre W' => False)
    (fun s' X Y h hAB => ⟨let ⟨n, h1, h2, h3⟩ := h.1; ⟨n, h1, hAB.boxed h2 (.inl (by omega)), h3⟩, hAB.boxed h.2.1 (.inl (by omega)), hAB.boxed h.2.2.1 (.inl (by omega)), h.2.2.2.trans (hAB.toBelow.mono (by omega))⟩)
    (fun c s' X Y h hAB => h)
    ⟨⟨0, by omega, b3, rfl⟩, b0, b1, hB0⟩ ?round ?done ?stop
  case round =>
    rintro l' pre x W1 hl ⟨⟨n, hn, hbi, hpre⟩, hb0, hb1, hb⟩ hst
    rw [hpre] at hst ⊢
    obtain ⟨hnx, hx5, hbx, hgap, hseq⟩ := next_facts HS.out hn hst
    gi_wp2
    refine ⟨Keeps.refl _ _ _ _, fun W2 hits hsz2 hrec hoth => ?_⟩
    have HBI := Lib.hid (hits.boxed hbi (.inl (by omega)))
    have HB0 := Lib.hid (hits.boxed hb0 (.inl (by omega)))
    have HB1 := Lib.hid (hits.boxed hb1 (.inl (by omega)))
    have HB := Lib.hid (hb.trans (hits.toBelow.mono (show w.heap.size ≤ W0.heap.size by omega)))
    have HBX := Lib.hid hbx
    have HGAP := Lib.hid hgap
    have HSEQ := Lib.hid hseq
    clear hbi hb0 hb1 hb hits hsz2 hrec hoth hbx hgap hseq hst hpre
    gi_wp2_with fail
    gi_loopw [18] (fun _ wr => ∃ m : Nat, n ≤ m ∧ m ≤ x ∧ Boxed wr (w.heap.size + 1 + 1 + 1) 3 (.int .i64 m) ∧ Boxed wr w.heap.size 5 (.int .u8 s) ∧ Boxed wr (w.heap.size + 1) 4 (.bool false) ∧ Below w.heap.size w wr ∧
      Keeps (fun _ => False) (fun k => k = w.heap.size + 1 + 1) W0.heap.size W2 wr) (fun _ wr => 5 - cellNat wr (w.heap.size + 1 + 1 + 1))
    case atStart => exact ⟨n, Nat.le_refl _, hnx, HBI.out, HB0.out, HB1.out, HB.out, Keeps.refl _ _ _ _⟩
    case round =>
      obtain ⟨m, hnm, hmx, hbi, hb0, hb1, hb, hk⟩ := hrel
      have ci := hbi.cell
      have fi := hbi.frozen
      have c0 := hb0.cell
      have HI := Lib.hid hbi
      have HZ := Lib.hid hb0
      have HR := Lib.hid hb1
      have HW := Lib.hid hb
      have HK := Lib.hid hk
      have hle : w.heap.size ≤ wr.heap.size := hb.size
      clear hbi hb0 hb1 hb hk
      by_cases hmlt : m < x
      · have hm5 : (m : Int) < 5 := by omega
        have hc : ∀ w, Calls Tryd.prog 10 #[.int .u8 s, .int .i64 m] w fun e w' => e = .returned (.bool false) ∧ w = w' := fun w => by
          have := rbit_c s m HS.out (by omega) w; rwa [HGAP.out m hnm hmlt] at this
        have HC := Lib.hid hc
        clear hc
        gi_wp2_with (gi_at_call 10; refine CallsIn.wr (HC.out _) ?_; rintro e w' ⟨rfl, rfl⟩)
        have g1 := HI.out.set (.int .i64 ((m : Int) + 1))
        have g0 := HZ.out.other (show w.heap.size ≠ w.heap.size + 1 + 1 + 1 by omega) (.int .i64 ((m : Int) + 1))
        have gr := HR.out.other (show w.heap.size + 1 ≠ w.heap.size + 1 + 1 + 1 by omega) (.int .i64 ((m : Int) + 1))
        go_roundw
        case rel => exact ⟨m + 1, by omega, by omega, g1, g0, gr, HW.out.setCell (p := ⟨w.heap.size + 1 + 1 + 1, 0, none⟩) (by simp; omega) _, HK.out.trans (Keeps.setCell _ _ ⟨w.heap.size + 1 + 1 + 1, 0, none⟩ _ (by simp) (by show w.heap.size + 1 + 1 + 1 < W0.heap.size; omega))⟩
        case measure => rw [cellNat_boxed g1, cellNat_boxed HI.out]; omega
      · obtain rfl : m = x := by omega
        have hm5 : (m : Int) < 5 := by omega
        have hc : ∀ w, Calls Tryd.prog 10 #[.int .u8 s, .int .i64 m] w fun e w' => e = .returned (.bool true) ∧ w = w' := fun w => by
          have := rbit_c s m HS.out (by omega) w; rwa [HBX.out] at this
        have HC := Lib.hid hc
        clear hc
        have hcell := namesRow_cell wr hx5
        have hmx2 : Tryd.prog.follows .mixedOrders = true := by kernel_rfl
        gi_wp2_with (gi_at_call 10; refine CallsIn.wr (HC.out _) ?_; rintro e w' ⟨rfl, rfl⟩)
        have hlt3 : w.heap.size + 1 + 1 + 1 < wr.heap.size := HI.out.lt
        have hcell3 : (wr.alloc namesRow).cell? ⟨w.heap.size + 1 + 1 + 1, 0, none⟩ = some (.int .i64 m) := (HI.out.alloc _).cell
        have hd5 : decide ((5 : Int) ≤ (m : Int)) = false := decide_eq_false (by omega)
        have hcell2 : (wr.alloc namesRow).drew.cell? ⟨wr.heap.size, m, none⟩ = some (.string (nmB m)) := hcell
        gi_region_with_o (gi_at_call 11; refine CallsIn.wr (rnames_c _) ?_; rintro e w' ⟨rfl, rfl⟩)
        all_goals
          have hfr3 : (wr.alloc namesRow).frozen? ⟨w.heap.size + 1 + 1 + 1, 0, none⟩ = false := (HI.out.alloc _).frozen
          gi_wp2_with fail
          obtain ⟨wz, hwz⟩ : ∃ wz, wz = wr.setCell ⟨w.heap.size + 1 + 1 + 1, 0, none⟩ (.int .i64 ((m : Int) + 1)) := ⟨_, rfl⟩
          have k0 : Keeps (fun _ => False) (fun k => k = w.heap.size + 1 + 1) W0.heap.size W2 wz := by
            rw [hwz]; exact HK.out.trans (Keeps.setCell _ _ ⟨w.heap.size + 1 + 1 + 1, 0, none⟩ _ (by simp) (by show w.heap.size + 1 + 1 + 1 < W0.heap.size; omega))
          have i1 : Boxed wz (w.heap.size + 1 + 1 + 1) 3 (.int .i64 ((m : Int) + 1)) := by rw [hwz]; exact HI.out.set _
          have i2 : Boxed wz w.heap.size 5 (.int .u8 s) := by rw [hwz]; exact HZ.out.other (by omega) _
          have i3 : Boxed wz (w.heap.size + 1) 4 (.bool false) := by rw [hwz]; exact HR.out.other (by omega) _
          have i4 : Below w.heap.size w wz := by rw [hwz]; exact HW.out.setCell (p := ⟨w.heap.size + 1 + 1 + 1, 0, none⟩) (by simp; omega) _
          rw [← hwz]
          have q1 : Boxed (wz.alloc namesRow).drew (w.heap.size + 1 + 1 + 1) 3 (.int .i64 ((m : Int) + 1)) := i1.alloc _
          have q2 : Boxed (wz.alloc namesRow).drew w.heap.size 5 (.int .u8 s) := i2.alloc _
          have q3 : Boxed (wz.alloc namesRow).drew (w.heap.size + 1) 4 (.bool false) := i3.alloc _
          exact ⟨(k0.trans (Keeps.alloc _ _ _ _ _)).trans (Keeps.drew _ _ _ _), ⟨m + 1, by omega, q1, HSEQ.out.symm⟩, q2, q3, (i4.alloc i4.size _).drew⟩
  case done =>
    rintro D xs W1 hD rfl ⟨⟨n, hn, hbi, hpre⟩, hb0, hb1, hb⟩ hK
    have HOFF := Lib.hid (rest_off HS.out hn hpre.symm)
    have HBI := Lib.hid hbi
    have HB0 := Lib.hid hb0
    have HB1 := Lib.hid hb1
    have HB := Lib.hid hb
    have HK := Lib.hid hK
    clear hbi hb0 hb1 hb hK hpre b0 b1 b2 b3 hB0
    go_wp2_with fail
    go_loopw [40] (fun _ wr => ∃ m : Nat, n ≤ m ∧ m ≤ 5 ∧ Boxed wr (w.heap.size + 1 + 1 + 1) 3 (.int .i64 m) ∧ Boxed wr w.heap.size 5 (.int .u8 s) ∧ Boxed wr (w.heap.size + 1) 4 (.bool false) ∧ Below w.heap.size w wr ∧
      wr.heap[D]? = some (.deferred (some []))) (fun _ wr => 5 - cellNat wr (w.heap.size + 1 + 1 + 1))
    case atStart => exact ⟨n, Nat.le_refl _, hn, HBI.out, HB0.out, HB1.out, HB.out, HK.out⟩
    case round =>
      obtain ⟨m, hnm, hm5, hbi, hb0, hb1, hb, hk⟩ := hrel
      have ci := hbi.cell
      have fi := hbi.frozen
      have c0 := hb0.cell
      have HI := Lib.hid hbi
      have HZ := Lib.hid hb0
      have HR := Lib.hid hb1
      have HW := Lib.hid hb
      have HD := Lib.hid hk
      have hle : w.heap.size ≤ wr.heap.size := hb.size
      clear hbi hb0 hb1 hb hk
      by_cases hmlt : m < 5
      · have hm5i : (m : Int) < 5 := by omega
        have hc : ∀ w, Calls Tryd.prog 10 #[.int .u8 s, .int .i64 m] w fun e w' => e = .returned (.bool false) ∧ w = w' := fun w => by
          have := rbit_c s m HS.out (by omega) w; rwa [HOFF.out m hnm hmlt] at this
        have HC := Lib.hid hc
        clear hc
        go_wp2_with (go_at_call 10; refine (HC.out _).mono ?_; rintro e w' ⟨rfl, rfl⟩)
        have g1 := HI.out.set (.int .i64 ((m : Int) + 1))
        have g0 := HZ.out.other (show w.heap.size ≠ w.heap.size + 1 + 1 + 1 by omega) (.int .i64 ((m : Int) + 1))
        have gr := HR.out.other (show w.heap.size + 1 ≠ w.heap.size + 1 + 1 + 1 by omega) (.int .i64 ((m : Int) + 1))
        go_roundw
        case rel => exact ⟨m + 1, by omega, by omega, g1, g0, gr, HW.out.setCell (p := ⟨w.heap.size + 1 + 1 + 1, 0, none⟩) (by simp; omega) _, (Below.heap_setCell wr ⟨w.heap.size + 1 + 1 + 1, 0, none⟩ _ D (by show D ≠ w.heap.size + 1 + 1 + 1; omega)).trans HD.out⟩
        case measure => rw [cellNat_boxed g1, cellNat_boxed HI.out]; omega
      · obtain rfl : m = 5 := by omega
        go_wp2_with fail
        clear ci fi
        obtain ⟨wv, rfl⟩ : ∃ wv : World, wv = wr := ⟨_, rfl⟩
        go_loop [10, 11] (fun h i => ∃ k : Nat, k ≤ 5 ∧ i = .int .i64 k ∧ h = .bool (hasTo s o k)) (fun _ i => 5 - (intOf i).toNat)
        case atStart => exact ⟨0, by omega, rfl, rfl⟩
        case round =>
          obtain ⟨k, hk, rfl, rfl⟩ := hrel
          by_cases hlt : k < 5
          · have hkl : (k : Int) < 5 := by omega
            have c1 : ∀ w, Calls Tryd.prog 10 #[.int .u8 o, .int .i64 k] w fun e w' => e = .returned (.bool (bit o k)) ∧ w = w' := rbit_c o k HO.out hlt
            have c2 : ∀ w, Calls Tryd.prog 10 #[.int .u8 s, .int .i64 k] w fun e w' => e = .returned (.bool (bit s k)) ∧ w = w' := rbit_c s k HS.out hlt
            have HNX := Lib.hid (show hasTo s o (k + 1) = (hasTo s o k && (!bit o k || bit s k)) from rfl)
            have C1 := Lib.hid c1
            have C2 := Lib.hid c2
            clear c1 c2
            cases ha : hasTo s o k with
            | false =>
              rw [ha] at HNX
              have HNY := Lib.hid (show hasTo s o (k + 1) = false from HNX.out)
              clear ha HNX
              go_wp2_with fail
              go_round
              case rel => exact ⟨k + 1, by omega, by go_num, by rw [HNY.out]⟩
              case measure => simp [intOf]; omega
            | true =>
              rw [ha] at HNX
              clear ha
              cases hb : bit o k with
              | false =>
                rw [hb] at HNX C1
                have HNY := Lib.hid (show hasTo s o (k + 1) = true from HNX.out)
                clear hb HNX
                go_wp2_with fail
                refine (C1.out _).mono ?_
                rintro e w' ⟨rfl, rfl⟩
                go_wp2_with fail
                go_round
                case rel => exact ⟨k + 1, by omega, by go_num, by rw [HNY.out]⟩
                case measure => simp [intOf]; omega
              | true =>
                rw [hb] at HNX C1
                have HNY := Lib.hid (show hasTo s o (k + 1) = bit s k from HNX.out)
                clear hb HNX
                go_wp2_with fail
                refine (C1.out _).mono ?_
                rintro e w' ⟨rfl, rfl⟩
                go_wp2_with fail
                refine (C2.out _).mono ?_
                rintro e w' ⟨rfl, rfl⟩
                go_wp2_with fail
                go_round
                case rel => exact ⟨k + 1, by omega, by go_num, by rw [HNY.out]⟩
                case measure => simp [intOf]; omega
          · obtain rfl : k = 5 := by omega
            go_wp2_with fail
            have hgood : Good w s D wv := ⟨HN.out.later (HW.out.mono HN.out.lt), HZ.out, HR.out, HW.out, HD.out⟩
            obtain ⟨T, hT⟩ : ∃ T, T = txt (textOf s) := ⟨_, rfl⟩
            obtain ⟨hv, hhv⟩ : ∃ hv, hv = hasTo s o 5 := ⟨_, rfl⟩
            obtain ⟨c, hc⟩ : ∃ c : Int, c = ((sChange s how o : Nat) : Int) := ⟨_, rfl⟩
            have d1 : ∀ W, Good w s D W → Calls Tryd.prog 12 #[.int .u8 s] W fun e W' => e = .returned (.string T) ∧ Good w s D W' ∧ W'.cell? ⟨w.heap.size, 0, none⟩ = some (.int .u8 s) := fun W hG =>
              (string_c s HS.out W hG.1).mono fun e W' ⟨h1, h2⟩ => ⟨by rw [hT]; exact h1, hG.later h2, (hG.later h2).2.1.cell⟩
            have d2 : ∀ W, Good w s D W → Calls Tryd.prog 13 #[.int .u8 s] W fun e W' => e = .returned (.string T) ∧ Good w s D W' ∧ W'.cell? ⟨w.heap.size, 0, none⟩ = some (.int .u8 s) := fun W hG =>
              (rtext_c s HS.out W).mono fun e W' ⟨h1, h2⟩ => ⟨by rw [hT]; exact h1, hG.later h2, (hG.later h2).2.1.cell⟩
            have d3 : ∀ W, Calls Tryd.prog 14 #[.int .u8 s, .int .u8 o] W fun e W' => e = .returned (.bool hv) ∧ W = W' := fun W => by
              rw [hhv, ← hasTo_all s o HS.out HO.out]; exact has_c s o HS.out HO.out W
            have d4 : ∀ W, Calls Tryd.prog 15 #[.int .u8 s, .int .i64 how, .int .u8 o] W fun e W' => e = .returned (.int .u8 c) ∧ W = W' := fun W => by
              rw [hc]; exact change_c s how o HS.out HO.out W
            have d5 : ∀ W, Calls Tryd.prog 16 #[.int .u8 s, .int .i64 how, .int .u8 o] W fun e W' => e = .returned (.int .u8 c) ∧ W = W' := fun W => by
              rw [hc]; exact rchange_c s how o HS.out HO.out W
            have d6 : ∀ W, Good w s D W → Calls Tryd.prog 17 #[] W fun e W' => e = .returned (.bool true) ∧ Good w s D W' ∧ W'.cell? ⟨w.heap.size + 1, 0, none⟩ = some (.bool false) ∧ W'.frozen? ⟨w.heap.size + 1, 0, none⟩ = false ∧ W'.cell? ⟨w.heap.size, 0, none⟩ = some (.int .u8 s) := fun W hG =>
              (awake1_c W hG.1).mono fun e W' ⟨h1, h2⟩ => ⟨h1, hG.later h2, (hG.later h2).2.2.1.cell, (hG.later h2).2.2.1.frozen, (hG.later h2).2.1.cell⟩
            rw [← hhv]
            have D1 := Lib.hid d1
            have D2 := Lib.hid d2
            have D3 := Lib.hid d3
            have D4 := Lib.hid d4
            have D5 := Lib.hid d5
            have D6 := Lib.hid d6
            have hgd := hgood.drew
            clear d1 d2 d3 d4 d5 d6 hT hhv hc hgood
            refine wp_region_noPanic ?_
            go_region_held3 (fun w' => w'.cell? ⟨w.heap.size, 0, none⟩ = some (.int .u8 s)) (first | assumption | go_keep) ((first | (go_at_call 12; refine (D1.out _ (by assumption)).mono ?_; rintro e w2 ⟨rfl, hg2, hc2⟩) | (go_at_call 13; refine (D2.out _ (by assumption)).mono ?_; rintro e w3 ⟨rfl, hg3, hc3⟩) | (go_at_call 14; refine (D3.out _).mono ?_; rintro e w4 ⟨rfl, rfl⟩) | (go_at_call 15; refine (D4.out _).mono ?_; rintro e w4 ⟨rfl, rfl⟩) | (go_at_call 16; refine (D5.out _).mono ?_; rintro e w4 ⟨rfl, rfl⟩) | (go_at_call 17; refine (D6.out _ (by assumption)).mono ?_; rintro e w5 ⟨rfl, hg5, hc5, hf5, hd5⟩)))
            all_goals refine NoPanic.normal ?_
            go_wp2_with fail
            have hK' : (w5.setCell ⟨w.heap.size + 1, 0, none⟩ (.bool true)).heap[D]? = some (.deferred (some [])) := (Below.heap_setCell w5 ⟨w.heap.size + 1, 0, none⟩ _ D (by show D ≠ w.heap.size + 1; omega)).trans hg5.2.2.2.2
            refine ⟨by simp, .inl ⟨_, _, rfl, run_takeDeferred hK', ?_⟩⟩
            have hc6 := cell_kept (hg5.2.2.1.set (.bool true)).cell (grownBy_putObj' _ D (.deferred none)) (fun r e => by cases e; exact ⟨_, hK', rfl⟩)
            refine ⟨.bool true, ?_, rfl, (hg5.2.2.2.1.setCell (p := ⟨w.heap.size + 1, 0, none⟩) (by simp) _).trans (belowK_b (w := w) (Nat.le_refl _) _ D _ _ (by omega) hK' rfl rfl)⟩
            simp [results, Tryd.f3, go_sem, hc6]
  case stop =>
    rintro D c pre W1 hD hS h hK
    exact h.elim
end Go.Proofs.YtkgjjdgcmhhifaaDoor

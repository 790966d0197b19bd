/-
  What is quoted, read again: lists; the law TokenBack: its walk.
-/
import Derived.Test.YtiiijmplcagaiaaGreatDoorQt8
set_option linter.unusedVariables false
set_option linter.unusedSimpArgs false
namespace Go.Proofs.YtiiijmplcagaiaaGreatDoor
open Go Go.RowKit
theorem clean_all {l : List UInt8} (h : cleanB l = true) : ∀ c ∈ l, c ≠ 13 ∧ c ≠ 10 := fun c hc => by
  unfold cleanB at h
  rw [Bool.not_eq_true', List.any_eq_false] at h
  have := h c hc
  rw [Bool.or_eq_true, beq_iff_eq, beq_iff_eq, not_or] at this
  exact this
theorem strV_quote (l r : List UInt8) (h : l.length ≤ 65536) : strV ⟨quoteL l ++ 32 :: r, false⟩ = l ∧ strS ⟨quoteL l ++ 32 :: r, false⟩ = ⟨32 :: r, false⟩ := by
  unfold quoteL
  by_cases ha : isAtomB l = true
  · rw [if_pos ha]
    exact strV_atom l (32 :: r) false ha (fun c hc => by simp at hc; subst hc; decide)
  · rw [if_neg ha]
    by_cases hc : l.length ≤ 100 ∧ cleanB l = true
    · rw [if_pos hc]
      have := strV_esc l (32 :: r) false (clean_all hc.2)
      simpa using this
    · rw [if_neg hc]
      have := strV_lit l (32 :: r) h
      simpa using this
def cat (L : List (List UInt8)) : List UInt8 := L.flatMap fun l => quoteL l ++ [32]
theorem cat_cons (l : List UInt8) (L : List (List UInt8)) : cat (l :: L) = quoteL l ++ 32 :: cat L := by simp [cat]
theorem cat_snoc (L : List (List UInt8)) (l : List UInt8) : cat (L ++ [l]) = cat L ++ (quoteL l ++ [32]) := by simp [cat]
theorem quote_len {l : List UInt8} (h : l.length ≤ 1000) : (quoteL l).length ≤ 2300 := by
  rcases quoteL_len l with h1 | h1 <;> omega
theorem cat_len : ∀ (L : List (List UInt8)), (∀ x ∈ L, x.length ≤ 1000) → (cat L).length ≤ 2301 * L.length
  | [], _ => by simp [cat]
  | l :: L, h => by
    have h1 := quote_len (h l (by simp))
    have h2 := cat_len L fun x hx => h x (by simp [hx])
    rw [cat_cons, List.length_append, List.length_cons, List.length_cons]
    omega
theorem drop_lt {α : Type} {l : List α} {k : Nat} (h : k < l.length) : ∃ x, l[k]? = some x ∧ l.drop k = x :: l.drop (k + 1) ∧ l.take (k + 1) = l.take k ++ [x] :=
  ⟨l[k], List.getElem?_eq_getElem h, List.drop_eq_getElem_cons h, List.take_succ_eq_append_getElem h⟩
def RowS (W : World) (p : Option Addr) (L : List (List UInt8)) : Prop := ∀ i x, L[i]? = some x → ∃ b off, p = some ⟨b, off, none⟩ ∧ b < W.heap.size ∧ W.cell? ⟨b, off + i, none⟩ = some (.string (txt x))
set_option maxRecDepth 100000 in
set_option maxHeartbeats 4000000 in
theorem tback_walk {p : Option Addr} {cap : Nat} {L : List (List UInt8)} (W : World) (hR : RowS W p L) (hE : Errs W) (hT : PowTab W) : Calls Tryz.prog 4 #[.slice p L.length cap] W fun e w' => e = .returned (.bool true) ∧ Below W.heap.size W w' := by
  obtain ⟨N, hN⟩ : ∃ N, L.length = N := ⟨_, rfl⟩
  rw [hN]
  have HN := Lib.hid hN
  have HR := Lib.hid hR
  have HE := Lib.hid hE
  have HT := Lib.hid hT
  clear hN hR hE hT
  by_cases hA : 20 < N
  · have q : (20 : Int) < N := by omega
    go_enter Tryz.func4, Tryz.ntmps4
    go_wp2_with fail
    go_ret
    exact ⟨rfl, Below.refl _ _⟩
  · have q : ¬ (20 : Int) < N := by omega
    go_enter Tryz.func4, Tryz.ntmps4
    go_wp2_with fail
    go_loopw [3, 4] (fun t3 t4 wr => ∃ (k : Nat) (S : ByteArray), k ≤ N ∧ t4 = .int .i64 k ∧ t3 = .string S ∧ S.size ≤ 2301 * k ∧ Hid (S = txt (cat (L.take k))) ∧ Hid (∀ x ∈ L.take k, x.length ≤ 1000) ∧ Hid (Below W.heap.size W wr)) (fun _ t4 _ => N - (intOf t4).toNat)
    case atStart => exact ⟨0, _, Nat.zero_le _, rfl, rfl, by decide, rfl, fun x hx => by simp at hx, Below.refl _ _⟩
    case round =>
      obtain ⟨k, S, hk, rfl, rfl, hS, HS, HL, HB⟩ := hrel
      by_cases hlt : k < N
      · have hq : (k : Int) < N := by omega
        obtain ⟨x, hx, _, htk⟩ := drop_lt (l := L) (k := k) (by rw [HN.out]; exact hlt)
        obtain ⟨b, off, rfl, hbw, kc⟩ := HR.out k x hx
        have kc : wr.cell? ⟨b, off + k, none⟩ = some (.string (txt x)) := by rw [HB.out.cell (p := ⟨b, off + k, none⟩) hbw]; exact kc
        have e1 := txt_size x
        obtain ⟨X, hX⟩ : ∃ X, txt x = X := ⟨_, rfl⟩
        by_cases h1000 : 1000 < x.length
        · have q1 : (1000 : Int) < X.size := by rw [← hX]; omega
          rw [hX] at kc
          clear hX e1 hx htk
          go_wp2_with fail
          go_ret
          exact ⟨rfl, HB.out⟩
        · have q1 : ¬ (1000 : Int) < X.size := by rw [← hX]; omega
          have C1 := tkQuote_c x (by omega) wr (fun _ => cany_c _ (by omega)) (itoa_at (HT.out.below HB.out) (by omega))
          have hql := quote_len (l := x) (by omega)
          have eq := txt_size (quoteL x)
          obtain ⟨Q, hQ⟩ : ∃ Q, txt (quoteL x) = Q := ⟨_, rfl⟩
          rw [hQ] at C1 eq
          rw [hX] at C1 kc
          have C1 := Lib.hid C1
          have HS2 : Hid (S ++ (Q ++ ⟨#[32]⟩) = txt (cat (L.take (k + 1)))) := by
            show _ = _
            rw [htk, cat_snoc, HS.out, ← hQ]
            apply ByteArray.ext; simp [txt]
          have HL2 : Hid (∀ y ∈ L.take (k + 1), y.length ≤ 1000) := by
            show ∀ y ∈ _, _
            rw [htk]
            intro y hy
            rcases List.mem_append.1 hy with h | h
            · exact HL.out y h
            · simp at h; subst h; omega
          have hqs : Q.size ≤ 2300 := by omega
          clear hX e1 hx htk hQ eq hql h1000
          go_wp2_with (first | (refine C1.out.mono ?_; rintro e w1 ⟨rfl, hb⟩; have H1 := Lib.hid hb; clear hb) | fail)
          go_roundw
          case rel => exact ⟨k + 1, _, by omega, by go_num, rfl, by simp only [ByteArray.size_append]; have : (⟨#[32]⟩ : ByteArray).size = 1 := rfl; omega, HS2.out, HL2.out, HB.out.trans (H1.out.mono HB.out.size)⟩
          case measure => simp [intOf]; omega
      · obtain rfl : k = N := by omega
        have hq : ¬ (k : Int) < k := by omega
        have hcl := cat_len L (by have := HL.out; rw [show L.take k = L from by rw [← HN.out]; exact List.take_length] at this; exact this)
        have HL3 : Hid (∀ x ∈ L, x.length ≤ 1000) := by have := HL.out; rw [show L.take k = L from by rw [← HN.out]; exact List.take_length] at this; exact this
        rw [HN.out] at hcl
        have C2 := tkRead_c (cat L) wr
        have hS2 := HS.out
        rw [show L.take k = L from by rw [← HN.out]; exact List.take_length] at hS2
        rw [← hS2] at C2
        have C2 := Lib.hid C2
        have hcat : (cat L).length ≤ 50000 := by omega
        have HCL : Hid ((cat L).length ≤ 50000) := hcat
        clear hS2 HS hcl hcat HL
        go_wp2_with fail
        refine C2.out.mono ?_
        rintro e w2 ⟨rfl, h2, hb2⟩
        have HP0 := Lib.hid h2
        obtain ⟨g, hg⟩ : ∃ g, wr.heap.size = g := ⟨_, rfl⟩
        have hgW : W.heap.size ≤ g := by rw [← hg]; exact HB.out.size
        have HB2 : Hid (Below W.heap.size W w2) := HB.out.trans (hb2.mono HB.out.size)
        rw [hg] at HP0 ⊢
        clear h2 hb2 hg C2 HB
        go_wp2_with fail
        go_loopw [6] (fun t6 wz => ∃ j : Nat, j ≤ k ∧ t6 = .int .i64 j ∧ Hid (PR wz g ⟨cat (L.drop j), false⟩) ∧ Hid (Below W.heap.size W wz)) (fun t6 _ => k - (intOf t6).toNat)
        case atStart => exact ⟨0, Nat.zero_le _, rfl, HP0.out, HB2.out⟩
        case round =>
          obtain ⟨j, hj, rfl, HP, HB⟩ := hrel
          by_cases hlt : j < k
          · have hq : (j : Int) < k := by omega
            obtain ⟨x, hx, hdr, _⟩ := drop_lt (l := L) (k := j) (by rw [HN.out]; exact hlt)
            obtain ⟨b, off, rfl, hbw, kc⟩ := HR.out j x hx
            have kc : wr.cell? ⟨b, off + j, none⟩ = some (.string (txt x)) := by rw [HB.out.cell (p := ⟨b, off + j, none⟩) hbw]; exact kc
            have hx1 := HL3.out x (List.mem_of_getElem? hx)
            have hsv := strV_quote x (cat (L.drop (j + 1))) (by omega)
            have hsum : (cat (L.drop j)).length ≤ 50000 := by
              have e : cat L = cat (L.take j) ++ cat (L.drop j) := by unfold cat; rw [← List.flatMap_append, List.take_append_drop]
              have := HCL.out
              rw [e, List.length_append] at this; omega
            have hP := HP.out
            rw [hdr, cat_cons] at hP hsum
            have hlen2 : (32 :: cat (L.drop (j + 1))).length ≤ 100000 := by
              rw [List.length_append] at hsum; simp only [List.length_cons] at hsum ⊢; omega
            have CP : ∀ w, PR w g ⟨quoteL x ++ 32 :: cat (L.drop (j + 1)), false⟩ → Below W.heap.size W w → Calls Tryz.prog 11 #[pt g] w (Does w g (.string (txt x)) ⟨32 :: cat (L.drop (j + 1)), false⟩) := fun w a c => by
              have := tkString_c a (fun h => by cases h) (by dsimp only; omega) (HE.out.below c) (HE.out.away hgW)
              rw [hsv.1, hsv.2] at this
              exact this
            have CB : ∀ w, PR w g ⟨32 :: cat (L.drop (j + 1)), false⟩ → Calls Tryz.prog 12 #[pt g] w (Does w g (.tuple #[]) ⟨cat (L.drop (j + 1)), false⟩) := fun w a => by
              have := tkBlank_c a (by dsimp only; exact hlen2)
              rw [show (32 :: cat (L.drop (j + 1)) : List UInt8) = [32] ++ cat (L.drop (j + 1)) from rfl, must_at [32] _ (by simp)] at this
              exact this
            obtain ⟨X, hX⟩ : ∃ X, txt x = X := ⟨_, rfl⟩
            rw [hX] at kc
            simp only [hX] at CP
            have CP := Lib.hid CP
            have CB := Lib.hid CB
            have HPj := Lib.hid hP
            have hbg : b ≠ g := by omega
            have hbz : b < wr.heap.size := Nat.lt_of_lt_of_le hbw HB.out.size
            clear hx hdr hsv hsum hP hlen2 hX hx1 HP HP0 HB2
            go_wp2_with fail
            go_region_held3 (fun w' => w'.cell? ⟨b, off + j, none⟩ = some (.string X))
              (first | exact kc | exact hs2)
              (first
                | (go_at_call 11; refine (CP.out _ (by first | exact HPj.out | exact (show PR wr.drew g _ from HPj.out)) (by first | exact HB.out | exact HB.out.drew)).mono ?_; rintro e w3 ⟨rfl, h3, k3⟩; have k3' : Tk g wr w3 := (by first | exact k3 | exact ⟨k3.os, k3.tape, k3.output, k3.size, k3.blk⟩); have hs2 : w3.cell? ⟨b, off + j, none⟩ = some (.string X) := (cell_same (k3'.blk _ hbz hbg)).trans kc))
            all_goals
              have HP3 := Lib.hid h3
              have HB3 : Hid (Below W.heap.size W w3) := HB.out.trans (k3'.below hgW HB.out.size)
              clear h3 k3 k3' hs2
              go_wp2_with fail
              refine (CB.out w3 HP3.out).mono ?_
              rintro e w4 ⟨rfl, h4, k4⟩
              have HP4 := Lib.hid h4
              have HB4 : Hid (Below W.heap.size W w4) := HB3.out.trans (k4.below hgW HB3.out.size)
              clear h4 k4
              go_wp2_with fail
              go_roundw
              case rel => exact ⟨j + 1, by omega, by go_num, HP4.out, HB4.out⟩
              case measure => simp [intOf]; omega
          · obtain rfl : j = k := by omega
            have hq : ¬ (j : Int) < j := by omega
            have hP := HP.out
            rw [show L.drop j = [] from by rw [← HN.out]; exact List.drop_length] at hP
            have C3 := tkEnd_c hP
            dsimp only at C3
            rw [show (!false && (cat []).isEmpty) = true from rfl] at C3
            have C3 := Lib.hid C3
            have C5 := Lib.hid (awake12_c wr (HE.out.below HB.out))
            clear hP
            go_wp2_with fail
            refine C3.out.mono ?_
            rintro e w5 ⟨rfl, rfl⟩
            go_wp2_with fail
            refine C5.out.mono ?_
            rintro e w6 ⟨rfl, hb⟩
            have H5 := Lib.hid hb
            clear hb
            go_wp2_with fail
            go_ret
            exact ⟨rfl, HB.out.trans (H5.out.mono HB.out.size)⟩
end Go.Proofs.YtiiijmplcagaiaaGreatDoor

/-
  The document's Quote: contract.
-/
import Derived.Test.YtiiijmplcagaiaaGreatDoorQt6
import Derived.Deep.OwnRows
set_option linter.unusedVariables false
set_option linter.unusedSimpArgs false
namespace Go.Proofs.YtiiijmplcagaiaaGreatDoor
open Go Go.RowKit
theorem u8_is (c n : UInt8) : (c == n) = ((c.toNat : Int) == (n.toNat : Int)) := by
  by_cases h : c = n
  · subst h; simp
  · have : c.toNat ≠ n.toNat := fun e => h (UInt8.toNat_inj.1 e)
    have h2 : ((c.toNat : Int) == (n.toNat : Int)) = false := by rw [beq_eq_false_iff_ne]; omega
    rw [h2]; simp [h]
theorem lit2_eq (d l : List UInt8) : (((⟨#[123]⟩ : ByteArray) ++ txt d) ++ ⟨#[125, 13, 10]⟩) ++ txt l = txt (123 :: (d ++ ([125, 13, 10] ++ l))) := by
  apply ByteArray.ext
  simp [txt]
theorem one_slice {B : ByteArray} {k : Nat} (h : k < B.size) : B.extract k (k + 1) = txt [B[k]] := by
  apply ByteArray.ext
  apply Array.ext'
  simp [txt]
  apply List.ext_getElem
  · simp; omega
  · intro i h1 h2
    simp at h2
    subst h2
    simp; rfl
set_option maxRecDepth 100000 in
set_option maxHeartbeats 4000000 in
theorem rtQuote_c (l : List UInt8) (hl : l.length ≤ 70000) (W : World) :
    Calls Tryz.prog 6 #[.string (txt l)] W fun e w' => e = .returned (.string (txt (quoteL l))) ∧ Below W.heap.size W w' := by
  have C1 := Lib.hid (rtrow0_c l (by omega) W)
  have e0 := isEmpty_txt' l
  have e1 := txt_size l
  have hrow := isAtomB_row l
  obtain ⟨N, hN⟩ : ∃ N, l.length = N := ⟨_, rfl⟩
  obtain ⟨T, hT⟩ : ∃ T, (l.takeWhile atomB).length = T := ⟨_, rfl⟩
  have hTN : T ≤ N := by rw [← hT, ← hN]; exact (List.takeWhile_sublist _).length_le
  obtain ⟨x, hx⟩ : ∃ x, l.isEmpty = x := ⟨_, rfl⟩
  have CN := Lib.hid (fun w => rnum_c N (by omega) w)
  have HQ : Hid (quoteL l = if isAtomB l then l else if N ≤ 100 ∧ cleanB l = true then 34 :: (escL l ++ [34]) else 123 :: (Lib.decDigits N ++ ([125, 13, 10] ++ l))) := by show _ = _; rw [← hN]; rfl
  obtain ⟨Q, hQ⟩ : ∃ Q, quoteL l = Q := ⟨_, rfl⟩
  rw [hQ] at HQ ⊢
  rw [hT] at C1
  rw [hx, hT, hN] at hrow
  rw [hx] at e0
  rw [hN] at e1 hl
  obtain ⟨B, hB⟩ : ∃ B, txt l = B := ⟨_, rfl⟩
  have HB := Lib.hid hB
  have hat : ∀ k (hk : k < B.size), l[k]? = some B[k] := fun k hk => by
    subst hB
    rw [at_txt (by rw [txt_size] at hk; exact hk)]; exact List.getElem?_eq_getElem _
  have HAT := Lib.hid hat
  have HN := Lib.hid hN
  simp only [hB] at C1 e0 e1
  rw [hB]
  clear hB hN hT hx hQ hat
  by_cases hA : x = false ∧ T = N
  · obtain ⟨rfl, rfl⟩ := hA
    have hy : isAtomB l = true := by rw [hrow]; simp
    have HQ1 : Hid (Q = l) := HQ.out.trans (if_pos hy)
    clear hrow
    go_enter Tryz.func6, Tryz.ntmps6
    go_wp2_with (first | (refine C1.out.mono ?_; rintro e w1 ⟨rfl, rfl⟩) | fail)
    go_ret
    exact ⟨by rw [HQ1.out, HB.out]; rfl, Below.refl _ _⟩
  · have hy : isAtomB l = false := by
      rw [hrow]
      cases x with
      | true => rfl
      | false =>
        have : T ≠ N := fun e => hA ⟨rfl, e⟩
        simp [this]
    have HQ1 : Hid (Q = if N ≤ 100 ∧ cleanB l = true then 34 :: (escL l ++ [34]) else 123 :: (Lib.decDigits N ++ ([125, 13, 10] ++ l))) := HQ.out.trans (if_neg (by rw [hy]; decide))
    have hq : x = false → ((T : Int) == (N : Int)) = false := fun h => by
      rw [beq_eq_false_iff_ne]; intro e; exact hA ⟨h, by omega⟩
    clear hrow hy HQ
    cases x
    all_goals
      first | (have hqq := hq rfl) | skip
      clear hq hA
      go_enter Tryz.func6, Tryz.ntmps6
      go_wp2_with (first | (refine C1.out.mono ?_; rintro e w1 ⟨rfl, hww⟩; have hww := hww.symm; subst hww) | fail)
      go_loopw [3, 4, 5] (fun qv pv iv wr => wr = W ∧ ∃ (k : Nat) (S : ByteArray) (p : Bool), k ≤ N ∧ iv = .int .i64 k ∧ pv = .bool p ∧ qv = .string S ∧ S.size ≤ 2 * k + 1 ∧ Hid (S = txt (34 :: escL (l.take k))) ∧ Hid (p = (decide (N ≤ 100) && cleanB (l.take k)))) (fun _ _ iv _ => N - (intOf iv).toNat)
      case atStart => exact ⟨rfl, 0, _, _, Nat.zero_le _, rfl, rfl, rfl, by decide, rfl, by show _ = _; simp [cleanB]; omega⟩
      case round =>
        obtain ⟨hwW, k, S, p, hk, rfl, rfl, rfl, hS, HS, HP⟩ := hrel
        have hwW := hwW.symm
        subst hwW
        by_cases hgo : k < N ∧ p = true
        · obtain ⟨hlt, rfl⟩ := hgo
          have hp := HP.out
          have hd : decide (N ≤ 100) = true := by cases h : decide (N ≤ 100) with
            | true => rfl
            | false => rw [h] at hp; cases hp
          have hcl : cleanB (l.take k) = true := by rw [hd] at hp; exact hp.symm
          have h100 : N ≤ 100 := of_decide_eq_true hd
          have hq : (k : Int) < N := by omega
          have hq0 : (0 : Int) ≤ k := by omega
          have hkB : k < B.size := by omega
          have hc1 : B[k].toNat < 256 := B[k].toNat_lt
          obtain ⟨hkl, hbk⟩ := List.getElem?_eq_some_iff.1 (HAT.out k hkB)
          have hnx := escL_next hkl
          have hcn := clean_next hkl
          rw [hbk] at hnx hcn
          rw [hcl, u8_is, u8_is] at hcn
          have hE : isE B[k] = (((B[k].toNat : Int) == 92) || ((B[k].toNat : Int) == 34)) := by unfold isE; rw [u8_is, u8_is]; rfl
          have hsl := one_slice hkB
          obtain ⟨X, hX⟩ : ∃ X, B.extract k (k + 1) = X := ⟨_, rfl⟩
          rw [hX] at hsl
          have hXs : X.size = 1 := by rw [hsl]; rfl
          have HLn : Hid ((txt (34 :: escL (l.take (k + 1)))).size ≤ 2 * (k + 1) + 1) := by
            show _ ≤ _
            rw [txt_size, List.length_cons, escL_len]
            have := List.countP_le_length (p := isE) (l := l.take (k + 1))
            have h2 : (l.take (k + 1)).length ≤ k + 1 := by rw [List.length_take]; omega
            omega
          obtain ⟨v13, b13⟩ : ∃ v, ((B[k].toNat : Int) == 13) = v := ⟨_, rfl⟩
          obtain ⟨v10, b10⟩ : ∃ v, ((B[k].toNat : Int) == 10) = v := ⟨_, rfl⟩
          obtain ⟨v34, b34⟩ : ∃ v, ((B[k].toNat : Int) == 34) = v := ⟨_, rfl⟩
          obtain ⟨v92, b92⟩ : ∃ v, ((B[k].toNat : Int) == 92) = v := ⟨_, rfl⟩
          have HPn : Hid ((if v13 || v10 then false else true) = (decide (N ≤ 100) && cleanB (l.take (k + 1)))) := by
            show _ = _
            rw [hcn, hd]
            rw [show ((13 : UInt8).toNat : Int) = 13 from rfl, show ((10 : UInt8).toNat : Int) = 10 from rfl, b13, b10]
            cases v13 <;> cases v10 <;> rfl
          have EQ : Hid ((if v34 || v92 then S ++ ⟨#[92]⟩ else S) ++ X = txt (34 :: escL (l.take (k + 1)))) := by
            show _ = _
            rw [hnx, hsl, HS.out]
            unfold escB
            rw [hE, b34, b92]
            cases v34 <;> cases v92 <;> (apply ByteArray.ext; simp [txt])
          clear hp hcl hkl hbk hnx hcn hE hsl hd HS HP
          cases v13 <;> cases v10 <;> cases v34 <;> cases v92
          all_goals
            go_wp2_with fail
            refine ⟨⟨trivial, k + 1, _, _, by omega, by go_num, rfl, rfl, ?_, EQ.out, HPn.out⟩, ?_⟩
            · exact Nat.le_trans (Nat.le_of_eq (congrArg ByteArray.size EQ.out)) HLn.out
            · simp [intOf]; omega
        · cases p with
          | true =>
            obtain rfl : k = N := by
              have : ¬ k < N := fun h => hgo ⟨h, rfl⟩
              omega
            have hq : ¬ (k : Int) < k := by omega
            have hp := HP.out
            have hS2 := HS.out
            rw [show l.take k = l from by rw [← HN.out]; exact List.take_length] at hp hS2
            have h100 : k ≤ 100 := by
              cases h : decide (k ≤ 100) with
              | true => exact of_decide_eq_true h
              | false => rw [h] at hp; cases hp
            have hcl : cleanB l = true := by
              rw [decide_eq_true h100] at hp; exact hp.symm
            have HQ2 : Hid (Q = 34 :: (escL l ++ [34])) := HQ1.out.trans (if_pos ⟨h100, hcl⟩)
            have HS2 : Hid (S ++ ⟨#[34]⟩ = txt (34 :: (escL l ++ [34]))) := by
              show _ = _
              rw [hS2]
              apply ByteArray.ext; simp [txt]
            clear hp hS2 hcl HS HP hgo
            go_wp2_with fail
            go_ret
            refine ⟨?_, Below.refl _ _⟩
            rw [HQ2.out, ← HS2.out]
            try rfl
          | false =>
            have hp := HP.out
            have hnot : ¬ (N ≤ 100 ∧ cleanB l = true) := by
              rintro ⟨h1, h2⟩
              rw [decide_eq_true h1, Bool.true_and] at hp
              rw [clean_end hp.symm] at h2
              cases h2
            have HQ2 : Hid (Q = 123 :: (Lib.decDigits N ++ ([125, 13, 10] ++ l))) := HQ1.out.trans (if_neg hnot)
            have HD : (Lib.decDigits N).length ≤ 100 := by have := dec_len9 9 N (by omega); omega
            have ed := txt_size (Lib.decDigits N)
            have CN2 := CN.out W
            obtain ⟨D, hD⟩ : ∃ D, txt (Lib.decDigits N) = D := ⟨_, rfl⟩
            have HDD := Lib.hid hD
            rw [hD] at CN2 ed
            have CN3 := Lib.hid CN2
            clear hD hp hnot HS HP hgo CN CN2
            by_cases hlt : k < N
            · have hq : (k : Int) < N := by omega
              go_wp2_with (first | (refine CN3.out.mono ?_; rintro e w3 ⟨rfl, hb⟩; have H3 := Lib.hid hb; clear hb) | fail)
              go_ret
              refine ⟨?_, H3.out⟩
              rw [HQ2.out, ← HDD.out, ← HB.out]
              exact congrArg (fun x => Ending.returned (.string x)) (lit2_eq _ _)
            · obtain rfl : k = N := by omega
              have hq : ¬ (k : Int) < k := by omega
              go_wp2_with (first | (refine CN3.out.mono ?_; rintro e w3 ⟨rfl, hb⟩; have H3 := Lib.hid hb; clear hb) | fail)
              go_ret
              refine ⟨?_, H3.out⟩
              rw [HQ2.out, ← HDD.out, ← HB.out]
              exact congrArg (fun x => Ending.returned (.string x)) (lit2_eq _ _)
end Go.Proofs.YtiiijmplcagaiaaGreatDoor

/-
  Quote: contract, given those of strings.ContainsAny and strconv.Itoa at the text.
-/
import Derived.Test.YtiiijmplcagaiaaGreatDoorRp9
import Derived.Test.YtiiijmplcagaiaaGreatDoorQt3
set_option linter.unusedVariables false
set_option linter.unusedSimpArgs false
namespace Go.Proofs.YtiiijmplcagaiaaGreatDoor
open Go Go.RowKit
/-- Has a text neither byte of a row's end? -/
def cleanB (l : List UInt8) : Bool := !(l.any fun c => c == 13 || c == 10)
/-- How a text is written. -/
def quoteL (l : List UInt8) : List UInt8 := if isAtomB l then l else if l.length ≤ 100 ∧ cleanB l = true then 34 :: (escL l ++ [34]) else 123 :: (Lib.decDigits l.length ++ ([125, 13, 10] ++ l))
def CAny (l : List UInt8) : Prop := ∀ w, Calls Tryz.prog 15 #[.string (txt l), .string ⟨#[13, 10]⟩] w fun e w' => e = .returned (.bool (!cleanB l)) ∧ Below w.heap.size w w'
def ItoaAt (n : Nat) (W : World) : Prop := ∀ w, Below W.heap.size W w → Calls Tryz.prog 18 #[.int .i64 n] w fun e w' => e = .returned (.string (txt (Lib.decDigits n))) ∧ Below w.heap.size w w'
theorem txt_add (a b : List UInt8) : txt a ++ txt b = txt (a ++ b) := by
  apply ByteArray.ext
  simp [txt]
theorem lit_eq (d l : List UInt8) : ((((⟨#[123]⟩ : ByteArray) ++ txt d) ++ ⟨#[125]⟩) ++ ⟨#[13, 10]⟩) ++ txt l = txt (123 :: (d ++ ([125, 13, 10] ++ l))) := by
  apply ByteArray.ext
  simp [txt]
theorem quo_eq (l : List UInt8) : (((⟨#[34]⟩ : ByteArray) ++ txt l) ++ ⟨#[34]⟩) = txt (34 :: (l ++ [34])) := by
  apply ByteArray.ext
  simp [txt]
theorem old_new (W : World) : OldAt (W.alloc (.cells #[.string sO1, .string sN1, .string sO2, .string sN2] 9)) W.heap.size := by
  have h := heap_alloc_new W (.cells #[.string sO1, .string sN1, .string sO2, .string sN2] 9)
  exact ⟨by unfold World.cell?; rw [h]; rfl, by unfold World.cell?; rw [h]; rfl, by unfold World.cell?; rw [h]; rfl, by unfold World.cell?; rw [h]; rfl, by rw [World.size_alloc]; omega⟩
set_option maxRecDepth 100000 in
set_option maxHeartbeats 1600000 in
theorem tkQuote_c (l : List UInt8) (hl : l.length ≤ 70000) (W : World) (hC : l.length ≤ 100 → CAny l) (hI : ItoaAt l.length W) :
    Calls Tryz.prog 5 #[.string (txt l)] W fun e w' => e = .returned (.string (txt (quoteL l))) ∧ Below W.heap.size W w' := by
  have C1 := Lib.hid (tkisAtom_c l (by omega) W)
  have e1 := txt_size l
  obtain ⟨N, hN⟩ : ∃ N, l.length = N := ⟨_, rfl⟩
  have HQ : Hid (quoteL l = if isAtomB l then l else if l.length ≤ 100 ∧ cleanB l = true then 34 :: (escL l ++ [34]) else 123 :: (Lib.decDigits l.length ++ ([125, 13, 10] ++ l))) := rfl
  obtain ⟨Q, hQ⟩ : ∃ Q, quoteL l = Q := ⟨_, rfl⟩
  rw [hQ] at HQ ⊢
  obtain ⟨y, hy⟩ : ∃ y, isAtomB l = y := ⟨_, rfl⟩
  rw [hy] at C1 HQ
  obtain ⟨z, hz⟩ : ∃ z, cleanB l = z := ⟨_, rfl⟩
  have HCA : Hid (N ≤ 100 → ∀ w, Calls Tryz.prog 15 #[.string (txt l), .string ⟨#[13, 10]⟩] w fun e w' => e = .returned (.bool (!z)) ∧ Below w.heap.size w w') := by
    show _ → _
    intro h
    rw [← hz]
    exact hC (by rw [hN]; exact h)
  rw [hz, hN] at HQ
  rw [hN] at e1 hI hl
  have HI := Lib.hid hI
  obtain ⟨B, hB⟩ : ∃ B, txt l = B := ⟨_, rfl⟩
  have HB := Lib.hid hB
  rw [hB] at C1 e1 HCA
  have GOAL : Calls Tryz.prog 5 #[.string B] W fun e w' => e = .returned (.string (txt Q)) ∧ Below W.heap.size W w' := by
    clear hC hI hB
    cases y with
    | true =>
      have HQ1 : Hid (Q = l) := HQ.out.trans (if_pos rfl)
      go_enter Tryz.func5, Tryz.ntmps5
      go_wp2_with (first | (refine C1.out.mono ?_; rintro e w1 ⟨rfl, hb⟩; have H1 := Lib.hid hb; clear hb) | fail)
      go_ret
      exact ⟨by rw [HQ1.out, HB.out]; rfl, H1.out⟩
    | false =>
      have HQ1 : Hid (Q = if N ≤ 100 ∧ z = true then 34 :: (escL l ++ [34]) else 123 :: (Lib.decDigits N ++ ([125, 13, 10] ++ l))) := HQ.out.trans (if_neg (by decide))
      have HD : (Lib.decDigits N).length ≤ 100 := by have := dec_len9 9 N (by omega); omega
      have ed := txt_size (Lib.decDigits N)
      by_cases h100 : N ≤ 100
      · have q1 : (N : Int) ≤ 100 := by omega
        cases z with
        | true =>
          have HQ2 : Hid (Q = 34 :: (escL l ++ [34])) := HQ1.out.trans (if_pos ⟨h100, rfl⟩)
          have HA := Lib.hid (HCA.out h100)
          have HR : Hid (∀ (w : World) (g q cp : Nat), RepAt w g 0 0 .nilIface (.slice (some ⟨q, 0, none⟩) 4 cp) → OldAt w q → q ≠ g → Calls Tryz.prog 17 #[pt0 g, .string B] w fun e w' => e = .returned (.string (txt (escL l))) ∧ Tk g w w') := fun w g q cp a b c => by
            rw [← HB.out]
            exact repReplace_c a b c l (by omega)
          have HL : (escL l).length ≤ 200 := by rw [escL_len]; have := List.countP_le_length (p := isE) (l := l); omega
          have ee := txt_size (escL l)
          obtain ⟨D, hD⟩ : ∃ D, txt (escL l) = D := ⟨_, rfl⟩
          have HDD := Lib.hid hD
          simp only [hD] at HR ee
          clear hD HCA h100 HI
          go_enter Tryz.func5, Tryz.ntmps5
          go_wp2_with (first | (refine C1.out.mono ?_; rintro e w1 ⟨rfl, hb⟩; have C2 := Lib.hid (HA.out w1); have H1 := Lib.hid hb; clear hb) | (refine C2.out.mono ?_; rintro e w2 ⟨rfl, hb⟩; have C3 := Lib.hid (repNew_c (c := 4) (old_new w2)); have H2 := Lib.hid hb; clear hb) | (refine C3.out.mono ?_; rintro e w3 ⟨g, q, cp, rfl, hr, ho, hqg, hg, hq, hb⟩; have C4 := Lib.hid (HR.out w3 g q cp hr ho hqg); have H3 := Lib.hid hb; have HG := Lib.hid hg; clear hr ho hqg hg hq hb) | (refine C4.out.mono ?_; rintro e w4 ⟨rfl, hk⟩; have H4 := Lib.hid hk; clear hk) | fail)
          go_ret
          have s1 := H1.out.size
          have s2 := H2.out.size
          have s3 := H3.out.size
          have s4 := HG.out
          rw [World.size_alloc] at s3 s4
          have h3 : Below w2.heap.size w2 w3 := ((Below.refl _ w2).alloc (Nat.le_refl _) _).trans (H3.out.mono (by rw [World.size_alloc]; omega))
          refine ⟨?_, H1.out.trans ((H2.out.trans ((h3.trans (H4.out.below (by omega) (by omega))).mono (by omega))).mono (by omega))⟩
          rw [HQ2.out, ← HDD.out]
          exact congrArg (fun x => Ending.returned (.string x)) (quo_eq _)
        | false =>
          have HQ2 : Hid (Q = 123 :: (Lib.decDigits N ++ ([125, 13, 10] ++ l))) := HQ1.out.trans (if_neg (by simp))
          have HA := Lib.hid (HCA.out h100)
          have HI3 : Hid (∀ w1 w2, Below W.heap.size W w1 → Below w1.heap.size w1 w2 → Calls Tryz.prog 18 #[.int .i64 N] w2 fun e w' => e = .returned (.string (txt (Lib.decDigits N))) ∧ Below w2.heap.size w2 w') := fun w1 w2 a b => HI.out w2 (a.trans (b.mono a.size))
          obtain ⟨D, hD⟩ : ∃ D, txt (Lib.decDigits N) = D := ⟨_, rfl⟩
          have HDD := Lib.hid hD
          rw [hD] at HI3 ed
          clear hD
          go_enter Tryz.func5, Tryz.ntmps5
          go_wp2_with (first | (refine C1.out.mono ?_; rintro e w1 ⟨rfl, hb⟩; have C2 := Lib.hid (HA.out w1); have H1 := Lib.hid hb; clear hb) | (refine C2.out.mono ?_; rintro e w2 ⟨rfl, hb⟩; have C3 := Lib.hid (HI3.out w1 w2 H1.out hb); have H2 := Lib.hid hb; clear hb) | (refine C3.out.mono ?_; rintro e w3 ⟨rfl, hb⟩; have H3 := Lib.hid hb; clear hb) | fail)
          go_ret
          refine ⟨?_, H1.out.trans ((H2.out.trans (H3.out.mono H2.out.size)).mono H1.out.size)⟩
          rw [HQ2.out, ← HDD.out, ← HB.out]
          exact congrArg (fun x => Ending.returned (.string x)) (lit_eq _ _)
      · have q1 : ¬ (N : Int) ≤ 100 := by omega
        have HQ2 : Hid (Q = 123 :: (Lib.decDigits N ++ ([125, 13, 10] ++ l))) := HQ1.out.trans (if_neg (by simp [h100]))
        obtain ⟨D, hD⟩ : ∃ D, txt (Lib.decDigits N) = D := ⟨_, rfl⟩
        have HDD := Lib.hid hD
        have HI3 : Hid (∀ w, Below W.heap.size W w → Calls Tryz.prog 18 #[.int .i64 N] w fun e w' => e = .returned (.string (txt (Lib.decDigits N))) ∧ Below w.heap.size w w') := HI.out
        rw [hD] at HI3 ed
        clear hD HCA h100 HI
        go_enter Tryz.func5, Tryz.ntmps5
        go_wp2_with (first | (refine C1.out.mono ?_; rintro e w1 ⟨rfl, hb⟩; have C3 := Lib.hid (HI3.out w1 hb); have H1 := Lib.hid hb; clear hb) | (refine C3.out.mono ?_; rintro e w3 ⟨rfl, hb⟩; have H3 := Lib.hid hb; clear hb) | fail)
        go_ret
        refine ⟨?_, H1.out.trans (H3.out.mono H1.out.size)⟩
        rw [HQ2.out, ← HDD.out, ← HB.out]
        exact congrArg (fun x => Ending.returned (.string x)) (lit_eq _ _)
  rw [hB]
  exact GOAL
end Go.Proofs.YtiiijmplcagaiaaGreatDoor

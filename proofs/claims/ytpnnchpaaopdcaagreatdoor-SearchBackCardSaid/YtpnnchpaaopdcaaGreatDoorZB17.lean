/-
  strings.Replacer.Replace: contract.
  Quote: contract, given those of strings.ContainsAny and strconv.Itoa at the text.
  What is written, round by round: lists alone.
  The document's row of an atom; its numbers, written: contracts (out of XTkB and XQNum, for a seat without the document's reader).
  The document's Quote: contract.
  The document's text of a key: contract. MADE by wip/tools/mkKy6.py.
  A key of at most two hundred keys: its text is short: lists alone.
  What is decoded out of a text, at a byte that is no sign: a rune that is none, and only such bytes are taken.
  strings.IndexRune of a row's two signs at a rune that is no sign; strings.IndexAny and ContainsAny of a text of at most 100 bytes and the two: contracts.
  strings.IndexAny and ContainsAny of a text of at most 100 bytes and a row's two signs; strconv.Itoa at a text's length: contracts.
  strings.ContainsAny of a text of at most 100 bytes and a row's two signs; strconv.Itoa at a text's length: contracts.
  A key's text, by the program: the kids' texts joined: contract.
  A number's text by strconv.FormatUint: contract (XIt0's, on the token's texts).
  A key's text, read, is that key.
-/
import Derived.Test.YtpnnchpaaopdcaaGreatDoorZB06
import Derived.Test.YtpnnchpaaopdcaaGreatDoorZB04
import Derived.Test.YtpnnchpaaopdcaaGreatDoorZB16
import Derived.Deep.OwnRows
import Derived.Test.YtpnnchpaaopdcaaGreatDoorZB15
import Derived.Deep.QuietTactic
import Derived.BigQuiet
import Derived.Lib.Join
import Derived.Laws.RangeString
import Derived.Test.YtpnnchpaaopdcaaGreatDoorZB01
import Derived.Lib.AppendIntMem
import Derived.Lib.LaidTab
import Derived.Lib.OthersKept
import Derived.Shelf.Strings.IndexAny
import Derived.Test.YtpnnchpaaopdcaaGreatDoorZB08
import Derived.Laws.OwnMore
import Derived.Lib.ItoaNum
import Derived.Lib.ItoaMem
import Derived.Lib.UnsafeStr
import Derived.Test.YtpnnchpaaopdcaaGreatDoorZB11
set_option linter.unusedVariables false
set_option linter.unusedSimpArgs false
namespace Go.Proofs.YtpnnchpaaopdcaaGreatDoor
open Go Go.RowKit
variable {W : World} {g q cp : Nat}
theorem at_repl (v : Value) (w : World) : (method (Tryz.prog.types.size + Made.depth) 282 v "Replace").run Tryz.prog w = .ok (340, v) w := by kernel_rfl
theorem OldAt.tk {w w' : World} (h : OldAt w q) (hq : q ≠ g) (hk : Tk g w w') : OldAt w' q := by
  have hc : ∀ i, w'.cell? ⟨q, i, none⟩ = w.cell? ⟨q, i, none⟩ := fun i => cell_same9 (hk.blk q h.lt hq)
  exact ⟨(hc _).trans h.c0, (hc _).trans h.c1, (hc _).trans h.c2, (hc _).trans h.c3, Nat.lt_of_lt_of_le h.lt hk.size⟩
theorem RepE.tk {r : Value} {w w' : World} (h : RepE g r w) (hk : Tk g w w') : RepE g r w' := by
  obtain ⟨rb, e, hd⟩ := h
  exact ⟨rb, e, hd.tk hk⟩
set_option maxRecDepth 100000 in
set_option maxHeartbeats 1600000 in
theorem repReplace_c (hr : RepAt W g 0 0 .nilIface (.slice (some ⟨q, 0, none⟩) 4 cp)) (ho : OldAt W q) (hq : q ≠ g) (l : List UInt8) (hl : l.length ≤ 1000) :
    Calls Tryz.prog 150 #[pt0 g, .string (txt l)] W fun e w' => e = .returned (.string (txt (escL l))) ∧ Tk g W w' := by
  have C := Lib.hid (onceDo_c (g := g) (sv := .slice (some ⟨q, 0, none⟩) 4 cp) (G := fun w => OldAt w q) (E := RepE g) (fun w w' h hk => h.tk hq hk) (fun r w w' h hk => h.tk hk) (fun w h1 h2 => buildOnce_c h1 h2) W hr ho)
  have hm := fun (v : Value) (w : World) => at_repl v w
  simp [go_sem] at hm
  have hlt := hr.facts.2.2.2.2.1
  clear hr ho
  go_enter Tryz.func150, Tryz.ntmps150
  go_wp2_with (first | (go_at_call 190; refine C.out.mono ?_; rintro e w1 ⟨rfl, r, h1, ⟨rb, rfl, hd⟩, k1⟩; obtain ⟨_, _, c3, _, _, _⟩ := h1.facts; obtain ⟨b1, b2, t, tc, hv, k256, kt0, kt1, ktl⟩ := hd.view; have C2 := Lib.hid (bsRepl_c hv k256 kt0 kt1 ktl l hl); have K1 := Lib.hid k1; have hsz := k1.size; clear h1 hd hv k256 kt0 kt1 ktl k1) | (refine C2.out.mono ?_; rintro e w2 ⟨rfl, hb⟩))
  go_ret
  exact ⟨rfl, K1.out.trans (Tk.of_below hb)⟩
end Go.Proofs.YtpnnchpaaopdcaaGreatDoor
namespace Go.Proofs.YtpnnchpaaopdcaaGreatDoor
open Go Go.RowKit
def cleanB (l : List UInt8) : Bool := !(l.any fun c => c == 13 || c == 10)
def quoteL (l : List UInt8) : List UInt8 := if isAtomB l then l else if l.length ≤ 100 ∧ cleanB l = true then 34 :: (escL l ++ [34]) else 123 :: (Lib.decDigits l.length ++ ([125, 13, 10] ++ l))
def CAny (l : List UInt8) : Prop := ∀ w, Calls Tryz.prog 148 #[.string (txt l), .string ⟨#[13, 10]⟩] w fun e w' => e = .returned (.bool (!cleanB l)) ∧ Below w.heap.size w w'
def ItoaAt (n : Nat) (W : World) : Prop := ∀ w, Below W.heap.size W w → Calls Tryz.prog 151 #[.int .i64 n] w fun e w' => e = .returned (.string (txt (Lib.decDigits n))) ∧ Below w.heap.size w w'
theorem lit_eq (d l : List UInt8) : ((((⟨#[123]⟩ : ByteArray) ++ txt d) ++ ⟨#[125]⟩) ++ ⟨#[13, 10]⟩) ++ txt l = txt (123 :: (d ++ ([125, 13, 10] ++ l))) := by
  apply ByteArray.ext
  simp [txt]
theorem quo_eq (l : List UInt8) : (((⟨#[34]⟩ : ByteArray) ++ txt l) ++ ⟨#[34]⟩) = txt (34 :: (l ++ [34])) := by
  apply ByteArray.ext
  simp [txt]
theorem old_new (W : World) : OldAt (W.alloc (.cells #[.string sO1, .string sN1, .string sO2, .string sN2] 9)) W.heap.size := by
  have h := heap_alloc_new W (.cells #[.string sO1, .string sN1, .string sO2, .string sN2] 9)
  exact ⟨by unfold World.cell?; rw [h]; rfl, by unfold World.cell?; rw [h]; rfl, by unfold World.cell?; rw [h]; rfl, by unfold World.cell?; rw [h]; rfl, by rw [World.size_alloc]; omega⟩
set_option maxRecDepth 100000 in
set_option maxHeartbeats 1600000 in
theorem tkQuote_c (l : List UInt8) (hl : l.length ≤ 70000) (W : World) (hC : l.length ≤ 100 → CAny l) (hI : ItoaAt l.length W) :
    Calls Tryz.prog 91 #[.string (txt l)] W fun e w' => e = .returned (.string (txt (quoteL l))) ∧ Below W.heap.size W w' := by
  have C1 := Lib.hid (tkisAtom_c l (by omega) W)
  have e1 := txt_size l
  obtain ⟨N, hN⟩ : ∃ N, l.length = N := ⟨_, rfl⟩
  have HQ : Hid (quoteL l = if isAtomB l then l else if l.length ≤ 100 ∧ cleanB l = true then 34 :: (escL l ++ [34]) else 123 :: (Lib.decDigits l.length ++ ([125, 13, 10] ++ l))) := rfl
  obtain ⟨Q, hQ⟩ : ∃ Q, quoteL l = Q := ⟨_, rfl⟩
  rw [hQ] at HQ ⊢
  obtain ⟨y, hy⟩ : ∃ y, isAtomB l = y := ⟨_, rfl⟩
  rw [hy] at C1 HQ
  obtain ⟨z, hz⟩ : ∃ z, cleanB l = z := ⟨_, rfl⟩
  have HCA : Hid (N ≤ 100 → ∀ w, Calls Tryz.prog 148 #[.string (txt l), .string ⟨#[13, 10]⟩] w fun e w' => e = .returned (.bool (!z)) ∧ Below w.heap.size w w') := by
    show _ → _
    intro h
    rw [← hz]
    exact hC (by rw [hN]; exact h)
  rw [hz, hN] at HQ
  rw [hN] at e1 hI hl
  have HI := Lib.hid hI
  obtain ⟨B, hB⟩ : ∃ B, txt l = B := ⟨_, rfl⟩
  have HB := Lib.hid hB
  rw [hB] at C1 e1 HCA
  have GOAL : Calls Tryz.prog 91 #[.string B] W fun e w' => e = .returned (.string (txt Q)) ∧ Below W.heap.size W w' := by
    clear hC hI hB
    cases y with
    | true =>
      have HQ1 : Hid (Q = l) := HQ.out.trans (if_pos rfl)
      go_enter Tryz.func91, Tryz.ntmps91
      go_wp2_with (first | (refine C1.out.mono ?_; rintro e w1 ⟨rfl, hb⟩; have H1 := Lib.hid hb; clear hb) | fail)
      go_ret
      exact ⟨by rw [HQ1.out, HB.out]; rfl, H1.out⟩
    | false =>
      have HQ1 : Hid (Q = if N ≤ 100 ∧ z = true then 34 :: (escL l ++ [34]) else 123 :: (Lib.decDigits N ++ ([125, 13, 10] ++ l))) := HQ.out.trans (if_neg (by decide))
      have HD : (Lib.decDigits N).length ≤ 100 := by have := dec_len9 9 N (by omega); omega
      have ed := txt_size (Lib.decDigits N)
      by_cases h100 : N ≤ 100
      · have q1 : (N : Int) ≤ 100 := by omega
        cases z with
        | true =>
          have HQ2 : Hid (Q = 34 :: (escL l ++ [34])) := HQ1.out.trans (if_pos ⟨h100, rfl⟩)
          have HA := Lib.hid (HCA.out h100)
          have HR : Hid (∀ (w : World) (g q cp : Nat), RepAt w g 0 0 .nilIface (.slice (some ⟨q, 0, none⟩) 4 cp) → OldAt w q → q ≠ g → Calls Tryz.prog 150 #[pt0 g, .string B] w fun e w' => e = .returned (.string (txt (escL l))) ∧ Tk g w w') := fun w g q cp a b c => by
            rw [← HB.out]
            exact repReplace_c a b c l (by omega)
          have HL : (escL l).length ≤ 200 := by rw [escL_len]; have := List.countP_le_length (p := isE) (l := l); omega
          have ee := txt_size (escL l)
          obtain ⟨D, hD⟩ : ∃ D, txt (escL l) = D := ⟨_, rfl⟩
          have HDD := Lib.hid hD
          simp only [hD] at HR ee
          clear hD HCA h100 HI
          go_enter Tryz.func91, Tryz.ntmps91
          go_wp2_with (first | (refine C1.out.mono ?_; rintro e w1 ⟨rfl, hb⟩; have C2 := Lib.hid (HA.out w1); have H1 := Lib.hid hb; clear hb) | (refine C2.out.mono ?_; rintro e w2 ⟨rfl, hb⟩; have C3 := Lib.hid (repNew_c (c := 4) (old_new w2)); have H2 := Lib.hid hb; clear hb) | (refine C3.out.mono ?_; rintro e w3 ⟨g, q, cp, rfl, hr, ho, hqg, hg, hq, hb⟩; have C4 := Lib.hid (HR.out w3 g q cp hr ho hqg); have H3 := Lib.hid hb; have HG := Lib.hid hg; clear hr ho hqg hg hq hb) | (refine C4.out.mono ?_; rintro e w4 ⟨rfl, hk⟩; have H4 := Lib.hid hk; clear hk) | fail)
          go_ret
          have s1 := H1.out.size
          have s2 := H2.out.size
          have s3 := H3.out.size
          have s4 := HG.out
          rw [World.size_alloc] at s3 s4
          have h3 : Below w2.heap.size w2 w3 := ((Below.refl _ w2).alloc (Nat.le_refl _) _).trans (H3.out.mono (by rw [World.size_alloc]; omega))
          refine ⟨?_, H1.out.trans ((H2.out.trans ((h3.trans (H4.out.below (by omega) (by omega))).mono (by omega))).mono (by omega))⟩
          rw [HQ2.out, ← HDD.out]
          exact congrArg (fun x => Ending.returned (.string x)) (quo_eq _)
        | false =>
          have HQ2 : Hid (Q = 123 :: (Lib.decDigits N ++ ([125, 13, 10] ++ l))) := HQ1.out.trans (if_neg (by simp))
          have HA := Lib.hid (HCA.out h100)
          have HI3 : Hid (∀ w1 w2, Below W.heap.size W w1 → Below w1.heap.size w1 w2 → Calls Tryz.prog 151 #[.int .i64 N] w2 fun e w' => e = .returned (.string (txt (Lib.decDigits N))) ∧ Below w2.heap.size w2 w') := fun w1 w2 a b => HI.out w2 (a.trans (b.mono a.size))
          obtain ⟨D, hD⟩ : ∃ D, txt (Lib.decDigits N) = D := ⟨_, rfl⟩
          have HDD := Lib.hid hD
          rw [hD] at HI3 ed
          clear hD
          go_enter Tryz.func91, Tryz.ntmps91
          go_wp2_with (first | (refine C1.out.mono ?_; rintro e w1 ⟨rfl, hb⟩; have C2 := Lib.hid (HA.out w1); have H1 := Lib.hid hb; clear hb) | (refine C2.out.mono ?_; rintro e w2 ⟨rfl, hb⟩; have C3 := Lib.hid (HI3.out w1 w2 H1.out hb); have H2 := Lib.hid hb; clear hb) | (refine C3.out.mono ?_; rintro e w3 ⟨rfl, hb⟩; have H3 := Lib.hid hb; clear hb) | fail)
          go_ret
          refine ⟨?_, H1.out.trans ((H2.out.trans (H3.out.mono H2.out.size)).mono H1.out.size)⟩
          rw [HQ2.out, ← HDD.out, ← HB.out]
          exact congrArg (fun x => Ending.returned (.string x)) (lit_eq _ _)
      · have q1 : ¬ (N : Int) ≤ 100 := by omega
        have HQ2 : Hid (Q = 123 :: (Lib.decDigits N ++ ([125, 13, 10] ++ l))) := HQ1.out.trans (if_neg (by simp [h100]))
        obtain ⟨D, hD⟩ : ∃ D, txt (Lib.decDigits N) = D := ⟨_, rfl⟩
        have HDD := Lib.hid hD
        have HI3 : Hid (∀ w, Below W.heap.size W w → Calls Tryz.prog 151 #[.int .i64 N] w fun e w' => e = .returned (.string (txt (Lib.decDigits N))) ∧ Below w.heap.size w w') := HI.out
        rw [hD] at HI3 ed
        clear hD HCA h100 HI
        go_enter Tryz.func91, Tryz.ntmps91
        go_wp2_with (first | (refine C1.out.mono ?_; rintro e w1 ⟨rfl, hb⟩; have C3 := Lib.hid (HI3.out w1 hb); have H1 := Lib.hid hb; clear hb) | (refine C3.out.mono ?_; rintro e w3 ⟨rfl, hb⟩; have H3 := Lib.hid hb; clear hb) | fail)
        go_ret
        refine ⟨?_, H1.out.trans (H3.out.mono H1.out.size)⟩
        rw [HQ2.out, ← HDD.out, ← HB.out]
        exact congrArg (fun x => Ending.returned (.string x)) (lit_eq _ _)
  rw [hB]
  exact GOAL
theorem clean_next {l : List UInt8} {k : Nat} (hk : k < l.length) : cleanB (l.take (k + 1)) = (cleanB (l.take k) && !(l[k] == 13 || l[k] == 10)) := by
  unfold cleanB
  rw [List.take_succ_eq_append_getElem hk, List.any_append]
  simp
theorem clean_end {l : List UInt8} {k : Nat} (h : cleanB (l.take k) = false) : cleanB l = false := by
  have e := List.take_append_drop k l
  have h2 : (l.take k).any (fun c => c == 13 || c == 10) = true := by
    unfold cleanB at h
    cases hx : (l.take k).any (fun c => c == 13 || c == 10) with
    | true => rfl
    | false => rw [hx] at h; cases h
  have h3 : l.any (fun c => c == 13 || c == 10) = true := by rw [← e, List.any_append, h2]; rfl
  unfold cleanB
  rw [h3]; rfl
theorem isAtomB_row (l : List UInt8) : isAtomB l = (!l.isEmpty && ((l.takeWhile atomB).length == l.length)) := by
  unfold isAtomB atomS
  have e := List.takeWhile_append_dropWhile (p := atomB) (l := l)
  have el := congrArg List.length e
  rw [List.length_append] at el
  dsimp only
  by_cases h : l.takeWhile atomB = []
  · rw [if_pos h, h]
    cases l <;> simp [RS.gone]
  · rw [if_neg h]
    have h1 : l.isEmpty = false := by cases l with
      | nil => simp at h
      | cons a t => rfl
    rw [h1]
    cases hd : l.dropWhile atomB with
    | nil => rw [hd] at el; simp at el; simp [el]
    | cons a t => rw [hd] at el; simp at el; simp; omega
theorem u8_is (c n : UInt8) : (c == n) = ((c.toNat : Int) == (n.toNat : Int)) := by
  by_cases h : c = n
  · subst h; simp
  · have : c.toNat ≠ n.toNat := fun e => h (UInt8.toNat_inj.1 e)
    have h2 : ((c.toNat : Int) == (n.toNat : Int)) = false := qF (by omega)
    rw [h2]; simp [h]
theorem lit2_eq (d l : List UInt8) : (((⟨#[123]⟩ : ByteArray) ++ txt d) ++ ⟨#[125, 13, 10]⟩) ++ txt l = txt (123 :: (d ++ ([125, 13, 10] ++ l))) := by
  apply ByteArray.ext
  simp [txt]
theorem one_slice {B : ByteArray} {k : Nat} (h : k < B.size) : B.extract k (k + 1) = txt [B[k]] := by
  apply ByteArray.ext
  apply Array.ext'
  simp [txt]
  apply List.ext_getElem
  · simp; omega
  · intro i h1 h2
    simp at h2
    subst h2
    simp; rfl
set_option maxRecDepth 100000 in
set_option maxHeartbeats 4000000 in
theorem rtQuote_c (l : List UInt8) (hl : l.length ≤ 70000) (W : World) :
    Calls Tryz.prog 58 #[.string (txt l)] W fun e w' => e = .returned (.string (txt (quoteL l))) ∧ Below W.heap.size W w' := by
  have C1 := Lib.hid (rtrow0_c l (by omega) W)
  have e0 := isEmpty_txt' l
  have e1 := txt_size l
  have hrow := isAtomB_row l
  obtain ⟨N, hN⟩ : ∃ N, l.length = N := ⟨_, rfl⟩
  obtain ⟨T, hT⟩ : ∃ T, (l.takeWhile atomB).length = T := ⟨_, rfl⟩
  have hTN : T ≤ N := by rw [← hT, ← hN]; exact (List.takeWhile_sublist _).length_le
  obtain ⟨x, hx⟩ : ∃ x, l.isEmpty = x := ⟨_, rfl⟩
  have CN := Lib.hid (fun w => rnum_c N (by omega) w)
  have HQ : Hid (quoteL l = if isAtomB l then l else if N ≤ 100 ∧ cleanB l = true then 34 :: (escL l ++ [34]) else 123 :: (Lib.decDigits N ++ ([125, 13, 10] ++ l))) := by show _ = _; rw [← hN]; rfl
  obtain ⟨Q, hQ⟩ : ∃ Q, quoteL l = Q := ⟨_, rfl⟩
  rw [hQ] at HQ ⊢
  rw [hT] at C1
  rw [hx, hT, hN] at hrow
  rw [hx] at e0
  rw [hN] at e1 hl
  obtain ⟨B, hB⟩ : ∃ B, txt l = B := ⟨_, rfl⟩
  have HB := Lib.hid hB
  have hat : ∀ k (hk : k < B.size), l[k]? = some B[k] := fun k hk => by
    subst hB
    rw [at_txt (by rw [txt_size] at hk; exact hk)]; exact List.getElem?_eq_getElem _
  have HAT := Lib.hid hat
  have HN := Lib.hid hN
  simp only [hB] at C1 e0 e1
  rw [hB]
  clear hB hN hT hx hQ hat
  by_cases hA : x = false ∧ T = N
  · obtain ⟨rfl, rfl⟩ := hA
    have hy : isAtomB l = true := by rw [hrow]; simp
    have HQ1 : Hid (Q = l) := HQ.out.trans (if_pos hy)
    clear hrow
    go_enter Tryz.func58, Tryz.ntmps58
    go_wp2_with (first | (refine C1.out.mono ?_; rintro e w1 ⟨rfl, rfl⟩) | fail)
    go_ret
    exact ⟨by rw [HQ1.out, HB.out]; rfl, Below.refl _ _⟩
  · have hy : isAtomB l = false := by
      rw [hrow]
      cases x with
      | true => rfl
      | false =>
        have : T ≠ N := fun e => hA ⟨rfl, e⟩
        simp [this]
    have HQ1 : Hid (Q = if N ≤ 100 ∧ cleanB l = true then 34 :: (escL l ++ [34]) else 123 :: (Lib.decDigits N ++ ([125, 13, 10] ++ l))) := HQ.out.trans (if_neg (by rw [hy]; decide))
    have hq : x = false → ((T : Int) == (N : Int)) = false := fun h => by
      rw [beq_eq_false_iff_ne]; intro e; exact hA ⟨h, by omega⟩
    clear hrow hy HQ
    cases x
    all_goals
      first | (have hqq := hq rfl) | skip
      clear hq hA
      go_enter Tryz.func58, Tryz.ntmps58
      go_wp2_with (first | (refine C1.out.mono ?_; rintro e w1 ⟨rfl, hww⟩; have hww := hww.symm; subst hww) | fail)
      go_loopw [3, 4, 5] (fun qv pv iv wr => wr = W ∧ ∃ (k : Nat) (S : ByteArray) (p : Bool), k ≤ N ∧ iv = .int .i64 k ∧ pv = .bool p ∧ qv = .string S ∧ S.size ≤ 2 * k + 1 ∧ Hid (S = txt (34 :: escL (l.take k))) ∧ Hid (p = (decide (N ≤ 100) && cleanB (l.take k)))) (fun _ _ iv _ => N - (intOf iv).toNat)
      case atStart => exact ⟨rfl, 0, _, _, Nat.zero_le _, rfl, rfl, rfl, by decide, rfl, by show _ = _; simp [cleanB]; omega⟩
      case round =>
        obtain ⟨hwW, k, S, p, hk, rfl, rfl, rfl, hS, HS, HP⟩ := hrel
        have hwW := hwW.symm
        subst hwW
        by_cases hgo : k < N ∧ p = true
        · obtain ⟨hlt, rfl⟩ := hgo
          have hp := HP.out
          have hd : decide (N ≤ 100) = true := by cases h : decide (N ≤ 100) with
            | true => rfl
            | false => rw [h] at hp; cases hp
          have hcl : cleanB (l.take k) = true := by rw [hd] at hp; exact hp.symm
          have h100 : N ≤ 100 := of_decide_eq_true hd
          have hq : (k : Int) < N := by omega
          have hq0 : (0 : Int) ≤ k := by omega
          have hkB : k < B.size := by omega
          have hc1 : B[k].toNat < 256 := B[k].toNat_lt
          obtain ⟨hkl, hbk⟩ := List.getElem?_eq_some_iff.1 (HAT.out k hkB)
          have hnx := escL_next hkl
          have hcn := clean_next hkl
          rw [hbk] at hnx hcn
          rw [hcl, u8_is, u8_is] at hcn
          have hE : isE B[k] = (((B[k].toNat : Int) == 92) || ((B[k].toNat : Int) == 34)) := by unfold isE; rw [u8_is, u8_is]; rfl
          have hsl := one_slice hkB
          obtain ⟨X, hX⟩ : ∃ X, B.extract k (k + 1) = X := ⟨_, rfl⟩
          rw [hX] at hsl
          have hXs : X.size = 1 := by rw [hsl]; rfl
          have HLn : Hid ((txt (34 :: escL (l.take (k + 1)))).size ≤ 2 * (k + 1) + 1) := by
            show _ ≤ _
            rw [txt_size, List.length_cons, escL_len]
            have := List.countP_le_length (p := isE) (l := l.take (k + 1))
            have h2 : (l.take (k + 1)).length ≤ k + 1 := by rw [List.length_take]; omega
            omega
          obtain ⟨v13, b13⟩ : ∃ v, ((B[k].toNat : Int) == 13) = v := ⟨_, rfl⟩
          obtain ⟨v10, b10⟩ : ∃ v, ((B[k].toNat : Int) == 10) = v := ⟨_, rfl⟩
          obtain ⟨v34, b34⟩ : ∃ v, ((B[k].toNat : Int) == 34) = v := ⟨_, rfl⟩
          obtain ⟨v92, b92⟩ : ∃ v, ((B[k].toNat : Int) == 92) = v := ⟨_, rfl⟩
          have HPn : Hid ((if v13 || v10 then false else true) = (decide (N ≤ 100) && cleanB (l.take (k + 1)))) := by
            show _ = _
            rw [hcn, hd]
            rw [show ((13 : UInt8).toNat : Int) = 13 from rfl, show ((10 : UInt8).toNat : Int) = 10 from rfl, b13, b10]
            cases v13 <;> cases v10 <;> rfl
          have EQ : Hid ((if v34 || v92 then S ++ ⟨#[92]⟩ else S) ++ X = txt (34 :: escL (l.take (k + 1)))) := by
            show _ = _
            rw [hnx, hsl, HS.out]
            unfold escB
            rw [hE, b34, b92]
            cases v34 <;> cases v92 <;> (apply ByteArray.ext; simp [txt])
          clear hp hcl hkl hbk hnx hcn hE hsl hd HS HP
          cases v13 <;> cases v10 <;> cases v34 <;> cases v92
          all_goals
            go_wp2_with fail
            refine ⟨⟨trivial, k + 1, _, _, by omega, by go_num, rfl, rfl, ?_, EQ.out, HPn.out⟩, ?_⟩
            · exact Nat.le_trans (Nat.le_of_eq (congrArg ByteArray.size EQ.out)) HLn.out
            · simp [intOf]; omega
        · cases p with
          | true =>
            obtain rfl : k = N := by
              have : ¬ k < N := fun h => hgo ⟨h, rfl⟩
              omega
            have hq : ¬ (k : Int) < k := by omega
            have hp := HP.out
            have hS2 := HS.out
            rw [show l.take k = l from by rw [← HN.out]; exact List.take_length] at hp hS2
            have h100 : k ≤ 100 := by
              cases h : decide (k ≤ 100) with
              | true => exact of_decide_eq_true h
              | false => rw [h] at hp; cases hp
            have hcl : cleanB l = true := by
              rw [decide_eq_true h100] at hp; exact hp.symm
            have HQ2 : Hid (Q = 34 :: (escL l ++ [34])) := HQ1.out.trans (if_pos ⟨h100, hcl⟩)
            have HS2 : Hid (S ++ ⟨#[34]⟩ = txt (34 :: (escL l ++ [34]))) := by
              show _ = _
              rw [hS2]
              apply ByteArray.ext; simp [txt]
            clear hp hS2 hcl HS HP hgo
            go_wp2_with fail
            go_ret
            refine ⟨?_, Below.refl _ _⟩
            rw [HQ2.out, ← HS2.out]
            try rfl
          | false =>
            have hp := HP.out
            have hnot : ¬ (N ≤ 100 ∧ cleanB l = true) := by
              rintro ⟨h1, h2⟩
              rw [decide_eq_true h1, Bool.true_and] at hp
              rw [clean_end hp.symm] at h2
              cases h2
            have HQ2 : Hid (Q = 123 :: (Lib.decDigits N ++ ([125, 13, 10] ++ l))) := HQ1.out.trans (if_neg hnot)
            have HD : (Lib.decDigits N).length ≤ 100 := by have := dec_len9 9 N (by omega); omega
            have ed := txt_size (Lib.decDigits N)
            have CN2 := CN.out W
            obtain ⟨D, hD⟩ : ∃ D, txt (Lib.decDigits N) = D := ⟨_, rfl⟩
            have HDD := Lib.hid hD
            rw [hD] at CN2 ed
            have CN3 := Lib.hid CN2
            clear hD hp hnot HS HP hgo CN CN2
            by_cases hlt : k < N
            · have hq : (k : Int) < N := by omega
              go_wp2_with (first | (refine CN3.out.mono ?_; rintro e w3 ⟨rfl, hb⟩; have H3 := Lib.hid hb; clear hb) | fail)
              go_ret
              refine ⟨?_, H3.out⟩
              rw [HQ2.out, ← HDD.out, ← HB.out]
              exact congrArg (fun x => Ending.returned (.string x)) (lit2_eq _ _)
            · obtain rfl : k = N := by omega
              have hq : ¬ (k : Int) < k := by omega
              go_wp2_with (first | (refine CN3.out.mono ?_; rintro e w3 ⟨rfl, hb⟩; have H3 := Lib.hid hb; clear hb) | fail)
              go_ret
              refine ⟨?_, H3.out⟩
              rw [HQ2.out, ← HDD.out, ← HB.out]
              exact congrArg (fun x => Ending.returned (.string x)) (lit2_eq _ _)
theorem flT_len (fl : Nat) : (flT fl).length ≤ 9 := by
  unfold flT
  split
  · exact flagT_len _
  · simp
theorem quoteL_len (l : List UInt8) : l.length ≤ 70000 → (quoteL l).length ≤ 200000 := fun h => by
  unfold quoteL
  split
  · omega
  · split
    · rw [List.length_cons, List.length_append, escL_len]
      have := List.countP_le_length (p := isE) (l := l)
      simp; omega
    · have := dec_len9 9 l.length (by omega)
      simp; omega
mutual
def textK : KT → List UInt8
  | .mk kind flag set n s kids _ _ _ _ =>
    if kind = 1 then flT flag else if kind = 2 then [85, 78] ++ flT flag else if kind = 3 then setT set else if kind = 4 then [85, 73, 68, 32] ++ setT set else if kind = 5 then [76, 65, 82, 71, 69, 82, 32] ++ Lib.decDigits n else if kind = 6 then [83, 77, 65, 76, 76, 69, 82, 32] ++ Lib.decDigits n else if kind = 7 then [66, 79, 68, 89, 32] ++ quoteL s else if kind = 8 then [78, 79, 84, 32] ++ Lib.join (textsK kids) [32] else if kind = 9 then [79, 82, 32] ++ Lib.join (textsK kids) [32] else if kind = 10 then [40] ++ (Lib.join (textsK kids) [32] ++ [41]) else [65, 76, 76]
def textsK : List KT → List (List UInt8)
  | [] => []
  | k :: r => textK k :: textsK r
end
mutual
def okT : KT → Prop
  | .mk kind flag set n s kids _ _ _ _ => set.length ≤ 1000 ∧ Small set ∧ s.length ≤ 70000 ∧ (Lib.join (textsK kids) [32]).length ≤ 1000000000 ∧ okTs kids
def okTs : List KT → Prop
  | [] => True
  | k :: r => okT k ∧ okTs r
end
theorem okTs_at : ∀ {l : List KT} {k : KT}, okTs l → k ∈ l → okT k
  | [], k, h, hk => by simp at hk
  | a :: r, k, h, hk => by
    unfold okTs at h
    rcases List.mem_cons.1 hk with e | hk
    · rw [e]; exact h.1
    · exact okTs_at h.2 hk
theorem textsK_at : ∀ {l : List KT} {j : Nat} {k : KT}, l[j]? = some k → (textsK l)[j]? = some (textK k)
  | [], j, k, h => by simp at h
  | a :: r, 0, k, h => by simp at h; subst h; unfold textsK; rfl
  | a :: r, j + 1, k, h => by unfold textsK; simpa using textsK_at (l := r) (by simpa using h)
theorem textsK_len : ∀ l : List KT, (textsK l).length = l.length
  | [] => by unfold textsK; rfl
  | a :: r => by unfold textsK; rw [List.length_cons, List.length_cons, textsK_len r]
theorem join_snocL (l : List (List UInt8)) (x : List UInt8) : Lib.join (l ++ [x]) [32] = if l = [] then x else Lib.join l [32] ++ 32 :: x := by
  cases l with
  | nil => rw [if_pos rfl]; exact Lib.join_one _ _
  | cons a r =>
    rw [if_neg (by simp)]
    show Lib.join (a :: (r ++ [x])) [32] = Lib.join (a :: r) [32] ++ 32 :: x
    rw [Lib.join_cons, Lib.join_cons]
    simp [Lib.joinTail]
theorem join_take_le (l : List (List UInt8)) : ∀ j, (Lib.join (l.take j) [32]).length ≤ (Lib.join l [32]).length := fun j => by
  induction j with
  | zero => simp [Lib.join_nil]
  | succ j ih =>
    by_cases h : j < l.length
    · have hl : l = l.take (j + 1) ++ l.drop (j + 1) := (List.take_append_drop _ _).symm
      cases hd : l.take (j + 1) with
      | nil => simp [Lib.join_nil]
      | cons a r =>
        conv => rhs; rw [hl, hd]
        rw [List.cons_append, Lib.join_cons, Lib.join_cons]
        simp [Lib.joinTail]
    · rw [List.take_of_length_le (by omega)]
      exact Nat.le_refl _
set_option maxRecDepth 100000 in
set_option maxHeartbeats 8000000 in
theorem rtext14_c (k : KT) : ∀ W, KeyC W k → okT k → Calls Tryz.prog 14 #[k.val] W fun e w' => e = .returned (.string (txt (textK k))) ∧ Below W.heap.size W w' := by
  induction k using KT.ind with
  | h kind flag set n s kids sp scap kp kcap ih =>
    intro W hK hO
    have IH := Lib.hid ih
    unfold KeyC at hK
    unfold okT at hO
    obtain ⟨hfl, hn, ⟨_, hkm, _⟩, hset, hkids⟩ := hK
    obtain ⟨hs1, hsm, hs3, hjl, hok⟩ := hO
    unfold maxLen at hkm
    have HKids := Lib.hid hkids
    have HOK := Lib.hid hok
    have CF := Lib.hid (fun w => rflag14_c flag hfl w)
    have CS := Lib.hid (fun w (hb : Below W.heap.size W w) => rqtextP_c sp scap set hs1 hsm w (hset.below hb))
    have CN := Lib.hid (fun w => rnum_c n hn w)
    have CQ := Lib.hid (fun w => rtQuote_c s hs3 w)
    show Calls Tryz.prog 14 #[.agg #[.int .i64 kind, .int .u8 flag, .slice sp set.length scap, .int .u32 n, .string (txt s), .slice kp kids.length kcap]] W _
    have hT : textK (.mk kind flag set n s kids sp scap kp kcap) =
    if kind = 1 then flT flag else if kind = 2 then [85, 78] ++ flT flag else if kind = 3 then setT set else if kind = 4 then [85, 73, 68, 32] ++ setT set else if kind = 5 then [76, 65, 82, 71, 69, 82, 32] ++ Lib.decDigits n else if kind = 6 then [83, 77, 65, 76, 76, 69, 82, 32] ++ Lib.decDigits n else if kind = 7 then [66, 79, 68, 89, 32] ++ quoteL s else if kind = 8 then [78, 79, 84, 32] ++ Lib.join (textsK kids) [32] else if kind = 9 then [79, 82, 32] ++ Lib.join (textsK kids) [32] else if kind = 10 then [40] ++ (Lib.join (textsK kids) [32] ++ [41]) else [65, 76, 76] := by rw [textK]
    have hJ := textsK_len kids
    have HTA := Lib.hid (fun j k1 (h : kids[j]? = some k1) => textsK_at h)
    obtain ⟨TS, hTS⟩ : ∃ TS, textsK kids = TS := ⟨_, rfl⟩
    rw [hTS] at hT hjl hJ
    simp only [hTS] at HTA
    obtain ⟨Z, hZ⟩ : ∃ Z, textK (.mk kind flag set n s kids sp scap kp kcap) = Z := ⟨_, rfl⟩
    rw [hZ] at hT ⊢
    have HT := Lib.hid hT
    have lF := flT_len flag
    have lS : (setT set).length ≤ 22 * 1000 := by have := setT_len hsm set.length (Nat.le_refl _); rw [List.take_length] at this; omega
    have lN := dec_len9 9 n (by omega)
    have lQ := quoteL_len s hs3
    have eF := txt_size (flT flag)
    have eS := txt_size (setT set)
    have eN := txt_size (Lib.decDigits n)
    have eQ := txt_size (quoteL s)
    obtain ⟨BF, hBF⟩ : ∃ B, txt (flT flag) = B := ⟨_, rfl⟩
    obtain ⟨BS, hBS⟩ : ∃ B, txt (setT set) = B := ⟨_, rfl⟩
    obtain ⟨BN, hBN⟩ : ∃ B, txt (Lib.decDigits n) = B := ⟨_, rfl⟩
    obtain ⟨BQ, hBQ⟩ : ∃ B, txt (quoteL s) = B := ⟨_, rfl⟩
    obtain ⟨X, hX⟩ : ∃ X, txt s = X := ⟨_, rfl⟩
    obtain ⟨M, hM⟩ : ∃ M, set.length = M := ⟨_, rfl⟩
    obtain ⟨N, hN⟩ : ∃ N, kids.length = N := ⟨_, rfl⟩
    simp only [hBF] at CF eF
    simp only [hBS, hM] at CS
    rw [hBS] at eS
    simp only [hBN] at CN eN
    simp only [hBQ, hX] at CQ
    rw [hBQ] at eQ
    rw [hX, hM]
    rw [hN] at hkm hJ ⊢
    have sF : BF.size ≤ 100 := by omega
    have sS : BS.size ≤ 22000 := by omega
    have sN : BN.size ≤ 100 := by omega
    have sQ : BQ.size ≤ 200000 := by omega
    have HBF := Lib.hid hBF
    have HBS := Lib.hid hBS
    have HBN := Lib.hid hBN
    have HBQ := Lib.hid hBQ
    have HN := Lib.hid hN
    have HJ := Lib.hid hJ
    have HJL := Lib.hid hjl
    obtain ⟨w0, hw0⟩ : ∃ w0, W.alloc (.cells #[.int .i64 kind, .int .u8 flag, .slice sp M scap, .int .u32 n, .string X, .slice kp N kcap] 26) = w0 := ⟨_, rfl⟩
    have HB0 : Hid (Below W.heap.size W w0) := by
      show Below _ _ _
      rw [← hw0]; exact (Below.refl _ _).alloc (Nat.le_refl _) _
    have H6 := Lib.hid (fun w (hb : Below w0.heap.size w0 w) => six_cells (W := W) (w := w) (t := 26) (c0 := .int .i64 kind) (c1 := .int .u8 flag) (c2 := .slice sp M scap) (c3 := .int .u32 n) (c4 := .string X) (c5 := .slice kp N kcap) (D := w0.heap.size) (by rw [hw0]; exact hb) (by rw [← hw0]; simp))
    have HW0 := Lib.hid hw0
    have hwn : IntKind.u64.wrap (n : Int) = n := IntWalk.u64_in _ (by omega)
    clear ih hkids hset hfl hsm hok hjl hT hTS hZ hBF hBS hBN hBQ hX hM hN hw0 lF lS lN lQ eF eS eN eQ hs1 hs3 hJ
    go_enter Tryz.func14, Tryz.ntmps14
    go_wp2_with fail
    rw [HW0.out]
    go_loopw [3, 4] (fun t3 t4 wr => ∃ (j : Nat) (A : ByteArray), j ≤ N ∧ t3 = .string A ∧ t4 = .int .i64 j ∧ A.size ≤ 1000000000 ∧ Hid (A = txt (Lib.join (TS.take j) [32])) ∧ Hid (Below w0.heap.size w0 wr)) (fun _ t4 _ => N - (intOf t4).toNat)
    case atStart => exact ⟨0, _, Nat.zero_le _, rfl, rfl, by decide, rfl, Below.refl _ _⟩
    case round =>
      obtain ⟨j, A, hj, rfl, rfl, hA, HA, HB⟩ := hrel
      obtain ⟨c0, c1, c2, c3, c4, c5⟩ := H6.out wr HB.out
      have hWr : Below W.heap.size W wr := HB0.out.trans (HB.out.mono HB0.out.size)
      have HWr := Lib.hid hWr
      by_cases hlt : j < N
      · have hq : (j : Int) < N := by omega
        have hq0 : (0 : Int) ≤ j := by omega
        obtain ⟨k1, hkj⟩ : ∃ k1, kids[j]? = some k1 := ⟨_, List.getElem?_eq_getElem (by rw [HN.out]; exact hlt)⟩
        have hmem : k1 ∈ kids := List.mem_of_getElem? hkj
        obtain ⟨b, off, rfl, hb, hcs, hK1⟩ := KidsC.at kids kp 0 j k1 (KidsC.below hWr kids kp 0 HKids.out) hkj
        have C1 := IH.out k1 hmem wr hK1 (okTs_at HOK.out hmem)
        have htx := HTA.out j k1 hkj
        have hts : TS.take (j + 1) = TS.take j ++ [textK k1] := by
          obtain ⟨h1, h2⟩ := List.getElem?_eq_some_iff.1 htx
          rw [List.take_succ_eq_append_getElem h1, h2]
        have hnx := join_snocL (TS.take j) (textK k1)
        rw [← hts] at hnx
        have hnl := join_take_le TS (j + 1)
        have hle : (textK k1).length ≤ 1000000000 := by
          have h1 : (textK k1).length ≤ (Lib.join (TS.take (j + 1)) [32]).length := by
            rw [hnx]; split
            · exact Nat.le_refl _
            · rw [List.length_append, List.length_cons]; omega
          have := HJL.out
          omega
        have hnl2 : (txt (Lib.join (TS.take (j + 1)) [32])).size ≤ 1000000000 := by rw [txt_size]; have := HJL.out; omega
        have e1 := txt_size (textK k1)
        rw [Nat.zero_add] at hcs
        obtain ⟨x0, x1, x2, x3, x4, x5, x6, x7, x8, x9⟩ := k1
        have d0 := hcs 0 _ rfl
        have d1 := hcs 1 _ rfl
        have d2 := hcs 2 _ rfl
        have d3 := hcs 3 _ rfl
        have d4 := hcs 4 _ rfl
        have d5 := hcs 5 _ rfl
        rw [Nat.add_zero] at d0
        obtain ⟨z, hz⟩ : ∃ z, textK (.mk x0 x1 x2 x3 x4 x5 x6 x7 x8 x9) = z := ⟨_, rfl⟩
        rw [hz] at C1 hle hnx e1
        obtain ⟨BZ, hBZ⟩ : ∃ B, txt z = B := ⟨_, rfl⟩
        rw [hBZ] at C1 e1
        have C1 : Hid (Calls Tryz.prog 14 #[.agg #[.int .i64 x0, .int .u8 x1, .slice x6 x2.length x7, .int .u32 x3, .string (txt x4), .slice x8 x5.length x9]] wr fun e w' => e = .returned (.string BZ) ∧ Below wr.heap.size wr w') := C1
        obtain ⟨o6, ho6⟩ : ∃ o6, off + j * 6 = o6 := ⟨_, rfl⟩
        rw [ho6] at d0 d1 d2 d3 d4 d5
        have sZ : BZ.size ≤ 1000000000 := by omega
        have HNL := Lib.hid hnl2
        clear hcs hK1 hkj hmem hWr htx hts hz hle hnl hnl2 e1
        by_cases hj0 : j = 0
        · have HNX : Hid (A ++ BZ = txt (Lib.join (TS.take (j + 1)) [32])) := by
            show _ = _
            rw [hnx, HA.out, ← hBZ, if_pos (by rw [hj0]; rfl), hj0]
            apply ByteArray.ext; simp [txt, Lib.join_nil]
          have q : ¬ ((0 : Int) < j) := by omega
          clear hnx hBZ hj0
          go_wp2_with (first | (go_at_call 14; refine C1.out.mono ?_; rintro e w1 ⟨rfl, hb1⟩; have H1 := Lib.hid hb1; clear hb1) | fail)
          go_roundw
          case rel => exact ⟨j + 1, _, by omega, rfl, by go_num, by rw [HNX.out]; exact HNL.out, HNX.out, HB.out.trans (H1.out.mono HB.out.size)⟩
          case measure => simp [intOf]; omega
        · have HNX : Hid ((A ++ ⟨#[32]⟩) ++ BZ = txt (Lib.join (TS.take (j + 1)) [32])) := by
            show _ = _
            rw [hnx, HA.out, ← hBZ, if_neg (by
              intro e
              have h1 := congrArg List.length e
              rw [List.length_take, HJ.out, List.length_nil] at h1
              omega)]
            apply ByteArray.ext; simp [txt]
          have q : (0 : Int) < j := by omega
          clear hnx hBZ hj0
          go_wp2_with (first | (go_at_call 14; refine C1.out.mono ?_; rintro e w1 ⟨rfl, hb1⟩; have H1 := Lib.hid hb1; clear hb1) | fail)
          go_roundw
          case rel => exact ⟨j + 1, _, by omega, rfl, by go_num, by rw [HNX.out]; exact HNL.out, HNX.out, HB.out.trans (H1.out.mono HB.out.size)⟩
          case measure => simp [intOf]; omega
      · obtain rfl : j = N := by omega
        have hq : ¬ ((j : Int) < j) := by omega
        have HA2 : Hid (A = txt (Lib.join TS [32])) := by
          show _ = _
          rw [HA.out, List.take_of_length_le (by rw [HJ.out]; exact Nat.le_refl _)]
        by_cases h1 : kind = 1
        · subst h1
          have hz : Z = flT flag := by
            have := HT.out
            simpa using this
          have HZ : Hid (BF = txt Z) := by
            show _ = _
            rw [hz, ← HBF.out]
            try (apply ByteArray.ext; simp [txt])
          clear hz
          go_wp2_with (first | (go_at_call 55; refine (CF.out _).mono ?_; rintro e w1 ⟨rfl, hb1⟩; have H1 := Lib.hid hb1; clear hb1) | fail)
          go_ret
          exact ⟨by rw [← HZ.out]; try rfl, HWr.out.trans (H1.out.mono HWr.out.size)⟩
        by_cases h2 : kind = 2
        · subst h2
          have hz : Z = [85, 78] ++ flT flag := by
            have := HT.out
            simpa using this
          have HZ : Hid ((⟨#[85, 78]⟩ : ByteArray) ++ BF = txt Z) := by
            show _ = _
            rw [hz, ← HBF.out]
            try (apply ByteArray.ext; simp [txt])
          clear hz
          go_wp2_with (first | (go_at_call 55; refine (CF.out _).mono ?_; rintro e w1 ⟨rfl, hb1⟩; have H1 := Lib.hid hb1; clear hb1) | fail)
          go_ret
          exact ⟨by rw [← HZ.out]; try rfl, HWr.out.trans (H1.out.mono HWr.out.size)⟩
        by_cases h3 : kind = 3
        · subst h3
          have hz : Z = setT set := by
            have := HT.out
            simpa using this
          have HZ : Hid (BS = txt Z) := by
            show _ = _
            rw [hz, ← HBS.out]
            try (apply ByteArray.ext; simp [txt])
          clear hz
          go_wp2_with (first | (go_at_call 56; refine (CS.out _ HWr.out).mono ?_; rintro e w1 ⟨rfl, hb1⟩; have H1 := Lib.hid hb1; clear hb1) | fail)
          go_ret
          exact ⟨by rw [← HZ.out]; try rfl, HWr.out.trans (H1.out.mono HWr.out.size)⟩
        by_cases h4 : kind = 4
        · subst h4
          have hz : Z = [85, 73, 68, 32] ++ setT set := by
            have := HT.out
            simpa using this
          have HZ : Hid ((⟨#[85, 73, 68, 32]⟩ : ByteArray) ++ BS = txt Z) := by
            show _ = _
            rw [hz, ← HBS.out]
            try (apply ByteArray.ext; simp [txt])
          clear hz
          go_wp2_with (first | (go_at_call 56; refine (CS.out _ HWr.out).mono ?_; rintro e w1 ⟨rfl, hb1⟩; have H1 := Lib.hid hb1; clear hb1) | fail)
          go_ret
          exact ⟨by rw [← HZ.out]; try rfl, HWr.out.trans (H1.out.mono HWr.out.size)⟩
        by_cases h5 : kind = 5
        · subst h5
          have hz : Z = [76, 65, 82, 71, 69, 82, 32] ++ Lib.decDigits n := by
            have := HT.out
            simpa using this
          have HZ : Hid ((⟨#[76, 65, 82, 71, 69, 82, 32]⟩ : ByteArray) ++ BN = txt Z) := by
            show _ = _
            rw [hz, ← HBN.out]
            try (apply ByteArray.ext; simp [txt])
          clear hz
          go_wp2_with (first | (go_at_call 57; refine (CN.out _).mono ?_; rintro e w1 ⟨rfl, hb1⟩; have H1 := Lib.hid hb1; clear hb1) | fail)
          go_ret
          exact ⟨by rw [← HZ.out]; try rfl, HWr.out.trans (H1.out.mono HWr.out.size)⟩
        by_cases h6 : kind = 6
        · subst h6
          have hz : Z = [83, 77, 65, 76, 76, 69, 82, 32] ++ Lib.decDigits n := by
            have := HT.out
            simpa using this
          have HZ : Hid ((⟨#[83, 77, 65, 76, 76, 69, 82, 32]⟩ : ByteArray) ++ BN = txt Z) := by
            show _ = _
            rw [hz, ← HBN.out]
            try (apply ByteArray.ext; simp [txt])
          clear hz
          go_wp2_with (first | (go_at_call 57; refine (CN.out _).mono ?_; rintro e w1 ⟨rfl, hb1⟩; have H1 := Lib.hid hb1; clear hb1) | fail)
          go_ret
          exact ⟨by rw [← HZ.out]; try rfl, HWr.out.trans (H1.out.mono HWr.out.size)⟩
        by_cases h7 : kind = 7
        · subst h7
          have hz : Z = [66, 79, 68, 89, 32] ++ quoteL s := by
            have := HT.out
            simpa using this
          have HZ : Hid ((⟨#[66, 79, 68, 89, 32]⟩ : ByteArray) ++ BQ = txt Z) := by
            show _ = _
            rw [hz, ← HBQ.out]
            try (apply ByteArray.ext; simp [txt])
          clear hz
          go_wp2_with (first | (go_at_call 58; refine (CQ.out _).mono ?_; rintro e w1 ⟨rfl, hb1⟩; have H1 := Lib.hid hb1; clear hb1) | fail)
          go_ret
          exact ⟨by rw [← HZ.out]; try rfl, HWr.out.trans (H1.out.mono HWr.out.size)⟩
        by_cases h8 : kind = 8
        · subst h8
          have hz : Z = [78, 79, 84, 32] ++ Lib.join (TS) [32] := by
            have := HT.out
            simpa using this
          have HZ : Hid ((⟨#[78, 79, 84, 32]⟩ : ByteArray) ++ A = txt Z) := by
            show _ = _
            rw [hz, HA2.out]
            try (apply ByteArray.ext; simp [txt])
          clear hz
          go_wp2_with (first | fail | fail)
          go_ret
          exact ⟨by rw [← HZ.out]; rfl, HWr.out⟩
        by_cases h9 : kind = 9
        · subst h9
          have hz : Z = [79, 82, 32] ++ Lib.join (TS) [32] := by
            have := HT.out
            simpa using this
          have HZ : Hid ((⟨#[79, 82, 32]⟩ : ByteArray) ++ A = txt Z) := by
            show _ = _
            rw [hz, HA2.out]
            try (apply ByteArray.ext; simp [txt])
          clear hz
          go_wp2_with (first | fail | fail)
          go_ret
          exact ⟨by rw [← HZ.out]; rfl, HWr.out⟩
        by_cases h10 : kind = 10
        · subst h10
          have hz : Z = [40] ++ (Lib.join (TS) [32] ++ [41]) := by
            have := HT.out
            simpa using this
          have HZ : Hid (((⟨#[40]⟩ : ByteArray) ++ A) ++ ⟨#[41]⟩ = txt Z) := by
            show _ = _
            rw [hz, HA2.out]
            try (apply ByteArray.ext; simp [txt])
          clear hz
          go_wp2_with (first | fail | fail)
          go_ret
          exact ⟨by rw [← HZ.out]; rfl, HWr.out⟩
        have f1 : (kind == 1) = false := by rw [beq_eq_false_iff_ne]; exact h1
        have f2 : (kind == 2) = false := by rw [beq_eq_false_iff_ne]; exact h2
        have f3 : (kind == 3) = false := by rw [beq_eq_false_iff_ne]; exact h3
        have f4 : (kind == 4) = false := by rw [beq_eq_false_iff_ne]; exact h4
        have f5 : (kind == 5) = false := by rw [beq_eq_false_iff_ne]; exact h5
        have f6 : (kind == 6) = false := by rw [beq_eq_false_iff_ne]; exact h6
        have f7 : (kind == 7) = false := by rw [beq_eq_false_iff_ne]; exact h7
        have f8 : (kind == 8) = false := by rw [beq_eq_false_iff_ne]; exact h8
        have f9 : (kind == 9) = false := by rw [beq_eq_false_iff_ne]; exact h9
        have f10 : (kind == 10) = false := by rw [beq_eq_false_iff_ne]; exact h10
        have HZ : Hid (Z = [65, 76, 76]) := by
          have := HT.out
          rw [if_neg h1, if_neg h2, if_neg h3, if_neg h4, if_neg h5, if_neg h6, if_neg h7, if_neg h8, if_neg h9, if_neg h10] at this
          exact this
        clear h1 h2 h3 h4 h5 h6 h7 h8 h9 h10
        go_wp2_with fail
        go_ret
        exact ⟨by rw [HZ.out]; rfl, HWr.out⟩
theorem quoteL_short (l : List UInt8) : l.length ≤ 2000 → (quoteL l).length ≤ 4500 := fun h => by
  unfold quoteL
  split
  · omega
  · split
    · rw [List.length_cons, List.length_append, escL_len]
      have := List.countP_le_length (p := isE) (l := l)
      simp; omega
    · have := dec_len9 9 l.length (by omega)
      simp; omega
def sumK : List KT → Nat
  | [] => 0
  | k :: r => sizeK k + sumK r
theorem sizeR_sum : ∀ (l : List KT) (n : Nat), sizeR l n ≤ 200 → sizeR l n = n + sumK l
  | [], n, h => by rw [sizeR]; simp [sumK]
  | k :: r, n, h => by
    rw [sizeR] at h ⊢
    by_cases hn : n ≤ 200
    · rw [if_pos hn] at h ⊢
      rw [sizeR_sum r _ h, sumK]
      omega
    · rw [if_neg hn] at h
      omega
theorem size_sum {kind : Int} {flag : Nat} {set : List (Nat × Nat)} {n : Nat} {s : List UInt8} {kids : List KT} {sp kp : Option Addr} {scap kcap : Nat} (h : sizeK (.mk kind flag set n s kids sp scap kp kcap) ≤ 200) :
    s.length ≤ 2000 ∧ set.length ≤ 80 ∧ sizeK (.mk kind flag set n s kids sp scap kp kcap) = 1 + sumK kids := by
  rw [sizeK] at h ⊢
  by_cases hg : 2000 < s.length ∨ 80 < set.length
  · rw [if_pos hg] at h; omega
  · rw [if_neg hg] at h ⊢
    have h2 : sizeR kids 1 ≤ 200 := by omega
    have := sizeR_sum kids 1 h2
    refine ⟨by omega, by omega, by omega⟩
theorem sumK_mem : ∀ {l : List KT} {k : KT}, k ∈ l → sizeK k ≤ sumK l
  | a :: r, k, h => by
    rw [sumK]
    rcases List.mem_cons.1 h with e | h
    · subst e; omega
    · have := sumK_mem h; omega
mutual
def smallK : KT → Prop
  | .mk _ _ set n _ kids _ _ _ _ => (Small set ∧ n ≤ 4294967295) ∧ smallKs kids
def smallKs : List KT → Prop
  | [] => True
  | k :: r => smallK k ∧ smallKs r
end
theorem smallKs_mem : ∀ {l : List KT} {k : KT}, smallKs l → k ∈ l → smallK k
  | a :: r, k, h, hk => by
    unfold smallKs at h
    rcases List.mem_cons.1 hk with e | hk
    · subst e; exact h.1
    · exact smallKs_mem h.2 hk
theorem join_sum : ∀ (l : List KT), (∀ k ∈ l, (textK k).length + 1 ≤ 5002 * sizeK k) → (Lib.join (textsK l) [32]).length ≤ 5002 * sumK l
  | [], _ => by unfold textsK; simp [Lib.join_nil]
  | k :: r, h => by
    have h1 := h k (by simp)
    have tail : ∀ r : List KT, (∀ k ∈ r, (textK k).length + 1 ≤ 5002 * sizeK k) → (Lib.joinTail [32] (textsK r)).length ≤ 5002 * sumK r := by
      intro r
      induction r with
      | nil => intro _; unfold textsK; simp [Lib.joinTail]
      | cons a r ih =>
        intro h
        have h1 := h a (by simp)
        have h2 := ih fun k hk => h k (by simp [hk])
        unfold textsK
        have e : Lib.joinTail [32] (textK a :: textsK r) = 32 :: textK a ++ Lib.joinTail [32] (textsK r) := by simp [Lib.joinTail]
        rw [e, List.length_append, List.length_cons, sumK]
        omega
    have h2 := tail r fun k hk => h k (by simp [hk])
    unfold textsK
    rw [Lib.join_cons, List.length_append, sumK]
    omega
theorem text_short (k : KT) : smallK k → sizeK k ≤ 200 → (textK k).length + 1 ≤ 5002 * sizeK k ∧ okT k := by
  induction k using KT.ind with
  | h kind flag set n s kids sp scap kp kcap ih =>
    intro hS hz
    unfold smallK at hS
    obtain ⟨h1, h2, h3⟩ := size_sum hz
    have hk : ∀ k ∈ kids, (textK k).length + 1 ≤ 5002 * sizeK k ∧ okT k := fun k hk => ih k hk (smallKs_mem hS.2 hk) (by have := sumK_mem hk; omega)
    have hj := join_sum kids fun k h => (hk k h).1
    have lF := flT_len flag
    have lS : (setT set).length ≤ 22 * 80 := by have := setT_len hS.1.1 set.length (Nat.le_refl _); rw [List.take_length] at this; omega
    have lQ := quoteL_short s h1
    constructor
    · rw [h3, textK]
      have lN := dec_len9 9 n (by have := hS.1.2; omega)
      repeat' split
      all_goals ((try simp only [List.length_append, List.length_cons, List.length_nil]); omega)
    · unfold okT
      refine ⟨by omega, hS.1.1, by omega, by omega, ?_⟩
      have : ∀ l : List KT, (∀ k ∈ l, okT k) → okTs l := by
        intro l
        induction l with
        | nil => intro _; unfold okTs; trivial
        | cons a r ih => intro h; unfold okTs; exact ⟨h a (by simp), ih fun k hk => h k (by simp [hk])⟩
      exact this kids fun k h => (hk k h).2
theorem getg (s : ByteArray) (i : Nat) (h : i < s.size) : s.get! i = s[i] := by
  simp [ByteArray.get!, getElem!_pos, h]
  rfl
theorem decode_great (s : ByteArray) (pos : Nat) (h : pos < s.size) (ha : ¬ (s[pos]'h).toNat < 128) :
    ∃ c n, Utf8.decode s pos = (c, n) ∧ 128 ≤ c ∧ c ≤ 1114111 ∧ (c < 55296 ∨ 57344 ≤ c) ∧ 1 ≤ n ∧ pos + n ≤ s.size ∧ ∀ j (hj : j < s.size), pos ≤ j → j < pos + n → 128 ≤ (s[j]'hj).toNat := by
  obtain ⟨b0, hb0⟩ : ∃ b, (s.get! (pos + 0)).toNat = b := ⟨_, rfl⟩
  have e0 : (s[pos]'h).toNat = b0 := by rw [← hb0, ← getg s pos h]; rfl
  rw [e0] at ha
  have hone : ∃ c n, ((Utf8.runeError, 1) : Nat × Nat) = (c, n) ∧ 128 ≤ c ∧ c ≤ 1114111 ∧ (c < 55296 ∨ 57344 ≤ c) ∧ 1 ≤ n ∧ pos + n ≤ s.size ∧ ∀ j (hj : j < s.size), pos ≤ j → j < pos + n → 128 ≤ (s[j]'hj).toNat :=
    ⟨_, _, rfl, by decide, by decide, .inr (by decide), Nat.le_refl _, by omega, fun j hj h1 h2 => by
      obtain rfl : j = pos := by omega
      rw [e0]; omega⟩
  have hc : ∀ k, (decide (pos + k < s.size) && ((s.get! (pos + k)).toNat / 64 == 2)) = true → ∃ h : pos + k < s.size, 128 ≤ (s[pos + k]'h).toNat ∧ (s.get! (pos + k)).toNat / 64 = 2 := fun k hk => by
    rw [Bool.and_eq_true, decide_eq_true_eq, beq_iff_eq] at hk
    refine ⟨hk.1, ?_, hk.2⟩
    rw [← getg s (pos + k) hk.1]
    omega
  unfold Utf8.decode
  dsimp only
  simp only [hb0]
  rw [if_neg ha]
  by_cases c1 : (b0 / 32 == 6 && (decide (pos + 1 < s.size) && (s.get! (pos + 1)).toNat / 64 == 2)) = true
  · rw [if_pos c1]
    rw [Bool.and_eq_true, beq_iff_eq] at c1
    obtain ⟨s1, g1, q1⟩ := hc 1 c1.2
    split
    · rename_i hge
      refine ⟨_, _, rfl, by omega, by omega, by omega, by omega, by omega, fun j hj h1 h2 => ?_⟩
      by_cases e : j = pos
      · subst e; rw [e0]; omega
      · obtain rfl : j = pos + 1 := by omega
        exact g1
    · exact hone
  · rw [if_neg c1]
    by_cases c2 : (b0 / 16 == 14 && (decide (pos + 1 < s.size) && (s.get! (pos + 1)).toNat / 64 == 2) && (decide (pos + 2 < s.size) && (s.get! (pos + 2)).toNat / 64 == 2)) = true
    · rw [if_pos c2]
      rw [Bool.and_eq_true, Bool.and_eq_true, beq_iff_eq] at c2
      obtain ⟨s1, g1, q1⟩ := hc 1 c2.1.2
      obtain ⟨s2, g2, q2⟩ := hc 2 c2.2
      split
      · rename_i hge
        rw [Bool.and_eq_true, decide_eq_true_eq] at hge
        have hv := hge.2
        unfold Utf8.valid at hv
        rw [Bool.or_eq_true, Bool.and_eq_true, Bool.and_eq_true] at hv
        simp only [decide_eq_true_eq] at hv
        refine ⟨_, _, rfl, by omega, by omega, by omega, by omega, by omega, fun j hj h1 h2 => ?_⟩
        by_cases e : j = pos
        · subst e; rw [e0]; omega
        · by_cases e : j = pos + 1
          · subst e; exact g1
          · obtain rfl : j = pos + 2 := by omega
            exact g2
      · exact hone
    · rw [if_neg c2]
      by_cases c3 : (b0 / 8 == 30 && (decide (pos + 1 < s.size) && (s.get! (pos + 1)).toNat / 64 == 2) && (decide (pos + 2 < s.size) && (s.get! (pos + 2)).toNat / 64 == 2) && (decide (pos + 3 < s.size) && (s.get! (pos + 3)).toNat / 64 == 2)) = true
      · rw [if_pos c3]
        rw [Bool.and_eq_true, Bool.and_eq_true, Bool.and_eq_true, beq_iff_eq] at c3
        obtain ⟨s1, g1, q1⟩ := hc 1 c3.1.1.2
        obtain ⟨s2, g2, q2⟩ := hc 2 c3.1.2
        obtain ⟨s3, g3, q3⟩ := hc 3 c3.2
        split
        · rename_i hge
          rw [Bool.and_eq_true, decide_eq_true_eq] at hge
          have hv := hge.2
          unfold Utf8.valid at hv
          rw [Bool.or_eq_true, Bool.and_eq_true, Bool.and_eq_true] at hv
          simp only [decide_eq_true_eq] at hv
          refine ⟨_, _, rfl, by omega, by omega, by omega, by omega, by omega, fun j hj h1 h2 => ?_⟩
          by_cases e : j = pos
          · subst e; rw [e0]; omega
          · by_cases e : j = pos + 1
            · subst e; exact g1
            · by_cases e : j = pos + 2
              · subst e; exact g2
              · obtain rfl : j = pos + 3 := by omega
                exact g3
        · exact hone
      · rw [if_neg c3]
        exact hone
theorem encode_great (c : Nat) (h1 : 128 ≤ c) (h2 : c ≤ 1114111) (h3 : c < 55296 ∨ 57344 ≤ c) : ∃ n, (Utf8.encode c).size = n ∧ 2 ≤ n ∧ n ≤ 4 ∧ ∀ h : n - 1 < (Utf8.encode c).size, 128 ≤ ((Utf8.encode c)[n - 1]).toNat ∧ ((Utf8.encode c)[n - 1]).toNat < 256 := by
  have hv : Utf8.valid (c : Int) = true := by
    unfold Utf8.valid
    rw [Bool.or_eq_true, Bool.and_eq_true, Bool.and_eq_true]
    simp only [decide_eq_true_eq]
    omega
  have hL : ∀ x, x < 64 → 128 ≤ (UInt8.ofNat (0x80 + x)).toNat ∧ (UInt8.ofNat (0x80 + x)).toNat < 256 := fun x hx => by rw [UInt8.toNat_ofNat']; omega
  obtain ⟨E, hE⟩ : ∃ E, Utf8.encode (c : Int) = E := ⟨_, rfl⟩
  rw [hE]
  unfold Utf8.encode at hE
  simp only [hv, if_true, Int.toNat_natCast] at hE
  rw [if_neg (by omega)] at hE
  split at hE
  · subst hE; exact ⟨2, rfl, by omega, by omega, fun h => hL _ (by omega)⟩
  · split at hE
    · subst hE; exact ⟨3, rfl, by omega, by omega, fun h => hL _ (by omega)⟩
    · subst hE; exact ⟨4, rfl, by omega, by omega, fun h => hL _ (by omega)⟩
def crlf : ByteArray := ⟨#[13, 10]⟩
theorem indexByte_nil {X : ByteArray} (h : X.size = 0) (x : UInt8) : Lib.indexByte X.data.toList x = -1 := by
  cases hl : X.data.toList with
  | nil => rfl
  | cons a t => have := Lib.size_eq X; rw [hl, List.length_cons] at this; omega
set_option maxRecDepth 20000 in
set_option maxHeartbeats 4000000 in
theorem irune_err (W : World) : Calls Tryz.prog 222 #[.string crlf, .int .i32 65533] W fun e w' => e = .returned (.int .i64 (-1)) ∧ Below W.heap.size W w' := by
  have hsz : crlf.size = 2 := rfl
  have n0 := fun ty => run_next_ascii (P := Tryz.prog) W crlf 0 ty (by decide) (by decide)
  have n1 := fun ty => run_next_ascii (P := Tryz.prog) W crlf 1 ty (by decide) (by decide)
  have n2 := fun ty => run_next_end (P := Tryz.prog) W crlf 2 ty (by decide)
  have b0 : (crlf[0]'(by decide)).toNat = 13 := rfl
  have b1 : (crlf[1]'(by decide)).toNat = 10 := rfl
  rw [b0] at n0
  rw [b1] at n1
  obtain ⟨S, hS⟩ : ∃ S, crlf = S := ⟨_, rfl⟩
  simp only [hS] at n0 n1 n2 hsz ⊢
  clear b0 b1 hS
  go_enter Tryz.func222, Tryz.ntmps222
  go_wp2_with fail
  go_loopg [5, 6] 2 (fun g _ _ wx => ∃ i : Nat, i + g = 2 ∧ wx = W.iter S i)
  case atStart => exact ⟨0, rfl, rfl⟩
  case round =>
    obtain ⟨i, hig, rfl⟩ := hrel
    cases gk with
    | zero =>
      obtain rfl : i = 2 := by omega
      go_wp2_with fail
      go_ret
      exact ⟨rfl, (Below.refl _ _).alloc (Nat.le_refl _) _⟩
    | succ g =>
      by_cases h : i = 0
      · subst h
        go_wp2_with fail
        go_roundg g
        case measure => omega
        case rel => exact ⟨1, by omega, rfl⟩
      · obtain rfl : i = 1 := by omega
        go_wp2_with fail
        go_roundg g
        case measure => omega
        case rel => exact ⟨2, by omega, rfl⟩
set_option maxRecDepth 20000 in
set_option maxHeartbeats 4000000 in
theorem irune_far {c : Nat} (h1 : 128 ≤ c) (h2 : c ≤ 1114111) (h3 : c < 55296 ∨ 57344 ≤ c) (h4 : c ≠ 65533) (W : World) : Calls Tryz.prog 222 #[.string crlf, .int .i32 c] W fun e w' => e = .returned (.int .i64 (-1)) ∧ Below W.heap.size W w' := by
  obtain ⟨n, hn, hn2, hn4, hlast⟩ := encode_great c h1 h2 h3
  have hv : Lib.validRune (c : Int) = true := by
    simp only [Lib.validRune, decide_eq_true_eq]; omega
  have CV := Tryz.utf8_ValidRune (c : Int) W
  rw [hv] at CV
  have CV := Lib.hid CV
  have CI : Hid (∀ (X : ByteArray) (x : Int) (w : World), X.size = 0 → Calls Tryz.prog 79 #[.string X, .int .u8 x] w fun e w' => e = .returned (.int .i64 (-1)) ∧ w' = w) := fun X x w hX => by
    have := Tryz.strings_IndexByte X x w
    rw [indexByte_nil hX] at this
    exact this
  have q1 : (0 : Int) ≤ c := by omega
  have q2 : ¬ (c : Int) < 128 := by omega
  have q3 : ((c : Int) == 65533) = false := qF (by omega)
  obtain ⟨E, hE⟩ : ∃ E, Utf8.encode (c : Int) = E := ⟨_, rfl⟩
  rw [hE] at hn
  simp only [hE] at hlast
  clear hv h3
  by_cases h2' : n = 2
  · subst h2'
    have hk : 1 < E.size := by omega
    have hz := hlast hk
    obtain ⟨z, hz0⟩ : ∃ z, E[1]'hk = z := ⟨_, rfl⟩
    have hz1 : (E[2 - 1]'hk) = z := hz0
    rw [hz1] at hz
    have hne : ((10 : Int) != (z.toNat : Int)) = true := qN (by omega)
    have hne2 : ((10 : Int) == (z.toNat : Int)) = false := qF (by omega)
    clear hlast hz1
    suffices key : ∀ (S : ByteArray) (hcs : S.size = 2) (h1s : 1 < S.size) (hc1 : (S[1]'h1s).toNat = 10), Calls Tryz.prog 222 #[.string S, .int .i32 c] W fun e w' => e = .returned (.int .i64 (-1)) ∧ Below W.heap.size W w' from key crlf rfl (by decide) rfl
    intro S hcs h1s hc1
    have hw2 : IntKind.i64.wrap 2 = 2 := IntWalk.i64_in _ (by omega)
    go_enter Tryz.func222, Tryz.ntmps222
    go_wp2_with (first | (refine CV.out.mono ?_; rintro e w1 ⟨rfl, hww⟩; have hww := hww.symm; subst hww) | fail)
    go_step3
    go_wp2_with fail
    go_loopw [9, 10, 11] (fun s9 _ _ wr => s9 = .int .i64 1 ∧ wr = W) (fun _ _ _ _ => 0)
    case atStart => exact ⟨by simp, rfl⟩
    case round =>
      obtain ⟨rfl, hw⟩ := hrel
      have hw := hw.symm
      subst hw
      go_wp2_with fail
      go_step3
      go_wp2_with fail
      go_region
      go_wp2_with fail
      go_region_with (go_at_call 79; refine (CI.out _ _ _ (by simp [hw2, hcs])).mono ?_; rintro e w1 ⟨rfl, rfl⟩)
      all_goals
        simp only [Act.put, List.getElem_toArray, List.getElem_cons_succ, List.getElem_cons_zero, List.setIfInBounds_toArray, List.set_cons_zero, List.set_cons_succ]
        go_wp2_with fail
        rename_i Q1 K1 a1 Q2 K2 a2 K3 a3
        simp only [Exit.noGoto, Exit.inBlock, Q2, Exit.then]
        go_ret
        exact ⟨rfl, (Below.refl _ _).drew.drew⟩
  · have hz : ¬ ((n : Int) - 1 < 2) := by omega
    have hcs : crlf.size = 2 := rfl
    clear hlast CI
    go_enter Tryz.func222, Tryz.ntmps222
    go_wp2_with (first | (refine CV.out.mono ?_; rintro e w1 ⟨rfl, hww⟩; have hww := hww.symm; subst hww) | fail)
    go_step3
    go_wp2_with fail
    go_loopw [9, 10, 11] (fun s9 _ _ wr => s9 = .int .i64 ((n : Int) - 1) ∧ wr = W) (fun _ _ _ _ => 0)
    case atStart => exact ⟨by simp, rfl⟩
    case round =>
      obtain ⟨rfl, hw⟩ := hrel
      have hw := hw.symm
      subst hw
      iterate 19 (first | go_guarded | go_step | go_upon | go_back | go_values | go_skip | skip)
      refine wp_cond_split rfl (fun h => ?_) (fun h => ?_)
      · simp only [decide_eq_true_eq] at h
        go_big_false
      · simp only [decide_eq_false_iff_not] at h
        go_wp2_with fail
        go_ret
        exact ⟨rfl, Below.refl _ _⟩
theorem irune_c {c : Nat} (h1 : 128 ≤ c) (h2 : c ≤ 1114111) (h3 : c < 55296 ∨ 57344 ≤ c) (W : World) : Calls Tryz.prog 222 #[.string crlf, .int .i32 c] W fun e w' => e = .returned (.int .i64 (-1)) ∧ Below W.heap.size W w' := by
  by_cases h : c = 65533
  · subst h; exact irune_err W
  · exact irune_far h1 h2 h3 h W
theorem irune_small (x : UInt8) (hx : x.toNat < 128) (w : World) : Calls Tryz.prog 222 #[.string crlf, .int .i32 x.toNat] w fun e w' => e = .returned (.int .i64 (Lib.indexByte [13, 10] x)) ∧ w' = w := by
  have := Tryz.strings_IndexRune_ascii crlf (x.toNat : Int) w (by omega) (by omega)
  rw [show ((x.toNat : Int)).toNat.toUInt8 = x from by simp] at this
  exact this
theorem cr_contains (x : UInt8) : [13, 10].contains x = (x == 13 || x == 10) := by simp only [List.contains_cons, List.contains_nil, Bool.or_false]
theorem cr_great {x : UInt8} (h : 128 ≤ x.toNat) : [13, 10].contains x = false := by
  rw [cr_contains, Bool.or_eq_false_iff, beq_eq_false_iff_ne, beq_eq_false_iff_ne]
  constructor <;> (rintro rfl; revert h; decide)
theorem noAny_jump {l : List UInt8} {i n : Nat} (h : Lib.NoAny l [13, 10] i) (hg : ∀ j b, i ≤ j → j < i + n → l[j]? = some b → 128 ≤ b.toNat) : Lib.NoAny l [13, 10] (i + n) := fun j b hj hb => by
  by_cases hji : j < i
  · exact h j b hji hb
  · exact cr_great (hg j b (by omega) hj hb)
set_option maxRecDepth 100000 in
set_option maxHeartbeats 4000000 in
theorem iany_short (l : List UInt8) (hl : l.length ≤ 8) (W : World) :
    Calls Tryz.prog 189 #[.string (txt l), .string crlf] W fun e w' => e = .returned (.int .i64 (Lib.indexAny l [13, 10])) ∧ Below W.heap.size W w' := by
  have e1 := txt_size l
  obtain ⟨N, hN⟩ : ∃ N, l.length = N := ⟨_, rfl⟩
  obtain ⟨B, hB⟩ : ∃ B, txt l = B := ⟨_, rfl⟩
  have hat : ∀ k (hk : k < B.size), l[k]? = some B[k] := fun k hk => by
    subst hB
    rw [at_txt (by rw [txt_size] at hk; exact hk)]; exact List.getElem?_eq_getElem _
  rw [hB] at e1 ⊢
  rw [hN] at e1 hl
  have HAT := Lib.hid hat
  have HN := Lib.hid hN
  clear hB hN hat
  have CU := Tryz.strings_shouldUseASCIISet (N : Int) W
  have h8z : decide ((8 : Int) < (N : Int)) = false := decide_eq_false (by omega)
  rw [h8z] at CU
  have CU := Lib.hid CU
  have CR : Hid (∀ (c : Nat) (w : World), 128 ≤ c → c ≤ 1114111 → (c < 55296 ∨ 57344 ≤ c) → Calls Tryz.prog 222 #[.string crlf, .int .i32 c] w fun e w' => e = .returned (.int .i64 (-1)) ∧ Below w.heap.size w w') := fun c w a b d => irune_c a b d w
  have CS : Hid (∀ (x : UInt8) (w : World), x.toNat < 128 → Calls Tryz.prog 222 #[.string crlf, .int .i32 x.toNat] w fun e w' => e = .returned (.int .i64 (Lib.indexByte [13, 10] x)) ∧ w' = w) := fun x w a => irune_small x a w
  have hemp : crlf.toList.isEmpty = false := by rw [Lib.toList_data]; rfl
  have hcs : crlf.size = 2 := rfl
  obtain ⟨S, hS⟩ : ∃ S, crlf = S := ⟨_, rfl⟩
  rw [hS] at hemp hcs ⊢
  simp only [hS] at CR CS
  clear hS h8z
  go_enter Tryz.func189, Tryz.ntmps189
  go_wp2_with (first | (refine CU.out.mono ?_; rintro e w1 ⟨rfl, hww⟩; have hww := hww.symm; subst hww) | fail)
  go_loopg [9, 10] N (fun g _ _ wx => ∃ i : Nat, i + g = N ∧ Hid (wx.heap[W.heap.size]? = some (.stringIter B i)) ∧ Hid (Below W.heap.size W wx) ∧ Hid (Lib.NoAny l [13, 10] i))
  case atStart => exact ⟨0, by omega, World.iter_heap _ _ _, (Below.refl _ _).alloc (Nat.le_refl _) _, Lib.NoAny.zero _ _⟩
  case round =>
    obtain ⟨i, hig, HK, HB, HNA⟩ := hrel
    have hsz := HB.out.size
    have hkl : W.heap.size < wr.heap.size := (Array.getElem?_eq_some_iff.1 HK.out).1
    cases gk with
    | zero =>
      obtain rfl : i = N := by omega
      have hnx := fun ty => Lib.run_next_end_at (P := Tryz.prog) wr W.heap.size B i ty HK.out (by omega)
      have HR : Hid (Lib.indexAny l [13, 10] = -1) := Lib.indexAny_none (by rw [HN.out]; exact HNA.out)
      go_wp2_with fail
      go_ret
      exact ⟨by rw [HR.out]; rfl, HB.out⟩
    | succ g =>
      have hiB : i < B.size := by omega
      have hlx : l[i]? = some B[i] := HAT.out i hiB
      obtain ⟨x, hx⟩ : ∃ x, B[i] = x := ⟨_, rfl⟩
      have HK2 : ∀ p w2, Below (wr.iterAt W.heap.size B p).heap.size (wr.iterAt W.heap.size B p) w2 → w2.heap[W.heap.size]? = some (.stringIter B p) := fun p w2 hb => by
        rw [hb.block _ (by rw [Lib.iterAt_size]; exact hkl)]
        exact Lib.iterAt_heap wr _ B i p HK.out
      have HB2 : ∀ p w2, Below (wr.iterAt W.heap.size B p).heap.size (wr.iterAt W.heap.size B p) w2 → Below W.heap.size W w2 := fun p w2 hb =>
        (Lib.below_iterAt HB.out (Nat.le_refl _) B p).trans (hb.mono (by rw [Lib.iterAt_size]; omega))
      have HK2 := Lib.hid HK2
      have HB2 := Lib.hid HB2
      by_cases h128 : x.toNat < 128
      · have hnx := fun ty => Lib.run_next_ascii_at (P := Tryz.prog) wr W.heap.size B i ty HK.out hiB (by rw [hx]; exact h128)
        rw [hx] at hnx hlx
        have HX := Lib.hid hlx
        have C := Lib.hid (CS.out x (wr.iterAt W.heap.size B (i + 1)) h128)
        have hcon := Lib.contains_iff_indexByte [13, 10] x
        clear hlx hx
        obtain ⟨v, hv⟩ : ∃ v, Lib.indexByte [13, 10] x = v := ⟨_, rfl⟩
        rw [hv] at C hcon
        clear hv
        cases hin : [13, 10].contains x
        · rw [hin] at hcon
          have hlt : ¬ ((0 : Int) ≤ v) := of_decide_eq_false hcon.symm
          have HNX := Lib.hid (HNA.out.succ HX.out hin)
          clear hcon hin
          go_wp2_with (first | (refine C.out.mono ?_; rintro e w1 ⟨rfl, hww⟩; have hww := hww.symm; subst hww) | fail)
          go_roundg g
          case measure => omega
          case rel => exact ⟨i + 1, by omega, HK2.out _ _ (Below.refl _ _), HB2.out _ _ (Below.refl _ _), HNX.out⟩
        · rw [hin] at hcon
          have hge : (0 : Int) ≤ v := of_decide_eq_true hcon.symm
          have HR : Hid (Lib.indexAny l [13, 10] = i) := Lib.indexAny_hit HNA.out HX.out hin
          clear hcon hin
          go_wp2_with (first | (refine C.out.mono ?_; rintro e w1 ⟨rfl, hww⟩; have hww := hww.symm; subst hww) | fail)
          go_ret
          exact ⟨by rw [HR.out]; rfl, HB2.out _ _ (Below.refl _ _)⟩
      · obtain ⟨c, n, hd, hc1, hc2, hc3, hn1, hn2, hall⟩ := decode_great B i hiB (by rw [hx]; exact h128)
        have hnx := fun ty => Lib.run_next_any_at (P := Tryz.prog) wr W.heap.size B i ty HK.out hiB
        rw [hd] at hnx
        simp only at hnx
        have HNX : Hid (Lib.NoAny l [13, 10] (i + n)) := noAny_jump HNA.out fun j b hj1 hj2 hb => by
          have hjB : j < B.size := by omega
          rw [HAT.out j hjB] at hb
          cases hb
          exact hall j hjB hj1 hj2
        have C := Lib.hid (CR.out c (wr.iterAt W.heap.size B (i + n)) hc1 hc2 hc3)
        obtain ⟨g', hg'⟩ : ∃ g', i + n + g' = N := ⟨N - (i + n), by omega⟩
        clear hall hc3 hlx hx h128 hd
        go_wp2_with (first | (refine C.out.mono ?_; rintro e w1 ⟨rfl, hb1⟩; have H1 := Lib.hid hb1; clear hb1) | fail)
        go_roundg g'
        case measure => omega
        case rel => exact ⟨i + n, by omega, HK2.out _ _ H1.out, HB2.out _ _ H1.out, HNX.out⟩
theorem index_any_clean (l : List UInt8) : decide (0 ≤ Lib.indexAny l [13, 10]) = !cleanB l := by
  unfold cleanB
  rw [Bool.not_not]
  induction l with
  | nil => rfl
  | cons a t ih =>
    rw [List.any_cons, ← cr_contains, ← ih, Lib.indexAny]
    have hge := Lib.indexAny_ge [13, 10] t
    cases h : [13, 10].contains a with
    | true => simp
    | false =>
      rw [if_neg (by decide), Bool.false_or]
      by_cases h1 : Lib.indexAny t [13, 10] = -1
      · rw [h1]; rfl
      · have h2 : (Lib.indexAny t [13, 10] == -1) = false := by rw [beq_eq_false_iff_ne]; exact h1
        rw [h2, if_neg (by decide)]
        rw [decide_eq_true (by omega), decide_eq_true (by omega)]
theorem iany_c (l : List UInt8) (hl : l.length ≤ 100000) (W : World) :
    Calls Tryz.prog 189 #[.string (txt l), .string crlf] W fun e w' => e = .returned (.int .i64 (Lib.indexAny l [13, 10])) ∧ Below W.heap.size W w' := by
  by_cases h8 : l.length ≤ 8
  · exact iany_short l h8 W
  · have h := Tryz.strings_IndexAny_long (zero_of_info (n := 256) (by kernel_rfl)).1 (txt l) crlf W (by decide) (by rw [txt_size]; omega) (by rw [txt_size]; omega) (by decide) (fun j b hb => by
      have : crlf.data.toList = [13, 10] := rfl
      rw [this] at hb
      have hm := List.mem_of_getElem? hb
      simp at hm
      rcases hm with rfl | rfl <;> decide)
    rw [show (txt l).data.toList = l from by simp [txt], show crlf.data.toList = [13, 10] from rfl] at h
    refine h.mono fun e w' ⟨h1, h2⟩ => ⟨h1, ?_⟩
    rw [h2]
    exact ((Below.refl _ _).alloc (Nat.le_refl _) _).alloc (by simp) _
set_option maxRecDepth 100000 in
theorem cany_c (l : List UInt8) (hl : l.length ≤ 100000) : CAny l := fun w => by
  have C := Lib.hid (iany_c l hl w)
  have hcl := Lib.hid (index_any_clean l)
  show Calls Tryz.prog 148 #[.string (txt l), .string crlf] w _
  obtain ⟨v, hv⟩ : ∃ v, Lib.indexAny l [13, 10] = v := ⟨_, rfl⟩
  rw [hv] at C hcl
  clear hv
  go_enter Tryz.func148, Tryz.ntmps148
  go_wp2_with (first | (refine C.out.mono ?_; rintro e w1 ⟨rfl, hb⟩; have H1 := Lib.hid hb; clear hb) | fail)
  go_ret
  exact ⟨by rw [← hcl.out]; rfl, H1.out⟩
abbrev PowTab (W : World) : Prop := Lib.TabIs Tryz.prog W "internal/strconv.uint64pow10" .u64 Lib.pow10Tab
theorem itoa_at {W : World} (hT : PowTab W) {n : Nat} (hn : n ≤ 4294967295) : ItoaAt n W := fun w hb => by
  refine (Tryz.strconv_Itoa (n : Int) (by omega) (by omega) w (Lib.tabBelow_of_tabIs hT w hb)).mono fun e w' ⟨h1, k, os, h2⟩ => ⟨?_, ?_⟩
  · rw [h1]
    rfl
  · rw [h2]; exact Lib.below_grow _ w (Nat.le_refl _) k os
theorem Tryz.infoStringK : (Tryz.prog.info? 9).map (fun i => (i.zero, i.size, i.bytes)) = some (some (.string ⟨#[]⟩), 1, 16) := by kernel_rfl
def cellsX (l : List (List UInt8)) : List Value := l.map fun x => .string (txt x)
theorem cellsX_snoc (l : List (List UInt8)) (x : List UInt8) : cellsX (l ++ [x]) = cellsX l ++ [.string (txt x)] := by unfold cellsX; rw [List.map_append]; rfl
theorem sjoinX_c {w : World} {B : Nat} {v : Value} {l : List (List UInt8)} (hO : w.ownsRow B 9 1 v l.length (cellsX l)) (hl : l.length ≤ 2000000000) (hlen : (Lib.join l [32]).length ≤ 1000000000) :
    Calls Tryz.prog 97 #[v, .string ⟨#[32]⟩] w fun e w' => e = .returned (.string (txt (Lib.join l [32]))) ∧ Below w.heap.size w w' := by
  have hO2 := hO
  obtain ⟨hle, ⟨rfl, h0⟩ | ⟨g, cap, cur, rfl, hB, hh, hcap, hmx, hcs, hct⟩⟩ := hO2
  · have hn : l = [] := List.length_eq_zero_iff.1 h0
    subst hn
    refine (Tryz.strings_Join_none none 0 ⟨#[32]⟩ w).mono fun e w' ⟨h1, h2⟩ => ⟨?_, h2 ▸ Below.refl _ _⟩
    rw [h1]; rfl
  · have hx : (l.map txt).length = l.length := by simp
    have hm : (l.map txt).map (·.data.toList) = l := by
      rw [List.map_map]
      have : ((fun x : ByteArray => x.data.toList) ∘ txt) = id := by funext k; simp [txt]
      rw [this, List.map_id]
    have C := Tryz.strings_Join g 0 cap (l.map txt) ⟨#[32]⟩ w (fun j x hj => by
        rw [List.getElem?_map, Option.map_eq_some_iff] at hj
        obtain ⟨i, hi, rfl⟩ := hj
        rw [Nat.zero_add, hO.cellAt j (by have := (List.getElem?_eq_some_iff.1 hi).1; simp [cellsX]; omega)]
        unfold cellsX
        rw [List.getElem?_map, hi]; rfl) (Array.getElem?_eq_some_iff.1 hh).1 (by rw [hx]; omega) (by rw [hx]; omega) (by rw [hm]; show (Lib.join l [32]).length ≤ _; omega)
    rw [hm, hx] at C
    exact C
theorem joinTail_ge : ∀ l : List (List UInt8), l.length ≤ (Lib.joinTail [32] l).length
  | [] => Nat.zero_le _
  | a :: r => by
    have := joinTail_ge r
    unfold Lib.joinTail at this ⊢
    simp at this ⊢
    omega
theorem join_ge (l : List (List UInt8)) : l.length ≤ (Lib.join l [32]).length + 1 := by
  cases l with
  | nil => simp
  | cons a r =>
    rw [Lib.join_cons, List.length_append, List.length_cons]
    have := joinTail_ge r
    omega
structure Tx (W : World) : Prop where
  names : Names W
  words : ∀ k, k < 11 → W.cell? ⟨2, k, none⟩ = some (.string (wB k))
  pow : PowTab W
  tab : Tab W
theorem Tx.below {W W' : World} (h : Tx W) (hb : Below W.heap.size W W') : Tx W' := by
  obtain ⟨⟨n0, n1, n2, n3, n4⟩, h3, h4, h5⟩ := h
  have cb : ∀ {b i : Nat} {v : Value}, W.cell? ⟨b, i, none⟩ = some v → W'.cell? ⟨b, i, none⟩ = some v := fun {b i v} hc => (hb.cell (p := ⟨b, i, none⟩) (cell_ltA hc)).trans hc
  exact ⟨⟨cb n0, cb n1, cb n2, cb n3, cb n4⟩, fun k hk => cb (h3 k hk), (h5.later hb h5.lt : Tab W'), h5.later hb h5.lt⟩
def TextIH (k : KT) : Prop := ∀ (d : Int) (W : World), KeyC W k → rightK k d = true → okT k → Tx W → Calls Tryz.prog 66 #[k.val] W fun e w' => e = .returned (.string (txt (textK k))) ∧ Below W.heap.size W w'
theorem textsK_take {l : List KT} {j : Nat} {k : KT} (h : l[j]? = some k) : (textsK l).take (j + 1) = (textsK l).take j ++ [textK k] := by
  have h2 := textsK_at h
  obtain ⟨hj, e⟩ := List.getElem?_eq_some_iff.1 h2
  rw [List.take_succ_eq_append_getElem hj, e]
set_option maxRecDepth 100000 in
set_option maxHeartbeats 4000000 in
theorem sKidsText_c (kd : Int) (fl : Nat) (set : List (Nat × Nat)) (n : Nat) (s : List UInt8) (kids : List KT) (sp : Option Addr) (scap : Nat) (kp : Option Addr) (kcap : Nat) (ih : ∀ x ∈ kids, TextIH x) (d : Int) (hr : rightL kids d = true) (hok : okTs kids) (hm : kids.length ≤ 2000000000) (hj : (Lib.join (textsK kids) [32]).length ≤ 1000000000)
    (W : World) (hk : KidsC W kids kp 0) (hT : Tx W) :
    Calls Tryz.prog 123 #[(KT.mk kd fl set n s kids sp scap kp kcap).val] W fun e w' => e = .returned (.string (txt (Lib.join (textsK kids) [32]))) ∧ Below W.heap.size W w' := by
  obtain ⟨i0, hi, hz0, hz1, hz2⟩ := info_parts Tryz.infoStringK
  show Calls Tryz.prog 123 #[.agg #[.int .i64 kd, .int .u8 fl, .slice sp set.length scap, .int .u32 n, .string (txt s), .slice kp kids.length kcap]] W _
  have IH := Lib.hid ih
  have HR := Lib.hid hr
  have HOK := Lib.hid hok
  have HK := Lib.hid hk
  have HT := Lib.hid hT
  have HJ := Lib.hid hj
  obtain ⟨SX, hSX⟩ : ∃ S, txt s = S := ⟨_, rfl⟩
  obtain ⟨M, hM⟩ : ∃ M, set.length = M := ⟨_, rfl⟩
  obtain ⟨N, hN⟩ : ∃ N, kids.length = N := ⟨_, rfl⟩
  rw [hSX, hM, hN]
  rw [hN] at hm
  have HN := Lib.hid hN
  clear ih hr hok hk hT hj hSX hM hN
  have hb0 : Below W.heap.size W (W.alloc (.cells #[.int .i64 kd, .int .u8 fl, .slice sp M scap, .int .u32 n, .string SX, .slice kp N kcap] 37)) := (Below.refl _ _).alloc (Nat.le_refl _) _
  have HB0 := Lib.hid hb0
  clear hb0
  go_enter Tryz.func123, Tryz.ntmps123
  go_wp2_with fail
  go_loopw [3, 9] (fun t3 t9 wr => ∃ k : Nat, k ≤ N ∧ t9 = .int .i64 k ∧ Hid (wr.ownsRow W.heap.size 9 1 t3 k (cellsX ((textsK kids).take k))) ∧ Hid (Below W.heap.size W wr)) (fun _ t9 _ => N - (intOf t9).toNat)
  case atStart => exact ⟨0, Nat.zero_le _, rfl, World.ownsRow_nil _ _ _ _, HB0.out⟩
  case round =>
    obtain ⟨k, hk, rfl, HO, HB⟩ := hrel
    obtain ⟨ad3, cp3, rfl⟩ := own_form HO.out
    by_cases hlt : k < N
    · have hq : (k : Int) < N := by omega
      have hq0 : (0 : Int) ≤ k := by omega
      obtain ⟨a, ha⟩ : ∃ a, kids[k]? = some a := ⟨_, List.getElem?_eq_getElem (by rw [HN.out]; exact hlt)⟩
      have ham := List.mem_of_getElem? ha
      obtain ⟨b1, o1, rfl, hl1, k1, K1⟩ := KidsC.at kids kp 0 k a HK.out ha
      have C := IH.out a ham d (wr.alloc (.cells a.cells.toArray 37)) (KeyC.below ((HB.out.alloc HB.out.size _)) _ K1) (rightL_at HR.out ham) (okTs_at HOK.out ham) (HT.out.below (HB.out.alloc HB.out.size _))
      obtain ⟨xk, xf, xm, xn, xl, xsp, xkp, xsc, xkc, X, hxv, hxc⟩ := a.form
      rw [Nat.zero_add] at k1
      have hcx : ∀ (q : Nat) (u : Value), (#[.int .i64 xk, .int .u8 xf, .slice xsp xm xsc, .int .u32 xn, .string X, .slice xkp xl xkc] : Array Value)[q]? = some u → wr.cell? ⟨b1, o1 + k * 6 + q, none⟩ = some u := fun q u hu => by
        have h1 := k1 q u (by rw [← hxc] at hu; simpa using hu)
        exact (HB.out.cell (p := ⟨b1, _, none⟩) hl1).trans h1
      have d0 : wr.cell? ⟨b1, o1 + k * 6, none⟩ = some (.int .i64 xk) := by have := hcx 0 _ rfl; simpa using this
      have d1 := hcx 1 _ rfl
      have d2 := hcx 2 _ rfl
      have d3 := hcx 3 _ rfl
      have d4 := hcx 4 _ rfl
      have d5 := hcx 5 _ rfl
      have hbw1 : b1 < wr.heap.size := Nat.lt_of_lt_of_le hl1 HB.out.size
      rw [hxv, hxc] at C
      have HTK : Hid ((textsK kids).take (k + 1) = (textsK kids).take k ++ [textK a]) := textsK_take ha
      obtain ⟨TX, hTX⟩ : ∃ T, txt (textK a) = T := ⟨_, rfl⟩
      rw [hTX] at C
      have HTX := Lib.hid hTX
      have C := Lib.hid C
      have HB3 : Hid (Below W.heap.size W (wr.alloc (.cells #[.int .i64 xk, .int .u8 xf, .slice xsp xm xsc, .int .u32 xn, .string X, .slice xkp xl xkc] 37))) := HB.out.alloc HB.out.size _
      have HO1 : Hid ((wr.alloc (.cells #[.int .i64 xk, .int .u8 xf, .slice xsp xm xsc, .int .u32 xn, .string X, .slice xkp xl xkc] 37)).ownsRow W.heap.size 9 1 (.slice ad3 k cp3) k (cellsX ((textsK kids).take k))) := HO.out.alloc _
      clear ha ham k1 K1 hxv hxc hcx hTX
      go_wp2_with (first | (go_at_call 66; refine C.out.mono ?_; rintro e w2 ⟨rfl, hb2⟩; have H2 := Lib.hid hb2; have HO2 := Lib.hid (own_below HO1.out hb2); have hls : W.heap.size ≤ w2.heap.size := Nat.le_trans HB3.out.size hb2.size; clear hb2) | (at_builtin; refine wpList_append_own _ rfl (.tmp 13) (.tmp 16) 92 rfl W.heap.size 9 i0 (.string ⟨#[]⟩) 1 16 Tryz.underlying92 hi hz0 hz1 hz2 rfl (by decide) _ _ _ rfl (HO2.out.alloc _) ⟨w2.heap.size, 0, none⟩ 1 1 [.string TX] rfl rfl (cell_one_new _ _ _) (fun x hx => by simp at hx; subst hx; rfl) (by unfold maxLen; omega) (by omega) (by simp; omega) ?_))
      intro v' w4 hown4 hgrow4 _
      have hb4 : Below W.heap.size W w4 := Below.grown ((HB3.out.trans (H2.out.mono HB3.out.size)).alloc hls _) hgrow4 (by simp; omega) (fun j hj => (HO2.out.lt _ hj).1)
      have HO4 := Lib.hid hown4
      have HB4 := Lib.hid hb4
      clear hown4 hgrow4 hb4
      go_wp2_with fail
      go_roundw
      case rel =>
        refine ⟨k + 1, by omega, by go_num, ?_, HB4.out⟩
        show World.ownsRow _ _ _ _ _ _ _
        rw [HTK.out, cellsX_snoc, HTX.out]
        exact HO4.out
      case measure => simp [intOf]; omega
    · obtain rfl : k = N := by omega
      have hq : ¬ ((k : Int) < k) := by omega
      have ho := HO.out
      have hl : (textsK kids).length = k := by rw [textsK_len, HN.out]
      rw [List.take_of_length_le (by rw [hl]; exact Nat.le_refl _)] at ho
      have CJ := sjoinX_c (l := textsK kids) (by rw [hl]; exact ho) (by rw [hl]; exact hm) HJ.out
      have CJ := Lib.hid CJ
      clear ho hl
      go_wp2_with fail
      refine CJ.out.mono ?_
      rintro e w5 ⟨rfl, hb5⟩
      have HB5 := Lib.hid (HB.out.trans (hb5.mono HB.out.size))
      clear hb5
      go_wp2_with fail
      go_ret
      exact ⟨rfl, HB5.out⟩
set_option maxHeartbeats 6400000 in
set_option maxRecDepth 100000 in
theorem ifu_c {w : World} (hT : PowTab w) (u : Nat) (hu : u ≤ 4294967295) : Calls Tryz.prog 178 #[.int .u64 u, .int .i64 10] w fun e w' => e = .returned (.string (txt (Lib.decDigits u))) ∧ Below w.heap.size w w' := by
  by_cases hs : u < 100
  · have C := Lib.hid (Tryz.internal_strconv_small u hs w)
    have q : (u : Int) < 100 := by omega
    go_enter Tryz.func178, Tryz.ntmps178
    go_wp2_with (first | (go_at_call 215; refine C.out.mono ?_; rintro e w' ⟨rfl, rfl⟩) | fail)
    go_ret
    exact ⟨rfl, Below.refl _ _⟩
  · have q : ¬ (u : Int) < 100 := by omega
    have hu1 : 1 ≤ u := by omega
    have hu64 : u < 18446744073709551616 := by omega
    have hnd20 : Lib.nDigits u ≤ 20 := by have := Lib.numDigits_eq u hu1 hu64; split at this <;> omega
    have hal : Tryz.prog.arrayLen 234 = 24 := by kernel_rfl
    have hsl1 : ∀ W, (Instr.sliceAt 234 (.pointer (some ⟨w.heap.size, 0, none⟩)) none (some (.int .i64 (Lib.nDigits u : Int))) none).run Tryz.prog W = .ok (.slice (some ⟨w.heap.size, 0, none⟩) (Lib.nDigits u) 24) W := fun W => by
      rw [run_sliceAt_array_h W 234 ⟨w.heap.size, 0, none⟩ (by simp [Program.arrayLen, Program.elem, Tryz.underlying234]) .i64 (Lib.nDigits u : Int) (by omega) (by rw [hal]; omega)]
      go_simp
      try omega
    have hH0 := Lib.holds_zero0 w 234 (Lib.nDigits u) (by omega)
    have hfmt := Tryz.internal_strconv_formatBase10 w.heap.size 0 24 u (Array.replicate (Lib.nDigits u) 0) (w.alloc (.cells Lib.zeros24 234)) hH0 (by rw [Array.size_replicate]; exact Lib.lt_pow_nDigits u) hu64 (by rw [Array.size_replicate]; omega)
    rw [Array.size_replicate] at hfmt
    have HH0 := Lib.hid hH0
    have HF := Lib.hid hfmt
    have HND := Lib.hid (fun W (h : PowTab W) => Tryz.internal_strconv_numDigits u hu1 hu64 W h)
    have HT := Lib.hid hT
    clear hH0 hal hfmt hT
    go_enter Tryz.func178, Tryz.ntmps178
    go_wp2_with (first | (go_at_call 216; refine (HND.out _ (Lib.tabIs_alloc HT.out _)).mono ?_; rintro e w' ⟨rfl, rfl⟩))
    go_at_call 217
    refine HF.out.mono ?_
    rintro e w' ⟨rfl, k, v', dk, rfl, hF⟩
    have hcv : (convert 97 9 (.slice (some ⟨w.heap.size, 0, none⟩) (Lib.nDigits u) 24)).run Tryz.prog ((Go.Sort.putRow (fun (b : UInt8) => Value.int .u8 (b.toNat : Int)) (w.alloc (.cells Lib.zeros24 234)) w.heap.size 0 dk).drewN k) = .ok (.string ⟨(Lib.decDigits u).toArray⟩) ((Go.Sort.putRow (fun (b : UInt8) => Value.int .u8 (b.toNat : Int)) (w.alloc (.cells Lib.zeros24 234)) w.heap.size 0 dk).drewN k) := by
      have h := run_convert_bytes_back (P := Tryz.prog) ((Go.Sort.putRow (fun (b : UInt8) => Value.int .u8 (b.toNat : Int)) (w.alloc (.cells Lib.zeros24 234)) w.heap.size 0 dk).drewN k) 97 9 5 ⟨w.heap.size, 0, none⟩ 24 (Lib.decDigits u) Tryz.underlying97 Tryz.underlying5 Tryz.underlying9 (fun j hj => by
        rw [Lib.row_is_numeral hF j hj, Lib.add_plain, World.cell?_drewN]
        exact Go.Sort.cell?_putRow (fun (b : UInt8) => Value.int .u8 (b.toNat : Int)) _ w.heap.size 0 _ dk HH0.out (by rw [hF.size, Array.size_replicate]) j (by rw [hF.size]; rw [Lib.decDigits_length] at hj; exact hj))
      rw [Lib.decDigits_length] at h
      exact h
    go_wp2
    go_ret
    obtain ⟨os, eo⟩ := Lib.fin_at w (.cells Lib.zeros24 234) dk k 0
    refine ⟨rfl, ?_⟩
    rw [eo]
    exact Lib.below_grow _ w (Nat.le_refl _) k os
set_option maxRecDepth 100000 in
theorem fu_c {w : World} (hT : PowTab w) (u : Nat) (hu : u ≤ 4294967295) : Calls Tryz.prog 122 #[.int .u64 u, .int .i64 10] w fun e w' => e = .returned (.string (txt (Lib.decDigits u))) ∧ Below w.heap.size w w' := by
  have C := Lib.hid (ifu_c hT u hu)
  clear hT
  go_enter Tryz.func122, Tryz.ntmps122
  go_wp2_with (first | (go_at_call 178; refine C.out.mono ?_; rintro e w' ⟨rfl, hb⟩; have H := Lib.hid hb; clear hb) | fail)
  go_ret
  exact ⟨rfl, H.out⟩
theorem word_app (w r : List UInt8) : wordB ⟨w ++ r, false⟩ w = true ∧ wordS ⟨w ++ r, false⟩ w = ⟨r, false⟩ ∧ mustS ⟨w ++ r, false⟩ w = ⟨r, false⟩ := by
  have h : wordB ⟨w ++ r, false⟩ w = true := by unfold wordB; simp
  unfold wordS mustS
  rw [h]
  simp
def Fol (r : List UInt8) : Prop := ∀ c, r.head? = some c → c = 32 ∨ c = 41
theorem strV_fol (l r : List UInt8) (h : l.length ≤ 65536) (hr : Fol r) : strV ⟨quoteL l ++ r, false⟩ = l ∧ strS ⟨quoteL l ++ r, false⟩ = ⟨r, false⟩ := by
  unfold quoteL
  by_cases ha : isAtomB l = true
  · rw [if_pos ha]
    exact strV_atom l r false ha (fun c hc => by rcases hr c hc with e | e <;> (subst e; decide))
  · rw [if_neg ha]
    by_cases hc : l.length ≤ 100 ∧ cleanB l = true
    · rw [if_pos hc]
      have := strV_esc l r false (fun c h2 => by
        have h := hc.2
        unfold cleanB at h
        rw [Bool.not_eq_true', List.any_eq_false] at h
        have := h c h2
        rw [Bool.or_eq_true, beq_iff_eq, beq_iff_eq, not_or] at this
        exact this)
      simpa using this
    · rw [if_neg hc]
      have := strV_lit l r h
      simpa using this
theorem digB_dig {c : UInt8} (h : dig c) : digB c = true := by unfold digB; unfold dig at h; simp [h.1, h.2]
theorem num_fol (n : Nat) (r : List UInt8) (h : n ≤ 4294967295) (hr : Fol r) : numN ⟨Lib.decDigits n ++ r, false⟩ = n ∧ numS ⟨Lib.decDigits n ++ r, false⟩ = ⟨r, false⟩ := by
  obtain ⟨h1, h2, h3, h4⟩ := dec_spell n
  have hh : ∀ c, r.head? = some c → digB c = false := fun c hc => by rcases hr c hc with e | e <;> (subst e; decide)
  have ht : (Lib.decDigits n ++ r).takeWhile digB = Lib.decDigits n := by
    rw [List.takeWhile_append_of_pos (fun c hc => digB_dig (h2 c hc))]
    cases r with
    | nil => simp
    | cons a t => simp [hh a rfl]
  have hd : (Lib.decDigits n ++ r).dropWhile digB = r := by
    rw [List.dropWhile_append_of_pos (fun c hc => digB_dig (h2 c hc))]
    cases r with
    | nil => simp
    | cons a t => simp [hh a rfl]
  unfold numN numS numO
  dsimp only
  rw [ht, hd, numR_dec n h]
  exact ⟨rfl, rfl⟩
theorem setB_dig {c : UInt8} (h : dig c) : setB c = true ∧ c ∈ startL := by
  have h2 : ∀ n, 48 ≤ n → n ≤ 57 → setB (UInt8.ofNat n) = true ∧ UInt8.ofNat n ∈ startL := by
    intro n h1 h2
    obtain h | h | h | h | h | h | h | h | h | h : n = 48 ∨ n = 49 ∨ n = 50 ∨ n = 51 ∨ n = 52 ∨ n = 53 ∨ n = 54 ∨ n = 55 ∨ n = 56 ∨ n = 57 := by omega
    all_goals subst h; decide
  have h3 := h2 c.toNat h.1 h.2
  have e : UInt8.ofNat c.toNat = c := by simp
  rw [e] at h3
  exact h3
theorem endT_set (n : Nat) : (∀ c ∈ endT n, setB c = true) ∧ ∃ x t, endT n = x :: t ∧ x ∈ startL := by
  unfold endT
  split
  · exact ⟨fun c hc => by rw [List.mem_singleton.1 hc]; decide, 42, [], rfl, by decide⟩
  · obtain ⟨h1, h2, h3, h4⟩ := dec_spell n
    refine ⟨fun c hc => (setB_dig (h2 c hc)).1, ?_⟩
    cases hd : Lib.decDigits n with
    | nil => exact absurd hd h3
    | cons x t => exact ⟨x, t, rfl, (setB_dig (h2 x (by rw [hd]; simp))).2⟩
theorem rangeT_set (x : Nat × Nat) : ∀ c ∈ rangeT x, setB c = true := by
  intro c hc
  unfold rangeT at hc
  rcases List.mem_append.1 hc with hc | hc
  · exact (endT_set _).1 c hc
  · split at hc
    · simp at hc
    · rcases List.mem_cons.1 hc with rfl | hc
      · decide
      · exact (endT_set _).1 c hc
theorem rangesT_set : ∀ (b : Bool) (l : List (Nat × Nat)), ∀ c ∈ rangesT b l, setB c = true
  | b, [], c, hc => by unfold rangesT at hc; simp at hc
  | b, x :: r, c, hc => by
    unfold rangesT at hc
    rcases List.mem_append.1 hc with hc | hc
    · rcases List.mem_append.1 hc with hc | hc
      · split at hc
        · simp at hc
        · rw [List.mem_singleton.1 hc]; decide
      · exact rangeT_set x c hc
    · exact rangesT_set false r c hc
theorem setT_head {l : List (Nat × Nat)} (h : l ≠ []) : ∃ x t, setT l = x :: t ∧ x ∈ startL := by
  cases l with
  | nil => exact absurd rfl h
  | cons y r =>
    obtain ⟨_, x, t, e, hx⟩ := endT_set y.1
    unfold setT rangesT
    refine ⟨x, t ++ (if y.1 = y.2 then [] else 58 :: endT y.2) ++ rangesT false r, ?_, hx⟩
    unfold rangeT
    rw [e]
    simp
theorem set_fol {l : List (Nat × Nat)} (h0 : l ≠ []) (h64 : l.length ≤ 64) (hs : Small l) (r : List UInt8) (hr : Fol r) : rsetV ⟨setT l ++ r, false⟩ = l ∧ rsetS ⟨setT l ++ r, false⟩ = ⟨r, false⟩ := by
  have hh : ∀ c, r.head? = some c → setB c = false := fun c hc => by rcases hr c hc with e | e <;> (subst e; decide)
  have hp : ∀ c ∈ setT l, setB c = true := rangesT_set true l
  have ht : (setT l ++ r).takeWhile setB = setT l := by
    rw [List.takeWhile_append_of_pos hp]
    cases r with
    | nil => simp
    | cons a t => simp [hh a rfl]
  have hd : (setT l ++ r).dropWhile setB = r := by
    rw [List.dropWhile_append_of_pos hp]
    cases r with
    | nil => simp
    | cons a t => simp [hh a rfl]
  unfold rsetV rsetS rsetO skipS
  dsimp only
  rw [ht, hd, setOf_setT h0 hs]
  have hn : ¬ 64 < l.length := by omega
  simp [hn]
theorem wl_heads : ∀ k < 11, k ≠ 1 → k ≠ 3 → ∃ x r, wl k = x :: r ∧ startL.all (fun y => upB y != upB x) = true := by
  intro k hk h1 h3
  obtain h | h | h | h | h | h | h | h | h : k = 0 ∨ k = 2 ∨ k = 4 ∨ k = 5 ∨ k = 6 ∨ k = 7 ∨ k = 8 ∨ k = 9 ∨ k = 10 := by omega
  all_goals subst h; exact ⟨_, _, rfl, by decide +kernel⟩
theorem kind_set {x : UInt8} {t : List UInt8} (hx : x ∈ startL) : kindV ⟨x :: t, false⟩ = 3 ∧ kindS ⟨x :: t, false⟩ = ⟨x :: t, false⟩ := by
  have ha : startL.any (nextB ⟨x :: t, false⟩) = true := List.any_eq_true.2 ⟨x, hx, by unfold nextB; simp⟩
  have hk := kind_none (s := ⟨x :: t, false⟩) fun k hk => by
    by_cases e : k = 1 ∨ k = 3
    · exact kindB_13 e
    · rw [kindB_of hk (by omega) (by omega)]
      obtain ⟨y, r, hy, hs⟩ := wl_heads k hk (by omega) (by omega)
      cases hw : wordB ⟨x :: t, false⟩ (wl k) with
      | false => rfl
      | true =>
        rw [hy] at hw
        rw [start_no hw hs] at ha
        cases ha
  rw [ha] at hk
  exact hk
theorem flT_pow : ∀ i < 5, flT (2 ^ i) = flagT i := by decide +kernel
theorem join_two (a b : List UInt8) (r : List (List UInt8)) : Lib.join (a :: b :: r) [32] = a ++ 32 :: Lib.join (b :: r) [32] := by
  unfold Lib.join
  simp [List.intercalate, List.intersperse]
theorem join_one (a : List UInt8) : Lib.join [a] [32] = a := by
  unfold Lib.join
  simp [List.intercalate, List.intersperse]
theorem fol_cons {c : UInt8} (h : c = 32 ∨ c = 41) (r : List UInt8) : Fol (c :: r) := fun d hd => by
  have : c = d := by simpa using hd
  rw [← this]; exact h
theorem textsK_one (x : KT) : textsK [x] = [textK x] := by rw [textsK, textsK]
theorem textsK_two (x y : KT) : textsK [x, y] = [textK x, textK y] := by rw [textsK, textsK, textsK]
theorem bareK_mk (kind : Int) (flag : Nat) (set : List (Nat × Nat)) (n : Nat) (s : List UInt8) (kids : List KT) (sp : Option Addr) (scap : Nat) (kp : Option Addr) (kcap : Nat) : bareK (.mk kind flag set n s kids sp scap kp kcap) = .mk kind flag set n s (kids.map bareK) none 0 none 0 := by rw [bareK, bareL_map]
theorem kids_back {rd : RS → KT × RS} (hr : ∀ a, a.Ok → Fewer a (rd a).2) : ∀ (kids : List KT) (r : List UInt8), kids ≠ [] → (∀ k ∈ kids, ∀ r, Fol r → rd ⟨textK k ++ r, false⟩ = (bareK k, ⟨r, false⟩)) →
    kidsF rd ⟨Lib.join (textsK kids) [32] ++ 41 :: r, false⟩ = (bareL kids, ⟨r, false⟩)
  | [], r, h, _ => absurd rfl h
  | [k], r, _, hk => by
    have e : Lib.join (textsK [k]) [32] = textK k := by rw [textsK_one]; exact join_one _
    have h := hk k (by simp) (41 :: r) (fol_cons (.inr rfl) r)
    have w := word_app [41] r
    rw [e, kids_step hr _ (fun hf => by cases hf), h]
    have w1 : wordB ⟨41 :: r, false⟩ [41] = true := w.1
    rw [word_not w1 (by decide : exclW [41] [32] = true)]
    simp only [Bool.false_eq_true, if_false]
    rw [show mustS ⟨41 :: r, false⟩ [41] = ⟨r, false⟩ from w.2.2]
    rw [bareL_map]
    rfl
  | k :: k2 :: t, r, _, hk => by
    have e : Lib.join (textsK (k :: k2 :: t)) [32] ++ 41 :: r = textK k ++ 32 :: (Lib.join (textsK (k2 :: t)) [32] ++ 41 :: r) := by
      conv => lhs; unfold textsK
      conv => rhs; rw [show textsK (k2 :: t) = textK k2 :: textsK t from by rw [textsK]]
      conv => lhs; rw [show textsK (k2 :: t) = textK k2 :: textsK t from by rw [textsK]]
      rw [join_two, List.append_assoc]
      rfl
    have h := hk k (by simp) (32 :: (Lib.join (textsK (k2 :: t)) [32] ++ 41 :: r)) (fol_cons (.inl rfl) _)
    have w := word_app [32] (Lib.join (textsK (k2 :: t)) [32] ++ 41 :: r)
    have ih := kids_back hr (k2 :: t) r (by simp) fun x hx => hk x (by simp [hx])
    rw [e, kids_step hr _ (fun hf => by cases hf), h]
    rw [show wordB ⟨32 :: (Lib.join (textsK (k2 :: t)) [32] ++ 41 :: r), false⟩ [32] = true from w.1]
    simp only [if_true]
    rw [show wordS ⟨32 :: (Lib.join (textsK (k2 :: t)) [32] ++ 41 :: r), false⟩ [32] = ⟨Lib.join (textsK (k2 :: t)) [32] ++ 41 :: r, false⟩ from w.2.1, ih]
    conv => rhs; rw [bareL]
set_option maxHeartbeats 1000000 in
theorem read_back (k : KT) : ∀ (d : Nat) (r : List UInt8), rightK k d = true → smallK k → Fol r → readF d ⟨textK k ++ r, false⟩ = (bareK k, ⟨r, false⟩) := by
  refine KT.ind (P := fun k => ∀ (d : Nat) (r : List UInt8), rightK k d = true → smallK k → Fol r → readF d ⟨textK k ++ r, false⟩ = (bareK k, ⟨r, false⟩)) ?_ k
  intro kind flag set n s kids sp scap kp kcap ih d r hr hs hf
  unfold rightK at hr
  rw [Bool.and_eq_true, Bool.and_eq_true, decide_eq_true_eq, decide_eq_true_eq] at hr
  obtain ⟨hd, hn, hk⟩ := hr
  unfold smallK at hs
  obtain ⟨⟨hss, hn9⟩, hks⟩ := hs
  obtain ⟨f, rfl⟩ : ∃ f, d = f + 1 := ⟨d - 1, by omega⟩
  rw [show ((f + 1 : Nat) : Int) - 1 = (f : Nat) by omega] at hk
  have hih : ∀ x ∈ kids, ∀ r, Fol r → readF f ⟨textK x ++ r, false⟩ = (bareK x, ⟨r, false⟩) := fun x hx r hr => ih x hx f r (rightL_at hk hx) (smallKs_mem hks hx) hr
  obtain ⟨n0, n1, n2, n3, n4, n5, n6, n7, n8, n9, n10, n11, n12⟩ := hn
  have hsl : ∀ {α : Type} {l : List α}, l.length = 0 → l = [] := fun h => List.length_eq_zero_iff.1 h
  obtain h | h | h | h | h | h | h | h | h | h | h : kind = 0 ∨ kind = 1 ∨ kind = 2 ∨ kind = 3 ∨ kind = 4 ∨ kind = 5 ∨ kind = 6 ∨ kind = 7 ∨ kind = 8 ∨ kind = 9 ∨ kind = 10 := by omega
  · subst h
    obtain rfl := hsl (l := set) (by omega)
    obtain rfl := hsl (l := kids) (by omega)
    obtain rfl := hsl (l := s) (by omega)
    obtain rfl : flag = 0 := by omega
    obtain rfl : n = 0 := by omega
    have e : textK (.mk 0 0 [] 0 [] [] sp scap kp kcap) = wl 0 := by unfold textK; simp [wl]
    obtain ⟨k1, k2⟩ := kind_word (k := 0) (by omega) (by omega) (by omega) (word_app (wl 0) r).1
    rw [e]
    unfold readF
    rw [k1, k2, (word_app (wl 0) r).2.1]
    unfold bareK bareL
    rfl
  · subst h
    obtain rfl := hsl (l := set) (by omega)
    obtain rfl := hsl (l := kids) (by omega)
    obtain rfl := hsl (l := s) (by omega)
    obtain rfl : n = 0 := by omega
    obtain ⟨i, hi, rfl⟩ : ∃ i, i < 5 ∧ flag = 2 ^ i := by
      rcases n3 (by omega) with h | h | h | h | h
      · exact ⟨0, by omega, h⟩
      · exact ⟨1, by omega, h⟩
      · exact ⟨2, by omega, h⟩
      · exact ⟨3, by omega, h⟩
      · exact ⟨4, by omega, h⟩
    have e : textK (.mk 1 (2 ^ i) [] 0 [] [] sp scap kp kcap) = flagT i := by unfold textK; rw [if_pos rfl, flT_pow i hi]
    obtain ⟨k1, k2⟩ := kind_flag hi (word_app (flagT i) r).1
    obtain ⟨f1, f2⟩ := flag_one hi (word_app (flagT i) r).1
    rw [e]
    unfold readF
    rw [k1, k2]
    show (plainK _ (rflagV ⟨flagT i ++ r, false⟩) [] 0 [] [], rflagS ⟨flagT i ++ r, false⟩) = _
    rw [f1, f2, (word_app (flagT i) r).2.1]
    unfold bareK bareL
    rfl
  · subst h
    obtain rfl := hsl (l := set) (by omega)
    obtain rfl := hsl (l := kids) (by omega)
    obtain rfl := hsl (l := s) (by omega)
    obtain rfl : n = 0 := by omega
    obtain ⟨i, hi, rfl⟩ : ∃ i, i < 5 ∧ flag = 2 ^ i := by
      rcases n3 (by omega) with h | h | h | h | h
      · exact ⟨0, by omega, h⟩
      · exact ⟨1, by omega, h⟩
      · exact ⟨2, by omega, h⟩
      · exact ⟨3, by omega, h⟩
      · exact ⟨4, by omega, h⟩
    have e : textK (.mk 2 (2 ^ i) [] 0 [] [] sp scap kp kcap) ++ r = wl 2 ++ (flagT i ++ r) := by unfold textK; rw [if_neg (by decide), if_pos rfl, flT_pow i hi, List.append_assoc]; rfl
    obtain ⟨k1, k2⟩ := kind_word (k := 2) (by omega) (by omega) (by omega) (word_app (wl 2) (flagT i ++ r)).1
    obtain ⟨f1, f2⟩ := flag_one hi (word_app (flagT i) r).1
    rw [e]
    unfold readF
    rw [k1, k2, (word_app (wl 2) (flagT i ++ r)).2.1]
    show (plainK _ (rflagV ⟨flagT i ++ r, false⟩) [] 0 [] [], rflagS ⟨flagT i ++ r, false⟩) = _
    rw [f1, f2, (word_app (flagT i) r).2.1]
    unfold bareK bareL
    rfl
  · subst h
    obtain rfl := hsl (l := kids) (by omega)
    obtain rfl := hsl (l := s) (by omega)
    obtain rfl : flag = 0 := by omega
    obtain rfl : n = 0 := by omega
    have hset : set ≠ [] := fun e => by rw [e] at n4; simp at n4
    have e : textK (.mk 3 0 set 0 [] [] sp scap kp kcap) = setT set := by unfold textK; simp
    obtain ⟨v1, v2⟩ := set_fol hset n5 hss r hf
    obtain ⟨x, t, ex, hx⟩ := setT_head hset
    obtain ⟨k1, k2⟩ := kind_set (t := t ++ r) hx
    rw [← List.cons_append, ← ex] at k1 k2
    rw [e]
    unfold readF
    rw [k1, k2]
    show (plainK _ 0 (rsetV ⟨setT set ++ r, false⟩) 0 [] [], rsetS ⟨setT set ++ r, false⟩) = _
    rw [v1, v2]
    unfold bareK bareL
    rfl
  · subst h
    obtain rfl := hsl (l := kids) (by omega)
    obtain rfl := hsl (l := s) (by omega)
    obtain rfl : flag = 0 := by omega
    obtain rfl : n = 0 := by omega
    have hset : set ≠ [] := fun e => by rw [e] at n4; simp at n4
    have e : textK (.mk 4 0 set 0 [] [] sp scap kp kcap) ++ r = wl 4 ++ (setT set ++ r) := by unfold textK; simp [wl]
    obtain ⟨v1, v2⟩ := set_fol hset n5 hss r hf
    obtain ⟨k1, k2⟩ := kind_word (k := 4) (by omega) (by omega) (by omega) (word_app (wl 4) (setT set ++ r)).1
    rw [e]
    unfold readF
    rw [k1, k2, (word_app (wl 4) (setT set ++ r)).2.1]
    show (plainK _ 0 (rsetV ⟨setT set ++ r, false⟩) 0 [] [], rsetS ⟨setT set ++ r, false⟩) = _
    rw [v1, v2]
    unfold bareK bareL
    rfl
  · subst h
    obtain rfl := hsl (l := set) (by omega)
    obtain rfl := hsl (l := kids) (by omega)
    obtain rfl := hsl (l := s) (by omega)
    obtain rfl : flag = 0 := by omega
    have e : textK (.mk 5 0 [] n [] [] sp scap kp kcap) ++ r = wl 5 ++ (Lib.decDigits n ++ r) := by unfold textK; simp [wl]
    obtain ⟨v1, v2⟩ := num_fol n r hn9 hf
    obtain ⟨k1, k2⟩ := kind_word (k := 5) (by omega) (by omega) (by omega) (word_app (wl 5) (Lib.decDigits n ++ r)).1
    rw [e]
    unfold readF
    rw [k1, k2, (word_app (wl 5) (Lib.decDigits n ++ r)).2.1]
    show (plainK _ 0 [] (numN ⟨Lib.decDigits n ++ r, false⟩) [] [], numS ⟨Lib.decDigits n ++ r, false⟩) = _
    rw [v1, v2]
    unfold bareK bareL
    rfl
  · subst h
    obtain rfl := hsl (l := set) (by omega)
    obtain rfl := hsl (l := kids) (by omega)
    obtain rfl := hsl (l := s) (by omega)
    obtain rfl : flag = 0 := by omega
    have e : textK (.mk 6 0 [] n [] [] sp scap kp kcap) ++ r = wl 6 ++ (Lib.decDigits n ++ r) := by unfold textK; simp [wl]
    obtain ⟨v1, v2⟩ := num_fol n r hn9 hf
    obtain ⟨k1, k2⟩ := kind_word (k := 6) (by omega) (by omega) (by omega) (word_app (wl 6) (Lib.decDigits n ++ r)).1
    rw [e]
    unfold readF
    rw [k1, k2, (word_app (wl 6) (Lib.decDigits n ++ r)).2.1]
    show (plainK _ 0 [] (numN ⟨Lib.decDigits n ++ r, false⟩) [] [], numS ⟨Lib.decDigits n ++ r, false⟩) = _
    rw [v1, v2]
    unfold bareK bareL
    rfl
  · subst h
    obtain rfl := hsl (l := set) (by omega)
    obtain rfl := hsl (l := kids) (by omega)
    obtain rfl : flag = 0 := by omega
    obtain rfl : n = 0 := by omega
    have e : textK (.mk 7 0 [] 0 s [] sp scap kp kcap) ++ r = wl 7 ++ (quoteL s ++ r) := by unfold textK; simp [wl]
    obtain ⟨v1, v2⟩ := strV_fol s r n8 hf
    obtain ⟨k1, k2⟩ := kind_word (k := 7) (by omega) (by omega) (by omega) (word_app (wl 7) (quoteL s ++ r)).1
    rw [e]
    unfold readF
    rw [k1, k2, (word_app (wl 7) (quoteL s ++ r)).2.1]
    show (plainK _ 0 [] 0 (strV ⟨quoteL s ++ r, false⟩) [], strS ⟨quoteL s ++ r, false⟩) = _
    rw [v1, v2]
    unfold bareK bareL
    rfl
  · subst h
    obtain rfl := hsl (l := set) (by omega)
    obtain rfl := hsl (l := s) (by omega)
    obtain rfl : flag = 0 := by omega
    obtain rfl : n = 0 := by omega
    obtain ⟨x, rfl⟩ := List.length_eq_one_iff.1 (n10 rfl)
    have e : textK (.mk 8 0 [] 0 [] [x] sp scap kp kcap) ++ r = wl 8 ++ (textK x ++ r) := by rw [textK, textsK_one, join_one]; simp [wl]
    obtain ⟨k1, k2⟩ := kind_word (k := 8) (by omega) (by omega) (by omega) (word_app (wl 8) (textK x ++ r)).1
    have h1 := hih x (by simp) r hf
    rw [e]
    unfold readF
    rw [k1, k2, (word_app (wl 8) (textK x ++ r)).2.1]
    show (plainK 8 0 [] 0 [] [(readF f ⟨textK x ++ r, false⟩).1], (readF f ⟨textK x ++ r, false⟩).2) = _
    rw [h1, bareK_mk]
    rfl
  · subst h
    obtain rfl := hsl (l := set) (by omega)
    obtain rfl := hsl (l := s) (by omega)
    obtain rfl : flag = 0 := by omega
    obtain rfl : n = 0 := by omega
    obtain ⟨x, y, rfl⟩ : ∃ x y, kids = [x, y] := match kids, n11 rfl with | [x, y], _ => ⟨x, y, rfl⟩
    have e : textK (.mk 9 0 [] 0 [] [x, y] sp scap kp kcap) ++ r = wl 9 ++ (textK x ++ 32 :: (textK y ++ r)) := by rw [textK, textsK_two, join_two, join_one]; simp [wl]
    obtain ⟨k1, k2⟩ := kind_word (k := 9) (by omega) (by omega) (by omega) (word_app (wl 9) (textK x ++ 32 :: (textK y ++ r))).1
    have h1 := hih x (by simp) (32 :: (textK y ++ r)) (fol_cons (.inl rfl) _)
    have h2 := hih y (by simp) r hf
    have h3 : mustS ⟨32 :: (textK y ++ r), false⟩ [32] = ⟨textK y ++ r, false⟩ := (word_app [32] (textK y ++ r)).2.2
    rw [e]
    unfold readF
    rw [k1, k2, (word_app (wl 9) (textK x ++ 32 :: (textK y ++ r))).2.1]
    show (plainK 9 0 [] 0 [] [(readF f ⟨textK x ++ 32 :: (textK y ++ r), false⟩).1, (readF f (mustS (readF f ⟨textK x ++ 32 :: (textK y ++ r), false⟩).2 [32])).1], (readF f (mustS (readF f ⟨textK x ++ 32 :: (textK y ++ r), false⟩).2 [32])).2) = _
    rw [h1, h3, h2, bareK_mk]
    rfl
  · subst h
    obtain rfl := hsl (l := set) (by omega)
    obtain rfl := hsl (l := s) (by omega)
    obtain rfl : flag = 0 := by omega
    obtain rfl : n = 0 := by omega
    have hne : kids ≠ [] := fun e => n12 rfl (by rw [e]; rfl)
    have e : textK (.mk 10 0 [] 0 [] kids sp scap kp kcap) ++ r = wl 10 ++ (Lib.join (textsK kids) [32] ++ 41 :: r) := by unfold textK; simp [wl]
    obtain ⟨k1, k2⟩ := kind_word (k := 10) (by omega) (by omega) (by omega) (word_app (wl 10) (Lib.join (textsK kids) [32] ++ 41 :: r)).1
    have h1 := kids_back (rd := readF f) (Fewer.read f) kids r hne hih
    rw [e]
    unfold readF
    rw [k1, k2, (word_app (wl 10) (Lib.join (textsK kids) [32] ++ 41 :: r)).2.1]
    show (plainK 10 0 [] 0 [] (kidsF (readF f) ⟨Lib.join (textsK kids) [32] ++ 41 :: r, false⟩).1, (kidsF (readF f) ⟨Lib.join (textsK kids) [32] ++ 41 :: r, false⟩).2) = _
    rw [h1, bareK_mk, bareL_map]
    rfl
theorem top_back (k : KT) (hr : rightK k 16 = true) (hs : smallK k) : readTop ⟨textK k, false⟩ = (bareK k, ⟨[], false⟩) := by
  have h := read_back k 16 [] hr hs (fun c hc => by simp at hc)
  rw [List.append_nil] at h
  unfold readTop
  rw [h]
  have : rightK (bareK k) 16 = true := by rw [rightK_bare]; exact hr
  rw [this]
  rfl
end Go.Proofs.YtpnnchpaaopdcaaGreatDoor

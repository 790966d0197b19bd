/-
  strings.IndexAny and ContainsAny of a text of at most 100 bytes and a row's two signs; strconv.Itoa at a text's length: contracts.
-/
import Derived.Test.YtiiijmplcagaiaaGreatDoorCa2
import Derived.Lib.AppendIntMem
import Derived.Lib.LaidTab
import Derived.Lib.OthersKept
import Derived.Shelf.Strings.IndexAny
set_option linter.unusedVariables false
set_option linter.unusedSimpArgs false
namespace Go.Proofs.YtiiijmplcagaiaaGreatDoor
open Go Go.RowKit
theorem irune_c {c : Nat} (h1 : 128 ≤ c) (h2 : c ≤ 1114111) (h3 : c < 55296 ∨ 57344 ≤ c) (W : World) : Calls Tryz.prog 38 #[.string crlf, .int .i32 c] W fun e w' => e = .returned (.int .i64 (-1)) ∧ Below W.heap.size W w' := by
  by_cases h : c = 65533
  · subst h; exact irune_err W
  · exact irune_far h1 h2 h3 h W
theorem irune_small (x : UInt8) (hx : x.toNat < 128) (w : World) : Calls Tryz.prog 38 #[.string crlf, .int .i32 x.toNat] w fun e w' => e = .returned (.int .i64 (Lib.indexByte [13, 10] x)) ∧ w' = w := by
  have := Tryz.strings_IndexRune_ascii crlf (x.toNat : Int) w (by omega) (by omega)
  rw [show ((x.toNat : Int)).toNat.toUInt8 = x from by simp] at this
  exact this
theorem cr_contains (x : UInt8) : [13, 10].contains x = (x == 13 || x == 10) := by simp only [List.contains_cons, List.contains_nil, Bool.or_false]
theorem cr_great {x : UInt8} (h : 128 ≤ x.toNat) : [13, 10].contains x = false := by
  rw [cr_contains, Bool.or_eq_false_iff, beq_eq_false_iff_ne, beq_eq_false_iff_ne]
  constructor <;> (rintro rfl; revert h; decide)
theorem noAny_jump {l : List UInt8} {i n : Nat} (h : Lib.NoAny l [13, 10] i) (hg : ∀ j b, i ≤ j → j < i + n → l[j]? = some b → 128 ≤ b.toNat) : Lib.NoAny l [13, 10] (i + n) := fun j b hj hb => by
  by_cases hji : j < i
  · exact h j b hji hb
  · exact cr_great (hg j b (by omega) hj hb)
set_option maxRecDepth 100000 in
set_option maxHeartbeats 4000000 in
theorem iany_short (l : List UInt8) (hl : l.length ≤ 8) (W : World) :
    Calls Tryz.prog 28 #[.string (txt l), .string crlf] W fun e w' => e = .returned (.int .i64 (Lib.indexAny l [13, 10])) ∧ Below W.heap.size W w' := by
  have e1 := txt_size l
  obtain ⟨N, hN⟩ : ∃ N, l.length = N := ⟨_, rfl⟩
  obtain ⟨B, hB⟩ : ∃ B, txt l = B := ⟨_, rfl⟩
  have hat : ∀ k (hk : k < B.size), l[k]? = some B[k] := fun k hk => by
    subst hB
    rw [at_txt (by rw [txt_size] at hk; exact hk)]; exact List.getElem?_eq_getElem _
  rw [hB] at e1 ⊢
  rw [hN] at e1 hl
  have HAT := Lib.hid hat
  have HN := Lib.hid hN
  clear hB hN hat
  have CU := Tryz.strings_shouldUseASCIISet (N : Int) W
  have h8z : decide ((8 : Int) < (N : Int)) = false := decide_eq_false (by omega)
  rw [h8z] at CU
  have CU := Lib.hid CU
  have CR : Hid (∀ (c : Nat) (w : World), 128 ≤ c → c ≤ 1114111 → (c < 55296 ∨ 57344 ≤ c) → Calls Tryz.prog 38 #[.string crlf, .int .i32 c] w fun e w' => e = .returned (.int .i64 (-1)) ∧ Below w.heap.size w w') := fun c w a b d => irune_c a b d w
  have CS : Hid (∀ (x : UInt8) (w : World), x.toNat < 128 → Calls Tryz.prog 38 #[.string crlf, .int .i32 x.toNat] w fun e w' => e = .returned (.int .i64 (Lib.indexByte [13, 10] x)) ∧ w' = w) := fun x w a => irune_small x a w
  have hemp : crlf.toList.isEmpty = false := by rw [Lib.toList_data]; rfl
  have hcs : crlf.size = 2 := rfl
  obtain ⟨S, hS⟩ : ∃ S, crlf = S := ⟨_, rfl⟩
  rw [hS] at hemp hcs ⊢
  simp only [hS] at CR CS
  clear hS h8z
  go_enter Tryz.func28, Tryz.ntmps28
  go_wp2_with (first | (refine CU.out.mono ?_; rintro e w1 ⟨rfl, hww⟩; have hww := hww.symm; subst hww) | fail)
  go_loopg [9, 10] N (fun g _ _ wx => ∃ i : Nat, i + g = N ∧ Hid (wx.heap[W.heap.size]? = some (.stringIter B i)) ∧ Hid (Below W.heap.size W wx) ∧ Hid (Lib.NoAny l [13, 10] i))
  case atStart => exact ⟨0, by omega, World.iter_heap _ _ _, (Below.refl _ _).alloc (Nat.le_refl _) _, Lib.NoAny.zero _ _⟩
  case round =>
    obtain ⟨i, hig, HK, HB, HNA⟩ := hrel
    have hsz := HB.out.size
    have hkl : W.heap.size < wr.heap.size := (Array.getElem?_eq_some_iff.1 HK.out).1
    cases gk with
    | zero =>
      obtain rfl : i = N := by omega
      have hnx := fun ty => Lib.run_next_end_at (P := Tryz.prog) wr W.heap.size B i ty HK.out (by omega)
      have HR : Hid (Lib.indexAny l [13, 10] = -1) := Lib.indexAny_none (by rw [HN.out]; exact HNA.out)
      go_wp2_with fail
      go_ret
      exact ⟨by rw [HR.out]; rfl, HB.out⟩
    | succ g =>
      have hiB : i < B.size := by omega
      have hlx : l[i]? = some B[i] := HAT.out i hiB
      obtain ⟨x, hx⟩ : ∃ x, B[i] = x := ⟨_, rfl⟩
      have HK2 : ∀ p w2, Below (wr.iterAt W.heap.size B p).heap.size (wr.iterAt W.heap.size B p) w2 → w2.heap[W.heap.size]? = some (.stringIter B p) := fun p w2 hb => by
        rw [hb.block _ (by rw [Lib.iterAt_size]; exact hkl)]
        exact Lib.iterAt_heap wr _ B i p HK.out
      have HB2 : ∀ p w2, Below (wr.iterAt W.heap.size B p).heap.size (wr.iterAt W.heap.size B p) w2 → Below W.heap.size W w2 := fun p w2 hb =>
        (Lib.below_iterAt HB.out (Nat.le_refl _) B p).trans (hb.mono (by rw [Lib.iterAt_size]; omega))
      have HK2 := Lib.hid HK2
      have HB2 := Lib.hid HB2
      by_cases h128 : x.toNat < 128
      · have hnx := fun ty => Lib.run_next_ascii_at (P := Tryz.prog) wr W.heap.size B i ty HK.out hiB (by rw [hx]; exact h128)
        rw [hx] at hnx hlx
        have HX := Lib.hid hlx
        have C := Lib.hid (CS.out x (wr.iterAt W.heap.size B (i + 1)) h128)
        have hcon := Lib.contains_iff_indexByte [13, 10] x
        clear hlx hx
        obtain ⟨v, hv⟩ : ∃ v, Lib.indexByte [13, 10] x = v := ⟨_, rfl⟩
        rw [hv] at C hcon
        clear hv
        cases hin : [13, 10].contains x
        · rw [hin] at hcon
          have hlt : ¬ ((0 : Int) ≤ v) := of_decide_eq_false hcon.symm
          have HNX := Lib.hid (HNA.out.succ HX.out hin)
          clear hcon hin
          go_wp2_with (first | (refine C.out.mono ?_; rintro e w1 ⟨rfl, hww⟩; have hww := hww.symm; subst hww) | fail)
          go_roundg g
          case measure => omega
          case rel => exact ⟨i + 1, by omega, HK2.out _ _ (Below.refl _ _), HB2.out _ _ (Below.refl _ _), HNX.out⟩
        · rw [hin] at hcon
          have hge : (0 : Int) ≤ v := of_decide_eq_true hcon.symm
          have HR : Hid (Lib.indexAny l [13, 10] = i) := Lib.indexAny_hit HNA.out HX.out hin
          clear hcon hin
          go_wp2_with (first | (refine C.out.mono ?_; rintro e w1 ⟨rfl, hww⟩; have hww := hww.symm; subst hww) | fail)
          go_ret
          exact ⟨by rw [HR.out]; rfl, HB2.out _ _ (Below.refl _ _)⟩
      · obtain ⟨c, n, hd, hc1, hc2, hc3, hn1, hn2, hall⟩ := decode_great B i hiB (by rw [hx]; exact h128)
        have hnx := fun ty => Lib.run_next_any_at (P := Tryz.prog) wr W.heap.size B i ty HK.out hiB
        rw [hd] at hnx
        simp only at hnx
        have HNX : Hid (Lib.NoAny l [13, 10] (i + n)) := noAny_jump HNA.out fun j b hj1 hj2 hb => by
          have hjB : j < B.size := by omega
          rw [HAT.out j hjB] at hb
          cases hb
          exact hall j hjB hj1 hj2
        have C := Lib.hid (CR.out c (wr.iterAt W.heap.size B (i + n)) hc1 hc2 hc3)
        obtain ⟨g', hg'⟩ : ∃ g', i + n + g' = N := ⟨N - (i + n), by omega⟩
        clear hall hc3 hlx hx h128 hd
        go_wp2_with (first | (refine C.out.mono ?_; rintro e w1 ⟨rfl, hb1⟩; have H1 := Lib.hid hb1; clear hb1) | fail)
        go_roundg g'
        case measure => omega
        case rel => exact ⟨i + n, by omega, HK2.out _ _ H1.out, HB2.out _ _ H1.out, HNX.out⟩
end Go.Proofs.YtiiijmplcagaiaaGreatDoor

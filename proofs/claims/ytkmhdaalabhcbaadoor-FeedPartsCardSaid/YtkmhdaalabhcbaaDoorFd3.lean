/-
  A feed of the program: the last place of a byte; the head with which a line ends: contracts.
-/
import Derived.Test.YtkmhdaalabhcbaaDoorFd2
import Derived.LoopTactic
set_option linter.unusedVariables false
set_option linter.unusedSimpArgs false
namespace Go.Proofs.YtkmhdaalabhcbaaDoor
open Go Go.RowKit

/-- Bytes that lie in a row from an address on. -/
def RBy (W : World) (ad : Option Addr) (l : List UInt8) : Prop := ∀ (j : Nat) (c : UInt8), l[j]? = some c → ∃ b off, ad = some ⟨b, off, none⟩ ∧ b < W.heap.size ∧ W.cell? ⟨b, off + j, none⟩ = some (.int .u8 (c.toNat : Int))
theorem RBy.below {W W' : World} {ad : Option Addr} {l : List UInt8} (h : RBy W ad l) (hb : Below W.heap.size W W') : RBy W' ad l := fun j c hj => by
  obtain ⟨b, off, h1, h2, h3⟩ := h j c hj
  exact ⟨b, off, h1, Nat.lt_of_lt_of_le h2 hb.size, (hb.cell (p := ⟨b, _, none⟩) h2).trans h3⟩
def lastZ (l : List UInt8) (c : UInt8) : Int := ((l.reverse.dropWhile fun x => x != c).length : Int) - 1
theorem dw_app {α : Type} {p : α → Bool} : ∀ {a b : List α}, (∀ x ∈ a, p x = true) → (a ++ b).dropWhile p = b.dropWhile p
  | [], b, _ => rfl
  | x :: a, b, h => by
    rw [List.cons_append, List.dropWhile_cons, if_pos (h x (by simp))]
    exact dw_app fun y hy => h y (by simp [hy])
theorem lastZ_hit {l : List UInt8} {i : Nat} {c : UInt8} (h : l[i]? = some c) (hn : ∀ x ∈ l.drop (i + 1), x ≠ c) : lastZ l c = i := by
  obtain ⟨hi, hc⟩ := List.getElem?_eq_some_iff.1 h
  have e : l = l.take i ++ c :: l.drop (i + 1) := by
    conv => lhs; rw [← List.take_append_drop i l]
    rw [List.drop_eq_getElem_cons hi, hc]
  have er : l.reverse = (l.drop (i + 1)).reverse ++ (c :: (l.take i).reverse) := by
    conv => lhs; rw [e]
    simp
  unfold lastZ
  rw [er, dw_app (fun x hx => by simpa using hn x (by simpa using hx)), List.dropWhile_cons, if_neg (by simp)]
  simp
  omega
theorem lastZ_none {l : List UInt8} {c : UInt8} (hn : ∀ x ∈ l, x ≠ c) : lastZ l c = -1 := by
  unfold lastZ
  have := dw_app (b := []) (a := l.reverse) (p := fun x => x != c) (fun x hx => by simpa using hn x (by simpa using hx))
  rw [List.append_nil] at this
  rw [this]; rfl
theorem lastZ_lt (l : List UInt8) (c : UInt8) : lastZ l c < l.length ∧ -1 ≤ lastZ l c := by
  have := drop_le (fun x => x != c) l.reverse
  rw [List.length_reverse] at this
  unfold lastZ; omega
theorem lastI_Z (l : List UInt8) : (lastI l : Int) = max (lastZ l 123) 0 := by unfold lastI lastZ; omega
theorem lastI_lt (l : List UInt8) : lastI l ≤ l.length - 1 := by have := lastI_Z l; have := lastZ_lt l 123; omega

set_option maxRecDepth 100000 in
theorem baLastIdx_c (W : World) (ad : Option Addr) (cap : Nat) (l : List UInt8) (h : RBy W ad l) (hl : l.length ≤ 100000) (n : Nat) (c : UInt8) (hn : n = c.toNat) :
    Calls Tryd.prog 30 #[.slice ad l.length cap, .int .u8 n] W fun e w' => e = .returned (.int .i64 (lastZ l c)) ∧ w' = W := by
  obtain ⟨N, hN⟩ : ∃ N, l.length = N := ⟨_, rfl⟩
  rw [hN] at hl ⊢
  have H := Lib.hid h
  have HN := Lib.hid hN
  have HC := Lib.hid hn
  have hn9 : n < 256 := by rw [hn]; exact c.toNat_lt
  clear h hN hn
  go_enter Tryd.func30, Tryd.ntmps30
  go_wp2_with fail
  go_loopw [5] (fun iv wr => ∃ j : Nat, j ≤ N ∧ iv = .int .i64 ((j : Int) - 1) ∧ Hid (∀ x ∈ l.drop j, x ≠ c) ∧ wr = W) (fun iv _ => (intOf iv + 1).toNat)
  case atStart => exact ⟨N, Nat.le_refl _, rfl, by show ∀ x ∈ _, _; rw [← HN.out, List.drop_length]; simp, rfl⟩
  case round =>
    obtain ⟨j, hj, rfl, HX, hwr⟩ := hrel
    rw [hwr]
    clear hwr
    by_cases hj0 : 0 < j
    · obtain ⟨i, rfl⟩ : ∃ i, j = i + 1 := ⟨j - 1, by omega⟩
      have he1 : ((i + 1 : Nat) : Int) - 1 = i := by omega
      rw [he1]
      have hq1 : (0 : Int) ≤ i := by omega
      have hq2 : (i : Int) < N := by omega
      obtain ⟨r, hr⟩ : ∃ r, l[i]? = some r := ⟨_, List.getElem?_eq_getElem (by have := HN.out; omega)⟩
      obtain ⟨b, off, rfl, hbb, c0⟩ := H.out i r hr
      have HR := Lib.hid hr
      obtain ⟨m, hm⟩ : ∃ m, r.toNat = m := ⟨_, rfl⟩
      rw [hm] at c0
      have HM := Lib.hid hm
      have hm9 : m < 256 := by rw [← hm]; exact r.toNat_lt
      clear hr hm he1
      by_cases hmn : m = n
      · subst hmn
        have HZ : Hid (lastZ l c = (i : Int)) := by
          have : r = c := UInt8.toNat_inj.1 (by rw [HM.out, HC.out])
          subst this
          exact lastZ_hit HR.out HX.out
        have u : ((m : Int) == (m : Int)) = true := by rw [beq_iff_eq]
        go_wp2_with fail
        go_ret
        exact ⟨by rw [HZ.out]; rfl, rfl⟩
      · have u : ((m : Int) == (n : Int)) = false := by rw [beq_eq_false_iff_ne]; omega
        have HX2 : Hid (∀ x ∈ l.drop i, x ≠ c) := by
          intro x hx
          obtain ⟨hi, hc⟩ := List.getElem?_eq_some_iff.1 HR.out
          rw [List.drop_eq_getElem_cons hi, hc] at hx
          rcases List.mem_cons.1 hx with e | e
          · rw [e]; intro e2; exact hmn (by rw [← HM.out, HC.out, e2])
          · exact HX.out x e
        go_wp2_with fail
        go_roundw
        case rel => exact ⟨i, by omega, by first | rfl | go_num, HX2.out, by first | rfl | trivial⟩
        case measure => simp [intOf] <;> omega
    · obtain rfl : j = 0 := by omega
      have hneg : ((0 : Nat) : Int) - 1 = -1 := by omega
      rw [hneg]
      clear hneg
      have HZ : Hid (lastZ l c = -1) := lastZ_none (by have := HX.out; rwa [List.drop_zero] at this)
      go_wp2_with fail
      go_ret
      exact ⟨by rw [HZ.out]; rfl, rfl⟩
set_option maxRecDepth 100000 in
theorem bLastIdx_c (W : World) (ad : Option Addr) (cap : Nat) (l : List UInt8) (h : RBy W ad l) (hl : l.length ≤ 100000) (n : Nat) (c : UInt8) (hn : n = c.toNat) :
    Calls Tryd.prog 22 #[.slice ad l.length cap, .int .u8 n] W fun e w' => e = .returned (.int .i64 (lastZ l c)) ∧ w' = W := by
  have C := Lib.hid (baLastIdx_c W ad cap l h hl n c hn)
  obtain ⟨N, hN⟩ : ∃ N, l.length = N := ⟨_, rfl⟩
  obtain ⟨z, hz⟩ : ∃ z, lastZ l c = z := ⟨_, rfl⟩
  rw [hN, hz] at C
  rw [hN, hz]
  have hn9 : n < 256 := by rw [hn]; exact c.toNat_lt
  clear h hl hN hn hz
  go_enter Tryd.func22, Tryd.ntmps22
  go_wp2_with fail
  refine C.out.mono ?_
  rintro e w1 ⟨rfl, rfl⟩
  go_wp2_with fail
  go_ret
  exact ⟨rfl, rfl⟩

theorem Errs.lt {w : World} (h : Errs w) : 1 < w.heap.size ∧ 2 < w.heap.size := by
  obtain ⟨⟨t1, p1, h1⟩, t2, p2, h2⟩ := h
  exact ⟨cell_ltA h1, cell_ltA h2⟩
theorem word_f {s : RS} {w : List UInt8} (h : wordB s w = true) : (wordS s w).f = false := by unfold wordS; rw [if_pos h]
theorem word_ok {s : RS} {w : List UInt8} (h : wordB s w = true) : (wordS s w).Ok := fun hf => by rw [word_f h] at hf; cases hf
set_option maxRecDepth 100000 in
set_option maxHeartbeats 1000000 in
theorem feHeadOf_c (W : World) (b off cap : Nat) (l : List UInt8) (h : RBy W (some ⟨b, off, none⟩) l) (hl : l.length ≤ 100000) (hcap : l.length < cap) (hE : Errs W) :
    Calls Tryd.prog 16 #[.slice (some ⟨b, off, none⟩) l.length cap] W fun e w' => e = .returned (.tuple #[.int .u32 (headN l), .bool (headB l)]) ∧ Below W.heap.size W w' := by
  have C1 := Lib.hid (bLastIdx_c W (some ⟨b, off, none⟩) cap l h hl 123 123 rfl)
  have hI := lastI_Z l
  have hlt := lastI_lt l
  have hzz := lastZ_lt l 123
  have HCV : Hid ((convert 22 9 (.slice (some ⟨b, off + lastI l, none⟩) (l.length - lastI l) (cap - lastI l))).run Tryd.prog W = .ok (.string (txt (l.drop (lastI l)))) W) := by
    have hlen : (l.drop (lastI l)).length = l.length - lastI l := by simp
    have := run_convert_bytes_back (P := Tryd.prog) W 22 9 5 ⟨b, off + lastI l, none⟩ (cap - lastI l) (l.drop (lastI l)) Tryd.underlying22 Tryd.underlying5 Tryd.underlying9 (fun j hj => by
      rw [hlen] at hj
      obtain ⟨b', off', e1, h2, h3⟩ := h (lastI l + j) _ (List.getElem?_eq_getElem (by omega))
      cases e1
      rw [Addr.add_lit, Nat.add_assoc, h3, List.getElem_drop])
    rw [hlen] at this
    exact this
  have R := Lib.hid (fun w => tkRead_c (l.drop (lastI l)) w)
  have hdl : (l.drop (lastI l)).length ≤ 100000 := by rw [List.length_drop]; omega
  have HHN : Hid (headN l = if wordB (hdS l) [123] then numN (hdS1 l) else 0) := rfl
  have HHB : Hid (headB l = (wordB (hdS l) [123] && hdB l)) := rfl
  have hS : hdS l = ⟨l.drop (lastI l), false⟩ := rfl
  have HS1 : Hid (hdS1 l = wordS (hdS l) [123]) := rfl
  have HS2 : Hid (hdS2 l = numS (hdS1 l)) := rfl
  have HB2 : Hid (hdB l = (wordB (hdS2 l) [125] && (!(wordS (hdS2 l) [125]).f && (wordS (hdS2 l) [125]).l.isEmpty))) := rfl
  have hl0 : (hdS l).l.length ≤ 100000 := hdl
  obtain ⟨N, hN⟩ : ∃ N, l.length = N := ⟨_, rfl⟩
  obtain ⟨I, hIe⟩ : ∃ I, lastI l = I := ⟨_, rfl⟩
  obtain ⟨z, hz⟩ : ∃ z, lastZ l 123 = z := ⟨_, rfl⟩
  obtain ⟨hn, hhn⟩ : ∃ x, headN l = x := ⟨_, rfl⟩
  obtain ⟨hbv, hhb⟩ : ∃ x, headB l = x := ⟨_, rfl⟩
  rw [hhn] at HHN
  rw [hhb] at HHB
  rw [hhn, hhb]
  obtain ⟨s0, hs0⟩ : ∃ x, hdS l = x := ⟨_, rfl⟩
  obtain ⟨s1, hs1⟩ : ∃ x, hdS1 l = x := ⟨_, rfl⟩
  obtain ⟨s2, hs2⟩ : ∃ x, hdS2 l = x := ⟨_, rfl⟩
  obtain ⟨b2, hb2⟩ : ∃ x, hdB l = x := ⟨_, rfl⟩
  rw [hs0, hs1] at HHN
  rw [hs0, hb2] at HHB
  rw [hs0] at hS HS1 hl0
  rw [hs1] at HS1 HS2
  rw [hs2] at HS2 HB2
  rw [hb2] at HB2
  obtain ⟨D, hD⟩ : ∃ x, l.drop (lastI l) = x := ⟨_, rfl⟩
  rw [hIe] at hD
  rw [hIe] at hI hlt HCV R hS
  rw [hD] at HCV R hS
  rw [hN] at C1 HCV hlt hcap hl hzz ⊢
  rw [hz] at C1 hI hzz
  obtain ⟨B, hB⟩ : ∃ B, txt D = B := ⟨_, rfl⟩
  rw [hB] at HCV R
  have HR : Hid (∀ w, Calls Tryd.prog 23 #[.string B] w fun e w' => e = .returned (pt w.heap.size) ∧ PR w' w.heap.size s0 ∧ Below w.heap.size w w') := by
    rw [hS]; exact R.out
  have hmx : max z 0 = (I : Int) := hI.symm
  have HE := Lib.hid hE
  have HL := Lib.hid hl0
  have HSF : Hid (s0.f = false) := by show _ = _; rw [hS]
  clear h hS hs0 hs1 hs2 hb2 hhn hhb hD hB hN hIe hz R hdl hl0 hE hI hzz
  have hq0 : (0 : Int) ≤ I := by omega
  have hq1 : (I : Int) ≤ N := by omega
  have hq2 : ¬ cap = I := by omega
  have hq3 : (N : Int) ≤ cap := by omega
  have hdb : 1 < W.heap.size ∧ 2 < W.heap.size := HE.out.lt
  have HDB := Lib.hid hdb
  clear hdb
  have e1 : txt [123] = ⟨#[123]⟩ := rfl
  have e2 : txt [125] = ⟨#[125]⟩ := rfl
  have HCW : Hid (∀ w g, PR w g s0 → Calls Tryd.prog 24 #[pt g, .string ⟨#[123]⟩] w (Does w g (.bool (wordB s0 [123])) s1)) := fun w g hp => by
    have := tkWord_c hp HL.out [123] (by decide)
    rw [e1, ← HS1.out] at this; exact this
  have hl1 : s1.l.length ≤ 100000 := by rw [HS1.out]; exact Nat.le_trans (word_le _ _) HL.out
  have hl2 : s2.l.length ≤ 100000 := by rw [HS2.out]; exact Nat.le_trans (num_le _) hl1
  obtain ⟨s3, hs3⟩ : ∃ s3, wordS s2 [125] = s3 := ⟨_, rfl⟩
  have HCX : Hid (∀ w g, PR w g s2 → Calls Tryd.prog 24 #[pt g, .string ⟨#[125]⟩] w (Does w g (.bool (wordB s2 [125])) s3)) := fun w g hp => by
    have := tkWord_c hp hl2 [125] (by decide)
    rw [e2, hs3] at this; exact this
  rw [hs3] at HB2
  have HL1 := Lib.hid hl1
  clear hl1 hl2 hs3 e1 e2
  cases hw0 : wordB s0 [123] with
  | false =>
    rw [hw0, if_neg (by simp)] at HHN
    rw [hw0, Bool.false_and] at HHB
    rw [hw0] at HCW
    clear hw0
    have hcv := HCV.out
    go_enter Tryd.func16, Tryd.ntmps16
    go_wp2_with fail
    refine C1.out.mono ?_
    rintro e w1 ⟨rfl, hw1⟩
    rw [hw1]
    clear hw1
    go_wp2_with fail
    refine (HR.out W).mono ?_
    rintro e w2 ⟨rfl, h1, hb1⟩
    have CW := Lib.hid (HCW.out _ _ h1)
    have HB1 := Lib.hid hb1
    have hlt1 := Cells.lt h1
    clear h1 hb1
    go_wp2_with fail
    refine CW.out.mono ?_
    rintro e w3 ⟨rfl, h3, h4⟩
    have HB3 := Lib.hid (HB1.out.trans (h4.below (Nat.le_refl _) (Nat.le_of_lt hlt1)))
    clear h3 h4
    go_wp2_with fail
    go_ret2
    exact ⟨by rw [HHN.out, HHB.out]; rfl, HB3.out⟩
  | true =>
    rw [hw0, if_pos rfl] at HHN
    rw [hw0, Bool.true_and] at HHB
    rw [hw0] at HCW
    have HOK1 : Hid s1.Ok := by
      have := word_ok hw0
      rw [← HS1.out] at this; exact this
    clear hw0
    have hcv := HCV.out
    go_enter Tryd.func16, Tryd.ntmps16
    go_wp2_with fail
    refine C1.out.mono ?_
    rintro e w1 ⟨rfl, hw1⟩
    rw [hw1]
    clear hw1
    go_wp2_with fail
    refine (HR.out W).mono ?_
    rintro e w2 ⟨rfl, h1, hb1⟩
    have CW := Lib.hid (HCW.out _ _ h1)
    have HB1 := Lib.hid hb1
    have hlt1 := Cells.lt h1
    have HER : Hid (Errs w2) := HE.out.below hb1
    have HAW : Hid (Away W.heap.size) := ⟨by have := HDB.out.1; omega, by have := HDB.out.2; omega⟩
    clear h1 hb1
    go_wp2_with fail
    refine CW.out.mono ?_
    rintro e w3 ⟨rfl, h3, h4⟩
    have CN := tkNumber_c h3 HOK1.out HL1.out (HER.out.tk h4 HAW.out) HAW.out
    rw [← HHN.out, ← HS2.out] at CN
    have CN := Lib.hid CN
    have T4 := Lib.hid h4
    clear h3 h4
    go_wp2_with fail
    refine CN.out.mono ?_
    rintro e w4 ⟨rfl, h5, h6⟩
    have CX := HCX.out _ _ h5
    have T6 := Lib.hid (T4.out.trans h6)
    clear h5 h6
    obtain ⟨bx, hbx⟩ : ∃ b, wordB s2 [125] = b := ⟨_, rfl⟩
    rw [hbx] at HB2 CX
    have CX := Lib.hid CX
    clear hbx
    cases bx with
    | false =>
      rw [Bool.false_and] at HB2
      go_wp2_with fail
      refine CX.out.mono ?_
      rintro e w5 ⟨rfl, h7, h8⟩
      have T8 := Lib.hid (T6.out.trans h8)
      clear h7 h8
      go_wp2_with fail
      go_ret2
      exact ⟨by rw [HHB.out, HB2.out]; rfl, HB1.out.trans (T8.out.below (Nat.le_refl _) (Nat.le_of_lt hlt1))⟩
    | true =>
      rw [Bool.true_and] at HB2
      go_wp2_with fail
      refine CX.out.mono ?_
      rintro e w5 ⟨rfl, h7, h8⟩
      have CE := tkEnd_c h7
      rw [← HB2.out, ← HHB.out] at CE
      have CE := Lib.hid CE
      have T8 := Lib.hid (T6.out.trans h8)
      clear h7 h8
      go_wp2_with fail
      refine CE.out.mono ?_
      rintro e w6 ⟨rfl, hw6⟩
      rw [hw6]
      clear hw6 w6
      go_wp2_with fail
      go_ret2
      exact ⟨rfl, HB1.out.trans (T8.out.below (Nat.le_refl _) (Nat.le_of_lt hlt1))⟩
end Go.Proofs.YtkmhdaalabhcbaaDoor

/-
  The law ListPlays: its walk.
-/
import Derived.Test.YtebkpejiloabnaaLsI
set_option linter.unusedVariables false
set_option linter.unusedSimpArgs false
namespace Go.Proofs.Ytebkpejiloabnaa
open Go Go.RowKit
variable {W W' : World} {v va vb : Value} {l now : List EL}

def codeR (R : Option (List EL)) : Int := match R with | none => 3 | some _ => 0
def listR (R : Option (List EL)) : List EL := match R with | none => [] | some m => m
theorem PlayP.row {R : Option (List EL)} {e : Ending} {w' : World} (h : PlayP W R e w') : ∃ v, e = .returned (.tuple #[v, .int .i64 (codeR R)]) ∧ EntRow w' v (listR R) ∧ Below W.heap.size W w' := by
  obtain ⟨hb, h⟩ := h
  cases R with
  | none => exact ⟨_, h, .inl ⟨rfl, rfl⟩, hb⟩
  | some m => obtain ⟨v, he, ho⟩ := h; exact ⟨v, he, RowK.of_own encE_len ho, hb⟩
theorem RPlayP.row {R : Option (List EL)} {e : Ending} {w' : World} (h : RPlayP W R e w') : ∃ v, e = .returned (.tuple #[v, .int .i64 (codeR R)]) ∧ EntRow w' v (listR R) ∧ Below W.heap.size W w' := by
  obtain ⟨hb, h⟩ := h
  cases R with
  | none => exact ⟨_, h, .inl ⟨rfl, rfl⟩, hb⟩
  | some m => obtain ⟨v, he, ho⟩ := h; exact ⟨v, he, RowK.of_own encE_len ho, hb⟩
theorem listR_len {ns : List NL} : (listR (playL l ns)).length ≤ l.length + 65536 * ns.length := by
  cases h : playL l ns with
  | none => simp [listR]
  | some m => exact playL_len _ _ _ h

set_option maxRecDepth 100000 in
set_option maxHeartbeats 16000000 in
theorem lplays_walk {ns : List NL} (hl : EntRow W va l) (hn : NoteRow W vb ns) (hbd : ∀ n ∈ ns, -9223372036854775808 ≤ n.seq ∧ n.seq ≤ 9223372036854775807) (u : Nat) :
    Calls Try.prog 4 #[va, vb, .int .u32 u] W fun e w' => e = .returned (.bool true) ∧ Below W.heap.size W w' := by
  obtain ⟨la, lc, rfl⟩ := hl.form
  obtain ⟨na, nc, rfl⟩ := hn.form
  obtain ⟨N, hN⟩ : ∃ N, l.length = N := ⟨_, rfl⟩
  obtain ⟨M, hM⟩ : ∃ M, ns.length = M := ⟨_, rfl⟩
  rw [hN] at hl ⊢
  rw [hM] at hn ⊢
  have HL := Lib.hid hl
  have HNS := Lib.hid hn
  have HN := Lib.hid hN
  have HM := Lib.hid hM
  have HBD := Lib.hid hbd
  clear hl hn hN hM hbd
  by_cases hM60 : 60 < M
  · have m1 : decide ((60 : Int) < (M : Int)) = true := decide_eq_true (by omega)
    have m1' : (60 : Int) < M := by omega
    go_enter Try.func4, Try.ntmps4
    go_wp2_with fail
    clear m1 m1'
    go_loopw [7, 8] (fun sv iv wr => ∃ k s : Nat, k ≤ 61 ∧ s ≤ k ∧ iv = .int .i64 k ∧ sv = .int .i64 s ∧ wr = W) (fun _ iv _ => 61 - (intOf iv).toNat)
    case atStart => exact ⟨0, 0, by omega, by omega, rfl, rfl, rfl⟩
    case round =>
      obtain ⟨k, s, hk, hs, rfl, rfl, hwr⟩ := hrel
      rw [hwr]
      clear hwr wr
      by_cases hlt : k < 61
      · have hq : (k : Int) < M := by omega
        have hq' : decide (k < M) = true := decide_eq_true (by omega)
        have hq0 : (0 : Int) ≤ k := by omega
        have hq1 : decide ((k : Int) ≤ 60) = true := decide_eq_true (by omega)
        have hq1' : decide (k ≤ 60) = true := decide_eq_true (by omega)
        obtain ⟨r, hr⟩ : ∃ r, ns[k]? = some r := ⟨_, List.getElem?_eq_getElem (by have := HM.out; omega)⟩
        obtain ⟨b, off, rfl, hbb, c0, c1, c2, c3⟩ := NoteRow.at HNS.out hr
        obtain ⟨⟨kd, sq, ⟨x, y⟩⟩, rfl⟩ : ∃ q : NL, q = r := ⟨_, rfl⟩
        dsimp only at c0 c1 c2 c3
        clear hr c2 c3
        by_cases k1 : kd = 1
        · subst k1
          by_cases k2 : 300 < sq
          · have e1 : decide ((300 : Int) < sq) = true := decide_eq_true k2
            by_cases k3 : sq < 70000
            · have e2 : decide (sq < (70000 : Int)) = true := decide_eq_true k3
              go_wp2_with fail
              go_roundw
              case rel => exact ⟨k + 1, s + 1, by omega, by omega, by go_num, by go_num, by first | rfl | trivial⟩
              case measure => simp [intOf]; omega
            · have e2 : decide (sq < (70000 : Int)) = false := decide_eq_false k3
              go_wp2_with fail
              go_roundw
              case rel => exact ⟨k + 1, s, by omega, by omega, by go_num, by rfl, by first | rfl | trivial⟩
              case measure => simp [intOf]; omega
          · have e1 : decide ((300 : Int) < sq) = false := decide_eq_false k2
            go_wp2_with fail
            go_roundw
            case rel => exact ⟨k + 1, s, by omega, by omega, by go_num, by rfl, by first | rfl | trivial⟩
            case measure => simp [intOf]; omega
        · have e0 : (kd == 1) = false := by rw [beq_eq_false_iff_ne]; exact k1
          clear k1
          go_wp2_with fail
          go_roundw
          case rel => exact ⟨k + 1, s, by omega, by omega, by go_num, by rfl, by first | rfl | trivial⟩
          case measure => simp [intOf]; omega
      · obtain rfl : k = 61 := by omega
        have m1 : decide ((60 : Int) < (M : Int)) = true := decide_eq_true (by omega)
        have m1' : (60 : Int) < M := by omega
        by_cases hM61 : 61 < M
        · have hq : ((61 : Nat) : Int) < M := by omega
          have hq' : decide (61 < M) = true := decide_eq_true (by omega)
          have hq2 : decide ((61 : Int) < (M : Int)) = true := decide_eq_true (by omega)
          by_cases h80 : 80 < N
          · have d1 : decide ((80 : Int) < (N : Int)) = true := decide_eq_true (by omega)
            have d1' : (80 : Int) < N := by omega
            go_wp2_with fail
            go_ret
            exact ⟨rfl, Below.refl _ _⟩
          · have d1 : decide ((80 : Int) < (N : Int)) = false := decide_eq_false (by omega)
            have d1' : ¬ (80 : Int) < N := by omega
            go_wp2_with fail
            go_ret
            exact ⟨rfl, Below.refl _ _⟩
        · have hq : ¬ ((61 : Nat) : Int) < M := by omega
          have hq' : decide (61 < M) = false := decide_eq_false (by omega)
          have hq2 : decide ((61 : Int) < (M : Int)) = false := decide_eq_false (by omega)
          by_cases h80 : 80 < N
          · have d1 : decide ((80 : Int) < (N : Int)) = true := decide_eq_true (by omega)
            have d1' : (80 : Int) < N := by omega
            go_wp2_with fail
            go_ret
            exact ⟨rfl, Below.refl _ _⟩
          · have d1 : decide ((80 : Int) < (N : Int)) = false := decide_eq_false (by omega)
            have d1' : ¬ (80 : Int) < N := by omega
            go_wp2_with fail
            go_ret
            exact ⟨rfl, Below.refl _ _⟩
  · have m1 : decide ((60 : Int) < (M : Int)) = false := decide_eq_false (by omega)
    have m1' : ¬ (60 : Int) < M := by omega
    go_enter Try.func4, Try.ntmps4
    go_wp2_with fail
    go_loopw [7, 8] (fun sv iv wr => ∃ k s : Nat, k ≤ M ∧ s ≤ k ∧ iv = .int .i64 k ∧ sv = .int .i64 s ∧ wr = W) (fun _ iv _ => M - (intOf iv).toNat)
    case atStart => exact ⟨0, 0, by omega, by omega, rfl, rfl, rfl⟩
    case round =>
      obtain ⟨k, s, hk, hs, rfl, rfl, hwr⟩ := hrel
      rw [hwr]
      clear hwr wr
      by_cases hlt : k < M
      · have hq : (k : Int) < M := by omega
        have hq' : decide (k < M) = true := decide_eq_true (by omega)
        have hq0 : (0 : Int) ≤ k := by omega
        have hq1 : decide ((k : Int) ≤ 60) = true := decide_eq_true (by omega)
        have hq1' : decide (k ≤ 60) = true := decide_eq_true (by omega)
        clear m1 m1'
        obtain ⟨r, hr⟩ : ∃ r, ns[k]? = some r := ⟨_, List.getElem?_eq_getElem (by have := HM.out; omega)⟩
        obtain ⟨b, off, rfl, hbb, c0, c1, c2, c3⟩ := NoteRow.at HNS.out hr
        obtain ⟨⟨kd, sq, ⟨x, y⟩⟩, rfl⟩ : ∃ q : NL, q = r := ⟨_, rfl⟩
        dsimp only at c0 c1 c2 c3
        clear hr c2 c3
        by_cases k1 : kd = 1
        · subst k1
          by_cases k2 : 300 < sq
          · have e1 : decide ((300 : Int) < sq) = true := decide_eq_true k2
            by_cases k3 : sq < 70000
            · have e2 : decide (sq < (70000 : Int)) = true := decide_eq_true k3
              go_wp2_with fail
              go_roundw
              case rel => exact ⟨k + 1, s + 1, by omega, by omega, by go_num, by go_num, by first | rfl | trivial⟩
              case measure => simp [intOf]; omega
            · have e2 : decide (sq < (70000 : Int)) = false := decide_eq_false k3
              go_wp2_with fail
              go_roundw
              case rel => exact ⟨k + 1, s, by omega, by omega, by go_num, by rfl, by first | rfl | trivial⟩
              case measure => simp [intOf]; omega
          · have e1 : decide ((300 : Int) < sq) = false := decide_eq_false k2
            go_wp2_with fail
            go_roundw
            case rel => exact ⟨k + 1, s, by omega, by omega, by go_num, by rfl, by first | rfl | trivial⟩
            case measure => simp [intOf]; omega
        · have e0 : (kd == 1) = false := by rw [beq_eq_false_iff_ne]; exact k1
          clear k1
          go_wp2_with fail
          go_roundw
          case rel => exact ⟨k + 1, s, by omega, by omega, by go_num, by rfl, by first | rfl | trivial⟩
          case measure => simp [intOf]; omega
      · obtain rfl : k = M := by omega
        have hq : ¬ (k : Int) < k := by omega
        by_cases h80 : 80 < N
        · have d1 : decide ((80 : Int) < (N : Int)) = true := decide_eq_true (by omega)
          have d1' : (80 : Int) < N := by omega
          go_wp2_with fail
          go_ret
          exact ⟨rfl, Below.refl _ _⟩
        · have d1 : decide ((80 : Int) < (N : Int)) = false := decide_eq_false (by omega)
          have d1' : ¬ (80 : Int) < N := by omega
          by_cases hs2 : 2 < s
          · have d2 : decide ((2 : Int) < (s : Int)) = true := decide_eq_true (by omega)
            have d2' : (2 : Int) < s := by omega
            go_wp2_with fail
            go_ret
            exact ⟨rfl, Below.refl _ _⟩
          · have d2 : decide ((2 : Int) < (s : Int)) = false := decide_eq_false (by omega)
            have d2' : ¬ (2 : Int) < s := by omega
            have hN9 : N ≤ 80 := by omega
            have hM9 : k ≤ 60 := by omega
            have C1 := own11_c (by have := HN.out; omega) HL.out
            have C1 := Lib.hid C1
            clear hs2 h80 hM60
            go_wp2_with fail
            refine C1.out.mono ?_
            rintro e w1 ⟨xv, rfl, ho1, hb1⟩
            have HB1 := Lib.hid hb1
            have HX1 : Hid (EntRow w1 xv l) := RowK.of_own encE_len ho1
            have C2 := Lib.hid (notes11_c (by have := HM.out; omega) (HNS.out.below hb1))
            clear ho1 hb1 C1 m1 m1' d1 d1' d2 d2'
            go_wp2_with fail
            refine C2.out.mono ?_
            rintro e w2 ⟨nv, rfl, ho2, hb2⟩
            have HB2 := Lib.hid (HB1.out.trans (hb2.mono HB1.out.size))
            have hn2 : NoteRow w2 nv ns := RowK.of_own encN_len ho2
            have HX2 := Lib.hid (HX1.out.below hb2)
            have C3 := Lib.hid (lPlay_c HX2.out hn2 HBD.out (by have := HN.out; have := HM.out; omega))
            clear ho2 hb2 hn2 C2 HB1 HX1
            go_wp2_with fail
            refine C3.out.mono ?_
            rintro e w3 h3
            obtain ⟨mv, rfl, hm3, hb3⟩ := PlayP.row h3
            have HB3 := Lib.hid (HB2.out.trans (hb3.mono HB2.out.size))
            have HX3 := Lib.hid (HX2.out.below hb3)
            have HM3 := Lib.hid hm3
            have hR9 : (listR (playL l ns)).length ≤ 5000000 := by have := listR_len (l := l) (ns := ns); have := HN.out; have := HM.out; omega
            have HR9 := Lib.hid hR9
            have C4 := Lib.hid (rPlay_c (HL.out.below HB3.out) (HNS.out.below HB3.out) HBD.out (by have := HN.out; have := HM.out; omega))
            obtain ⟨cd, hcd⟩ : ∃ cd, codeR (playL l ns) = cd := ⟨_, rfl⟩
            rw [hcd]
            have HCD := Lib.hid hcd
            clear h3 hm3 hb3 hR9 C3 HB2 HX2 hcd
            go_wp2_with fail
            refine C4.out.mono ?_
            rintro e w4 h4
            obtain ⟨wv, rfl, hw4, hb4⟩ := RPlayP.row h4
            rw [HCD.out]
            have HB4 := Lib.hid (HB3.out.trans (hb4.mono HB3.out.size))
            have HX4 := Lib.hid (HX3.out.below hb4)
            have HM4 := Lib.hid (HM3.out.below hb4)
            have HW4 := Lib.hid hw4
            have C5 := Lib.hid (back11_c (Nat.le_trans HR9.out (by omega)) HM4.out)
            clear h4 hw4 hb4 C4 HB3 HX3 HM3
            have hlast : ∀ W', Below W.heap.size W W' → True := fun _ _ => trivial
            clear hlast
            have hge := findI_ge l u
            rw [HN.out] at hge
            obtain ⟨fi, hfi⟩ : ∃ fi, findI l u = fi := ⟨_, rfl⟩
            rw [hfi] at hge
            obtain ⟨g1, g2⟩ := hge
            have g3 : fi + 1 ≤ 9223372036854775807 := by omega
            have g4 : ((fi + 1) == (fi + 1)) = true := by rw [beq_iff_eq]
            have HFI := Lib.hid hfi
            obtain ⟨ls, hls⟩ : ∃ ls, lastE l = ls := ⟨_, rfl⟩
            have HLS := Lib.hid hls
            have g5 : ((ls : Int) == (ls : Int)) = true := by rw [beq_iff_eq]
            have g6 : (cd == cd) = true := by rw [beq_iff_eq]
            clear hfi hls
            by_cases hN0 : N = 0
            · have z1 : decide ((0 : Int) < (N : Int)) = false := decide_eq_false (by omega)
              have z2 : decide (0 < N) = false := decide_eq_false (by omega)
              have z3 : ¬ 0 < N := by omega
              have hl0 : ls = 0 := by rw [← HLS.out, List.length_eq_zero_iff.1 (HN.out.trans hN0)]; rfl
              clear hN0
              go_wp2_with fail
              have HL0 := Lib.hid hl0
              clear z1 z2 z3
              refine C5.out.mono ?_
              rintro e w5 ⟨bv, rfl, ho5, hb5⟩
              have HB5 := Lib.hid (HB4.out.trans (hb5.mono HB4.out.size))
              have hbv : EntRow w5 bv (listR (playL l ns)) := RowK.of_own encE_len ho5
              have C6 := Lib.hid (rSame11_c hbv (HW4.out.below hb5) (Nat.le_trans HR9.out (by omega)))
              have HX5 := Lib.hid (HX4.out.below hb5)
              clear ho5 hb5 hbv C5 HB4 HX4 HM4 HW4
              go_wp2_with fail
              refine C6.out.mono ?_
              rintro e w6 ⟨rfl, hb6⟩
              have HB6 := Lib.hid (HB5.out.trans (hb6.mono HB5.out.size))
              have HX6 := Lib.hid (HX5.out.below hb6)
              have C7 := Lib.hid (back11_c (by have := HN.out; omega) HX6.out)
              clear hb6 C6 HB5 HX5
              go_wp2_with fail
              refine C7.out.mono ?_
              rintro e w7 ⟨b7, rfl, ho7, hb7⟩
              have HB7 := Lib.hid (HB6.out.trans (hb7.mono HB6.out.size))
              have HX7 := Lib.hid (HX6.out.below hb7)
              have h7 : EntRow w7 b7 l := RowK.of_own encE_len ho7
              have C8 := Lib.hid (rSame11_c h7 (HL.out.below HB7.out) (by have := HN.out; omega))
              clear ho7 hb7 h7 C7 HB6 HX6
              go_wp2_with fail
              refine C8.out.mono ?_
              rintro e w8 ⟨rfl, hb8⟩
              have HB8 := Lib.hid (HB7.out.trans (hb8.mono HB7.out.size))
              have HX8 := Lib.hid (HX7.out.below hb8)
              have C9 := lSeq_c HX8.out u (by have := HN.out; omega)
              rw [HFI.out] at C9
              have C9 := Lib.hid C9
              clear hb8 C8 HB7 HX7
              go_wp2_with fail
              refine C9.out.mono ?_
              rintro e w9 ⟨rfl, hb9⟩
              have HB9 := Lib.hid (HB8.out.trans (hb9.mono HB8.out.size))
              have HX9 := Lib.hid (HX8.out.below hb9)
              have CA := rFind11_c (HL.out.below HB9.out) u (by have := HN.out; omega)
              rw [HFI.out] at CA
              have CA := Lib.hid CA
              clear hb9 C9 HB8 HX8
              go_wp2_with fail
              refine CA.out.mono ?_
              rintro e wA ⟨rfl, hwA⟩
              rw [hwA]
              clear hwA CA wA
              have CB := lLast_c HX9.out (by have := HN.out; omega)
              rw [HLS.out] at CB
              have CB := Lib.hid CB
              go_wp2_with fail
              refine CB.out.mono ?_
              rintro e wB ⟨rfl, hwB⟩
              rw [hwB]
              clear hwB CB wB
              rw [HL0.out]
              clear g5
              have CC := Lib.hid (awake11_c w9)
              go_wp2_with fail
              refine CC.out.mono ?_
              rintro e wC ⟨rfl, hbC⟩
              have HBC := Lib.hid (HB9.out.trans (hbC.mono HB9.out.size))
              clear hbC CC
              go_wp2_with fail
              go_ret
              exact ⟨rfl, HBC.out⟩
            · have z1 : decide ((0 : Int) < (N : Int)) = true := decide_eq_true (by omega)
              have z2 : decide (0 < N) = true := decide_eq_true (by omega)
              have z3 : 0 < N := by omega
              have p1 : (0 : Int) ≤ (N : Int) - 1 := by omega
              have p2 : (N : Int) - 1 < N := by omega
              obtain ⟨z, hz⟩ : ∃ z, l[N - 1]? = some z := ⟨_, List.getElem?_eq_getElem (by have := HN.out; omega)⟩
              obtain ⟨b, off, rfl, hbb, c0, c1⟩ := EntRow.at (HL.out.below HB4.out) hz
              have hzl : ls = z.uid := by rw [← HLS.out]; unfold lastE; rw [List.getLast?_eq_getElem?, HN.out, hz]
              rw [← hzl] at c0
              clear hN0 hz hzl c1
              go_wp2_with fail
              clear c0 z1 z2 z3 p1 p2
              refine C5.out.mono ?_
              rintro e w5 ⟨bv, rfl, ho5, hb5⟩
              have HB5 := Lib.hid (HB4.out.trans (hb5.mono HB4.out.size))
              have hbv : EntRow w5 bv (listR (playL l ns)) := RowK.of_own encE_len ho5
              have C6 := Lib.hid (rSame11_c hbv (HW4.out.below hb5) (Nat.le_trans HR9.out (by omega)))
              have HX5 := Lib.hid (HX4.out.below hb5)
              clear ho5 hb5 hbv C5 HB4 HX4 HM4 HW4
              go_wp2_with fail
              refine C6.out.mono ?_
              rintro e w6 ⟨rfl, hb6⟩
              have HB6 := Lib.hid (HB5.out.trans (hb6.mono HB5.out.size))
              have HX6 := Lib.hid (HX5.out.below hb6)
              have C7 := Lib.hid (back11_c (by have := HN.out; omega) HX6.out)
              clear hb6 C6 HB5 HX5
              go_wp2_with fail
              refine C7.out.mono ?_
              rintro e w7 ⟨b7, rfl, ho7, hb7⟩
              have HB7 := Lib.hid (HB6.out.trans (hb7.mono HB6.out.size))
              have HX7 := Lib.hid (HX6.out.below hb7)
              have h7 : EntRow w7 b7 l := RowK.of_own encE_len ho7
              have C8 := Lib.hid (rSame11_c h7 (HL.out.below HB7.out) (by have := HN.out; omega))
              clear ho7 hb7 h7 C7 HB6 HX6
              go_wp2_with fail
              refine C8.out.mono ?_
              rintro e w8 ⟨rfl, hb8⟩
              have HB8 := Lib.hid (HB7.out.trans (hb8.mono HB7.out.size))
              have HX8 := Lib.hid (HX7.out.below hb8)
              have C9 := lSeq_c HX8.out u (by have := HN.out; omega)
              rw [HFI.out] at C9
              have C9 := Lib.hid C9
              clear hb8 C8 HB7 HX7
              go_wp2_with fail
              refine C9.out.mono ?_
              rintro e w9 ⟨rfl, hb9⟩
              have HB9 := Lib.hid (HB8.out.trans (hb9.mono HB8.out.size))
              have HX9 := Lib.hid (HX8.out.below hb9)
              have CA := rFind11_c (HL.out.below HB9.out) u (by have := HN.out; omega)
              rw [HFI.out] at CA
              have CA := Lib.hid CA
              clear hb9 C9 HB8 HX8
              go_wp2_with fail
              refine CA.out.mono ?_
              rintro e wA ⟨rfl, hwA⟩
              rw [hwA]
              clear hwA CA wA
              have CB := lLast_c HX9.out (by have := HN.out; omega)
              rw [HLS.out] at CB
              have CB := Lib.hid CB
              go_wp2_with fail
              refine CB.out.mono ?_
              rintro e wB ⟨rfl, hwB⟩
              rw [hwB]
              clear hwB CB wB
              have CC := Lib.hid (awake11_c w9)
              go_wp2_with fail
              refine CC.out.mono ?_
              rintro e wC ⟨rfl, hbC⟩
              have HBC := Lib.hid (HB9.out.trans (hbC.mono HB9.out.size))
              clear hbC CC
              go_wp2_with fail
              go_ret
              exact ⟨rfl, HBC.out⟩
end Go.Proofs.Ytebkpejiloabnaa

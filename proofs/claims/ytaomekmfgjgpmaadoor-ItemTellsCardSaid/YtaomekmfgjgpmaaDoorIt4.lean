/-
  The document's answers for items: texts, tellings, orders; the program's orders; the chapter's example: contracts. MADE by wip/tools/mkIt4.py.
-/
import Derived.Test.YtaomekmfgjgpmaaDoorIt3
set_option linter.unusedVariables false
set_option linter.unusedSimpArgs false
namespace Go.Proofs.YtaomekmfgjgpmaaDoor
open Go Go.RowKit
theorem rem_bit (t k : Nat) : (((t : Int) / 2 ^ k).tmod 2 == 1) = bit t k := by
  unfold bit
  have e : ((t : Int) / 2 ^ k).tmod 2 = ((t / 2 ^ k % 2 : Nat) : Int) := by
    have : ((t : Int) / 2 ^ k) = ((t / 2 ^ k : Nat) : Int) := by simp
    rw [this, Int.tmod_eq_emod_of_nonneg (Int.natCast_nonneg _)]; simp
  rw [Bool.eq_iff_iff]
  simp only [beq_iff_eq]
  rw [e]; omega
theorem empty_of {A : ByteArray} {l : List UInt8} (h : A = txt l) : A.toList.isEmpty = l.isEmpty := isEmpty_txt h
abbrev askRow : Obj := .cells #[.string (txt (askN 0)), .string (txt (askN 1)), .string (txt (askN 2)), .string (txt (askN 3))] 9
theorem askRow_cell (w : World) {k : Nat} (hk : k < 4) : (w.alloc askRow).cell? ⟨w.heap.size, k, none⟩ = some (.string (txt (askN k))) := by
  obtain rfl | rfl | rfl | rfl := four hk
  all_goals (unfold World.cell?; rw [World.alloc_heap_new]; rfl)
theorem riNames_c (w : World) : Calls Tryd.prog 14 #[] w fun e w' => e = .returned (.slice (some ⟨w.heap.size, 0, none⟩) 4 4) ∧ w' = w.alloc askRow := by
  go_enter Tryd.func14, Tryd.ntmps14
  go_wp2_with fail
  go_ret
  exact ⟨rfl, rfl⟩
theorem brack (l : List UInt8) (A : ByteArray) (h : A = txt l) : (⟨#[40]⟩ : ByteArray) ++ A ++ ⟨#[41]⟩ = txt (40 :: (l ++ [41])) := by
  subst h; apply ByteArray.ext; simp [txt]
theorem join_step {T : Nat → List UInt8} {t k : Nat} {A : ByteArray} (hA : A = txt (joinF T (seqOf t k))) (hb : bit t k = true) (he : seqOf t k ≠ []) : (A ++ ⟨#[32]⟩) ++ txt (T k) = txt (joinF T (seqOf t (k + 1))) := by
  rw [seqOf_succ, if_pos hb, joinF_snoc, if_neg he, hA]
  apply ByteArray.ext; simp [txt]
theorem join_first {T : Nat → List UInt8} {t k : Nat} {A : ByteArray} (hA : A = txt (joinF T (seqOf t k))) (hb : bit t k = true) (he : seqOf t k = []) : A ++ txt (T k) = txt (joinF T (seqOf t (k + 1))) := by
  rw [seqOf_succ, if_pos hb, joinF_snoc, if_pos he, hA, he]
  apply ByteArray.ext; simp [txt, joinF_nil]
theorem join_same {T : Nat → List UInt8} {t k : Nat} {A : ByteArray} (hA : A = txt (joinF T (seqOf t k))) (hb : bit t k = false) : A = txt (joinF T (seqOf t (k + 1))) := by
  rw [seqOf_succ, hb]; exact hA
theorem pre_len (T : Nat → List UInt8) (hT : ∀ k, k < 4 → (T k).length ≤ 4000) (t : Nat) {k : Nat} (hk : k ≤ 4) : (joinF T (seqOf t k)).length ≤ 20000 :=
  joinF_len T (fun i hi => hT i (by have := (mem_seqOf hi).1; omega)) (by have := seqOf_len t k; omega)
set_option maxRecDepth 100000 in
set_option maxHeartbeats 2000000 in
theorem riText_c (t : Nat) (ht : t < 256) (w : World) : Calls Tryd.prog 5 #[.int .u8 t] w fun e w' => e = .returned (.string (txt (itemT askN t))) ∧ Below w.heap.size w w' := by
  obtain ⟨T, hTT⟩ : ∃ T, T = askN := ⟨_, rfl⟩
  have HTT := Lib.hid hTT
  rw [← hTT]
  have HT : Hid (∀ k, k < 4 → (T k).length ≤ 4000) := fun k _ => by rw [hTT]; exact (ask_len k).1
  have HNE : Hid (∀ k, T k ≠ []) := fun k => by rw [hTT]; exact (ask_len k).2
  have HNM := Lib.hid (fun w => riNames_c w)
  clear hTT ht
  go_enter Tryd.func5, Tryd.ntmps5
  go_wp2_with fail
  go_loopw [3, 4] (fun o i wr => ∃ (k : Nat) (A : ByteArray), k ≤ 4 ∧ i = .int .i64 k ∧ o = .string A ∧ Hid (A = txt (joinF T (seqOf t k))) ∧ Hid (Below w.heap.size w wr)) (fun _ i _ => 4 - (intOf i).toNat)
  case atStart => exact ⟨0, _, by omega, rfl, rfl, rfl, Below.refl _ _⟩
  case round =>
    obtain ⟨k, A, hk, rfl, rfl, HA, HB⟩ := hrel
    have hsz : A.size ≤ 20000 := by rw [HA.out, txt_size]; exact pre_len T HT.out t hk
    by_cases hlt : k < 4
    · have hq : (k : Int) < 4 := by omega
      have hq0 : (0 : Int) ≤ k := by omega
      have hb := rem_bit t k
      have hTk := HT.out k hlt
      have e1 := txt_size (T k)
      have hJ1 := join_step (T := T) (t := t) (k := k) HA.out
      have hJ2 := join_first (T := T) (t := t) (k := k) HA.out
      have hJ3 := join_same (T := T) (t := t) (k := k) HA.out
      have hls := HB.out.size
      have kc := askRow_cell wr hlt
      rw [← HTT.out] at kc
      obtain ⟨X, hX⟩ : ∃ X, txt (T k) = X := ⟨_, rfl⟩
      rw [hX] at e1 hJ1 hJ2 kc
      have hXs : X.size ≤ 4000 := by omega
      clear hX e1 hTk
      cases hbit : bit t k with
      | true =>
        rw [hbit] at hb
        by_cases he : seqOf t k = []
        · have e1 : A.toList.isEmpty = true := by rw [isEmpty_txt HA.out, he]; rfl
          have HN := Lib.hid (hJ2 hbit he)
          clear he hJ1 hJ2 hJ3 hbit
          go_wp2_with (first | (go_at_call 14; refine (HNM.out _).mono ?_; rintro e w' ⟨rfl, rfl⟩) | fail)
          go_roundw
          case rel => exact ⟨k + 1, _, by omega, by go_num, rfl, HN.out, HB.out.alloc hls _⟩
          case measure => simp [intOf]; omega
        · have e1 : A.toList.isEmpty = false := by rw [isEmpty_txt HA.out, List.isEmpty_eq_false_iff]; exact joinF_ne HNE.out he
          have HN := Lib.hid (hJ1 hbit he)
          clear he hJ1 hJ2 hJ3 hbit
          go_wp2_with (first | (go_at_call 14; refine (HNM.out _).mono ?_; rintro e w' ⟨rfl, rfl⟩) | fail)
          go_roundw
          case rel => exact ⟨k + 1, _, by omega, by go_num, rfl, HN.out, HB.out.alloc hls _⟩
          case measure => simp [intOf]; omega
      | false =>
        rw [hbit] at hb
        have HN := Lib.hid (hJ3 hbit)
        clear hJ1 hJ2 hJ3 hbit
        go_wp2_with fail
        go_roundw
        case rel => exact ⟨k + 1, A, by omega, by go_num, rfl, HN.out, HB⟩
        case measure => simp [intOf]; omega
    · obtain rfl : k = 4 := by omega
      have HQ := Lib.hid (brack (joinF T (seqOf t 4)) A HA.out)
      go_wp2_with fail
      go_ret
      exact ⟨by rw [show itemT T t = 40 :: (joinF T (seqOf t 4) ++ [41]) from rfl, ← HQ.out]; rfl, HB.out⟩
/-- The block of four texts that the document's telling holds. -/
def TelRow (w : World) (g : Nat) (T : Nat → List UInt8) : Prop := ∀ k, k < 4 → w.cell? ⟨g, k, none⟩ = some (.string (txt (T k)))
abbrev bUid : ByteArray := ⟨#[85, 73, 68, 32]⟩
set_option maxRecDepth 100000 in
set_option maxHeartbeats 4000000 in
theorem riTell_c {u f : Nat} {x : List UInt8} (hu : u ≤ 4294967295) (hf : f < 256) (hx : x.length ≤ 3000) (t : Nat) (ht : t < 256) (w : World) : Calls Tryd.prog 8 #[.int .u8 t, recV u f x] w fun e w' => e = .returned (.string (txt (itemT (telT u f x) t))) ∧ Below w.heap.size w w' := by
  obtain ⟨T, hTT⟩ : ∃ T, T = telT u f x := ⟨_, rfl⟩
  have HTT := Lib.hid hTT
  rw [← hTT]
  have HT : Hid (∀ k, k < 4 → (T k).length ≤ 4000) := fun k _ => by rw [hTT]; exact tel_len hu hx k
  have HNE : Hid (∀ k, T k ≠ []) := fun k => by rw [hTT]; unfold telT; have := (tol_len k).2; simp [this]
  have C1 := fun w => rnum_c x.length (by omega) w
  have C2 := fun w => rnum_c u hu w
  have C3 := fun w => rtext_c f hf w
  have ex := txt_size x
  have eN := txt_size (Lib.decDigits x.length)
  have eU := txt_size (Lib.decDigits u)
  have eF := txt_size (textOf f)
  have lN := dec_len9 9 x.length (by omega)
  have lU := dec_len9 9 u (by omega)
  have lF : (textOf f).length ≤ 60 := by have := joined_seq_le f (Nat.le_refl 5); unfold textOf; simp; omega
  have r0 : bUid ++ txt (Lib.decDigits u) = txt (T 0) := by rw [hTT]; apply ByteArray.ext; simp [txt, telT, tolN, valT]
  have r1 : (⟨#[70, 76, 65, 71, 83, 32]⟩ : ByteArray) ++ txt (textOf f) = txt (T 1) := by rw [hTT]; apply ByteArray.ext; simp [txt, telT, tolN, valT]
  have r2 : (⟨#[82, 70, 67, 56, 50, 50, 46, 83, 73, 90, 69, 32]⟩ : ByteArray) ++ txt (Lib.decDigits x.length) = txt (T 2) := by rw [hTT]; apply ByteArray.ext; simp [txt, telT, tolN, valT]
  have r3 : (((⟨#[66, 79, 68, 89, 91, 93, 32, 123]⟩ : ByteArray) ++ txt (Lib.decDigits x.length)) ++ ⟨#[125, 13, 10]⟩) ++ txt x = txt (T 3) := by rw [hTT]; apply ByteArray.ext; simp [txt, telT, tolN, valT]
  have hTri := Tri.new w 24 (.int .u32 u) (.int .u8 f) (.string (txt x))
  obtain ⟨N, hN⟩ : ∃ N, x.length = N := ⟨_, rfl⟩
  unfold recV
  rw [hN] at ex hx
  simp only [hN] at C1 eN lN r2 r3
  obtain ⟨X, hX⟩ : ∃ X, txt x = X := ⟨_, rfl⟩
  obtain ⟨D, hD⟩ : ∃ D, txt (Lib.decDigits N) = D := ⟨_, rfl⟩
  obtain ⟨U, hU⟩ : ∃ U, txt (Lib.decDigits u) = U := ⟨_, rfl⟩
  obtain ⟨F, hF⟩ : ∃ F, txt (textOf f) = F := ⟨_, rfl⟩
  rw [hX] at ex r3 hTri ⊢
  simp only [hD] at C1 eN r2 r3
  simp only [hU] at C2 eU r0
  simp only [hF] at C3 eF r1
  have n1 : ¬ (9223372036854775807 < 4 + U.size) := by omega
  have n2 : ¬ (9223372036854775807 < 6 + F.size) := by omega
  have n3 : ¬ (9223372036854775807 < 12 + D.size) := by omega
  have n4 : ¬ (9223372036854775807 < 8 + D.size) := by omega
  have n5 : ¬ (9223372036854775807 < 8 + D.size + 3) := by omega
  have n6 : ¬ (9223372036854775807 < 8 + D.size + 3 + X.size) := by omega
  have hwu : IntKind.u64.wrap (u : Int) = u := IntWalk.u64_in _ (by omega)
  have hwN : IntKind.u64.wrap (N : Int) = N := IntWalk.u64_in _ (by omega)
  have hXN : (X.size : Int) = N := by omega
  have C1 := Lib.hid C1
  have C2 := Lib.hid C2
  have C3 := Lib.hid C3
  have R0 := Lib.hid r0
  have R1 := Lib.hid r1
  have R2 := Lib.hid r2
  have R3 := Lib.hid r3
  have HTri := Lib.hid hTri
  obtain ⟨c0, c1, c2, _⟩ := hTri.cell
  have hB0 : Hid (Below w.heap.size w (w.alloc (.cells #[.int .u32 u, .int .u8 f, .string X] 24))) := (Below.refl _ _).alloc (Nat.le_refl _) _
  clear hN hX hD hU hF hTT eN eU eF lN lU lF r0 r1 r2 r3 hTri ex hx hu hf ht
  go_enter Tryd.func8, Tryd.ntmps8
  go_wp2_with (first | (go_at_call 24; refine (C1.out _).mono ?_; rintro e w1 ⟨rfl, hb⟩; have H1 := Lib.hid hb; clear hb) | fail)
  have HT1 := Lib.hid (HTri.out.below H1.out HTri.out.lt)
  have HB1 : Hid (Below w.heap.size w w1) := hB0.out.trans (H1.out.mono hB0.out.size)
  have hlt1 := HT1.out.lt
  clear c0 c1 c2
  obtain ⟨c0, c1, c2, _⟩ := HT1.out.cell
  go_region_held3 (fun w' => w'.cell? ⟨w.heap.size, 0, none⟩ = some (.int .u32 u) ∧ w'.cell? ⟨w.heap.size, 1, none⟩ = some (.int .u8 f) ∧ w'.cell? ⟨w.heap.size, 2, none⟩ = some (.string X))
    (first | exact ⟨c0, c1, c2⟩ | exact ⟨d0, d1, d2⟩ | exact ⟨g0, g1, g2⟩ | exact ⟨World.cell?_alloc_some _ _ _ _ g0, World.cell?_alloc_some _ _ _ _ g1, World.cell?_alloc_some _ _ _ _ g2⟩ | exact ⟨World.cell?_alloc_some _ _ _ _ d0, World.cell?_alloc_some _ _ _ _ d1, World.cell?_alloc_some _ _ _ _ d2⟩ | go_keep)
    (first
      | (go_at_call 24; refine (C2.out _).mono ?_; rintro e w2 ⟨rfl, hb2⟩; have HT2 := Lib.hid (show Tri w2 w.heap.size 24 (.int .u32 u) (.int .u8 f) (.string X) from Tri.below (by first | exact HT3.out | exact HT1.out) hb2 (by first | exact HT3.out.lt | exact HT1.out.lt)); obtain ⟨d0, d1, d2, _⟩ := HT2.out.cell; have HB2 : Hid (Below w.heap.size w w2) := (by first | exact HB3.out.trans (hb2.mono HB3.out.size) | exact HB1.out.drew.trans (hb2.mono HB1.out.size) | exact HB1.out.trans (hb2.mono HB1.out.size)); clear hb2)
      | (go_at_call 25; refine (C3.out _).mono ?_; rintro e w3 ⟨rfl, hb3⟩; have HT3 := Lib.hid (show Tri w3 w.heap.size 24 (.int .u32 u) (.int .u8 f) (.string X) from Tri.below (by first | exact HT2.out | exact HT1.out) hb3 (by first | exact HT2.out.lt | exact HT1.out.lt)); obtain ⟨g0, g1, g2, _⟩ := HT3.out.cell; have HB3 : Hid (Below w.heap.size w w3) := (by first | exact HB2.out.trans (hb3.mono HB2.out.size) | exact HB1.out.drew.trans (hb3.mono HB1.out.size) | exact HB1.out.trans (hb3.mono HB1.out.size)); clear hb3))
  all_goals
    first
    | (have HBz : Hid (Below w.heap.size w w3) := HB3
       obtain ⟨wz, hwz⟩ : ∃ wz, w3 = wz := ⟨_, rfl⟩
       rw [hwz]
       rw [hwz] at HBz)
    | (have HBz : Hid (Below w.heap.size w w2) := HB2
       obtain ⟨wz, hwz⟩ : ∃ wz, w2 = wz := ⟨_, rfl⟩
       rw [hwz]
       rw [hwz] at HBz)
    have hrow : ∀ k, k < 4 → (wz.alloc (.cells #[.string (bUid ++ U), .string (⟨#[70, 76, 65, 71, 83, 32]⟩ ++ F), .string (⟨#[82, 70, 67, 56, 50, 50, 46, 83, 73, 90, 69, 32]⟩ ++ D), .string (⟨#[66, 79, 68, 89, 91, 93, 32, 123]⟩ ++ D ++ ⟨#[125, 13, 10]⟩ ++ X)] 9)).cell? ⟨wz.heap.size, k, none⟩ = some (.string (txt (T k))) := by
      intro k hk
      unfold World.cell?
      rw [World.alloc_heap_new, R0.out, R1.out, R2.out, R3.out]
      obtain rfl | rfl | rfl | rfl := four hk
      all_goals rfl
    have HBr := Lib.hid (HBz.out.alloc HBz.out.size (.cells #[.string (bUid ++ U), .string (⟨#[70, 76, 65, 71, 83, 32]⟩ ++ F), .string (⟨#[82, 70, 67, 56, 50, 50, 46, 83, 73, 90, 69, 32]⟩ ++ D), .string (⟨#[66, 79, 68, 89, 91, 93, 32, 123]⟩ ++ D ++ ⟨#[125, 13, 10]⟩ ++ X)] 9))
    obtain ⟨gz, hgz⟩ : ∃ gz, wz.heap.size = gz := ⟨_, rfl⟩
    have HROW := Lib.hid hrow
    clear hrow
    show _
    obtain ⟨wr0, hwr0⟩ : ∃ wr0, wz.alloc (.cells #[.string (bUid ++ U), .string (⟨#[70, 76, 65, 71, 83, 32]⟩ ++ F), .string (⟨#[82, 70, 67, 56, 50, 50, 46, 83, 73, 90, 69, 32]⟩ ++ D), .string (⟨#[66, 79, 68, 89, 91, 93, 32, 123]⟩ ++ D ++ ⟨#[125, 13, 10]⟩ ++ X)] 9) = wr0 := ⟨_, rfl⟩
    rw [hwr0] at HROW HBr
    simp only [bUid] at hwr0
    rw [hwr0]
    rw [hgz] at HROW ⊢
    clear c0 c1 c2 d0 d1 d2 g0 g1 g2 hwr0 hgz
    go_wp2_with fail
    go_loopw [7, 8] (fun o i wr => ∃ (k : Nat) (A : ByteArray), k ≤ 4 ∧ i = .int .i64 k ∧ o = .string A ∧ Hid (A = txt (joinF T (seqOf t k))) ∧ Hid (wr = wr0)) (fun _ i _ => 4 - (intOf i).toNat)
    case atStart => exact ⟨0, _, by omega, rfl, rfl, rfl, rfl⟩
    case round =>
      obtain ⟨k, A, hk, rfl, rfl, HA, HB⟩ := hrel
      have hsz : A.size ≤ 20000 := by rw [HA.out, txt_size]; exact pre_len T HT.out t hk
      by_cases hlt : k < 4
      · have hq : (k : Int) < 4 := by omega
        have hq0 : (0 : Int) ≤ k := by omega
        have hb := rem_bit t k
        have hTk := HT.out k hlt
        have e1 := txt_size (T k)
        have hJ1 := join_step (T := T) (t := t) (k := k) HA.out
        have hJ2 := join_first (T := T) (t := t) (k := k) HA.out
        have hJ3 := join_same (T := T) (t := t) (k := k) HA.out
        have kc := HROW.out k hlt
        rw [← HB.out] at kc
        obtain ⟨X, hX⟩ : ∃ X, txt (T k) = X := ⟨_, rfl⟩
        rw [hX] at e1 hJ1 hJ2 kc
        have hXs : X.size ≤ 4000 := by omega
        clear hX e1 hTk
        cases hbit : bit t k with
        | true =>
          rw [hbit] at hb
          by_cases he : seqOf t k = []
          · have e1 : A.toList.isEmpty = true := by rw [isEmpty_txt HA.out, he]; rfl
            have HN := Lib.hid (hJ2 hbit he)
            clear he hJ1 hJ2 hJ3 hbit
            go_wp2_with (first | fail | fail)
            go_roundw
            case rel => exact ⟨k + 1, _, by omega, by go_num, rfl, HN.out, HB.out⟩
            case measure => simp [intOf]; omega
          · have e1 : A.toList.isEmpty = false := by rw [isEmpty_txt HA.out, List.isEmpty_eq_false_iff]; exact joinF_ne HNE.out he
            have HN := Lib.hid (hJ1 hbit he)
            clear he hJ1 hJ2 hJ3 hbit
            go_wp2_with (first | fail | fail)
            go_roundw
            case rel => exact ⟨k + 1, _, by omega, by go_num, rfl, HN.out, HB.out⟩
            case measure => simp [intOf]; omega
        | false =>
          rw [hbit] at hb
          have HN := Lib.hid (hJ3 hbit)
          clear hJ1 hJ2 hJ3 hbit
          go_wp2_with fail
          go_roundw
          case rel => exact ⟨k + 1, A, by omega, by go_num, rfl, HN.out, HB⟩
          case measure => simp [intOf]; omega
      · obtain rfl : k = 4 := by omega
        have HQ := Lib.hid (brack (joinF T (seqOf t 4)) A HA.out)
        go_wp2_with fail
        go_ret
        exact ⟨by rw [show itemT T t = 40 :: (joinF T (seqOf t 4) ++ [41]) from rfl, ← HQ.out]; rfl, by rw [HB.out]; exact HBr.out⟩
end Go.Proofs.YtaomekmfgjgpmaaDoor

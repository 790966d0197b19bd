/-
  The program's reader: words, blanks, rows of bytes: contracts.
-/
import Derived.Test.YtkmhdaalabhcbaaDoorTk3
set_option linter.unusedVariables false
set_option linter.unusedSimpArgs false
namespace Go.Proofs.YtkmhdaalabhcbaaDoor
open Go Go.RowKit
variable {W : World} {g : Nat} {s : RS}

theorem toList_txt (l : List UInt8) : (txt l).toList = l := by rw [ByteArray.toList_eq, data_txt]
theorem bne_txt {a b : List UInt8} (h : a ≠ b) : ((txt a).toList == (txt b).toList) = false := by rw [toList_txt, toList_txt, beq_eq_false_iff_ne]; exact h

set_option maxRecDepth 100000 in
set_option maxHeartbeats 1000000 in
theorem tkWord_c (h : PR W g s) (hl : s.l.length ≤ 100000) (x : List UInt8) (hx : x.length ≤ 100000) : Calls Tryd.prog 24 #[pt g, .string (txt x)] W (Does W g (.bool (wordB s x)) (wordS s x)) := by
  obtain ⟨c0, c1, hb, f0, f1⟩ := h.facts
  have H := Lib.hid h
  obtain ⟨l, f⟩ := s
  dsimp only at c0 c1 hl
  cases f with
  | true =>
    have hw : wordB ⟨l, true⟩ x = false := by simp [wordB]
    unfold wordS
    rw [hw]
    obtain ⟨B, hB⟩ : ∃ B, txt l = B := ⟨_, rfl⟩
    obtain ⟨X, hX⟩ : ∃ X, txt x = X := ⟨_, rfl⟩
    rw [hB] at c0
    rw [hX]
    clear h hw hB hX
    go_enter Tryd.func24, Tryd.ntmps24
    go_wp2_with fail
    go_ret
    exact ⟨rfl, H.out, Tk.refl _ _⟩
  | false =>
    have e1 := txt_size l
    have e2 := txt_size x
    obtain ⟨N, hN⟩ : ∃ N, l.length = N := ⟨_, rfl⟩
    obtain ⟨M, hM⟩ : ∃ M, x.length = M := ⟨_, rfl⟩
    by_cases hlt : N < M
    · have hw : wordB ⟨l, false⟩ x = false := by unfold wordB; dsimp only; rw [hN, hM]; simp; omega
      unfold wordS
      rw [hw]
      obtain ⟨B, hB⟩ : ∃ B, txt l = B := ⟨_, rfl⟩
      obtain ⟨X, hX⟩ : ∃ X, txt x = X := ⟨_, rfl⟩
      rw [hB] at c0 e1
      rw [hX] at e2 ⊢
      rw [hN] at e1
      rw [hM] at e2
      have q1 : (N : Int) < M := by omega
      clear h hw hB hX
      go_enter Tryd.func24, Tryd.ntmps24
      go_wp2_with fail
      go_ret
      exact ⟨rfl, H.out, Tk.refl _ _⟩
    · have hM9 : M ≤ 100000 := by omega
      have hN9 : N ≤ 100000 := by omega
      have q1 : ¬ (N : Int) < M := by omega
      have q2 : (M : Int) ≤ N := by omega
      have hex : (txt l).extract 0 M = txt (l.take M) := ext_take l
      have hed : (txt l).extract M N = txt (l.drop M) := ext_drop l hN.symm
      have C1 := fun w => tkUpper_c (l.take M) (by rw [List.length_take]; omega) w
      have C2 := fun w => tkUpper_c x hx w
      rw [← hex] at C1
      have HED := Lib.hid hed
      obtain ⟨B, hB⟩ : ∃ B, txt l = B := ⟨_, rfl⟩
      obtain ⟨X, hX⟩ : ∃ X, txt x = X := ⟨_, rfl⟩
      rw [hB] at c0 e1 C1 HED
      rw [hX] at e2 C2 ⊢
      rw [hN] at e1
      rw [hM] at e2
      have C1 := Lib.hid C1
      have C2 := Lib.hid C2
      have HBT := Lib.hid hB
      by_cases hup : (l.take M).map upB = x.map upB
      · have hw : wordB ⟨l, false⟩ x = true := by unfold wordB; dsimp only; rw [hN, hM, hup]; simp; omega
        have hS : wordS ⟨l, false⟩ x = ⟨l.drop M, false⟩ := by unfold wordS; rw [hw, hM]; rfl
        rw [hw, hS]
        rw [hup] at C1
        obtain ⟨Y, hY⟩ : ∃ Y, txt (x.map upB) = Y := ⟨_, rfl⟩
        rw [hY] at C1 C2
        have u0 : (Y.toList != Y.toList) = false := by simp
        clear h hw hB hX hN hM hS hex hed hup hY
        go_enter Tryd.func24, Tryd.ntmps24
        go_wp2_with fail
        refine (C1.out _).mono ?_
        rintro e w1 ⟨rfl, hb1⟩
        have HB1 := Lib.hid hb1
        clear hb1
        go_wp2_with fail
        refine (C2.out _).mono ?_
        rintro e w2 ⟨rfl, hb2⟩
        have hbb := HB1.out.trans (hb2.mono HB1.out.size)
        have hp2 := H.out.tk (Tk.of_below (g := g + 1) hbb) (by omega)
        obtain ⟨d0, d1, dd, g0, g1⟩ := hp2.facts
        rw [show txt (RS.mk l false).l = B from HBT.out] at d0
        have H2 := Lib.hid hp2
        have HBB := Lib.hid hbb
        clear hb2 hp2 hbb c0 c1 f0 f1
        go_wp2_with fail
        go_ret
        refine ⟨rfl, ?_, (Tk.of_below HBB.out).trans (Tk.set _ _ _)⟩
        have h3 := H2.out.set0 (l.drop M)
        rw [← HED.out] at h3
        exact h3
      · have hne : ((l.take M).map upB == x.map upB) = false := by rw [beq_eq_false_iff_ne]; exact hup
        have hw : wordB ⟨l, false⟩ x = false := by unfold wordB; dsimp only; rw [hM, hne]; simp
        have hS : wordS ⟨l, false⟩ x = ⟨l, false⟩ := by unfold wordS; rw [hw]; rfl
        rw [hw, hS]
        have u0 := bne_txt hup
        obtain ⟨Y, hY⟩ : ∃ Y, txt (x.map upB) = Y := ⟨_, rfl⟩
        obtain ⟨Z, hZ⟩ : ∃ Z, txt ((l.take M).map upB) = Z := ⟨_, rfl⟩
        rw [hY] at C2 u0
        rw [hZ] at C1 u0
        clear h hw hB hX hN hM hS hex hed hup hY hZ hne
        go_enter Tryd.func24, Tryd.ntmps24
        go_wp2_with fail
        refine (C1.out _).mono ?_
        rintro e w1 ⟨rfl, hb1⟩
        have HB1 := Lib.hid hb1
        clear hb1
        go_wp2_with fail
        refine (C2.out _).mono ?_
        rintro e w2 ⟨rfl, hb2⟩
        have hbb := HB1.out.trans (hb2.mono HB1.out.size)
        have HBB := Lib.hid hbb
        clear hb2 hbb
        go_wp2_with fail
        go_ret
        exact ⟨rfl, H.out.tk (Tk.of_below (g := g + 1) HBB.out) (by omega), Tk.of_below HBB.out⟩
/-! All bytes that are so. -/
theorem tw_step {p : UInt8 → Bool} : ∀ {l : List UInt8} {k : Nat}, k ≤ (l.takeWhile p).length → (hk : k < l.length) → (p l[k] = true → k + 1 ≤ (l.takeWhile p).length) ∧ (p l[k] = false → k = (l.takeWhile p).length)
  | c :: r, 0, _, _ => by
    rw [List.takeWhile_cons]
    refine ⟨fun h => ?_, fun h => ?_⟩
    · have h : p c = true := h
      rw [if_pos h]; simp
    · have h : p c = false := h
      rw [h]; rfl
  | c :: r, k + 1, h, hk => by
    rw [List.takeWhile_cons] at h ⊢
    by_cases hc : p c = true
    · rw [if_pos hc] at h ⊢
      have := tw_step (p := p) (l := r) (k := k) (by simpa using h) (by simpa using hk)
      simp only [List.getElem_cons_succ, List.length_cons]
      exact ⟨fun hp => by have := this.1 hp; omega, fun hp => by have := this.2 hp; omega⟩
    · rw [if_neg hc] at h; simp at h
theorem tw_end {p : UInt8 → Bool} {l : List UInt8} {k : Nat} (h : k ≤ (l.takeWhile p).length) (hk : ¬ k < l.length) : k = (l.takeWhile p).length := by
  have := (List.takeWhile_sublist (l := l) p).length_le; omega
theorem tw_take {p : UInt8 → Bool} (l : List UInt8) : l.take (l.takeWhile p).length = l.takeWhile p ∧ l.drop (l.takeWhile p).length = l.dropWhile p := by
  induction l with
  | nil => exact ⟨rfl, rfl⟩
  | cons c r ih =>
    rw [List.takeWhile_cons, List.dropWhile_cons]
    split
    · simp [ih.1, ih.2]
    · exact ⟨rfl, rfl⟩
theorem tw_le {p : UInt8 → Bool} (l : List UInt8) : (l.takeWhile p).length ≤ l.length := (List.takeWhile_sublist p).length_le
end Go.Proofs.YtkmhdaalabhcbaaDoor

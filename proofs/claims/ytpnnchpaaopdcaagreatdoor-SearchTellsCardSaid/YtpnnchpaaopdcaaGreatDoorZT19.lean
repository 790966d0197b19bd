/-
  slices.Clone at ranges and at keys: contracts.
-/
import Derived.Test.YtpnnchpaaopdcaaGreatDoorZT04
import Derived.Test.YtpnnchpaaopdcaaGreatDoorZT18
import Derived.OwnWalk
set_option linter.unusedVariables false
set_option linter.unusedSimpArgs false
namespace Go.Proofs.YtpnnchpaaopdcaaGreatDoor
open Go Go.RowKit
variable {W : World}
theorem addr_add9 (b off j : Nat) : (Addr.add ⟨b, off, none⟩ j) = ⟨b, off + j, none⟩ := by
  unfold Addr.add
  split
  · rename_i e; rw [e]; rfl
  · rfl
theorem pairs_news {ad : Addr} {l : List (Nat × Nat)} (h : PairsAt W (some ad) l) : ∀ j u, (cellsP l)[j]? = some u → W.cell? (ad.add j) = some u := by
  intro j u hj
  have hjl : j < l.length * 2 := by have := (List.getElem?_eq_some_iff.1 hj).1; rw [cellsP_len] at this; exact this
  have hk : j / 2 < l.length := by omega
  obtain ⟨b, off, e, hb, c0, c1⟩ := h (j / 2) l[j / 2] (List.getElem?_eq_getElem hk)
  cases e
  obtain ⟨e0, e1⟩ := cellsP_at hk
  rw [addr_add9]
  rcases Nat.mod_two_eq_zero_or_one j with hm | hm
  · have ej : j = j / 2 * 2 := by omega
    rw [ej, e0] at hj
    rw [ej, ← hj]
    exact c0
  · have ej : j = j / 2 * 2 + 1 := by omega
    rw [show (cellsP l)[j]? = (cellsP l)[j / 2 * 2 + 1]? from by rw [← ej], e1] at hj
    rw [show off + j = off + j / 2 * 2 + 1 by omega, ← hj]
    exact c1
theorem cellsP_one (l : List (Nat × Nat)) : ∀ u ∈ cellsP l, u.oneCell' = true := by
  intro u hu
  obtain ⟨x, _, hx⟩ := List.mem_flatMap.1 hu
  simp only [List.mem_cons, List.not_mem_nil, or_false] at hx
  rcases hx with rfl | rfl <;> rfl
theorem cellsK_len (l : List KT) : (cellsK l).length = l.length * 6 := by
  induction l with
  | nil => rfl
  | cons k r ih => rw [cellsK_cons, List.length_append, cells_six, ih, List.length_cons]; omega
theorem cellsK_one (l : List KT) : ∀ u ∈ cellsK l, u.oneCell' = true := by
  intro u hu
  obtain ⟨k, _, hx⟩ := List.mem_flatMap.1 hu
  cases k
  simp only [KT.cells, List.mem_cons, List.not_mem_nil, or_false] at hx
  rcases hx with rfl | rfl | rfl | rfl | rfl | rfl <;> rfl
theorem kids_news {ad : Addr} {l : List KT} (h : KidsC W l (some ad) 0) : ∀ j u, (cellsK l)[j]? = some u → W.cell? (ad.add j) = some u := by
  intro j u hj
  have hjl : j < l.length * 6 := by have := (List.getElem?_eq_some_iff.1 hj).1; rw [cellsK_len] at this; exact this
  have hk : j / 6 < l.length := by omega
  obtain ⟨b, off, e, hb, hc, _⟩ := KidsC.at l (some ad) 0 (j / 6) l[j / 6] h (List.getElem?_eq_getElem hk)
  cases e
  rw [addr_add9]
  have e6 := cellsK_at l (j / 6) (List.getElem?_eq_getElem hk) (j % 6) (by omega)
  rw [show j / 6 * 6 + j % 6 = j by omega, hj] at e6
  have := hc (j % 6) u e6.symm
  rw [show off + (0 + j / 6) * 6 + j % 6 = off + j by omega] at this
  exact this
set_option maxRecDepth 20000 in
set_option maxHeartbeats 800000 in
theorem cloneR_c (sp : Option Addr) (scap : Nat) (set : List (Nat × Nat)) (hs : set.length ≤ 1000) (W : World) (h : PairsAt W sp set) :
    Calls Tryz.prog 130 #[.slice sp set.length scap] W fun e w' => ∃ v', e = .returned v' ∧ w'.ownsRow W.heap.size 112 2 v' set.length (cellsP set) ∧ Below W.heap.size W w' := by
  obtain ⟨i0, hi0, hz0, hz1, hz2⟩ := info_parts infoR
  cases sp with
  | none =>
    have hl : set = [] := by
      cases set with
      | nil => rfl
      | cons x r => obtain ⟨b, off, e, _⟩ := h 0 x rfl; cases e
    subst hl
    have hq : ∀ W, (binOp .eql 34 (.slice none 0 scap) (.slice none 0 0)).run Tryz.prog W = .ok (.bool true) W := fun W => by kernel_rfl
    clear h
    show Calls Tryz.prog 130 #[.slice none 0 scap] W _
    go_enter Tryz.func130, Tryz.ntmps130
    go_wp2_with fail
    go_ret
    exact ⟨_, rfl, World.ownsRow_nil _ _ _ _, Below.refl _ _⟩
  | some ad =>
    have hn := pairs_news (h.below ((Below.refl W.heap.size W).alloc (Nat.le_refl _) (.cells #[] 112)))
    have hlen := cellsP_len set
    obtain ⟨N, hN⟩ : ∃ N, set.length = N := ⟨_, rfl⟩
    rw [hN] at hs hlen ⊢
    have ho : (W.alloc (.cells #[] 112)).ownsRow W.heap.size 112 2 (.slice (some ⟨W.heap.size, 0, none⟩) 0 0) 0 [] :=
      ⟨rfl, .inr ⟨_, 0, #[], rfl, Nat.le_refl _, heap_alloc_new _ _, by simp, by simp, by simp⟩⟩
    have HX := Lib.hid (cellsP_one set)
    have HLE := Lib.hid hlen
    have HNN := Lib.hid hn
    have hq : ∀ W, (binOp .eql 34 (.slice (some ad) N scap) (.slice none 0 0)).run Tryz.prog W = .ok (.bool false) W := fun W => by kernel_rfl
    clear h hn hlen hN
    go_enter Tryz.func130, Tryz.ntmps130
    go_wp2_with (at_builtin; refine wpList_append_own _ rfl (.tmp 5) (.tmp 6) 34 rfl W.heap.size 112 i0 (.agg #[.int .u32 0, .int .u32 0]) 2 8 Tryz.underlying34 hi0 hz0 hz1 hz2 rfl (by decide) _ _ _ rfl ho ad N scap (cellsP set) rfl HLE.out HNN.out HX.out (by unfold maxLen; omega) (by omega) (by simp) ?_)
    intro v' w' hown hgrow _
    go_wp2_with fail
    go_ret
    refine ⟨_, rfl, ?_, ((Below.refl W.heap.size W).alloc (Nat.le_refl _) _).grown hgrow (by simp) (fun q hq => ?_)⟩
    · exact hown
    · cases hq; exact Nat.le_refl _
set_option maxRecDepth 20000 in
set_option maxHeartbeats 800000 in
theorem cloneK_c (kp : Option Addr) (kcap : Nat) (kids : List KT) (hs : kids.length ≤ 1000) (W : World) (h : KidsC W kids kp 0) :
    Calls Tryz.prog 131 #[.slice kp kids.length kcap] W fun e w' => ∃ v', e = .returned v' ∧ w'.ownsRow W.heap.size 37 6 v' kids.length (cellsK kids) ∧ Below W.heap.size W w' := by
  obtain ⟨i0, hi0, hz0, hz1, hz2⟩ := info_parts Tryz.infoKey9
  cases kp with
  | none =>
    have hl : kids = [] := by
      cases kids with
      | nil => rfl
      | cons x r => obtain ⟨b, off, e, _⟩ := KidsC.at _ _ 0 0 x h rfl; cases e
    subst hl
    have hq : ∀ W, (binOp .eql 35 (.slice none 0 kcap) (.slice none 0 0)).run Tryz.prog W = .ok (.bool true) W := fun W => by kernel_rfl
    clear h
    show Calls Tryz.prog 131 #[.slice none 0 kcap] W _
    go_enter Tryz.func131, Tryz.ntmps131
    go_wp2_with fail
    go_ret
    exact ⟨_, rfl, World.ownsRow_nil _ _ _ _, Below.refl _ _⟩
  | some ad =>
    have hn := kids_news (KidsC.below ((Below.refl W.heap.size W).alloc (Nat.le_refl _) (.cells #[] 37)) _ _ _ h)
    have hlen := cellsK_len kids
    obtain ⟨N, hN⟩ : ∃ N, kids.length = N := ⟨_, rfl⟩
    rw [hN] at hs hlen ⊢
    have ho : (W.alloc (.cells #[] 37)).ownsRow W.heap.size 37 6 (.slice (some ⟨W.heap.size, 0, none⟩) 0 0) 0 [] :=
      ⟨rfl, .inr ⟨_, 0, #[], rfl, Nat.le_refl _, heap_alloc_new _ _, by simp, by simp, by simp⟩⟩
    have HX := Lib.hid (cellsK_one kids)
    have HLE := Lib.hid hlen
    have HNN := Lib.hid hn
    have hq : ∀ W, (binOp .eql 35 (.slice (some ad) N kcap) (.slice none 0 0)).run Tryz.prog W = .ok (.bool false) W := fun W => by kernel_rfl
    clear h hn hlen hN
    go_enter Tryz.func131, Tryz.ntmps131
    go_wp2_with (at_builtin; refine wpList_append_own _ rfl (.tmp 5) (.tmp 6) 35 rfl W.heap.size 37 i0 _ 6 88 Tryz.underlying35 hi0 hz0 hz1 hz2 rfl (by decide) _ _ _ rfl ho ad N kcap (cellsK kids) rfl HLE.out HNN.out HX.out (by unfold maxLen; omega) (by omega) (by simp) ?_)
    intro v' w' hown hgrow _
    go_wp2_with fail
    go_ret
    refine ⟨_, rfl, ?_, ((Below.refl W.heap.size W).alloc (Nat.le_refl _) _).grown hgrow (by simp) (fun q hq => ?_)⟩
    · exact hown
    · cases hq; exact Nat.le_refl _
end Go.Proofs.YtpnnchpaaopdcaaGreatDoor

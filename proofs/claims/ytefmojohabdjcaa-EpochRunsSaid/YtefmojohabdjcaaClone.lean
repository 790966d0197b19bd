/-
  Rows that are read, and slices.Clone.
-/
import Derived.Test.YtefmojohabdjcaaBase
import Derived.LoopTactic
import Derived.OwnWalk
set_option linter.unusedVariables false
set_option linter.unusedSimpArgs false
namespace Go.Proofs.Ytefmojohabdjcaa
open Go Go.RowKit

theorem infoInt : (Try.prog.info? 3).map (fun i => (i.zero, i.size, i.bytes)) = some (some (.int .i64 0), 1, 8) := by kernel_rfl
theorem infoPA : (Try.prog.info? 56).map (fun i => (i.zero, i.size, i.bytes)) = some (some (.pointer none), 1, 8) := by kernel_rfl

/-- A slice whose elements are these. -/
def RowAt (W : World) (v : Value) (xs : List Value) : Prop :=
  (v = .slice none 0 0 ∧ xs = []) ∨ ∃ ad cap, v = .slice (some ad) xs.length cap ∧ ∀ j u, xs[j]? = some u → ∃ b off, ad = ⟨b, off, none⟩ ∧ b < W.heap.size ∧ W.cell? ⟨b, off + j, none⟩ = some u
theorem RowAt.below {W W' : World} {v : Value} {xs : List Value} (h : RowAt W v xs) (hb : Below W.heap.size W W') : RowAt W' v xs := by
  rcases h with h | ⟨ad, cap, rfl, h⟩
  · exact .inl h
  · refine .inr ⟨ad, cap, rfl, fun j u hj => ?_⟩
    obtain ⟨b, off, rfl, hlt, hc⟩ := h j u hj
    exact ⟨b, off, rfl, Nat.lt_of_lt_of_le hlt hb.size, by rw [hb.cell (p := ⟨b, _, none⟩) hlt]; exact hc⟩
theorem RowAt.form {W : World} {v : Value} {xs : List Value} (h : RowAt W v xs) : ∃ ad cp, v = .slice ad xs.length cp := by
  rcases h with ⟨rfl, rfl⟩ | ⟨ad, cap, rfl, h⟩
  · exact ⟨none, 0, rfl⟩
  · exact ⟨_, _, rfl⟩
theorem RowAt.at {W : World} {ad : Option Addr} {n cp : Nat} {xs : List Value} (h : RowAt W (.slice ad n cp) xs) {j : Nat} {u : Value} (hj : xs[j]? = some u) :
    ∃ b off, ad = some ⟨b, off, none⟩ ∧ b < W.heap.size ∧ W.cell? ⟨b, off + j, none⟩ = some u := by
  rcases h with ⟨_, rfl⟩ | ⟨a, cap, h1, h⟩
  · simp at hj
  · cases h1
    obtain ⟨b, off, rfl, h2⟩ := h j u hj
    exact ⟨b, off, rfl, h2⟩
theorem RowAt.of_own {W : World} {B e n : Nat} {v : Value} {xs : List Value} (h : W.ownsRow B e 1 v n xs) (hn : xs.length = n) : RowAt W v xs := by
  subst hn
  rcases h.2 with ⟨rfl, h2⟩ | ⟨g, cap, cur, rfl, hg, hgg, rest⟩
  · exact .inl ⟨rfl, List.length_eq_zero_iff.1 h2⟩
  · refine .inr ⟨_, cap, rfl, fun j u hj => ⟨g, 0, rfl, (h.lt g rfl).2, ?_⟩⟩
    have hjl := (List.getElem?_eq_some_iff.1 hj).1
    rw [Nat.zero_add, h.cellAt j (by omega)]
    exact hj
theorem addr_add (b off j : Nat) : (Addr.add ⟨b, off, none⟩ j) = ⟨b, off + j, none⟩ := by
  unfold Addr.add
  split
  · rename_i e; rw [e]; rfl
  · rfl
theorem RowAt.news {W : World} {ad : Addr} {n cap : Nat} {xs : List Value} (h : RowAt W (.slice (some ad) n cap) xs) : ∀ j u, xs[j]? = some u → W.cell? (ad.add j) = some u := by
  intro j u hj
  obtain ⟨b, off, h1, _, hc⟩ := h.at hj
  cases h1
  rw [addr_add]; exact hc

set_option maxRecDepth 20000 in
set_option maxHeartbeats 800000 in
theorem cloneI_c (v : Value) (xs : List Value) (hx : ∀ u ∈ xs, u.oneCell' = true) (hl : xs.length ≤ 1000) (w : World) (h : RowAt w v xs) :
    Calls Try.prog 40 #[v] w fun e w' => ∃ v', e = .returned v' ∧ w'.ownsRow w.heap.size 3 1 v' xs.length xs ∧ Below w.heap.size w w' := by
  obtain ⟨i0, hi0, hz0, hz1, hz2⟩ := info_parts infoInt
  have hr := h
  rcases h with ⟨rfl, rfl⟩ | ⟨ad, cap, rfl, h⟩
  · have hq : ∀ W, (binOp .eql 23 (.slice none 0 0) (.slice none 0 0)).run Try.prog W = .ok (.bool true) W := fun W => by kernel_rfl
    go_enter Try.func40, Try.ntmps40
    go_wp2_with fail
    go_ret
    exact ⟨_, rfl, World.ownsRow_nil _ _ _ _, Below.refl _ _⟩
  · have hn := hr.news
    obtain ⟨N, hN⟩ : ∃ N, xs.length = N := ⟨_, rfl⟩
    rw [hN] at hl ⊢
    have ho : (w.alloc (.cells #[] 3)).ownsRow w.heap.size 3 1 (.slice (some ⟨w.heap.size, 0, none⟩) 0 0) 0 [] :=
      ⟨rfl, .inr ⟨_, 0, #[], rfl, Nat.le_refl _, heap_alloc_new _ _, by simp, by simp, by simp⟩⟩
    have hn2 : ∀ j u, xs[j]? = some u → (w.alloc (.cells #[] 3)).cell? (ad.add j) = some u := fun j u hj => by
      obtain ⟨b, off, rfl, hlt, hc⟩ := h j u hj
      have := ((Below.refl w.heap.size w).alloc (Nat.le_refl _) (.cells #[] 3)).cell (p := ⟨b, off + j, none⟩) hlt
      rw [addr_add, this]; exact hc
    have HX := Lib.hid hx
    have hq : ∀ W, (binOp .eql 23 (.slice (some ad) N cap) (.slice none 0 0)).run Try.prog W = .ok (.bool false) W := fun W => by kernel_rfl
    clear h hr hn hx
    go_enter Try.func40, Try.ntmps40
    go_wp2_with (at_builtin; refine wpList_append_own _ rfl (.tmp 5) (.tmp 6) 23 rfl w.heap.size 3 i0 (.int .i64 0) 1 8 Try.underlying23 hi0 hz0 hz1 hz2 rfl (by decide) _ _ _ rfl ho ad N cap xs rfl (by omega) hn2 HX.out (by unfold maxLen; omega) (by omega) (by simp) ?_)
    intro v' w' hown hgrow _
    go_wp2_with fail
    go_ret
    refine ⟨_, rfl, hown, ((Below.refl w.heap.size w).alloc (Nat.le_refl _) _).grown hgrow (by simp) (fun q hq => ?_)⟩
    cases hq; exact Nat.le_refl _
set_option maxRecDepth 20000 in
set_option maxHeartbeats 800000 in
theorem cloneA_c (v : Value) (xs : List Value) (hx : ∀ u ∈ xs, u.oneCell' = true) (hl : xs.length ≤ 1000) (w : World) (h : RowAt w v xs) :
    Calls Try.prog 41 #[v] w fun e w' => ∃ v', e = .returned v' ∧ w'.ownsRow w.heap.size 56 1 v' xs.length xs ∧ Below w.heap.size w w' := by
  obtain ⟨i0, hi0, hz0, hz1, hz2⟩ := info_parts infoPA
  have hr := h
  rcases h with ⟨rfl, rfl⟩ | ⟨ad, cap, rfl, h⟩
  · have hq : ∀ W, (binOp .eql 63 (.slice none 0 0) (.slice none 0 0)).run Try.prog W = .ok (.bool true) W := fun W => by kernel_rfl
    go_enter Try.func41, Try.ntmps41
    go_wp2_with fail
    go_ret
    exact ⟨_, rfl, World.ownsRow_nil _ _ _ _, Below.refl _ _⟩
  · have hn := hr.news
    obtain ⟨N, hN⟩ : ∃ N, xs.length = N := ⟨_, rfl⟩
    rw [hN] at hl ⊢
    have ho : (w.alloc (.cells #[] 56)).ownsRow w.heap.size 56 1 (.slice (some ⟨w.heap.size, 0, none⟩) 0 0) 0 [] :=
      ⟨rfl, .inr ⟨_, 0, #[], rfl, Nat.le_refl _, heap_alloc_new _ _, by simp, by simp, by simp⟩⟩
    have hn2 : ∀ j u, xs[j]? = some u → (w.alloc (.cells #[] 56)).cell? (ad.add j) = some u := fun j u hj => by
      obtain ⟨b, off, rfl, hlt, hc⟩ := h j u hj
      have := ((Below.refl w.heap.size w).alloc (Nat.le_refl _) (.cells #[] 56)).cell (p := ⟨b, off + j, none⟩) hlt
      rw [addr_add, this]; exact hc
    have HX := Lib.hid hx
    have hq : ∀ W, (binOp .eql 63 (.slice (some ad) N cap) (.slice none 0 0)).run Try.prog W = .ok (.bool false) W := fun W => by kernel_rfl
    clear h hr hn hx
    go_enter Try.func41, Try.ntmps41
    go_wp2_with (at_builtin; refine wpList_append_own _ rfl (.tmp 5) (.tmp 6) 63 rfl w.heap.size 56 i0 (.pointer none) 1 8 Try.underlying63 hi0 hz0 hz1 hz2 rfl (by decide) _ _ _ rfl ho ad N cap xs rfl (by omega) hn2 HX.out (by unfold maxLen; omega) (by omega) (by simp) ?_)
    intro v' w' hown hgrow _
    go_wp2_with fail
    go_ret
    refine ⟨_, rfl, hown, ((Below.refl w.heap.size w).alloc (Nat.le_refl _) _).grown hgrow (by simp) (fun q hq => ?_)⟩
    cases hq; exact Nat.le_refl _
end Go.Proofs.Ytefmojohabdjcaa

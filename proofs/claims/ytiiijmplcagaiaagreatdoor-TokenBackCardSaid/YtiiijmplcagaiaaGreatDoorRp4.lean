/-
  strings.Replacer: the bytes' replacer that is built of four texts: contract.
-/
import Derived.Test.YtiiijmplcagaiaaGreatDoorRp3
set_option linter.unusedVariables false
set_option linter.unusedSimpArgs false
namespace Go.Proofs.YtiiijmplcagaiaaGreatDoor
open Go Go.RowKit

abbrev sO1 : ByteArray := ⟨#[92]⟩
abbrev sN1 : ByteArray := ⟨#[92, 92]⟩
abbrev sO2 : ByteArray := ⟨#[34]⟩
abbrev sN2 : ByteArray := ⟨#[92, 34]⟩
/-- The four texts, as they lie. -/
structure OldAt (W : World) (q : Nat) : Prop where
  c0 : W.cell? ⟨q, 0, none⟩ = some (.string sO1)
  c1 : W.cell? ⟨q, 1, none⟩ = some (.string sN1)
  c2 : W.cell? ⟨q, 2, none⟩ = some (.string sO2)
  c3 : W.cell? ⟨q, 3, none⟩ = some (.string sN2)
  lt : q < W.heap.size
/-- The bytes' replacer, as it lies behind k rounds. -/
structure BsAt (W : World) (base rb : Nat) (f : Nat → Value) (tr : Value) (xs : List Value) : Prop where
  c : Cells W rb 93 (rplA f tr)
  o : W.ownsRow base 9 1 tr xs.length xs
theorem Tryz.infoStr : (Tryz.prog.info? 9).map (fun i => (i.zero, i.size, i.bytes)) = some (some (.string ⟨#[]⟩), 1, 16) := by kernel_rfl
theorem ne_blocks {W : World} {k l : Nat} {c c' : Array Value} {e e' : TypeId} {fz fz' : Nat × Nat} (h : W.heap[k]? = some (.cells c e fz)) (h' : W.heap[l]? = some (.cells c' e' fz')) (hne : e ≠ e') : k ≠ l := by
  intro hk
  subst hk
  rw [h] at h'
  cases h'
  exact hne rfl
theorem own_block {A : World} {base e size n : Nat} {v : Value} {xs : List Value} (h : A.ownsRow base e size v n xs) {k : Nat} (hk : v.ownBlock = some k) : ∃ cur, A.heap[k]? = some (.cells cur e (0, 0)) := by
  rcases h.2 with ⟨rfl, _⟩ | ⟨g, cap, cur, rfl, hg, hgg, rest⟩
  · cases hk
  · cases hk; exact ⟨cur, hgg⟩
theorem own_keep {A B : World} {base e size n : Nat} {v : Value} {xs : List Value} (h : A.ownsRow base e size v n xs) (hp : ∀ k, v.ownBlock = some k → B.heap[k]? = A.heap[k]?) : B.ownsRow base e size v n xs := by
  refine ⟨h.1, ?_⟩
  rcases h.2 with hn | ⟨g, cap, cur, rfl, hg, hgg, rest⟩
  · exact .inl hn
  · exact .inr ⟨g, cap, cur, rfl, hg, (hp g rfl).trans hgg, rest⟩
def putF (f : Nat → Value) (i : Nat) (v : Value) : Nat → Value := fun j => if j = i then v else f j


set_option maxRecDepth 100000 in
theorem keep34 {w4 : World} {base rb : Nat} {f : Nat → Value} {tr v' : Value} {n : Nat} {xs : List Value} (hc : Cells w4 rb 93 (rplA f tr)) (ho : w4.ownsRow base 9 1 v' n xs) (hbase : base ≤ rb) :
    ∃ w6 cp, (convert 9 37 (.string sN2)).run Tryz.prog (w4.setCell ⟨rb, 256, none⟩ v') = .ok (.slice (some ⟨w4.heap.size, 0, none⟩) 2 cp) w6 ∧ Cells w6 rb 93 (rplA f v') ∧
      Below base w4 w6 ∧ w6.ownsRow base 9 1 v' n xs ∧ BytesAt w6 w4.heap.size [92, 34] ∧ rb < w6.heap.size ∧ (∀ i, w6.frozen? ⟨rb, i, none⟩ = false) ∧ (∀ k, k < w4.heap.size → k ≠ rb → w6.heap[k]? = w4.heap[k]?) := by
  have hc5 := hc.set 256 v'
  rw [rplA_setEnd] at hc5
  obtain ⟨w5, hw5⟩ : ∃ w5, w4.setCell ⟨rb, 256, none⟩ v' = w5 := ⟨_, rfl⟩
  have hs5 : w5.heap.size = w4.heap.size := by rw [← hw5]; exact size_setCell _ _ _
  have hk5 : ∀ k, k ≠ rb → w5.heap[k]? = w4.heap[k]? := fun k hk => by rw [← hw5]; exact Below.heap_setCell w4 ⟨rb, 256, none⟩ _ k hk
  have hb5 : Below base w4 w5 := ⟨by rw [← hw5]; rfl, by rw [← hw5]; rfl, by rw [← hw5]; rfl, by rw [hs5]; exact Nat.le_refl _, fun k hk => hk5 k (by omega)⟩
  have hne : ∀ k, v'.ownBlock = some k → k ≠ rb := fun k hk => by
    obtain ⟨cur, hcur⟩ := own_block ho hk
    exact ne_blocks hcur hc (by decide)
  have ho5 : w5.ownsRow base 9 1 v' n xs := own_keep ho fun k hk => hk5 k (hne k hk)
  rw [hw5] at hc5 ⊢
  have hcv := Lib.run_convert_string_bytes (P := Tryz.prog) w5 9 37 5 sN2 Tryz.underlying9 Tryz.underlying37 Tryz.underlying5
  have hold : ∀ k, k < w5.heap.size → (Lib.bytesWorld w5 5 sN2).heap[k]? = w5.heap[k]? := fun k hk => Lib.bytesWorld_at_old w5 5 sN2 k hk
  have hb6 : Below w5.heap.size w5 (Lib.bytesWorld w5 5 sN2) := Joins.below_bytesWorld w5.heap.size w5 5 sN2 (Nat.le_refl _)
  have hbase5 : base ≤ w5.heap.size := by rw [hs5]; have := hc.lt; omega
  have hc6 : Cells (Lib.bytesWorld w5 5 sN2) rb 93 (rplA f v') := hc5.later (hold rb hc5.lt)
  rw [hs5] at hcv
  refine ⟨Lib.bytesWorld w5 5 sN2, _, hcv, hc6, hb5.trans (hb6.mono hbase5), own_keep ho5 fun k hk => hold k ?_, ?_, hc6.lt, fun i => hc6.frozen i, fun k hk hr => (hold k (by rw [hs5]; exact hk)).trans (hk5 k hr)⟩
  · obtain ⟨cur, hcur⟩ := own_block ho5 hk
    exact (Array.getElem?_eq_some_iff.1 hcur).1
  · have := BytesAt.new w5 [92, 34]
    rw [hs5] at this
    exact this

set_option maxRecDepth 100000 in
theorem keep92 {w4 : World} {base rb : Nat} {f : Nat → Value} {tr v' : Value} {n : Nat} {xs : List Value} (hc : Cells w4 rb 93 (rplA f tr)) (ho : w4.ownsRow base 9 1 v' n xs) (hbase : base ≤ rb) :
    ∃ w6 cp, (convert 9 37 (.string sN1)).run Tryz.prog (w4.setCell ⟨rb, 256, none⟩ v') = .ok (.slice (some ⟨w4.heap.size, 0, none⟩) 2 cp) w6 ∧ Cells w6 rb 93 (rplA f v') ∧
      Below base w4 w6 ∧ w6.ownsRow base 9 1 v' n xs ∧ BytesAt w6 w4.heap.size [92, 92] ∧ rb < w6.heap.size ∧ (∀ i, w6.frozen? ⟨rb, i, none⟩ = false) ∧ (∀ k, k < w4.heap.size → k ≠ rb → w6.heap[k]? = w4.heap[k]?) := by
  have hc5 := hc.set 256 v'
  rw [rplA_setEnd] at hc5
  obtain ⟨w5, hw5⟩ : ∃ w5, w4.setCell ⟨rb, 256, none⟩ v' = w5 := ⟨_, rfl⟩
  have hs5 : w5.heap.size = w4.heap.size := by rw [← hw5]; exact size_setCell _ _ _
  have hk5 : ∀ k, k ≠ rb → w5.heap[k]? = w4.heap[k]? := fun k hk => by rw [← hw5]; exact Below.heap_setCell w4 ⟨rb, 256, none⟩ _ k hk
  have hb5 : Below base w4 w5 := ⟨by rw [← hw5]; rfl, by rw [← hw5]; rfl, by rw [← hw5]; rfl, by rw [hs5]; exact Nat.le_refl _, fun k hk => hk5 k (by omega)⟩
  have hne : ∀ k, v'.ownBlock = some k → k ≠ rb := fun k hk => by
    obtain ⟨cur, hcur⟩ := own_block ho hk
    exact ne_blocks hcur hc (by decide)
  have ho5 : w5.ownsRow base 9 1 v' n xs := own_keep ho fun k hk => hk5 k (hne k hk)
  rw [hw5] at hc5 ⊢
  have hcv := Lib.run_convert_string_bytes (P := Tryz.prog) w5 9 37 5 sN1 Tryz.underlying9 Tryz.underlying37 Tryz.underlying5
  have hold : ∀ k, k < w5.heap.size → (Lib.bytesWorld w5 5 sN1).heap[k]? = w5.heap[k]? := fun k hk => Lib.bytesWorld_at_old w5 5 sN1 k hk
  have hb6 : Below w5.heap.size w5 (Lib.bytesWorld w5 5 sN1) := Joins.below_bytesWorld w5.heap.size w5 5 sN1 (Nat.le_refl _)
  have hbase5 : base ≤ w5.heap.size := by rw [hs5]; have := hc.lt; omega
  have hc6 : Cells (Lib.bytesWorld w5 5 sN1) rb 93 (rplA f v') := hc5.later (hold rb hc5.lt)
  rw [hs5] at hcv
  refine ⟨Lib.bytesWorld w5 5 sN1, _, hcv, hc6, hb5.trans (hb6.mono hbase5), own_keep ho5 fun k hk => hold k ?_, ?_, hc6.lt, fun i => hc6.frozen i, fun k hk hr => (hold k (by rw [hs5]; exact hk)).trans (hk5 k hr)⟩
  · obtain ⟨cur, hcur⟩ := own_block ho5 hk
    exact (Array.getElem?_eq_some_iff.1 hcur).1
  · have := BytesAt.new w5 [92, 92]
    rw [hs5] at this
    exact this
end Go.Proofs.YtiiijmplcagaiaaGreatDoor

/-
  act.Run, and the chain.
-/
import Derived.Test.YtpooieeeicffpaaChain
set_option linter.unusedVariables false
set_option linter.unusedSimpArgs false
namespace Go.Proofs.Ytpooieeeicffpaa
open Go Go.RowKit
attribute [local go_sem ↓] Go.wp_at_zero Go.wp_at_succ

set_option maxRecDepth 20000 in
set_option maxHeartbeats 1000000 in
theorem run_c (p : RP) (hp : ∀ i, p.n i ≤ 1000) (i : Nat) (hi : i < p.N) (hN : p.N ≤ 100) (hnext : Next p (i + 1)) (Q : Nat) (Ib S Bx : Nat) (W : World) (he : Env p W) (hc : Boxed W p.Cb 3 (.int .i64 i)) (hib : Boxed W Ib 3 (.int .i64 i)) (hne : Ib ≠ p.Cb)
    (ha : NewAct W S Bx (p.n i) i p.Lb 0) (hQ : Q ≤ Ib ∧ Q ≤ S ∧ Ib < Bx ∧ Q ≤ W.heap.size) :
    Calls Try.prog 22 #[pa S, fv 23 (p.cap11 Ib)] W fun e w' => ChPost p Q W i e w' := by
  -- the two boxes
  have b0 : Boxed ((W.alloc (.cells #[pa S] 26)).alloc (.cells #[fv 23 (p.cap11 Ib)] 41)) W.heap.size 26 (pa S) := (Boxed.new W 26 (pa S)).alloc _
  have b1 : Boxed ((W.alloc (.cells #[pa S] 26)).alloc (.cells #[fv 23 (p.cap11 Ib)] 41)) (W.heap.size + 1) 41 (fv 23 (p.cap11 Ib)) := by
    have := Boxed.new (W.alloc (.cells #[pa S] 26)) 41 (fv 23 (p.cap11 Ib))
    rw [World.size_alloc] at this; exact this
  have hb : Below W.heap.size W ((W.alloc (.cells #[pa S] 26)).alloc (.cells #[fv 23 (p.cap11 Ib)] 41)) := ((Below.refl _ _).alloc (Nat.le_refl _) _).alloc (by simp) _
  have hsz : ((W.alloc (.cells #[pa S] 26)).alloc (.cells #[fv 23 (p.cap11 Ib)] 41)).heap.size = W.heap.size + 2 := by simp
  rcases ha with ⟨h0, hA⟩ | ⟨h0, hA, hC⟩
  · -- an act that is over
    have C0 := Lib.hid (over_none S 0 _ (hA.below hb hA.lt))
    have C1 := Lib.hid (then_c p i (by omega) hnext Ib _ (he.only (OnlyC.of_below hb)) ((hb.block _ hc.lt).trans hc) ((hb.block _ hib.lt).trans hib) hne)
    have HB := Lib.hid hb
    have HZ := Lib.hid hsz
    have HQ := Lib.hid hQ
    have HN0 := Lib.hid h0
    have x0 := b0.cell
    have x1 := b1.cell
    clear he hc hib hA hb hsz hQ b0 b1 h0
    unfold pa fv at *
    go_enter Try.func22, Try.ntmps22
    go_wp2_with (go_at_call 16; refine C0.out.mono ?_; rintro e w' ⟨rfl, rfl⟩)
    refine C1.out.mono ?_
    rintro e w' ⟨v, i', rfl, h1, h2, h3, h4, h5, h6⟩
    clear x0 x1
    go_wp2_with fail
    go_ret
    refine ⟨v, i', rfl, by omega, h2, fun j hj hj2 => ?_, h4, (OnlyC.of_below HB.out).trans h5, h6.mono (by rw [HZ.out]; have := HQ.out; omega)⟩
    by_cases hji : j = i
    · subst hji; exact HN0.out
    · exact h3 j (by omega) hj2
  · have C0 := Lib.hid (over_some S 0 _ _ _ (hA.below hb hA.lt))
    have HB := Lib.hid hb
    have HZ := Lib.hid hsz
    have HQ := Lib.hid hQ
    have HN0 := Lib.hid h0
    have HA := Lib.hid hA
    have HCl := Lib.hid hC
    have HBi := Lib.hid hib
    have HBc := Lib.hid hc
    have x0 := b0.cell
    have B0 := Lib.hid b0
    have B1 := Lib.hid b1
    clear he hc hib hA hb hsz hQ b0 b1 h0 hC
    unfold pa fv at *
    go_enter Try.func22, Try.ntmps22
    go_wp2_with (go_at_call 16; refine C0.out.mono ?_; rintro e w' ⟨rfl, rfl⟩)
    go_ret
    obtain ⟨D, hD⟩ : ∃ D, W.heap.size = D := ⟨_, rfl⟩
    obtain ⟨W2, hW2⟩ : ∃ W2, (W.alloc (.cells #[.pointer (some ⟨S, 0, none⟩)] 26)).alloc (.cells #[.func (.func 23) #[] (p.cap11 Ib)] 41) = W2 := ⟨_, rfl⟩
    have b0 := B0.out
    have b1 := B1.out
    have hb := HB.out
    have hz := HZ.out
    rw [hW2] at b0 b1 hb hz ⊢
    rw [hD] at b0 b1 hb hz ⊢
    have hq := HQ.out
    rw [hD] at hq
    have k2 : Boxed ((W2.alloc (.cells #[.bool false] 4)).alloc (.cells #[fv 49 (capR (D + 1 + 1) D (D + 1 + 1 + 1) (D + 1))] 42)) (D + 1 + 1) 4 (.bool false) := by
      have := (Boxed.new W2 4 (.bool false)).alloc (.cells #[fv 49 (capR (D + 1 + 1) D (D + 1 + 1 + 1) (D + 1))] 42)
      rw [hz] at this; exact this
    have k3 : Boxed ((W2.alloc (.cells #[.bool false] 4)).alloc (.cells #[fv 49 (capR (D + 1 + 1) D (D + 1 + 1 + 1) (D + 1))] 42)) (D + 1 + 1 + 1) 42 (fv 49 (capR (D + 1 + 1) D (D + 1 + 1 + 1) (D + 1))) := by
      have := Boxed.new (W2.alloc (.cells #[.bool false] 4)) 42 (fv 49 (capR (D + 1 + 1) D (D + 1 + 1 + 1) (D + 1)))
      rw [World.size_alloc, hz] at this; exact this
    have hb4 : Below D W ((W2.alloc (.cells #[.bool false] 4)).alloc (.cells #[fv 49 (capR (D + 1 + 1) D (D + 1 + 1 + 1) (D + 1))] 42)) := (hb.alloc (by omega) _).alloc (by simp; omega) _
    have hlt : ∀ {k : Nat} {o : Obj}, W.heap[k]? = some o → k < D := fun h => by rw [← hD]; exact lt_of_block h
    refine ⟨_, i, rfl, Nat.le_refl _, by omega, fun j hj hj2 => by omega, (hb4.block _ (hlt HBc.out)).trans HBc.out, ⟨hb4.os, hb4.tape, hb4.output, hb4.size, fun k hk _ => hb4.block k (by omega)⟩, .inr ⟨hi, HN0.out, D + 1 + 1, D, D + 1 + 1 + 1, D + 1, Ib, S, Bx, rfl, ⟨k2, (b0.alloc _).alloc _, k3, (b1.alloc _).alloc _, (hb4.block _ (hlt HBi.out)).trans HBi.out, (hb4.block _ (hlt HA.out)).trans HA.out, ?_⟩, by omega⟩⟩
    exact HCl.out.later fun k hk => hb4.block k (by rcases hk with rfl | rfl | rfl; exact hlt HCl.out.b0; exact hlt HCl.out.b1; exact hlt HCl.out.b2)

set_option maxRecDepth 20000 in
set_option maxHeartbeats 1000000 in
theorem chain_end (p : RP) (W : World) (he : Env p W) (hc : Boxed W p.Cb 3 (.int .i64 p.N)) : Calls Try.prog 21 (#[.int .i64 p.N] ++ p.cap) W (fun e w' => ChPost p W.heap.size W p.N e w') := by
  have hb : Below W.heap.size W (W.alloc (.cells #[.int .i64 p.N] 3)) := (Below.refl _ _).alloc (Nat.le_refl _) _
  have x0 := he.nb.cell
  have x1 := he.nb.lt
  have HB := Lib.hid hb
  have HC : Hid (Boxed (W.alloc (.cells #[.int .i64 p.N] 3)) p.Cb 3 (.int .i64 p.N)) := hc.alloc _
  clear he hc hb
  unfold RP.cap
  go_enter Try.func21, Try.ntmps21
  go_wp2_with fail
  go_ret
  exact ⟨_, p.N, rfl, Nat.le_refl _, Nat.le_refl _, fun j hj hj2 => by omega, HC.out, OnlyC.of_below HB.out, .inl ⟨rfl, rfl⟩⟩

theorem only_cells {B : Nat} {a b : World} {D Nb g i : Nat} {u v x : Value} (h : OnlyC B a b) (hne : D ≠ B ∧ Nb ≠ B ∧ g ≠ B) (hc : a.cell? ⟨Nb, 0, none⟩ = some u ∧ a.cell? ⟨D, 0, none⟩ = some v ∧ a.cell? ⟨g, i, none⟩ = some x) :
    b.cell? ⟨Nb, 0, none⟩ = some u ∧ b.cell? ⟨D, 0, none⟩ = some v ∧ b.cell? ⟨g, i, none⟩ = some x := by
  have hk : ∀ {k o : Nat} {v : Value}, k ≠ B → a.cell? ⟨k, o, none⟩ = some v → b.cell? ⟨k, o, none⟩ = some v := fun {k o v} hk hc => by
    rw [World.cell?_of_block (w := a) (w' := b) (a := ⟨k, o, none⟩) (h.same k (by
      unfold World.cell? at hc
      apply Decidable.byContradiction
      intro hn
      rw [Array.getElem?_eq_none (by show a.heap.size ≤ k; omega)] at hc
      simp at hc) hk)]
    exact hc
  exact ⟨hk hne.2.1 hc.1, hk hne.1 hc.2.1, hk hne.2.2 hc.2.2⟩

set_option maxRecDepth 20000 in
set_option maxHeartbeats 2000000 in
theorem chain_step (p : RP) (hp : ∀ i, p.n i ≤ 1000) (hN : p.N ≤ 100) (i : Nat) (hi : i < p.N) (hnext : Next p (i + 1)) : Next p i := by
  intro W he hc
  have hb : Below W.heap.size W (W.alloc (.cells #[.int .i64 i] 3)) := (Below.refl _ _).alloc (Nat.le_refl _) _
  have hib := Boxed.new W 3 (.int .i64 i)
  have hsz : (W.alloc (.cells #[.int .i64 i] 3)).heap.size = W.heap.size + 1 := by simp
  have hcl := hc.lt
  have HDC : Hid (p.Cb < W.heap.size) := hc.lt
  have he1 : Env p (W.alloc (.cells #[.int .i64 i] 3)) := he.only (OnlyC.of_below hb)
  have hc1 : Boxed (W.alloc (.cells #[.int .i64 i] 3)) p.Cb 3 (.int .i64 i) := hc.alloc _
  obtain ⟨D, hD⟩ : ∃ D, W.heap.size = D := ⟨_, rfl⟩
  rw [hD] at hib hsz hcl hb ⊢
  obtain ⟨g, hg⟩ : ∃ g, p.na = some ⟨g, 0, none⟩ := by
    rcases he.nr.2 with ⟨_, h2⟩ | ⟨g, cap, cur, h, _⟩
    · omega
    · exact ⟨g, (Value.slice.inj h).1⟩
  have HE : Hid (∀ W', Below (D + 1) (W.alloc (.cells #[.int .i64 i] 3)) W' → Env p W' ∧ Boxed W' p.Cb 3 (.int .i64 i) ∧ Boxed W' D 3 (.int .i64 i)) := fun W' h =>
    ⟨he1.only ⟨h.os, h.tape, h.output, h.size, fun k hk _ => h.block k (by omega)⟩, (h.block _ (by omega)).trans hc1, (h.block _ (by omega)).trans hib⟩
  have HS : Hid (∀ W', Below (D + 1) (W.alloc (.cells #[.int .i64 i] 3)) W' → W'.cell? ⟨p.Nb, 0, none⟩ = some (.slice (some ⟨g, 0, none⟩) p.N p.nc) ∧ W'.cell? ⟨D, 0, none⟩ = some (.int .i64 i) ∧ W'.cell? ⟨g, i, none⟩ = some (.int .i64 (p.n i))) := fun W' h => by
    obtain ⟨h1, h2, h3⟩ := HE.out W' h
    refine ⟨?_, h3.cell, ?_⟩
    · rw [← hg]; exact h1.nb.cell
    · have := h1.nr
      rw [hg] at this
      rw [this.cellAt i (by omega)]; exact rowD_at _ hi
  have HNI : Hid (p.n i ≤ 1000) := hp i
  have CS := Lib.hid (fun W => steps_c (p.n i) i p.Lb 0 HNI.out W)
  have CR := Lib.hid (fun (W' : World) (S Bx : Nat) (h : Below (D + 1) (W.alloc (.cells #[.int .i64 i] 3)) W') (ha : NewAct W' S Bx (p.n i) i p.Lb 0) (hS : D ≤ S ∧ D < Bx) => run_c p hp i hi hN hnext D D S Bx W' (HE.out W' h).1 (HE.out W' h).2.1 (HE.out W' h).2.2 (by omega) ha ⟨Nat.le_refl _, hS.1, hS.2, by have := h.size; omega⟩)
  have HB := Lib.hid hb
  have HZ := Lib.hid hsz
  have HD := Lib.hid hD
  have hq : (i : Int) < p.N := by omega
  have hq2 : ¬ ((p.N : Int) ≤ i) := by omega
  have s0 := HS.out _ (Below.refl _ _)
  obtain ⟨s1, s2, s3⟩ := s0
  have t1 := he1.nb.lt
  have t2 : D < (W.alloc (.cells #[.int .i64 i] 3)).heap.size := by omega
  have hq3 : (i : Int) < 100 := by omega
  clear he he1 hc hc1 hb hib hsz hcl hnext
  have hbw := HE.out
  have hne : D ≠ p.Cb ∧ p.Nb ≠ p.Cb ∧ g ≠ p.Cb := by
    have he := (hbw _ (Below.refl _ _)).1
    obtain ⟨l1, l2, l3, l4⟩ := he.lo
    have := he.lt
    have h2 := (hbw _ (Below.refl _ _)).2.1.lt
    have l5 := l1 g (by rw [hg]; rfl)
    refine ⟨fun e => ?_, by omega, by omega⟩
    have h3 := HDC.out
    rw [HD.out] at h3
    omega
  have HNE := Lib.hid hne
  clear hbw hne
  unfold RP.cap
  unfold ptrV at CS
  unfold pa fv RP.cap11 at CR
  go_enter Try.func21, Try.ntmps21
  go_wp2_with fail
  go_region_held3 (fun w' => w'.cell? ⟨p.Nb, 0, none⟩ = some (.slice (some ⟨g, 0, none⟩) p.N p.nc) ∧ w'.cell? ⟨D, 0, none⟩ = some (.int .i64 i) ∧ w'.cell? ⟨g, i, none⟩ = some (.int .i64 (p.n i)))
    (first | exact ⟨s1, s2, s3⟩ | exact HS.out _ (Below.refl _ _).drew | exact HS.out _ (Below.refl _ _) | exact HS.out _ hbw3 | exact HS.out _ hbw3.drew | assumption)
    (first
      | (go_at_call 12; refine (CS.out _).mono ?_; rintro e w3 ⟨S, Bx, rfl, hS, hBx, hna, hb3⟩; have hbw3 : Below (D + 1) (W.alloc (.cells #[.int .i64 i] 3)) w3 := (by first | exact hb3.mono (by rw [HZ.out]; exact Nat.le_refl _) | exact (Below.refl _ _).drew.trans (hb3.mono (show D + 1 ≤ (W.alloc (.cells #[.int .i64 i] 3)).heap.size by rw [HZ.out]; exact Nat.le_refl _))); have hSS : D ≤ S ∧ D < Bx := ⟨Nat.le_trans (by rw [show D = W.heap.size from HD.out.symm]; exact Nat.le_of_lt (by simp)) hS, Nat.lt_of_lt_of_le (by rw [show D = W.heap.size from HD.out.symm]; simp) hBx⟩; unfold pa)
      | (revert hbw3; intro hbw3; go_at_call 22; refine (CR.out w3 S Bx hbw3 hna hSS).mono ?_; rintro e w4 ⟨v, i', rfl, h1, h2, h3, h4, h5, h6⟩; have hs4 : w4.cell? ⟨p.Nb, 0, none⟩ = some (.slice (some ⟨g, 0, none⟩) p.N p.nc) ∧ w4.cell? ⟨D, 0, none⟩ = some (.int .i64 i) ∧ w4.cell? ⟨g, i, none⟩ = some (.int .i64 (p.n i)) := only_cells h5 HNE.out (HS.out _ hbw3)))
  all_goals
    have HON : Hid (OnlyC p.Cb W w4) := (OnlyC.of_below (by rw [HD.out]; exact HB.out.trans (hbw3.mono (Nat.le_succ _)))).trans h5
    have H6 := Lib.hid h6
    have H4 := Lib.hid h4
    have H3 := Lib.hid h3
    clear h3 h4 h5 h6 hs4 hna
    go_wp2_with fail
    go_ret
    exact ⟨v, i', rfl, h1, h2, H3.out, H4.out, HON.out, H6.out⟩
theorem chain_c (p : RP) (hp : ∀ i, p.n i ≤ 1000) (hN : p.N ≤ 100) : ∀ (m i : Nat), i + m = p.N → Next p i
  | 0, i, h => fun W he hc => by
    obtain rfl : i = p.N := by omega
    exact chain_end p W he hc
  | m + 1, i, h => chain_step p hp hN i (by omega) (chain_c p hp hN m (i + 1) (by omega))
end Go.Proofs.Ytpooieeeicffpaa

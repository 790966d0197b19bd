/-
  The steps by which a reader is pinned.
-/
import Derived.Test.YtefmojohabdjcaaEp1
import Derived.Deep.RegionHeld3
import Derived.Deep.RegionLaw
set_option linter.unusedVariables false
set_option linter.unusedSimpArgs false
namespace Go.Proofs.Ytefmojohabdjcaa
open Go Go.RowKit
attribute [local go_sem ↓] Go.wp_at_zero Go.wp_at_succ

variable {p : EP} {s : ES} {W W' : World}
/-- Behind one access that only loads. -/
def ES.tick (s : ES) : ES := { s with t := s.t + 1 }
/-- .. that stores. -/
def ES.store (s : ES) (i v : Nat) : ES := { s with t := s.t + 1, ws := upd s.ws i v, cs := upd s.cs i (s.t + 1) }
def ES.setPin (s : ES) (who e : Nat) (b : Bool) : ES := { s with pe := put1 s.pe who e, po := put1 s.po who b }
theorem Moved.of_only (h : Only p.M W W') : Moved (fE p) (fE p) W W' := ⟨h.os, h.tape, h.output, h.size, fun k hk hn => h.block k (fun e => hn (.inr (.inl e))) hk, fun _ _ h => h⟩
theorem EpAt.ticked (h : EpAt p s W) (ho : Only p.M W W') (hm : MemAt W' p.M p.n (s.t + 1) s.ws s.cs) : EpAt p s.tick W' := by
  obtain ⟨n1, n2, n3⟩ := h.ne
  obtain ⟨cur, h1, h2⟩ := h.pin
  exact ⟨h.q.later (ho.block _ n1 h.q.lt), hm, ⟨cur, h1.later (ho.block _ (Ne.symm n3) h1.lt), h2⟩, h.fit⟩
theorem EpAt.stored (h : EpAt p s W) {i v : Nat} (ho : Only p.M W W') (hm : MemAt W' p.M p.n (s.t + 1) (upd s.ws i v) (upd s.cs i (s.t + 1))) : EpAt p (s.store i v) W' := by
  obtain ⟨n1, n2, n3⟩ := h.ne
  obtain ⟨cur, h1, h2⟩ := h.pin
  exact ⟨h.q.later (ho.block _ n1 h.q.lt), hm, ⟨cur, h1.later (ho.block _ (Ne.symm n3) h1.lt), h2⟩, h.fit⟩
theorem EpAt.pinned (h : EpAt p s W) {who : Nat} (hw : who < p.R) (e : Nat) (b : Bool) : EpAt p (s.setPin who e b) ((W.setCell ⟨p.Pb, who * 2, none⟩ (.int .u64 e)).setCell ⟨p.Pb, who * 2 + 1, none⟩ (.bool b)) := by
  obtain ⟨n1, n2, n3⟩ := h.ne
  obtain ⟨cur, h1, h2⟩ := h.pin
  have hk : ∀ k, k ≠ p.Pb → ((W.setCell ⟨p.Pb, who * 2, none⟩ (.int .u64 e)).setCell ⟨p.Pb, who * 2 + 1, none⟩ (.bool b)).heap[k]? = W.heap[k]? := fun k hk =>
    (Below.heap_setCell _ ⟨p.Pb, who * 2 + 1, none⟩ _ k hk).trans (Below.heap_setCell W ⟨p.Pb, who * 2, none⟩ _ k hk)
  have hc := (h1.set (who * 2) (.int .u64 e)).set (who * 2 + 1) (.bool b)
  refine ⟨h.q.later (hk _ n2), h.m.later (hk _ n3), ⟨_, hc, fun i hi => ?_⟩, h.fit⟩
  have hs1 : who * 2 < cur.size := (Array.getElem?_eq_some_iff.1 (h2 who hw).1).1
  have hs2 : who * 2 + 1 < cur.size := (Array.getElem?_eq_some_iff.1 (h2 who hw).2).1
  by_cases hiw : i = who
  · subst hiw
    refine ⟨?_, ?_⟩
    · rw [Array.getElem?_setIfInBounds_ne (by omega), Array.getElem?_setIfInBounds_self_of_lt hs1]
      show _ = some (Value.int .u64 ((put1 s.pe i e i : Nat) : Int))
      rw [put1_same]
    · rw [Array.getElem?_setIfInBounds_self_of_lt (by rw [Array.size_setIfInBounds]; exact hs2)]
      show _ = some (Value.bool (put1 s.po i b i))
      rw [put1_same]
  · refine ⟨?_, ?_⟩
    · rw [Array.getElem?_setIfInBounds_ne (by omega), Array.getElem?_setIfInBounds_ne (by omega)]
      show _ = some (Value.int .u64 ((put1 s.pe who e i : Nat) : Int))
      rw [put1_other _ _ hiw]; exact (h2 i hi).1
    · rw [Array.getElem?_setIfInBounds_ne (by omega), Array.getElem?_setIfInBounds_ne (by omega)]
      show _ = some (Value.bool (put1 s.po who b i))
      rw [put1_other _ _ hiw]; exact (h2 i hi).2
theorem Moved.pinned (W : World) (i j : Nat) (u v : Value) : Moved (fE p) (fE p) W ((W.setCell ⟨p.Pb, i, none⟩ u).setCell ⟨p.Pb, j, none⟩ v) :=
  ⟨rfl, rfl, rfl, by rw [size_setCell, size_setCell]; exact Nat.le_refl _, fun k _ hn => (Below.heap_setCell _ ⟨p.Pb, j, none⟩ _ k (fun e => hn (.inr (.inr e)))).trans (Below.heap_setCell W ⟨p.Pb, i, none⟩ _ k (fun e => hn (.inr (.inr e)))), fun _ _ h => h⟩

/-- The boxes that the steps of a reader have captured. -/
structure PB (p : EP) (W : World) (b who : Nat) : Prop where
  b0 : Boxed W b 28 (pE p)
  b1 : Boxed W (b + 1) 3 (.int .i64 who)
structure PB3 (p : EP) (W : World) (b who ep : Nat) : Prop where
  b0 : Boxed W b 28 (pE p)
  b1 : Boxed W (b + 1) 3 (.int .i64 who)
  b2 : Boxed W (b + 2) 32 (.int .u64 ep)
def capP (b : Nat) : Array Value := #[.pointer (some ⟨b, 0, none⟩), .pointer (some ⟨b + 1, 0, none⟩)]
def capA3 (b : Nat) : Array Value := #[.pointer (some ⟨b, 0, none⟩), .pointer (some ⟨b + 1, 0, none⟩), .pointer (some ⟨b + 2, 0, none⟩)]
def capB3 (b : Nat) : Array Value := #[.pointer (some ⟨b, 0, none⟩), .pointer (some ⟨b + 2, 0, none⟩), .pointer (some ⟨b + 1, 0, none⟩)]
theorem PB.later {b who : Nat} (h : PB p W b who) (hs : ∀ k, k = b ∨ k = b + 1 → W'.heap[k]? = W.heap[k]?) : PB p W' b who := ⟨(hs _ (.inl rfl)).trans h.b0, (hs _ (.inr rfl)).trans h.b1⟩
theorem PB3.later {b who ep : Nat} (h : PB3 p W b who ep) (hs : ∀ k, k = b ∨ k = b + 1 ∨ k = b + 2 → W'.heap[k]? = W.heap[k]?) : PB3 p W' b who ep := ⟨(hs _ (.inl rfl)).trans h.b0, (hs _ (.inr (.inl rfl))).trans h.b1, (hs _ (.inr (.inr rfl))).trans h.b2⟩
/-- Boxes are not the epoch's blocks. -/
theorem EpAt.notE (h : EpAt p s W) {k : Nat} {t : TypeId} {c : Array Value} {fz : Nat × Nat} (hc : W.heap[k]? = some (.cells c t fz)) (h1 : (92 : Nat) ≠ t) (h2 : (109 : Nat) ≠ t) (h3 : (95 : Nat) ≠ t) : ¬ fE p k := by
  obtain ⟨cur, hp, _⟩ := h.pin
  obtain ⟨c2, hm, _⟩ := h.m
  rintro (rfl | rfl | rfl)
  · exact block_ne h.q hc h1 rfl
  · exact block_ne hm hc h2 rfl
  · exact block_ne hp hc h3 rfl
theorem PB.moved {b who : Nat} (h : PB p W b who) (he : EpAt p s W) {F' : Nat → Prop} (hv : Moved (fE p) F' W W') : PB p W' b who :=
  ⟨(hv.keep h.b0 (he.notE h.b0 (by decide) (by decide) (by decide))).1, (hv.keep h.b1 (he.notE h.b1 (by decide) (by decide) (by decide))).1⟩
theorem PB3.moved {b who ep : Nat} (h : PB3 p W b who ep) (he : EpAt p s W) {F' : Nat → Prop} (hv : Moved (fE p) F' W W') : PB3 p W' b who ep :=
  ⟨(hv.keep h.b0 (he.notE h.b0 (by decide) (by decide) (by decide))).1, (hv.keep h.b1 (he.notE h.b1 (by decide) (by decide) (by decide))).1, (hv.keep h.b2 (he.notE h.b2 (by decide) (by decide) (by decide))).1⟩

theorem boxes3 (W : World) (who ep : Nat) : PB3 p (((W.alloc (.cells #[pE p] 28)).alloc (.cells #[.int .i64 who] 3)).alloc (.cells #[.int .u64 ep] 32)) W.heap.size who ep ∧ Below W.heap.size W (((W.alloc (.cells #[pE p] 28)).alloc (.cells #[.int .i64 who] 3)).alloc (.cells #[.int .u64 ep] 32)) := by
  refine ⟨⟨((Boxed.new W 28 (pE p)).alloc _).alloc _, ?_, ?_⟩, (((Below.refl _ _).alloc (by omega) _).alloc (by simp) _).alloc (by simp; omega) _⟩
  · have := (Boxed.new (W.alloc (.cells #[pE p] 28)) 3 (.int .i64 who)).alloc (.cells #[.int .u64 ep] 32)
    rw [World.size_alloc] at this; exact this
  · have := Boxed.new ((W.alloc (.cells #[pE p] 28)).alloc (.cells #[.int .i64 who] 3)) 32 (.int .u64 ep)
    rw [World.size_alloc, World.size_alloc] at this; exact this
theorem pinAt_c (who ep : Nat) (W : World) : Calls Try.prog 35 #[pE p, .int .i64 who, .int .u64 ep] W fun e w' => e = .returned (fv 49 (capA3 W.heap.size)) ∧ PB3 p w' W.heap.size who ep ∧ Below W.heap.size W w' := by
  have HB := Lib.hid (boxes3 (p := p) W who ep)
  unfold pE at *
  unfold fv capA3
  go_enter Try.func35, Try.ntmps35
  go_wp2_with fail
  go_ret
  exact ⟨rfl, HB.out.1, HB.out.2⟩

set_option maxRecDepth 20000 in
set_option maxHeartbeats 1000000 in
theorem pinAnew_c (h : EpAt p s W) (who ep : Nat) (hw : who < p.R) : Calls Try.prog 36 #[pE p, .int .i64 who, .int .u64 ep] W fun e w' =>
    ∃ v, e = .returned v ∧ ((ep = s.pe who ∧ v = .nilFunc) ∨ (ep ≠ s.pe who ∧ v = fv 51 (capA3 W.heap.size))) ∧ PB3 p w' W.heap.size who ep ∧ Below W.heap.size W w' := by
  obtain ⟨hb, hbel⟩ := boxes3 (p := p) W who ep
  have h' := h.below hbel
  obtain ⟨c0, c1, c2, c3⟩ := h'.q.cell
  obtain ⟨d0, d1, d2, d3⟩ := h'.pcell hw
  have e0 := hb.b0.cell
  have e1 := hb.b1.cell
  have e2 := hb.b2.cell
  have HB := Lib.hid hb
  have HBe := Lib.hid hbel
  have q : (who : Int) < p.R := by omega
  clear h h' hb hbel
  unfold pE at *
  unfold fv capA3
  by_cases hep : ep = s.pe who
  · have g : ((ep : Int) == (s.pe who : Int)) = true := by rw [beq_iff_eq]; omega
    have HE := Lib.hid hep
    clear hep
    go_enter Try.func36, Try.ntmps36
    go_wp2_with fail
    go_quiet (fail)
    go_wp2_with fail
    go_ret
    exact ⟨_, rfl, .inl ⟨HE.out, rfl⟩, HB.out.later (fun _ _ => rfl), below_drewN HBe.out _⟩
  · have g : ((ep : Int) == (s.pe who : Int)) = false := by rw [beq_eq_false_iff_ne]; omega
    have HE := Lib.hid hep
    clear hep
    go_enter Try.func36, Try.ntmps36
    go_wp2_with fail
    go_quiet (fail)
    go_wp2_with fail
    go_ret
    exact ⟨_, rfl, .inr ⟨HE.out, rfl⟩, HB.out.later (fun _ _ => rfl), below_drewN HBe.out _⟩
end Go.Proofs.Ytefmojohabdjcaa

/-
  Pin, Unpin, Advance, Pinned, Moved: contracts.
-/
import Derived.Test.YtefmojohabdjcaaEp7
import Derived.Laws.EntriesVeiled
set_option linter.unusedVariables false
set_option linter.unusedSimpArgs false
namespace Go.Proofs.Ytefmojohabdjcaa
open Go Go.RowKit
attribute [local go_sem ↓] Go.wp_at_zero Go.wp_at_succ

variable {p : EP} {s : ES} {W W' : World}
def pV (V : Nat) : Value := .pointer (some ⟨V, 0, none⟩)
def capV (b c : Nat) : Array Value := #[.pointer (some ⟨b, 0, none⟩), .pointer (some ⟨c, 0, none⟩)]
/-- What the first step of Advance has captured. -/
structure AB (p : EP) (W : World) (b c V : Nat) : Prop where
  b0 : Boxed W b 28 (pE p)
  b1 : Boxed W c 73 (.pointer (some ⟨V, 0, none⟩))
theorem AB.moved {b c V : Nat} (h : AB p W b c V) (he : EpAt p s W) {F' : Nat → Prop} (hv : Moved (fE p) F' W W') : AB p W' b c V :=
  ⟨(hv.keep h.b0 (he.notE h.b0 (by decide) (by decide) (by decide))).1, (hv.keep h.b1 (he.notE h.b1 (by decide) (by decide) (by decide))).1⟩

set_option maxRecDepth 20000 in
set_option maxHeartbeats 1000000 in
theorem adv1_c (h : EpAt p s W) (b c V : Nat) (hb : AB p W b c V) (ht : s.t < 1000000) : Calls Try.prog 46 (capV b c) W fun e w' =>
    ∃ B, e = .returned (passV p.R 0 B) ∧ EpAt p s.tick w' ∧ Moved (fE p) (fE p) W w' ∧ W.heap.size ≤ B ∧ PB4 p w' B V (s.ws p.word) 0 := by
  obtain ⟨c0, c1, c2, c3⟩ := h.q.cell
  have e0 := hb.b0.cell
  have e1 := hb.b1.cell
  have HE := Lib.hid h
  have HB := Lib.hid hb
  have CL := Lib.hid (fun W' hM => mLoad_yes p.M p.n s.t s.ws s.cs p.word (by have := h.fit; omega) h.fit.2.1 (by omega) W' hM)
  have CN := Lib.hid (fun W' (h' : EpAt p s.tick W') => pass_c h' V (s.ws p.word) 0 (Nat.zero_le _))
  have e00 : ((0 : Nat) : Int) = 0 := rfl
  rw [e00] at CN
  unfold pE at e0 CN
  clear h hb e00
  unfold capV
  go_enter Try.func46, Try.ntmps46
  go_wp2_with fail
  go_region_held3 (fun w' => w'.cell? ⟨b, 0, none⟩ = some (.pointer (some ⟨p.E, 0, none⟩)) ∧ w'.cell? ⟨c, 0, none⟩ = some (.pointer (some ⟨V, 0, none⟩)) ∧ w'.cell? ⟨p.E, 0, none⟩ = some (pm p.M) ∧ w'.cell? ⟨p.E, 1, none⟩ = some (.int .i64 p.word))
    (first | exact ⟨e0, e1, c0, c1⟩ | exact hs2 | exact hs4)
    (first
      | (go_at_call 34; refine (CL.out _ (by first | exact HE.out.memDrew | exact HE.out.m)).mono ?_; rintro e w2 ⟨rfl, ho, hm⟩; have ho2 : Only p.M W w2 := (by first | exact Only.ofDrew ho | exact ho); have he2 := HE.out.ticked ho2 hm; have hb2 := HB.out.moved HE.out (Moved.of_only ho2); have hs2 : w2.cell? ⟨b, 0, none⟩ = some (.pointer (some ⟨p.E, 0, none⟩)) ∧ w2.cell? ⟨c, 0, none⟩ = some (.pointer (some ⟨V, 0, none⟩)) ∧ w2.cell? ⟨p.E, 0, none⟩ = some (pm p.M) ∧ w2.cell? ⟨p.E, 1, none⟩ = some (.int .i64 p.word) := ⟨hb2.b0.cell, hb2.b1.cell, he2.q.cell.1, he2.q.cell.2.1⟩)
      | (revert hs2; intro hs2; go_at_call 47; refine (CN.out _ he2).mono ?_; rintro e w4 ⟨rfl, hp4, hb4⟩; have he4 := he2.below hb4; have hb9 := hb2.moved he2 (F' := fE p) (Moved.of_below hb4); have hs4 : w4.cell? ⟨b, 0, none⟩ = some (.pointer (some ⟨p.E, 0, none⟩)) ∧ w4.cell? ⟨c, 0, none⟩ = some (.pointer (some ⟨V, 0, none⟩)) ∧ w4.cell? ⟨p.E, 0, none⟩ = some (pm p.M) ∧ w4.cell? ⟨p.E, 1, none⟩ = some (.int .i64 p.word) := ⟨hb9.b0.cell, hb9.b1.cell, he4.q.cell.1, he4.q.cell.2.1⟩))
  all_goals
    have HE4 := Lib.hid he4
    have HV4 := Lib.hid ((Moved.of_only (p := p) ho2).later hb4)
    have HP4 := Lib.hid hp4
    have hsz : W.heap.size ≤ w2.heap.size := ho2.size
    clear he2 hb2 ho hm ho2 hs2 he4 hb4 hp4 hs4 hb9 e0 e1 c0 c1 c2 c3
    go_wp2_with fail
    go_ret
    exact ⟨_, rfl, HE4.out, HV4.out, hsz, HP4.out⟩

/-- An act of a reader, as it is made. -/
def NewA (p : EP) (W : World) (f who : Nat) (e : Ending) (w' : World) : Prop :=
  ∃ A b, e = .returned (pa A) ∧ W.heap.size ≤ A ∧ W.heap.size ≤ b ∧ ActAt w' A (fv f (capP b)) 0 ∧ PB p w' b who ∧ Below W.heap.size W w'
theorem boxes2 (W : World) (who : Int) : Boxed ((W.alloc (.cells #[pE p] 28)).alloc (.cells #[.int .i64 who] 3)) W.heap.size 28 (pE p) ∧ Boxed ((W.alloc (.cells #[pE p] 28)).alloc (.cells #[.int .i64 who] 3)) (W.heap.size + 1) 3 (.int .i64 who) ∧
    Below W.heap.size W ((W.alloc (.cells #[pE p] 28)).alloc (.cells #[.int .i64 who] 3)) := by
  refine ⟨(Boxed.new W 28 (pE p)).alloc _, ?_, ((Below.refl _ _).alloc (by omega) _).alloc (by simp) _⟩
  have := Boxed.new (W.alloc (.cells #[pE p] 28)) 3 (.int .i64 who)
  rw [World.size_alloc] at this; exact this
theorem pin_c (h : EpAt p s W) (who : Nat) (hw : who < p.R) : Calls Try.prog 17 #[pE p, .int .i64 who] W fun e w' => NewA p W 33 who e w' := by
  obtain ⟨k0, k1, hbel⟩ := boxes2 (p := p) W who
  have h' := h.below hbel
  have C := Lib.hid (has_yes h' who hw)
  have e0 := k0.cell
  have e1 := k1.cell
  have HK0 := Lib.hid k0
  have HK1 := Lib.hid k1
  have HBe := Lib.hid hbel
  unfold pE at *
  clear h h' k0 k1 hbel
  go_enter Try.func17, Try.ntmps17
  go_wp2_with (first | (go_at_call 31; refine C.out.mono ?_; rintro e w' ⟨rfl, rfl⟩) | (go_at_call 32; refine (aNew_some 33 (capP W.heap.size) _).mono ?_; rintro e w' ⟨rfl, rfl⟩))
  go_ret
  have hb2 : Below ((W.alloc (.cells #[.pointer (some ⟨p.E, 0, none⟩)] 28)).alloc (.cells #[.int .i64 who] 3)).heap.size ((W.alloc (.cells #[.pointer (some ⟨p.E, 0, none⟩)] 28)).alloc (.cells #[.int .i64 who] 3)) _ := (Below.refl _ _).alloc (Nat.le_refl _) (.cells #[fv 33 (capP W.heap.size), .int .i64 0] 106)
  have ha := heap_alloc_new ((W.alloc (.cells #[.pointer (some ⟨p.E, 0, none⟩)] 28)).alloc (.cells #[.int .i64 who] 3)) (.cells #[fv 33 (capP W.heap.size), .int .i64 0] 106)
  rw [World.size_alloc, World.size_alloc] at ha
  refine ⟨W.heap.size + 1 + 1, W.heap.size, rfl, by omega, Nat.le_refl _, ha, ⟨(hb2.block _ HK0.out.lt).trans HK0.out, (hb2.block _ HK1.out.lt).trans HK1.out⟩, HBe.out.trans (hb2.mono (by simp; omega))⟩
theorem unpin_c (h : EpAt p s W) (who : Nat) (hw : who < p.R) : Calls Try.prog 18 #[pE p, .int .i64 who] W fun e w' => NewA p W 37 who e w' := by
  obtain ⟨k0, k1, hbel⟩ := boxes2 (p := p) W who
  have h' := h.below hbel
  have C := Lib.hid (has_yes h' who hw)
  have e0 := k0.cell
  have e1 := k1.cell
  have HK0 := Lib.hid k0
  have HK1 := Lib.hid k1
  have HBe := Lib.hid hbel
  unfold pE at *
  clear h h' k0 k1 hbel
  go_enter Try.func18, Try.ntmps18
  go_wp2_with (first | (go_at_call 31; refine C.out.mono ?_; rintro e w' ⟨rfl, rfl⟩) | (go_at_call 32; refine (aNew_some 37 (capP W.heap.size) _).mono ?_; rintro e w' ⟨rfl, rfl⟩))
  go_ret
  have hb2 : Below ((W.alloc (.cells #[.pointer (some ⟨p.E, 0, none⟩)] 28)).alloc (.cells #[.int .i64 who] 3)).heap.size ((W.alloc (.cells #[.pointer (some ⟨p.E, 0, none⟩)] 28)).alloc (.cells #[.int .i64 who] 3)) _ := (Below.refl _ _).alloc (Nat.le_refl _) (.cells #[fv 37 (capP W.heap.size), .int .i64 0] 106)
  have ha := heap_alloc_new ((W.alloc (.cells #[.pointer (some ⟨p.E, 0, none⟩)] 28)).alloc (.cells #[.int .i64 who] 3)) (.cells #[fv 37 (capP W.heap.size), .int .i64 0] 106)
  rw [World.size_alloc, World.size_alloc] at ha
  refine ⟨W.heap.size + 1 + 1, W.heap.size, rfl, by omega, Nat.le_refl _, ha, ⟨(hb2.block _ HK0.out.lt).trans HK0.out, (hb2.block _ HK1.out.lt).trans HK1.out⟩, HBe.out.trans (hb2.mono (by simp; omega))⟩
theorem moved_c (V : Nat) (a : Value) (mv : Bool) (h : MvAt W V a mv) : Calls Try.prog 30 #[.pointer (some ⟨V, 0, none⟩)] W fun e w' => e = .returned (.bool mv) ∧ w' = W := by
  obtain ⟨c0, c1, _⟩ := h.cell
  go_enter Try.func30, Try.ntmps30
  go_wp2_with fail
  go_ret
  exact ⟨rfl, rfl⟩
theorem pinned_c (h : EpAt p s W) (who : Nat) (hw : who < p.R) : Calls Try.prog 20 #[pE p, .int .i64 who] W fun e w' => e = .returned (.tuple #[.int .u64 (s.pe who), .bool (s.po who)]) ∧ ∃ q, w' = W.drewN q := by
  have C := Lib.hid (has_yes h who hw)
  obtain ⟨c0, c1, c2, c3⟩ := h.q.cell
  obtain ⟨d0, d1, d2, d3⟩ := h.pcell hw
  have q : (who : Int) < p.R := by omega
  unfold pE at *
  clear h
  go_enter Try.func20, Try.ntmps20
  go_wp2_with (go_at_call 31; refine C.out.mono ?_; rintro e w' ⟨rfl, rfl⟩)
  go_quiet (fail)
  go_wp2_with fail
  go_ret2
  exact ⟨rfl, _, rfl⟩
end Go.Proofs.Ytefmojohabdjcaa

/-
  The steps by which the epoch moves: contracts.
-/
import Derived.Test.YtefmojohabdjcaaEp5
set_option linter.unusedVariables false
set_option linter.unusedSimpArgs false
namespace Go.Proofs.Ytefmojohabdjcaa
open Go Go.RowKit
attribute [local go_sem ↓] Go.wp_at_zero Go.wp_at_succ

variable {p : EP} {s : ES} {W W' : World}
/-- What moves the epoch: its act, and whether it did. -/
def MvAt (W : World) (V : Nat) (a : Value) (mv : Bool) : Prop := W.heap[V]? = some (.cells #[a, .bool mv] 80 (0, 0))
theorem MvAt.lt {V : Nat} {a : Value} {mv : Bool} (h : MvAt W V a mv) : V < W.heap.size := (Array.getElem?_eq_some_iff.1 h).1
theorem MvAt.cell {V : Nat} {a : Value} {mv : Bool} (h : MvAt W V a mv) : W.cell? ⟨V, 0, none⟩ = some a ∧ W.cell? ⟨V, 1, none⟩ = some (.bool mv) ∧ W.frozen? ⟨V, 0, none⟩ = false ∧ W.frozen? ⟨V, 1, none⟩ = false := by
  have h' : W.heap[V]? = _ := h
  refine ⟨?_, ?_, ?_, ?_⟩
  all_goals simp [World.cell?, World.frozen?, h']
theorem MvAt.set1 {V : Nat} {a : Value} {mv : Bool} (b : Bool) (h : MvAt W V a mv) : MvAt (W.setCell ⟨V, 1, none⟩ (.bool b)) V a b := by
  obtain ⟨hlt, hk⟩ := Array.getElem?_eq_some_iff.1 h
  show (W.heap.modify V _)[V]? = _
  rw [Array.getElem?_eq_getElem (by rw [Array.size_modify]; exact hlt), Array.getElem_modify_self, hk]
  rfl
theorem MvAt.set0 {V : Nat} {a : Value} {mv : Bool} (v : Value) (h : MvAt W V a mv) : MvAt (W.setCell ⟨V, 0, none⟩ v) V v mv := by
  obtain ⟨hlt, hk⟩ := Array.getElem?_eq_some_iff.1 h
  show (W.heap.modify V _)[V]? = _
  rw [Array.getElem?_eq_getElem (by rw [Array.size_modify]; exact hlt), Array.getElem_modify_self, hk]
  rfl
def fV (p : EP) (V : Nat) (k : Nat) : Prop := fE p k ∨ k = V
theorem Moved.toV {V : Nat} (h : Moved (fE p) (fE p) W W') : Moved (fV p V) (fV p V) W W' := ⟨h.os, h.tape, h.output, h.size, fun k hk hn => h.same k hk (fun hf => hn (.inl hf)), fun _ _ h => h⟩
theorem quad_set2 {B : Nat} {t : TypeId} {a b c d : Value} (v : Value) (h : Quad W B t a b c d) : Quad (W.setCell ⟨B, 2, none⟩ v) B t a b v d := by
  obtain ⟨hlt, hk⟩ := Array.getElem?_eq_some_iff.1 h
  show (W.heap.modify B _)[B]? = _
  rw [Array.getElem?_eq_getElem (by rw [Array.size_modify]; exact hlt), Array.getElem_modify_self, hk]
  rfl
def ES.setNow (s : ES) (e : Nat) : ES := { s with now := e }
theorem EpAt.nowSet (h : EpAt p s W) (e : Nat) : EpAt p (s.setNow e) (W.setCell ⟨p.E, 2, none⟩ (.int .u64 e)) := by
  obtain ⟨n1, n2, n3⟩ := h.ne
  obtain ⟨cur, h1, h2⟩ := h.pin
  have hk : ∀ k, k ≠ p.E → (W.setCell ⟨p.E, 2, none⟩ (.int .u64 e)).heap[k]? = W.heap[k]? := fun k hk => Below.heap_setCell W ⟨p.E, 2, none⟩ _ k hk
  exact ⟨quad_set2 _ h.q, h.m.later (hk _ (Ne.symm n1)), ⟨cur, h1.later (hk _ (Ne.symm n2)), h2⟩, h.fit⟩
theorem Moved.nowSet (W : World) (v : Value) : Moved (fE p) (fE p) W (W.setCell ⟨p.E, 2, none⟩ v) :=
  ⟨rfl, rfl, rfl, by rw [size_setCell]; exact Nat.le_refl _, fun k _ hn => Below.heap_setCell W ⟨p.E, 2, none⟩ _ k (fun e => hn (.inl e)), fun _ _ h => h⟩
/-- Whether the epoch moves, and what it is in then. -/
def ES.moves (s : ES) (p : EP) (ep : Nat) : Bool := decide (s.ws p.word = ep)
def ES.after (s : ES) (p : EP) (ep : Nat) : ES := if s.ws p.word = ep then (s.store p.word (ep + 1)).setNow (ep + 1) else s.tick

set_option maxRecDepth 20000 in
set_option maxHeartbeats 1000000 in
theorem move_c (h : EpAt p s W) (ep : Nat) (hep : ep < 1000000000) (ht : s.t < 1000000) : Calls Try.prog 55 #[pE p, .int .u64 ep] W fun e w' => e = .returned (.bool (s.moves p ep)) ∧ EpAt p (s.after p ep) w' ∧ Moved (fE p) (fE p) W w' := by
  obtain ⟨c0, c1, c2, c3⟩ := h.q.cell
  have HE := Lib.hid h
  have e1 : ((ep + 1 : Nat) : Int) = IntKind.u64.wrap ((ep : Int) + 1) := wrap_succ ep hep
  have hwn : p.word < p.n := by have := h.fit; omega
  have ep9 : (ep : Int) + 1 < 18446744073709551616 := by omega
  unfold pE
  by_cases hm : s.ws p.word = ep
  · have C := Lib.hid (fun W' hM => mCas_yes p.M p.n s.t s.ws s.cs p.word ep (ep + 1) hwn h.fit.2.1 (by omega) W' hM hm)
    rw [e1] at C
    have h1 : s.moves p ep = true := decide_eq_true hm
    have h2 : s.after p ep = (s.store p.word (ep + 1)).setNow (ep + 1) := if_pos hm
    rw [h1, h2]
    clear h hm e1 h1 h2
    go_enter Try.func55, Try.ntmps55
    go_wp2_with fail
    go_region_held3 (fun w' => w'.cell? ⟨p.E, 0, none⟩ = some (pm p.M) ∧ w'.cell? ⟨p.E, 1, none⟩ = some (.int .i64 p.word))
      (first | exact ⟨c0, c1⟩ | exact hs2)
      ((go_at_call 59; refine (C.out _ (by first | exact HE.out.memDrew | exact HE.out.m)).mono ?_; rintro e w2 ⟨rfl, ho, hm⟩; have ho2 : Only p.M W w2 := (by first | exact Only.ofDrew ho | exact ho); have hs2 : w2.cell? ⟨p.E, 0, none⟩ = some (pm p.M) ∧ w2.cell? ⟨p.E, 1, none⟩ = some (.int .i64 p.word) := ⟨(HE.out.stored ho2 hm).q.cell.1, (HE.out.stored ho2 hm).q.cell.2.1⟩))
    all_goals
      have he2 := HE.out.stored ho2 hm
      have hv2 := Moved.of_only ho2
      obtain ⟨d0, d1, d2, d3⟩ := he2.q.cell
      have dl := he2.q.lt
      have df : w2.frozen? ⟨p.E, 2, none⟩ = false := Cells.frozen (t := 92) he2.q 2
      have HN := Lib.hid (he2.nowSet (ep + 1))
      have HV := Lib.hid (hv2.trans (Moved.nowSet w2 (.int .u64 ((ep + 1 : Nat) : Int))))
      have e9 : ((ep + 1 : Nat) : Int) = (ep : Int) + 1 := by omega
      rw [e9] at HN HV
      clear he2 hv2 ho hm ho2 hs2 c0 c1 c2 c3 e9
      go_wp2_with fail
      go_ret
      exact ⟨rfl, HN.out, HV.out⟩
  · have C := Lib.hid (fun W' hM => mCas_other p.M p.n s.t s.ws s.cs p.word ep (ep + 1) hwn h.fit.2.1 (by omega) W' hM hm)
    rw [e1] at C
    have h1 : s.moves p ep = false := decide_eq_false hm
    have h2 : s.after p ep = s.tick := if_neg hm
    rw [h1, h2]
    clear h hm e1 h1 h2
    go_enter Try.func55, Try.ntmps55
    go_wp2_with fail
    go_region_held3 (fun w' => w'.cell? ⟨p.E, 0, none⟩ = some (pm p.M) ∧ w'.cell? ⟨p.E, 1, none⟩ = some (.int .i64 p.word))
      (first | exact ⟨c0, c1⟩ | exact hs2)
      ((go_at_call 59; refine (C.out _ (by first | exact HE.out.memDrew | exact HE.out.m)).mono ?_; rintro e w2 ⟨rfl, ho, hm⟩; have ho2 : Only p.M W w2 := (by first | exact Only.ofDrew ho | exact ho); have hs2 : w2.cell? ⟨p.E, 0, none⟩ = some (pm p.M) ∧ w2.cell? ⟨p.E, 1, none⟩ = some (.int .i64 p.word) := ⟨(HE.out.ticked ho2 hm).q.cell.1, (HE.out.ticked ho2 hm).q.cell.2.1⟩))
    all_goals
      have HN := Lib.hid (HE.out.ticked ho2 hm)
      have HV := Lib.hid (Moved.of_only (p := p) ho2)
      clear ho hm ho2 hs2 c0 c1 c2 c3
      go_wp2_with fail
      go_ret
      exact ⟨rfl, HN.out, HV.out⟩

/-- The boxes that the steps of Advance have captured. -/
structure PB4 (p : EP) (W : World) (b V ep who : Nat) : Prop where
  b0 : Boxed W b 28 (pE p)
  b1 : Boxed W (b + 1) 73 (.pointer (some ⟨V, 0, none⟩))
  b2 : Boxed W (b + 2) 32 (.int .u64 ep)
  b3 : Boxed W (b + 3) 3 (.int .i64 who)
def cap1 (b : Nat) : Array Value := #[.pointer (some ⟨b, 0, none⟩), .pointer (some ⟨b + 2, 0, none⟩), .pointer (some ⟨b + 1, 0, none⟩)]
def cap2 (b : Nat) : Array Value := #[.pointer (some ⟨b, 0, none⟩), .pointer (some ⟨b + 3, 0, none⟩), .pointer (some ⟨b + 2, 0, none⟩), .pointer (some ⟨b + 1, 0, none⟩)]
def passV (R who b : Nat) : Value := if who < R then fv 56 (cap2 b) else fv 54 (cap1 b)
theorem boxes4 (W : World) (V ep who : Nat) : PB4 p ((((W.alloc (.cells #[pE p] 28)).alloc (.cells #[.pointer (some ⟨V, 0, none⟩)] 73)).alloc (.cells #[.int .u64 ep] 32)).alloc (.cells #[.int .i64 who] 3)) W.heap.size V ep who ∧
    Below W.heap.size W ((((W.alloc (.cells #[pE p] 28)).alloc (.cells #[.pointer (some ⟨V, 0, none⟩)] 73)).alloc (.cells #[.int .u64 ep] 32)).alloc (.cells #[.int .i64 who] 3)) := by
  refine ⟨⟨(((Boxed.new W 28 (pE p)).alloc _).alloc _).alloc _, ?_, ?_, ?_⟩, ((((Below.refl _ _).alloc (by omega) _).alloc (by simp) _).alloc (by simp; omega) _).alloc (by simp; omega) _⟩
  · have := ((Boxed.new (W.alloc (.cells #[pE p] 28)) 73 (.pointer (some ⟨V, 0, none⟩))).alloc (.cells #[.int .u64 ep] 32)).alloc (.cells #[.int .i64 who] 3)
    rw [World.size_alloc] at this; exact this
  · have := (Boxed.new ((W.alloc (.cells #[pE p] 28)).alloc (.cells #[.pointer (some ⟨V, 0, none⟩)] 73)) 32 (.int .u64 ep)).alloc (.cells #[.int .i64 who] 3)
    rw [World.size_alloc, World.size_alloc] at this; exact this
  · have := Boxed.new (((W.alloc (.cells #[pE p] 28)).alloc (.cells #[.pointer (some ⟨V, 0, none⟩)] 73)).alloc (.cells #[.int .u64 ep] 32)) 3 (.int .i64 who)
    rw [World.size_alloc, World.size_alloc, World.size_alloc] at this; exact this
theorem pass_c (h : EpAt p s W) (V ep who : Nat) (hw : who ≤ p.R) : Calls Try.prog 47 #[pE p, .pointer (some ⟨V, 0, none⟩), .int .u64 ep, .int .i64 who] W fun e w' =>
    e = .returned (passV p.R who W.heap.size) ∧ PB4 p w' W.heap.size V ep who ∧ Below W.heap.size W w' := by
  obtain ⟨hb, hbel⟩ := boxes4 (p := p) W V ep who
  have h' := h.below hbel
  have e0 := hb.b0.cell
  have e3 := hb.b3.cell
  have HB := Lib.hid hb
  have HBe := Lib.hid hbel
  unfold passV
  by_cases hlt : who < p.R
  · rw [if_pos hlt]
    have C := Lib.hid (has_yes h' who hlt)
    unfold pE at *
    clear h h' hb hbel
    unfold fv cap2
    go_enter Try.func47, Try.ntmps47
    go_wp2_with (go_at_call 31; refine C.out.mono ?_; rintro e w' ⟨rfl, rfl⟩)
    go_ret
    exact ⟨rfl, HB.out, HBe.out⟩
  · rw [if_neg hlt]
    have C := Lib.hid (has_no h' (who : Int) (.inr (by omega)))
    unfold pE at *
    clear h h' hb hbel
    unfold fv cap1
    go_enter Try.func47, Try.ntmps47
    go_wp2_with (go_at_call 31; refine C.out.mono ?_; rintro e w' ⟨rfl, rfl⟩)
    go_ret
    exact ⟨rfl, HB.out, HBe.out⟩
end Go.Proofs.Ytefmojohabdjcaa

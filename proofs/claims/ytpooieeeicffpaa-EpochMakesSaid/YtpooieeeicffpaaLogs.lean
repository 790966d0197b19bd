/-
  The law's own acts: steps that are noted in a log.
-/
import Derived.Test.YtpooieeeicffpaaMach
import Derived.Deep.AppendLies
import Derived.Deep.DrawnRows
import Derived.Deep.RegionHeld3
import Derived.RegionTactic
import Derived.Deep.RegionLaw
import Derived.OwnWalk
set_option linter.unusedVariables false
set_option linter.unusedSimpArgs false
namespace Go.Proofs.Ytpooieeeicffpaa
open Go Go.RowKit
attribute [local go_sem ↓] Go.wp_at_zero Go.wp_at_succ

/-- A block of cells. -/
def Cells (W : World) (B : Nat) (t : TypeId) (cur : Array Value) : Prop := W.heap[B]? = some (.cells cur t (0, 0))
theorem Cells.lt {W : World} {B : Nat} {t : TypeId} {cur : Array Value} (h : Cells W B t cur) : B < W.heap.size := (Array.getElem?_eq_some_iff.1 h).1
theorem Cells.cell {W : World} {B : Nat} {t : TypeId} {cur : Array Value} (h : Cells W B t cur) {i : Nat} {v : Value} (hi : cur[i]? = some v) : W.cell? ⟨B, i, none⟩ = some v := by
  have h' : W.heap[B]? = _ := h
  simp [World.cell?, h', hi]
theorem Cells.frozen {W : World} {B : Nat} {t : TypeId} {cur : Array Value} (h : Cells W B t cur) (i : Nat) : W.frozen? ⟨B, i, none⟩ = false := by
  have h' : W.heap[B]? = _ := h
  simp [World.frozen?, h']
theorem Cells.set {W : World} {B : Nat} {t : TypeId} {cur : Array Value} (h : Cells W B t cur) (i : Nat) (v : Value) : Cells (W.setCell ⟨B, i, none⟩ v) B t (cur.setIfInBounds i v) := by
  obtain ⟨hlt, hk⟩ := Array.getElem?_eq_some_iff.1 h
  show (W.heap.modify B _)[B]? = _
  rw [Array.getElem?_eq_getElem (by rw [Array.size_modify]; exact hlt), Array.getElem_modify_self, hk]
  rfl
theorem Cells.later {W W' : World} {B : Nat} {t : TypeId} {cur : Array Value} (h : Cells W B t cur) (hb : W'.heap[B]? = W.heap[B]?) : Cells W' B t cur := hb.trans h

def ptrV (B i : Nat) : Value := .pointer (some ⟨B, i, none⟩)
def cap3 (Bl : Nat) : Array Value := #[.pointer (some ⟨Bl + 2, 0, none⟩), .pointer (some ⟨Bl + 1, 0, none⟩), .pointer (some ⟨Bl, 0, none⟩)]
/-- What a step has captured: three boxes, one behind the other. -/
structure Clo (W : World) (Bl : Nat) (r name Lb sl : Nat) : Prop where
  b0 : Boxed W Bl 3 (.int .i64 r)
  b1 : Boxed W (Bl + 1) 3 (.int .i64 name)
  b2 : Boxed W (Bl + 2) 28 (ptrV Lb sl)
theorem Clo.later {W W' : World} {Bl r name Lb sl : Nat} (h : Clo W Bl r name Lb sl) (hb : ∀ k, k = Bl ∨ k = Bl + 1 ∨ k = Bl + 2 → W'.heap[k]? = W.heap[k]?) : Clo W' Bl r name Lb sl :=
  ⟨(hb _ (.inl rfl)).trans h.b0, (hb _ (.inr (.inl rfl))).trans h.b1, (hb _ (.inr (.inr rfl))).trans h.b2⟩

theorem next_c (r name Lb sl : Nat) (W : World) : Calls Try.prog 44 #[.int .i64 r, .int .i64 name, ptrV Lb sl] W fun e w' => e = .returned (fv 61 (cap3 W.heap.size)) ∧ Clo w' W.heap.size r name Lb sl ∧ Below W.heap.size W w' ∧ w'.heap.size = W.heap.size + 3 := by
  have h0 := ((Boxed.new W 3 (.int .i64 r)).alloc (.cells #[.int .i64 name] 3)).alloc (.cells #[ptrV Lb sl] 28)
  have h1 := (Boxed.new (W.alloc (.cells #[.int .i64 r] 3)) 3 (.int .i64 name)).alloc (.cells #[ptrV Lb sl] 28)
  have h2 := Boxed.new ((W.alloc (.cells #[.int .i64 r] 3)).alloc (.cells #[.int .i64 name] 3)) 28 (ptrV Lb sl)
  rw [World.size_alloc] at h1
  rw [World.size_alloc, World.size_alloc] at h2
  have hb : Below W.heap.size W (((W.alloc (.cells #[.int .i64 r] 3)).alloc (.cells #[.int .i64 name] 3)).alloc (.cells #[ptrV Lb sl] 28)) := (((Below.refl _ _).alloc (by omega) _).alloc (by simp) _).alloc (by simp; omega) _
  have HC : Hid (Clo _ W.heap.size r name Lb sl) := ⟨h0, h1, h2⟩
  have HB := Lib.hid hb
  clear h0 h1 h2 hb
  unfold ptrV cap3 fv at *
  go_enter Try.func44, Try.ntmps44
  go_wp2_with fail
  go_ret
  exact ⟨rfl, HC.out, HB.out, by simp⟩

/-- Behind the append of a step. -/
structure Aft (W : World) (Bl r name Lb sl : Nat) (cur : Array Value) (v : Value) (n : Nat) (xs : List Value) (g cap : Nat) (w3 : World) : Prop where
  fr : ∀ k, k < W.heap.size → v.ownBlock ≠ some k → w3.heap[k]? = W.heap[k]?
  sz : W.heap.size < w3.heap.size
  os : w3.os = W.os ∧ w3.tape = W.tape ∧ w3.output = W.output
  cl : Clo w3 Bl r name Lb sl
  lg : Cells w3 Lb 23 cur
  own : w3.ownsRow 0 3 1 (.slice (some ⟨g, 0, none⟩) (n + 1) cap) (n + 1) (xs ++ [.int .i64 name])
  at' : v.ownBlock = some g ∨ W.heap.size ≤ g
  lt : g < w3.heap.size
theorem Aft.mk' {W : World} {Bl r name Lb sl : Nat} {cur : Array Value} {v : Value} {n : Nat} {xs : List Value} {g cap : Nat} {w3 : World} (hc : Clo W Bl r name Lb sl) (hL : Cells W Lb 23 cur)
    (hb : ∀ k, v.ownBlock = some k → k ≠ Bl ∧ k ≠ Bl + 1 ∧ k ≠ Bl + 2 ∧ k ≠ Lb) {o : Obj} (hgrow : (W.alloc o).grownBy w3 v.ownBlock)
    (hown : w3.ownsRow 0 3 1 (.slice (some ⟨g, 0, none⟩) (n + 1) cap) (n + 1) (xs ++ [.int .i64 name])) (hat : v.ownBlock = some g ∨ g = W.heap.size + 1) (hlt : g < w3.heap.size) : Aft W Bl r name Lb sl cur v n xs g cap w3 := by
  have fr3 : ∀ k, k < W.heap.size → v.ownBlock ≠ some k → w3.heap[k]? = W.heap[k]? := fun k hk hne => (hgrow.block k (by simp; omega) (fun e => hne e.symm)).trans (Below.heap_alloc W _ k hk)
  have sz3 : W.heap.size < w3.heap.size := by have := hgrow.size; simp at this; omega
  refine ⟨fr3, sz3, ⟨hgrow.os, hgrow.tape, hgrow.output⟩, hc.later fun k hk => fr3 k ?_ (fun e => by have := hb k e; omega), hL.later (fr3 _ hL.lt (fun e => by have := hb _ e; omega)), hown, ?_, hlt⟩
  · rcases hk with rfl | rfl | rfl
    · exact hc.b0.lt
    · exact hc.b1.lt
    · exact hc.b2.lt
  · rcases hat with h | h
    · exact .inl h
    · exact .inr (by omega)

/-- What a step does. -/
def N1 (W : World) (Bl r name Lb sl : Nat) (cur : Array Value) (v : Value) (n : Nat) (xs : List Value) (e : Ending) (w' : World) : Prop :=
    ∃ nx g cap, e = .returned nx ∧ ((r = 1 ∧ nx = .nilFunc) ∨ (1 < r ∧ ∃ B', nx = fv 61 (cap3 B') ∧ W.heap.size ≤ B' ∧ g < B' ∧ Clo w' B' (r - 1) name Lb sl)) ∧
      Cells w' Lb 23 (cur.setIfInBounds sl (.slice (some ⟨g, 0, none⟩) (n + 1) cap)) ∧ w'.ownsRow 0 3 1 (.slice (some ⟨g, 0, none⟩) (n + 1) cap) (n + 1) (xs ++ [.int .i64 name]) ∧ (v.ownBlock = some g ∨ W.heap.size ≤ g) ∧
      (∀ k, k < W.heap.size → k ≠ Lb → v.ownBlock ≠ some k → w'.heap[k]? = W.heap[k]?) ∧ W.heap.size ≤ w'.heap.size ∧ w'.os = W.os ∧ w'.tape = W.tape ∧ w'.output = W.output

set_option maxRecDepth 20000 in
set_option maxHeartbeats 4000000 in
theorem next1_c (W : World) (Bl r name Lb sl : Nat) (cur : Array Value) (v : Value) (n : Nat) (xs : List Value) (hc : Clo W Bl r name Lb sl) (hL : Cells W Lb 23 cur) (hv : cur[sl]? = some v)
    (ho : W.ownsRow 0 3 1 v n xs) (hn : n ≤ 10000000) (hr : 1 ≤ r) (hr2 : r ≤ 1000) (hb : ∀ k, v.ownBlock = some k → k ≠ Bl ∧ k ≠ Bl + 1 ∧ k ≠ Bl + 2 ∧ k ≠ Lb) :
    Calls Try.prog 61 (cap3 Bl) W fun e w' => N1 W Bl r name Lb sl cur v n xs e w' := by
  obtain ⟨i0, hi0, hz0, hz1, hz2⟩ := info_parts infoInt
  have c0 := hc.b0.cell
  have c1 := hc.b1.cell
  have c2 := hc.b2.cell
  have c3 := hL.cell hv
  have c4 := hL.frozen sl
  have l3 := hL.lt
  have l0 := hc.b0.lt
  have l1 := hc.b1.lt
  have l2 := hc.b2.lt
  obtain ⟨ad, cp, hvf⟩ := own_form ho
  have HC := Lib.hid hc
  have HL := Lib.hid hL
  have HB := Lib.hid hb
  have HV := Lib.hid hv
  clear hc hL hb hv
  subst hvf
  unfold ptrV at c2
  unfold cap3
  go_enter Try.func61, Try.ntmps61
  go_wp2_with fail
  rename_i Q K hK
  have tail : ∀ (g cap : Nat) (w3 : World), Aft W Bl r name Lb sl cur (.slice ad n cp) n xs g cap w3 →
      Exit.then K Q Exit.normal { tmps := #[.pointer (some ⟨Bl + 2, 0, none⟩), .pointer (some ⟨Bl + 1, 0, none⟩), .pointer (some ⟨Bl, 0, none⟩), .nilFunc, .pointer (some ⟨Lb, sl, none⟩), .pointer (some ⟨Lb, sl, none⟩), .pointer (some ⟨Lb, sl, none⟩),
        .slice ad n cp, .int .i64 name, .slice (some ⟨W.heap.size, 0, none⟩) 1 1, .slice (some ⟨g, 0, none⟩) (n + 1) cap, .pointer (some ⟨Lb, sl, none⟩), undef, undef, undef, undef, undef, undef, undef], defers := [] }
        (w3.setCell ⟨Lb, sl, none⟩ (.slice (some ⟨g, 0, none⟩) (n + 1) cap)) := by
    intro g cap w3 hA
    have hown3 := hA.own
    have cl3 := hA.cl
    have lg3 := hA.lg
    have fr3 := hA.fr
    have sz3 := hA.sz
    have os3 := hA.os
    have hat' := hA.at'
    have hlt3 := hA.lt
    clear hA
    have hgL : g ≠ Lb := by
      intro e
      subst e
      rcases hown3.2 with ⟨h, _⟩ | ⟨g', _, _, h, _, h2, _⟩
      · cases h
      · cases h
        have h3 : w3.heap[g]? = _ := lg3
        rw [h3] at h2
        cases h2
    have hbg : g ≠ Lb := hgL
    have hbl : Bl ≠ Lb ∧ Bl + 1 ≠ Lb ∧ Bl + 2 ≠ Lb := by
      refine ⟨?_, ?_, ?_⟩
      · intro e; have h1 : w3.heap[Bl]? = _ := cl3.b0; have h2 : w3.heap[Lb]? = _ := lg3; rw [e, h2] at h1; cases h1
      · intro e; have h1 : w3.heap[Bl + 1]? = _ := cl3.b1; have h2 : w3.heap[Lb]? = _ := lg3; rw [e, h2] at h1; cases h1
      · intro e; have h1 : w3.heap[Bl + 2]? = _ := cl3.b2; have h2 : w3.heap[Lb]? = _ := lg3; rw [e, h2] at h1; cases h1
    have L4 := lg3.set sl (.slice (some ⟨g, 0, none⟩) (n + 1) cap)
    have O4 := ownsRow_setCell_other hown3 (a := ⟨Lb, sl, none⟩) (by simp [Value.ownBlock]; exact hgL) (.slice (some ⟨g, 0, none⟩) (n + 1) cap)
    have C4 : Clo (w3.setCell ⟨Lb, sl, none⟩ (.slice (some ⟨g, 0, none⟩) (n + 1) cap)) Bl r name Lb sl := cl3.later fun k hk => Below.heap_setCell w3 ⟨Lb, sl, none⟩ _ k (by show k ≠ Lb; rcases hk with rfl | rfl | rfl; exact hbl.1; exact hbl.2.1; exact hbl.2.2)
    have F4 : ∀ k, k < W.heap.size → k ≠ Lb → (Value.slice ad n cp).ownBlock ≠ some k → (w3.setCell ⟨Lb, sl, none⟩ (.slice (some ⟨g, 0, none⟩) (n + 1) cap)).heap[k]? = W.heap[k]? := fun k hk hkL hne => (Below.heap_setCell w3 ⟨Lb, sl, none⟩ _ k hkL).trans (fr3 k hk hne)
    have S4 : W.heap.size < (w3.setCell ⟨Lb, sl, none⟩ (.slice (some ⟨g, 0, none⟩) (n + 1) cap)).heap.size := by
      show _ < (w3.heap.modify _ _).size; rw [Array.size_modify]; exact sz3
    have G4 : g < (w3.setCell ⟨Lb, sl, none⟩ (.slice (some ⟨g, 0, none⟩) (n + 1) cap)).heap.size := by
      show _ < (w3.heap.modify _ _).size; rw [Array.size_modify]; exact hlt3
    have OS4 : (w3.setCell ⟨Lb, sl, none⟩ (.slice (some ⟨g, 0, none⟩) (n + 1) cap)).os = W.os ∧ (w3.setCell ⟨Lb, sl, none⟩ (.slice (some ⟨g, 0, none⟩) (n + 1) cap)).tape = W.tape ∧ (w3.setCell ⟨Lb, sl, none⟩ (.slice (some ⟨g, 0, none⟩) (n + 1) cap)).output = W.output := os3
    generalize w3.setCell ⟨Lb, sl, none⟩ (.slice (some ⟨g, 0, none⟩) (n + 1) cap) = W4 at L4 O4 C4 F4 S4 G4 OS4 ⊢
    clear l0 l1 l2 l3 c0 c1 c2 c3 c4 lg3 cl3 os3 sz3 fr3 hown3 ho hgL hbg hbl hlt3
    have c0 := C4.b0.cell
    have c1 := C4.b1.cell
    have c2 := C4.b2.cell
    unfold ptrV at c2
    have HL4 := Lib.hid L4
    have HO4 := Lib.hid O4
    have HF4 := Lib.hid F4
    have HG4 := Lib.hid G4
    have HS4 := Lib.hid OS4
    have HA4 := Lib.hid hat'
    clear L4 O4 C4 F4 G4 OS4 hat'
    by_cases h1 : r = 1
    · subst h1
      go_wp2_with fail
      go_ret
      exact ⟨_, g, cap, rfl, .inl ⟨rfl, rfl⟩, HL4.out, HO4.out, HA4.out, HF4.out, Nat.le_of_lt S4, HS4.out⟩
    · obtain ⟨q, rfl⟩ : ∃ q, r = q + 2 := ⟨r - 2, by omega⟩
      have hq : ¬ (((q + 2 : Nat) : Int) ≤ 1) := by omega
      have hq2 : ((q + 2 : Nat) : Int) - 1 = ((q + 1 : Nat) : Int) := by omega
      have C5 := Lib.hid (next_c (q + 1) name Lb sl W4)
      unfold ptrV at C5
      go_wp2_with fail
      rw [show ((q : Int) + 2 - 1) = ((q + 1 : Nat) : Int) by omega]
      refine C5.out.mono ?_
      rintro e W5 ⟨rfl, hc5, hb5, hs5⟩
      go_wp2_with fail
      go_ret
      refine ⟨_, g, cap, rfl, .inr ⟨by omega, _, rfl, Nat.le_of_lt S4, HG4.out, hc5⟩, HL4.out.later (hb5.block _ HL4.out.lt), own_below HO4.out hb5, HA4.out, fun k hk hkL hne => (hb5.block k (by omega)).trans (HF4.out k hk hkL hne), by omega, ?_⟩
      obtain ⟨h1, h2, h3⟩ := HS4.out
      exact ⟨hb5.os.trans h1, hb5.tape.trans h2, hb5.output.trans h3⟩
  have HT := Lib.hid tail
  clear tail
  go_region_law ((refine step_append_lies _ (by rfl) (.tmp 7) (.tmp 9) 23 (by rfl) 0 3 i0 (.int .i64 0) 1 8 Try.underlying23 hi0 hz0 hz1 hz2 rfl (by omega) (.slice ad n cp) n xs (by rfl) (by first | exact (ho.drew.alloc _) | exact (ho.alloc _).drew | exact (ho.alloc _) | exact (ho.drew.alloc _).drew) ⟨W.heap.size, 0, none⟩ 1 1 [.int .i64 name] (by rfl) (by rfl) (World.news_of_block (cs := #[.int .i64 name]) (t := 3) (fr := (0, 0)) (heap_alloc_new W _)) (by simp [Value.oneCell']) (by omega) (by unfold maxLen; omega) (by omega) (by simp) (W.heap.size + 1) (by simp) ?_; intro g cap w3 hown3 hgrow hat hlt3;
                              have hA := Aft.mk' (o := .cells #[.int .i64 name] 3) HC.out HL.out HB.out ⟨hgrow.os, hgrow.tape, hgrow.output, hgrow.size, hgrow.block⟩ hown3 hat hlt3; clear hown3 hgrow hat hlt3; have y1 := hA.lg.cell HV.out; have y2 := hA.lg.frozen sl; have y3 := hA.lg.lt; have y4 : w3.cell? ⟨Bl + 2, 0, none⟩ = some (.pointer (some ⟨Lb, sl, none⟩)) := hA.cl.b2.cell))
  all_goals exact HT.out _ _ _ (by assumption)
end Go.Proofs.Ytpooieeeicffpaa

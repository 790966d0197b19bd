/-
  Whether a key matches, by the program, be it right or not: contract.
  The law's 'not' of a key: contract.
  Keys without their addresses match as with them; the law's own example of a reading.
  What a key of two keys means: lists.
  Two keys of one's own, made in whatever order: what stands behind each operation.
  XInv's law with the frame written out once for all operations; a guard that holds.
  The document's reading of a key: what stands behind each operation of the region that gathers a key.
  The document's reading of a key: contract, one depth from the next. MADE by wip/tools/mkRk4.py.
  search.copied: contract.
  search.copied: the walk.
  search.Walk: what it hands out; what stands in a round.
  search.Walk's iterator.
  What does not depend on where a key lies; how many keys a walk hands out: lists alone.
  The law's look at one known case: contract.
-/
import Derived.Test.YtpnnchpaaopdcaaGreatDoorZB04
import Derived.Test.YtpnnchpaaopdcaaGreatDoorZB21
import Derived.Test.YtpnnchpaaopdcaaGreatDoorZB11
import Derived.Test.YtpnnchpaaopdcaaGreatDoorZB19
import Derived.Test.YtpnnchpaaopdcaaGreatDoorZB06
import Derived.Test.YtpnnchpaaopdcaaGreatDoorZB20
import Derived.Laws.OwnMore
import Derived.Test.YtpnnchpaaopdcaaGreatDoorZB08
import Derived.Test.YtpnnchpaaopdcaaGreatDoorZB17
import Derived.Test.YtpnnchpaaopdcaaGreatDoorZB05
set_option linter.unusedVariables false
set_option linter.unusedSimpArgs false
namespace Go.Proofs.YtpnnchpaaopdcaaGreatDoor
open Go Go.RowKit
theorem match_three (W : World) (m : MP) (c0 c1 c2 c3 c4 c5 : Value) : ∃ w0, ((W.alloc (.cells #[c0, c1, c2, c3, c4, c5] 37)).alloc (.cells #[.int .u32 m.uid, .int .u8 m.fl, .string (txt m.tx)] 50)).alloc (.cells #[.int .u32 m.sq, .int .u32 m.lastS, .int .u32 m.lastU] 43) = w0 ∧
    Below W.heap.size W w0 ∧ w0.heap.size = W.heap.size + 3 ∧ Bx2 w0 (W.heap.size + 1) (W.heap.size + 1 + 1) m ∧ w0.heap[W.heap.size]? = some (.cells #[c0, c1, c2, c3, c4, c5] 37 (0, 0)) := by
  refine ⟨_, rfl, ?_, by simp, ⟨?_, ?_⟩, ?_⟩
  · exact (((Below.refl _ W).alloc (Nat.le_refl _) _).alloc (by simp) _).alloc (by simp; omega) _
  · have h := heap_alloc_new (W.alloc (.cells #[c0, c1, c2, c3, c4, c5] 37)) (.cells #[.int .u32 m.uid, .int .u8 m.fl, .string (txt m.tx)] 50)
    rw [World.size_alloc] at h
    rw [Below.heap_alloc _ _ _ (by simp)]
    exact h
  · have h := heap_alloc_new ((W.alloc (.cells #[c0, c1, c2, c3, c4, c5] 37)).alloc (.cells #[.int .u32 m.uid, .int .u8 m.fl, .string (txt m.tx)] 50)) (.cells #[.int .u32 m.sq, .int .u32 m.lastS, .int .u32 m.lastU] 43)
    rw [World.size_alloc, World.size_alloc] at h
    exact h
  · have h := heap_alloc_new W (.cells #[c0, c1, c2, c3, c4, c5] 37)
    rw [Below.heap_alloc _ _ _ (by simp; omega), Below.heap_alloc _ _ _ (by simp)]
    exact h
def matchP (m : MP) (k : KT) : Bool := rightK k 16 && matchK m k
set_option maxRecDepth 100000 in
set_option maxHeartbeats 2000000 in
theorem sMatch_c {m : MP} (hm : m.Ok) (k : KT) (W : World) (hK : KeyC W k) (hX : MaxL W) : Calls Tryz.prog 20 #[k.val, m.recv, m.plc] W fun e w' => e = .returned (.bool (matchP m k)) ∧ Below W.heap.size W w' := by
  unfold matchP
  have C1 := fun w hb => sRight_c k w (hK.below (W' := w) hb)
  have C2 : rightK k 16 = true → ∀ w, Below W.heap.size W w → Calls Tryz.prog 70 #[k.val, m.recv, m.plc] w fun e w' => e = .returned (.bool (matchK m k)) ∧ Below w.heap.size w w' := fun hr w hb => by
    rw [rightK_eq, Bool.and_eq_true] at hr
    exact sMatches_c hm k hr.2 w (hK.below hb) (hX.below hb)
  obtain ⟨yk, yf, ym, yn, yl, ysp, ykp, ysc, ykc, Y, hyv, hyc⟩ := k.form
  rw [hyv] at C1 C2 ⊢
  unfold MP.recv MP.plc at C2 ⊢
  obtain ⟨w0, hw0, hb0, hs0, hbx, hkb⟩ := match_three W m (.int .i64 yk) (.int .u8 yf) (.slice ysp ym ysc) (.int .u32 yn) (.string Y) (.slice ykp yl ykc)
  obtain ⟨b1, hb1⟩ : ∃ b, rightK k 16 = b := ⟨_, rfl⟩
  obtain ⟨b2, hb2⟩ : ∃ b, matchK m k = b := ⟨_, rfl⟩
  rw [hb1] at C1 C2 ⊢
  rw [hb2] at C2 ⊢
  have C := Lib.hid (C1 w0 hb0)
  have HB0 := Lib.hid hb0
  obtain ⟨uid, mfl, tx, sq, lastS, lastU⟩ := m
  dsimp only at hw0 hbx C2 ⊢
  obtain ⟨TX, hTX⟩ : ∃ TX, txt tx = TX := ⟨_, rfl⟩
  rw [hTX] at hw0 C2 ⊢
  have HW0 := Lib.hid hw0
  have HBX := Lib.hid hbx
  have HKB := Lib.hid hkb
  have HTX := Lib.hid hTX
  cases b1 with
  | false =>
    rw [Bool.false_and]
    clear C1 C2 hK hX hyv hyc hb1 hb2 hb0 hw0 hbx hkb hm hTX
    go_enter Tryz.func20, Tryz.ntmps20
    go_wp2_with fail
    rw [HW0.out]
    refine C.out.mono ?_
    rintro e w2 ⟨rfl, hb⟩
    have HB2 := Lib.hid (HB0.out.trans (hb.mono HB0.out.size))
    clear hb
    go_wp2_with fail
    go_ret
    exact ⟨rfl, HB2.out⟩
  | true =>
    rw [Bool.true_and]
    have C2h := Lib.hid (C2 rfl)
    clear C2
    clear C1 hK hX hyv hyc hb1 hb2 hb0 hw0 hbx hkb hm hTX
    go_enter Tryz.func20, Tryz.ntmps20
    go_wp2_with fail
    rw [HW0.out]
    refine C.out.mono ?_
    rintro e w2 ⟨rfl, hb⟩
    have hkb2 : w2.heap[W.heap.size]? = some (.cells #[.int .i64 yk, .int .u8 yf, .slice ysp ym ysc, .int .u32 yn, .string Y, .slice ykp yl ykc] 37 (0, 0)) := (hb.block _ (Array.getElem?_eq_some_iff.1 HKB.out).1).trans HKB.out
    have hbx2 := HBX.out.below hb
    obtain ⟨⟨r0, r1, r2⟩, ⟨p0, p1, p2⟩, hl1, hl2⟩ := hbx2.cells
    dsimp only at r0 r1 r2 p0 p1 p2
    rw [HTX.out] at r2
    have k0 : w2.cell? ⟨W.heap.size, 0, none⟩ = some (.int .i64 yk) := by rw [Lib.cell_of_heap hkb2]; rfl
    have k1 : w2.cell? ⟨W.heap.size, 1, none⟩ = some (.int .u8 yf) := by rw [Lib.cell_of_heap hkb2]; rfl
    have k2 : w2.cell? ⟨W.heap.size, 2, none⟩ = some (.slice ysp ym ysc) := by rw [Lib.cell_of_heap hkb2]; rfl
    have k3 : w2.cell? ⟨W.heap.size, 3, none⟩ = some (.int .u32 yn) := by rw [Lib.cell_of_heap hkb2]; rfl
    have k4 : w2.cell? ⟨W.heap.size, 4, none⟩ = some (.string Y) := by rw [Lib.cell_of_heap hkb2]; rfl
    have k5 : w2.cell? ⟨W.heap.size, 5, none⟩ = some (.slice ykp yl ykc) := by rw [Lib.cell_of_heap hkb2]; rfl
    have hkl := (Array.getElem?_eq_some_iff.1 hkb2).1
    have HB2 := Lib.hid (HB0.out.trans (hb.mono HB0.out.size))
    have C3 := Lib.hid (C2h.out w2 HB2.out)
    clear hb hkb2 hbx2
    cases b2
    all_goals
      go_wp2_with fail
      refine C3.out.mono ?_
      rintro e w5 ⟨rfl, hb⟩
      have HB5 := Lib.hid (HB2.out.trans (hb.mono HB2.out.size))
      clear hb
      go_wp2_with fail
      go_ret
      exact ⟨rfl, HB5.out⟩
variable {W : World}
end Go.Proofs.YtpnnchpaaopdcaaGreatDoor
namespace Go.Proofs.YtpnnchpaaopdcaaGreatDoor
open Go Go.RowKit
mutual
theorem matchK_bare (m : MP) : ∀ k : KT, matchK m (bareK k) = matchK m k
  | .mk kind flag set n s kids _ _ _ _ => by rw [bareK, matchK, matchK, matchHd_bare m kids, matchAny_bare m kids, matchNot_bare m kids]
theorem matchHd_bare (m : MP) : ∀ l : List KT, matchHd m (bareL l) = matchHd m l
  | [] => by rw [bareL]
  | k :: r => by rw [bareL, matchHd, matchHd, matchK_bare m k]
theorem matchAny_bare (m : MP) : ∀ l : List KT, matchAny m (bareL l) = matchAny m l
  | [] => by rw [bareL]
  | k :: r => by rw [bareL, matchAny, matchAny, matchK_bare m k, matchAny_bare m r]
theorem matchNot_bare (m : MP) : ∀ l : List KT, matchNot m (bareL l) = matchNot m l
  | [] => by rw [bareL]
  | k :: r => by rw [bareL, matchNot, matchNot, matchK_bare m k, matchNot_bare m r]
end
theorem matchP_bare (m : MP) (k : KT) : matchP m (bareK k) = matchP m k := by unfold matchP; rw [matchK_bare, rightK_bare]
def exN : List UInt8 := [78, 79, 84, 32, 40, 83, 69, 69, 78, 32, 49, 58, 50, 41]
def exK : KT := plainK 8 0 [] 0 [] [plainK 10 0 [] 0 [] [plainK 1 8 [] 0 [] [], plainK 3 0 [(1, 2)] 0 [] []]]
theorem ex_one : matchP ⟨9, 8, [], 3, 5, 9⟩ exK = true := by decide +kernel
theorem ex_two : matchP ⟨9, 8, [], 2, 5, 9⟩ exK = false := by decide +kernel
theorem ex_read : readTop ⟨exN, false⟩ = (exK, ⟨[], false⟩) := by kernel_rfl
variable {W : World}
theorem match_of_bare {m : MP} {a b : KT} (h : bareK a = bareK b) : matchK m a = matchK m b := by
  rw [← matchK_bare, h, matchK_bare]
end Go.Proofs.YtpnnchpaaopdcaaGreatDoor
namespace Go.Proofs.YtpnnchpaaopdcaaGreatDoor
open Go Go.RowKit
theorem no_bool {a b : Bool} {p : Prop} (h : a = b) (h2 : (a != b) = true) : p := by
  subst h
  simp at h2
variable {w5 w w' : World}
def zK : Array Value := #[.int .i64 0, .int .u8 0, .slice none 0 0, .int .u32 0, .string ⟨#[]⟩, .slice none 0 0]
abbrev upL (L : Nat → Bool) (i : Nat) : Nat → Bool := fun j => if j = i then true else L j
abbrev upV (vs : Nat → Value) (s : Nat) (v : Value) : Nat → Value := fun j => if j = s then v else vs j
def pK (A : Nat) : Value := .pointer (some ⟨A, 0, none⟩)
variable {kv ov : Value} {bk bo k2 o2 : KT} {A B : Nat} {L : Nat → Bool} {vs : Nat → Value}
end Go.Proofs.YtpnnchpaaopdcaaGreatDoor
namespace Go.Proofs.YtpnnchpaaopdcaaGreatDoor
open Go Go.RowKit
theorem of_if {c : Prop} [Decidable c] {A B : Prop} (h : c) (a : A) : if c then A else B := by rw [if_pos h]; exact a
theorem wp_region_slotsF {P : Program} {id : Nat} {ops : Array Oper} {Q : Exit → Act → World → Prop} {a : Act} {w : World} (slots : List Nat) (J : (Nat → Bool) → (Nat → Value) → World → Prop) (F : (Nat → Value) → Act) (hF : ∀ vs, slotsPut slots vs a = F vs) (hm : P.follows .mixedOrders = true) (hb : backB ops = true)
    (h0 : ∀ vs, J (fun _ => false) vs w.drew)
    (hstep : ∀ (i : Nat) (o : Oper) (L : Nat → Bool) (vs : Nat → Value) (w : World), ops[i]? = some o → L i = false → (∀ e ∈ o.after, Region.binds .any e = true → L e.on = true) → J L vs w →
      wpOp P ops Q i (fun a' w' => ∃ vs', a' = F vs' ∧ J (upL L i) vs' w') (F vs) w)
    (hend : ∀ (L : Nat → Bool) (vs : Nat → Value) (w : World), (∀ i, i < ops.size → L i = true) → J L vs w → Q .normal (F vs) w) : (Code.region id ops true).wp P Q a w := by
  have e : F = fun vs => slotsPut slots vs a := funext fun vs => (hF vs).symm
  subst e
  exact wp_region_slots2 slots J hm hb h0 hstep hend
theorem getD_mid {l1 l2 : List Value} {x y : Value} {j : Nat} (h : j ≠ l1.length) : (l1 ++ x :: l2).getD j undef = (l1 ++ y :: l2).getD j undef := by
  simp only [List.getD_eq_getElem?_getD]
  congr 1
  by_cases h1 : j < l1.length
  · rw [List.getElem?_append_left h1, List.getElem?_append_left h1]
  · rw [List.getElem?_append_right (by omega), List.getElem?_append_right (by omega)]
    obtain ⟨m, hm⟩ : ∃ m, j - l1.length = m + 1 := ⟨j - l1.length - 1, by omega⟩
    rw [hm, List.getElem?_cons_succ, List.getElem?_cons_succ]
structure RgV (s : Nat) (D : Nat) (wq : World) (val : KT → List Value) (c : Nat) (K : KT → World → Prop) (k : KT) (L : Nat → Bool) (vs : Nat → Value) (w : World) : Prop where
  b : Below D wq w
  l : ∀ i, L i = true → vs (s + i) = (val k).getD i undef
  k : L c = true → K k w
section
variable {s D : Nat} {wq : World} {val : KT → List Value} {c : Nat} {K : KT → World → Prop} {k : KT} {L : Nat → Bool} {vs : Nat → Value} {w w' : World}
theorem RgV.start (h : Below D wq w) : RgV s D wq val c K k (fun _ => false) vs w := ⟨h, (fun i e => no_bool e rfl), (fun e => no_bool e rfl)⟩
theorem RgV.vals {i : Nat} {v : Value} (h : ∀ j, L j = true → vs (s + j) = (val k).getD j undef) (hv : v = (val k).getD i undef) (j : Nat) (hj : upL L i j = true) : upV vs (s + i) v (s + j) = (val k).getD j undef := by
  by_cases e : j = i
  · subst e; unfold upV; rw [if_pos rfl]; exact hv
  · have h1 : L j = true := by unfold upL at hj; rwa [if_neg e] at hj
    unfold upV
    rw [if_neg (by omega)]
    exact h j h1
theorem RgV.step (h : RgV s D wq val c K k L vs w) (i : Nat) (v : Value) (hi : i ≠ c) (hv : v = (val k).getD i undef) (hb : Below D wq w') (hK : K k w → K k w') : RgV s D wq val c K k (upL L i) (upV vs (s + i) v) w' :=
  ⟨hb, RgV.vals h.l hv, fun e => hK (h.k (by unfold upL at e; rwa [if_neg (fun x => hi x.symm)] at e))⟩
theorem RgV.same (h : RgV s D wq val c K k L vs w) (i : Nat) (v : Value) (hi : i ≠ c) (hv : v = (val k).getD i undef) : RgV s D wq val c K k (upL L i) (upV vs (s + i) v) w := h.step i v hi hv h.b id
theorem RgV.made (h : RgV s D wq val c K k L vs w) (hL : L c = false) {k' : KT} (hval : ∀ j, j ≠ c → (val k').getD j undef = (val k).getD j undef) (v : Value) (hv : v = (val k').getD c undef) (hb : Below D wq w') (hK : K k' w') : RgV s D wq val c K k' (upL L c) (upV vs (s + c) v) w' := by
  refine ⟨hb, RgV.vals (fun j hj => ?_) hv, fun _ => hK⟩
  rw [hval j (fun e => by rw [e, hL] at hj; cases hj)]
  exact h.l j hj
theorem RgV.at (h : RgV s D wq val c K k L vs w) (i : Nat) (hi : L i = true) {v : Value} (hv : (val k).getD i undef = v) : vs (s + i) = v := (h.l i hi).trans hv
end
structure RgP (s D : Nat) (wq : World) (val : List Value) (n : Nat) (p : Addr) (u : Value) (L : Nat → Bool) (vs : Nat → Value) (w : World) : Prop where
  e : L n = true → (∀ j, j < n → L j = true) ∧ ∃ w6, Below D wq w6 ∧ w = w6.setCell p u
  b : L n = false → Below D wq w
  l : ∀ i, i < n → L i = true → vs (s + i) = val.getD i undef
section
variable {s D n : Nat} {wq : World} {val : List Value} {p : Addr} {u : Value} {L : Nat → Bool} {vs : Nat → Value} {w w' : World}
theorem RgP.start (h : Below D wq w) : RgP s D wq val n p u (fun _ => false) vs w := by
  constructor
  · intro e; cases e
  · intro _; exact h
  · intro i _ e; cases e
theorem RgP.off (h : RgP s D wq val n p u L vs w) {i : Nat} (hi : i < n) (hL : L i = false) : L n = false := by
  cases e : L n with
  | false => rfl
  | true => rw [(h.e e).1 i hi] at hL; cases hL
theorem RgP.below (h : RgP s D wq val n p u L vs w) {i : Nat} (hi : i < n) (hL : L i = false) : Below D wq w := h.b (h.off hi hL)
theorem RgP.at (h : RgP s D wq val n p u L vs w) (i : Nat) (hi : i < n) (hL : L i = true) {v : Value} (hv : val.getD i undef = v) : vs (s + i) = v := (h.l i hi hL).trans hv
theorem RgP.step (h : RgP s D wq val n p u L vs w) (i : Nat) (v : Value) (hi : i < n) (hL : L i = false) (hv : v = val.getD i undef) (hb : Below D wq w') : RgP s D wq val n p u (upL L i) (upV vs (s + i) v) w' := by
  have h9 := h.off hi hL
  have e9 : upL L i n = false := by unfold upL; rw [if_neg (by omega)]; exact h9
  refine ⟨fun e => (by rw [e9] at e; cases e), fun _ => hb, fun j hj hl => ?_⟩
  by_cases e : j = i
  · subst e; unfold upV; rw [if_pos rfl]; exact hv
  · have h1 : L j = true := by unfold upL at hl; rwa [if_neg e] at hl
    unfold upV
    rw [if_neg (by omega)]
    exact h.l j hj h1
theorem RgP.last (h : RgP s D wq val n p u L vs w) (hL : L n = false) (hall : ∀ j, j < n → L j = true) : RgP s D wq val n p u (upL L n) vs (w.setCell p u) := by
  refine ⟨fun _ => ⟨fun j hj => ?_, w, h.b hL, rfl⟩, fun e => ?_, fun j hj hl => h.l j hj (hall j hj)⟩
  · unfold upL; rw [if_neg (by omega)]; exact hall j hj
  · unfold upL at e; rw [if_pos rfl] at e; cases e
end
end Go.Proofs.YtpnnchpaaopdcaaGreatDoor
namespace Go.Proofs.YtpnnchpaaopdcaaGreatDoor
open Go Go.RowKit
structure RkR (W : World) (g : Nat) (S : List UInt8) (wr : World) (T n : Nat) (d : Int) (v : Value) (kb : KT) (u2 : RS) (xs : List Value) (k2 : KT) (w4 : World) (g2 cap2 : Nat) (w6 : World) (L : Nat → Bool) (vs : Nat → Value) (w : World) : Prop where
  l0 : L 0 = true → vs 76 = .pointer (some ⟨T, 5, none⟩)
  l1 : L 1 = true → vs 77 = v
  l2 : L 2 = true → vs 78 = pt g
  l3 : L 3 = true → vs 79 = .int .i64 d
  l4 : L 4 = true → vs 80 = .int .i64 (d - 1)
  l8 : L 8 = true → vs 84 = .pointer (some ⟨T, 5, none⟩)
  o6 : L 6 = true → L 5 = true
  o7 : L 7 = true → L 6 = true ∧ L 1 = true
  o9 : L 9 = true → L 7 = true
  a : L 5 = false → w = wr.drew
  b : L 5 = true → vs 81 = k2.val ∧ bareK k2 = kb ∧ KeyC w4 k2 ∧ KeyIn wr.heap.size k2 ∧ DRS w4 g S u2 ∧ Tk g wr w4
  b2 : L 5 = true → L 6 = false → w = w4
  c : L 6 = true → vs 82 = .slice (some ⟨w4.heap.size, 0, none⟩) 1 1
  c2 : L 6 = true → L 7 = false → w = w4.alloc (.cells k2.cells.toArray 26)
  e : L 7 = true → vs 83 = .slice (some ⟨g2, 0, none⟩) (n + 1) cap2 ∧ w6.ownsRow (W.heap.size + 1) 26 6 (.slice (some ⟨g2, 0, none⟩) (n + 1) cap2) (n + 1) (xs ++ k2.cells) ∧ (w4.alloc (.cells k2.cells.toArray 26)).grownBy w6 v.ownBlock ∧ (v.ownBlock = some g2 ∨ g2 = w4.heap.size + 1)
  e2 : L 7 = true → L 9 = false → w = w6
  f : L 9 = true → w = w6.setCell ⟨T, 5, none⟩ (.slice (some ⟨g2, 0, none⟩) (n + 1) cap2)
section
variable {W : World} {g : Nat} {S : List UInt8} {wr : World} {T n : Nat} {d : Int} {v : Value} {kb : KT} {u2 : RS} {xs : List Value} {k2 : KT} {w4 : World} {g2 cap2 : Nat} {w6 : World} {L : Nat → Bool} {vs : Nat → Value} {w w' : World}
variable (h : RkR W g S wr T n d v kb u2 xs k2 w4 g2 cap2 w6 L vs w)
include h
end
end Go.Proofs.YtpnnchpaaopdcaaGreatDoor
namespace Go.Proofs.YtpnnchpaaopdcaaGreatDoor
open Go Go.RowKit
variable {W : World}
def setK {α : Type} (xs : List α) : Nat → List α → List α
  | _, [] => xs
  | o, v :: r => setK (xs.set o v) (o + 1) r
theorem setK_mid {α : Type} (D : List α) : ∀ (A B C : List α), B.length = D.length → setK (A ++ B ++ C) A.length D = A ++ D ++ C := by
  induction D with
  | nil => intro A B C h; obtain rfl : B = [] := List.length_eq_zero_iff.1 (by simpa using h); rfl
  | cons d D ih =>
    intro A B C h
    match B, h with
    | b :: B, h =>
      have e : (A ++ b :: B ++ C).set A.length d = (A ++ [d]) ++ B ++ C := by
        rw [List.append_assoc, List.set_append_right _ _ (Nat.le_refl _), Nat.sub_self]
        simp
      rw [setK, e]
      have := ih (A ++ [d]) B C (by simpa using h)
      rw [List.length_append, List.length_singleton] at this
      rw [this]
      simp
def putR (R : Nat) : World → Nat → List Value → World
  | w, _, [] => w
  | w, o, v :: r => putR R (w.setCell ⟨R, o, none⟩ v) (o + 1) r
theorem putR_own {base e size g cap n : Nat} (vs : List Value) : ∀ (w : World) (xs : List Value) (o : Nat), w.ownsRow base e size (.slice (some ⟨g, 0, none⟩) n cap) n xs →
    (putR g w o vs).ownsRow base e size (.slice (some ⟨g, 0, none⟩) n cap) n (setK xs o vs) ∧ w.grownBy (putR g w o vs) (some g) := by
  induction vs with
  | nil => intro w xs o h; exact ⟨h, World.grownBy.refl w _⟩
  | cons v r ih =>
    intro w xs o h
    obtain ⟨h1, h2⟩ := h.stored o v
    obtain ⟨h3, h4⟩ := ih _ _ (o + 1) h1
    exact ⟨h3, grown_trans h2 h4⟩
structure CpI (W wl : World) (kids : List KT) (N : Nat) (v : Value) (k : Nat) (kts : List KT) (wx : World) : Prop where
  len : kts.length = k
  own : wx.ownsRow (W.heap.size + 2) 37 6 v N (cellsK (kts ++ kids.drop k))
  keys : ∀ x ∈ kts, KeyC wx x
  up : ∀ x ∈ kts, KeyIn (W.heap.size + 2) x
  off : ∀ x ∈ kts, KeyQ (fun b => v.ownBlock ≠ some b) x
  bare : bareL kts = (kids.take k).map bareK
  g : wl.grownBy wx v.ownBlock
  big : W.heap.size + 2 ≤ wl.heap.size
theorem CpI.step {wl wr w4 : World} {kids : List KT} {N k R cap : Nat} {kts : List KT} {kd k2 : KT} (hI : CpI W wl kids N (.slice (some ⟨R, 0, none⟩) N cap) k kts wr) (hkd : kids[k]? = some kd) (hb4 : Below wr.heap.size wr w4) (hbk : bareK k2 = bareK kd) (hc2 : KeyC w4 k2) (hi2 : KeyIn wr.heap.size k2) :
    CpI W wl kids N (.slice (some ⟨R, 0, none⟩) N cap) (k + 1) (kts ++ [k2]) (putR R w4 (k * 6) k2.cells) := by
  have hkl := (List.getElem?_eq_some_iff.1 hkd).1
  have hR := hI.own.lt R rfl
  obtain ⟨ho, hg⟩ := putR_own k2.cells w4 _ (k * 6) (own_below hI.own hb4)
  have hck : (cellsK kts).length = k * 6 := by rw [cellsK_len, hI.len]
  have hdr : kids.drop k = kd :: kids.drop (k + 1) := by
    rw [List.drop_eq_getElem_cons hkl]
    congr 1
    exact (List.getElem?_eq_some_iff.1 hkd).2
  have hset : setK (cellsK (kts ++ kids.drop k)) (k * 6) k2.cells = cellsK ((kts ++ [k2]) ++ kids.drop (k + 1)) := by
    have e1 : ∀ a b : List KT, cellsK (a ++ b) = cellsK a ++ cellsK b := fun a b => by unfold cellsK; rw [List.flatMap_append]
    rw [hdr, e1, cellsK_cons, ← List.append_assoc, ← hck, setK_mid _ _ _ _ (by rw [cells_six, cells_six]), e1, cellsK_snoc]
  rw [hset] at ho
  have hq : KeepQ (fun b => (Value.slice (some ⟨R, 0, none⟩) N cap).ownBlock ≠ some b) w4 (putR R w4 (k * 6) k2.cells) := ⟨hg.size, fun b hb hlt => grown_at9 hg hlt hb⟩
  have hoff : ∀ x ∈ kts ++ [k2], KeyQ (fun b => (Value.slice (some ⟨R, 0, none⟩) N cap).ownBlock ≠ some b) x := fun x hx => by
    rcases List.mem_append.1 hx with hx | hx
    · exact hI.off x hx
    · rw [List.mem_singleton.1 hx]
      exact KeyQ.mono (fun b hb e => by have e2 : R = b := Option.some.inj e; omega) k2 (KeyQ.of_in k2 hi2)
  exact {
    len := by rw [List.length_append, hI.len]; rfl
    own := ho
    keys := fun x hx => by
      refine KeyC.keepQ hq x ?_ (hoff x hx)
      rcases List.mem_append.1 hx with hx | hx
      · exact KeyC.below hb4 x (hI.keys x hx)
      · rw [List.mem_singleton.1 hx]; exact hc2
    up := fun x hx => by
      rcases List.mem_append.1 hx with hx | hx
      · exact hI.up x hx
      · rw [List.mem_singleton.1 hx]; exact KeyIn.mono (by have := hI.g.size; have := hI.big; omega) k2 hi2
    off := hoff
    bare := by
      rw [bareL_map, List.map_append, ← bareL_map, hI.bare, List.take_add_one, hkd]
      simp [hbk]
    g := grown_trans (grown_trans hI.g (grown_of_below hb4 _)) hg
    big := hI.big }
theorem results_cp (tmps : Array Value) (w : World) (B : Nat) (a b c d e f : Value) (h : Cells w B 37 #[a, b, c, d, e, f]) (h2 : tmps.getD 2 undef = .pointer (some ⟨B, 0, none⟩)) :
    (results Tryz.f71 tmps).run Tryz.prog w = .ok (.agg #[a, b, c, d, e, f]) w := by
  have c0 := h.cell (i := 0) rfl
  have c1 := h.cell (i := 1) rfl
  have c2 := h.cell (i := 2) rfl
  have c3 := h.cell (i := 3) rfl
  have c4 := h.cell (i := 4) rfl
  have c5 := h.cell (i := 5) rfl
  have h2' : tmps[2]?.getD undef = .pointer (some ⟨B, 0, none⟩) := by simpa using h2
  simp [results, Tryz.f71, go_sem, h2', c0, c1, c2, c3, c4, c5]
structure CpF (w3 : World) (B R N cap k : Nat) (kd k2 : KT) (L : Nat → Bool) (vs : Nat → Value) (w : World) : Prop where
  b : L 6 = false → Below w3.heap.size w3 w
  l0 : L 0 = true → vs 21 = .pointer (some ⟨B, 5, none⟩)
  l1 : L 1 = true → vs 22 = .slice (some ⟨R, 0, none⟩) N cap
  l2 : L 2 = true → vs 23 = .int .i64 k
  l3 : L 3 = true → vs 24 = kd.val
  l4 : L 4 = true → vs 25 = k2.val ∧ KeyIn w3.heap.size k2 ∧ bareK k2 = bareK kd ∧ (L 6 = false → KeyC w k2)
  l5 : L 5 = true → vs 26 = .pointer (some ⟨R, k * 6, none⟩)
  l6 : L 6 = true → ∃ w4, Below w3.heap.size w3 w4 ∧ KeyC w4 k2 ∧ w = putR R w4 (k * 6) k2.cells
  o1 : L 1 = true → L 0 = true
  o4 : L 4 = true → L 3 = true
  o5 : L 5 = true → L 1 = true ∧ L 2 = true
  o6 : L 6 = true → L 4 = true ∧ L 5 = true
section
variable {w3 : World} {B R N cap k : Nat} {kd k2 : KT} {L : Nat → Bool} {vs : Nat → Value} {w w' : World}
theorem CpF.start (w : World) (hb : Below w3.heap.size w3 w) (vs : Nat → Value) : CpF w3 B R N cap k kd k2 (fun _ => false) vs w :=
  ⟨fun _ => hb, (fun e => no_bool e rfl), (fun e => no_bool e rfl), (fun e => no_bool e rfl), (fun e => no_bool e rfl), (fun e => no_bool e rfl), (fun e => no_bool e rfl), (fun e => no_bool e rfl), (fun e => no_bool e rfl), (fun e => no_bool e rfl), (fun e => no_bool e rfl), (fun e => no_bool e rfl)⟩
theorem CpF.no6 (h : CpF w3 B R N cap k kd k2 L vs w) (hn : L 0 = false ∨ L 1 = false ∨ L 2 = false ∨ L 3 = false ∨ L 4 = false ∨ L 5 = false ∨ L 6 = false) : L 6 = false := by
  cases e : L 6 with
  | false => rfl
  | true =>
    obtain ⟨a4, a5⟩ := h.o6 e
    obtain ⟨a1, a2⟩ := h.o5 a5
    have a0 := h.o1 a1
    have a3 := h.o4 a4
    rw [a0, a1, a2, a3, a4, a5, e] at hn
    simp at hn
theorem CpF.s0 (h : CpF w3 B R N cap k kd k2 L vs w) : CpF w3 B R N cap k kd k2 (upL L 0) (upV vs 21 (.pointer (some ⟨B, 5, none⟩))) w :=
  ⟨h.b, fun _ => rfl, h.l1, h.l2, h.l3, h.l4, h.l5, h.l6, fun _ => rfl, h.o4, h.o5, h.o6⟩
theorem CpF.s1 (h : CpF w3 B R N cap k kd k2 L vs w) (h0 : L 0 = true) : CpF w3 B R N cap k kd k2 (upL L 1) (upV vs 22 (.slice (some ⟨R, 0, none⟩) N cap)) w :=
  ⟨h.b, h.l0, fun _ => rfl, h.l2, h.l3, h.l4, h.l5, h.l6, fun _ => h0, h.o4, fun e => ⟨rfl, (h.o5 e).2⟩, h.o6⟩
theorem CpF.s2 (h : CpF w3 B R N cap k kd k2 L vs w) : CpF w3 B R N cap k kd k2 (upL L 2) (upV vs 23 (.int .i64 k)) w :=
  ⟨h.b, h.l0, h.l1, fun _ => rfl, h.l3, h.l4, h.l5, h.l6, h.o1, h.o4, fun e => ⟨(h.o5 e).1, rfl⟩, h.o6⟩
theorem CpF.s3 (h : CpF w3 B R N cap k kd k2 L vs w) : CpF w3 B R N cap k kd k2 (upL L 3) (upV vs 24 kd.val) w :=
  ⟨h.b, h.l0, h.l1, h.l2, fun _ => rfl, h.l4, h.l5, h.l6, h.o1, fun _ => rfl, h.o5, h.o6⟩
theorem CpF.s4 (h : CpF w3 B R N cap k kd k2 L vs w) (h4 : L 4 = false) (h3 : L 3 = true) {k3 : KT} (hb : Below w.heap.size w w') (hc : KeyC w' k3) (hi : KeyIn w.heap.size k3) (hk : bareK k3 = bareK kd) : CpF w3 B R N cap k kd k3 (upL L 4) (upV vs 25 k3.val) w' := by
  have h6 := h.no6 (.inr (.inr (.inr (.inr (.inl h4)))))
  have hb3 := h.b h6
  exact ⟨fun _ => hb3.trans (hb.mono hb3.size), h.l0, h.l1, h.l2, h.l3, fun _ => ⟨rfl, KeyIn.mono hb3.size k3 hi, hk, fun _ => hc⟩, h.l5, fun e => (by have e6 : L 6 = true := e; rw [h6] at e6; cases e6), h.o1, fun _ => h3, h.o5, fun e => (by have e6 : L 6 = true := e; rw [h6] at e6; cases e6)⟩
theorem CpF.s5 (h : CpF w3 B R N cap k kd k2 L vs w) (h1 : L 1 = true) (h2 : L 2 = true) : CpF w3 B R N cap k kd k2 (upL L 5) (upV vs 26 (.pointer (some ⟨R, k * 6, none⟩))) w :=
  ⟨h.b, h.l0, h.l1, h.l2, h.l3, h.l4, fun _ => rfl, h.l6, h.o1, h.o4, fun _ => ⟨h1, h2⟩, fun e => ⟨(h.o6 e).1, rfl⟩⟩
theorem CpF.s6 (h : CpF w3 B R N cap k kd k2 L vs w) (h6 : L 6 = false) (h4 : L 4 = true) (h5 : L 5 = true) : CpF w3 B R N cap k kd k2 (upL L 6) vs (putR R w (k * 6) k2.cells) :=
  ⟨(fun e => no_bool e rfl), h.l0, h.l1, h.l2, h.l3, fun e => ⟨(h.l4 e).1, (h.l4 e).2.1, (h.l4 e).2.2.1, (fun e => no_bool e rfl)⟩, h.l5, fun _ => ⟨w, h.b h6, (h.l4 h4).2.2.2 h6, rfl⟩, h.o1, h.o4, h.o5, fun _ => ⟨h4, h5⟩⟩
end
end Go.Proofs.YtpnnchpaaopdcaaGreatDoor
namespace Go.Proofs.YtpnnchpaaopdcaaGreatDoor
open Go Go.RowKit
variable {W : World}
set_option maxRecDepth 100000 in
set_option maxHeartbeats 4000000 in
theorem copied_step (kind : Int) (flag : Nat) (set : List (Nat × Nat)) (n : Nat) (s : List UInt8) (kids : List KT) (sp : Option Addr) (scap : Nat) (kp : Option Addr) (kcap : Nat)
    (ih : ∀ x ∈ kids, ∀ W, KeyC W x → Calls Tryz.prog 71 #[x.val] W (OwnDoes W x)) (hS : set.length ≤ 1000 ∧ kids.length ≤ 1000) (W : World) (hK : KeyC W (.mk kind flag set n s kids sp scap kp kcap)) :
    Calls Tryz.prog 71 #[(KT.mk kind flag set n s kids sp scap kp kcap).val] W (OwnDoes W (.mk kind flag set n s kids sp scap kp kcap)) := by
  obtain ⟨hkids, hkm, hfl, hn9, hsl, hsm, hpairs⟩ := hK.kids
  have HK := Lib.hid hK
  have HIH := Lib.hid ih
  show Calls Tryz.prog 71 #[.agg #[.int .i64 kind, .int .u8 flag, .slice sp set.length scap, .int .u32 n, .string (txt s), .slice kp kids.length kcap]] W _
  have CS := Lib.hid (fun w (hb : Below W.heap.size W w) => cloneR_c sp scap set hS.1 w (hpairs.below hb))
  have CK := Lib.hid (fun w (hb : Below W.heap.size W w) => cloneK_c kp kcap kids hS.2 w (KidsC.below hb _ _ _ hkids))
  obtain ⟨X, hX⟩ : ∃ X, txt s = X := ⟨_, rfl⟩
  obtain ⟨M, hM⟩ : ∃ M, set.length = M := ⟨_, rfl⟩
  obtain ⟨N, hN⟩ : ∃ N, kids.length = N := ⟨_, rfl⟩
  rw [hM] at CS
  rw [hN] at CK
  rw [hX, hM, hN]
  have hN9 : N ≤ 1000 := by rw [← hN]; exact hS.2
  have HX := Lib.hid hX
  have HM := Lib.hid hM
  have HN := Lib.hid hN
  have HKids := Lib.hid hkids
  obtain ⟨R, hR⟩ : ∃ R, OwnDoes W (.mk kind flag set n s kids sp scap kp kcap) = R := ⟨_, rfl⟩
  rw [hR]
  have HR := Lib.hid hR
  obtain ⟨w0, hw0⟩ : ∃ w0, (W.alloc (.cells #[.int .i64 kind, .int .u8 flag, .slice sp M scap, .int .u32 n, .string X, .slice kp N kcap] 37)).alloc (.cells #[.int .i64 0, .int .u8 0, .slice none 0 0, .int .u32 0, .string ⟨#[]⟩, .slice none 0 0] 37) = w0 := ⟨_, rfl⟩
  have hb0 : Below W.heap.size W w0 := by rw [← hw0]; exact ((Below.refl _ W).alloc (Nat.le_refl _) _).alloc (by simp) _
  have hs0 : w0.heap.size = W.heap.size + 2 := by rw [← hw0]; simp
  have hx0 : Cells w0 W.heap.size 37 #[.int .i64 kind, .int .u8 flag, .slice sp M scap, .int .u32 n, .string X, .slice kp N kcap] := by
    rw [← hw0]
    show _ = _
    rw [Below.heap_alloc _ _ _ (by simp)]
    exact heap_alloc_new W _
  have hr0 : Cells w0 (W.heap.size + 1) 37 #[.int .i64 0, .int .u8 0, .slice none 0 0, .int .u32 0, .string ⟨#[]⟩, .slice none 0 0] := by
    rw [← hw0]
    have h := heap_alloc_new (W.alloc (.cells #[.int .i64 kind, .int .u8 flag, .slice sp M scap, .int .u32 n, .string X, .slice kp N kcap] 37)) (.cells #[.int .i64 0, .int .u8 0, .slice none 0 0, .int .u32 0, .string ⟨#[]⟩, .slice none 0 0] 37)
    rw [World.size_alloc] at h
    exact h
  have x2 := hx0.cell (i := 2) rfl
  have HB0 := Lib.hid hb0
  have HX0 := Lib.hid hx0
  have HR0 := Lib.hid hr0
  have HS0 := Lib.hid hs0
  clear hK ih hS hkids hkm hfl hn9 hsl hsm hpairs hX hM hN hR hb0 hs0 hx0 hr0
  go_enter Tryz.func71, Tryz.ntmps71
  go_wp2_with fail
  refine (CS.out w0 HB0.out).mono ?_
  rintro e w1 ⟨sv, rfl, ho1, hb1⟩
  obtain ⟨sad, scp, hsv⟩ := own_form ho1
  subst hsv
  have HB1 := Lib.hid hb1
  have HO1 := Lib.hid ho1
  have hc1 := Cells.later HX0.out (hb1.block _ (Cells.lt HX0.out))
  have x2' := hc1.cell (i := 2) rfl
  have x5' := hc1.cell (i := 5) rfl
  have f2 := hc1.frozen 2
  have l2 := hc1.lt
  have HC1 := Lib.hid hc1
  clear ho1 hb1 hc1 x2
  go_wp2_with fail
  have hbz : Below W.heap.size W (w1.setCell ⟨W.heap.size, 2, none⟩ (.slice sad M scp)) := (HB0.out.trans (HB1.out.mono HB0.out.size)).trans ((Tk.set w1 2 _).below (Nat.le_refl _) (Nat.le_of_lt l2))
  refine (CK.out _ hbz).mono ?_
  rintro e w2 ⟨v, rfl, ho2, hb2⟩
  obtain ⟨kad, kcp, hkv⟩ := own_form ho2
  subst hkv
  have hc2 : Cells w2 W.heap.size 37 #[.int .i64 kind, .int .u8 flag, .slice sad M scp, .int .u32 n, .string X, .slice kp N kcap] := Cells.later (HC1.out.set 2 _) (hb2.block _ (Cells.lt (HC1.out.set 2 _)))
  have y5 := hc2.cell (i := 5) rfl
  have g5 := hc2.frozen 5
  have m2 := hc2.lt
  have HB2 := Lib.hid hb2
  have HO2 := Lib.hid ho2
  have HC2 := Lib.hid hc2
  have HBZ := Lib.hid hbz
  clear ho2 hb2 hc2 hbz x2' x5' f2 l2
  obtain ⟨wl, hwl⟩ : ∃ wl, w2.setCell ⟨W.heap.size, 5, none⟩ (.slice kad N kcp) = wl := ⟨_, rfl⟩
  have hz1 : (w1.setCell ⟨W.heap.size, 2, none⟩ (.slice sad M scp)).heap.size = w1.heap.size := by rw [size_setCell]
  have hzl : wl.heap.size = w2.heap.size := by rw [← hwl, size_setCell]
  have hz12 := HB2.out.size
  rw [hz1] at hz12
  have hz01 := HB1.out.size
  have hs9 := HS0.out
  have hcl : Cells wl W.heap.size 37 #[.int .i64 kind, .int .u8 flag, .slice sad M scp, .int .u32 n, .string X, .slice kad N kcp] := by rw [← hwl]; exact HC2.out.set 5 _
  have hrl : Cells wl (W.heap.size + 1) 37 #[.int .i64 0, .int .u8 0, .slice none 0 0, .int .u32 0, .string ⟨#[]⟩, .slice none 0 0] := by
    rw [← hwl]
    refine Cells.later (Cells.later (Cells.later (Cells.later HR0.out (HB1.out.block _ (by omega))) ((Tk.set (g := W.heap.size) w1 2 (.slice sad M scp)).blk _ (by omega) (by omega))) (HB2.out.block _ (by omega))) ((Tk.set (g := W.heap.size) w2 5 (.slice kad N kcp)).blk _ (by omega) (by omega))
  have hsl : wl.ownsRow (W.heap.size + 2) 112 2 (.slice sad M scp) M (cellsP set) := by
    rw [← hwl]
    have h1 : w1.ownsRow (W.heap.size + 2) 112 2 (.slice sad M scp) M (cellsP set) := World.ownsRow.mono HO1.out (by omega)
    exact ownsRow_setCell_below (own_below (ownsRow_setCell_below (a := ⟨W.heap.size, 2, none⟩) h1 (by show W.heap.size < _; omega) _) HB2.out) (by show W.heap.size < _; omega) _
  have hkl : wl.ownsRow (W.heap.size + 2) 37 6 (.slice kad N kcp) N (cellsK kids) := by
    rw [← hwl]
    exact ownsRow_setCell_below (World.ownsRow.mono HO2.out (by rw [hz1]; omega)) (by show W.heap.size < _; omega) _
  have hsk : ∀ q, (Value.slice sad M scp).ownBlock = some q → (Value.slice kad N kcp).ownBlock ≠ some q := fun q h1 h2 => by
    have := (HO1.out.lt q h1).2
    have := (HO2.out.lt q h2).1
    omega
  have hbl : Below W.heap.size W wl := by rw [← hwl]; exact (HBZ.out.trans (HB2.out.mono HBZ.out.size)).trans ((Tk.set (g := W.heap.size) w2 5 (.slice kad N kcp)).below (Nat.le_refl _) (Nat.le_of_lt m2))
  have hbig : W.heap.size + 2 ≤ wl.heap.size := by omega
  have q5 := hcl.cell (i := 5) rfl
  have HCL := Lib.hid hcl
  have HRL := Lib.hid hrl
  have HSL := Lib.hid hsl
  have HKL := Lib.hid hkl
  have HSK := Lib.hid hsk
  have HBL := Lib.hid hbl
  have HBIG := Lib.hid hbig
  have HI1 : Hid (CpI W wl kids N (.slice kad N kcp) 0 [] wl) := ⟨rfl, hkl, (fun x hx => by simp at hx), (fun x hx => by simp at hx), (fun x hx => by simp at hx), rfl, World.grownBy.refl _ _, hbig⟩
  clear hcl hrl hsl hkl hsk hbl hbig hz1 hzl hz12 hz01 hs9
  go_wp2_with fail
  go_loopw [16] (fun v wr => ∃ k : Nat, k ≤ N ∧ v = .int .i64 k ∧ Hid (∃ kts, CpI W wl kids N (.slice kad N kcp) k kts wr)) (fun v _ => N - (intOf v).toNat)
  case atStart => exact ⟨0, by omega, rfl, [], HI1.out⟩
  case round =>
    obtain ⟨k, hk, rfl, HI0⟩ := hrel
    obtain ⟨kts, hI⟩ := HI0.out
    have HI := Lib.hid hI
    clear HI0 hI
    by_cases hlt : k < N
    · obtain ⟨g, hkad⟩ : ∃ g, kad = some ⟨g, 0, none⟩ := by
        rcases HKL.out.2 with ⟨h1, h2⟩ | ⟨g, cap, cur, h1, _⟩
        · omega
        · cases h1; exact ⟨g, rfl⟩
      subst hkad
      have hkl : k < kids.length := by rw [HN.out]; exact hlt
      obtain ⟨kd, hkd⟩ : ∃ kd, kids[k]? = some kd := ⟨_, List.getElem?_eq_getElem hkl⟩
      have hgo := HI.out.own.lt g rfl
      have hcr : Cells wr W.heap.size 37 #[.int .i64 kind, .int .u8 flag, .slice sad M scp, .int .u32 n, .string X, .slice (some ⟨g, 0, none⟩) N kcp] := Cells.later HCL.out (grown_at9 HI.out.g HCL.out.lt (fun e => by have e2 : g = W.heap.size := Option.some.inj e; omega))
      have hWr : Below W.heap.size W wr := HBL.out.trans ⟨HI.out.g.os, HI.out.g.tape, HI.out.g.output, HI.out.g.size, fun b hb => grown_at9 HI.out.g (by have := HBIG.out; omega) (fun e => by have e2 : g = b := Option.some.inj e; omega)⟩
      have hkc : KeyC wr kd := by
        obtain ⟨_, _, _, _, _, hc⟩ := KidsC.at kids kp 0 k kd (KidsC.below hWr kids kp 0 HKids.out) hkd
        exact hc
      obtain ⟨yk, yf, ym, yn, yl, ysp, ykp, ysc, ykc, Y, hv, hc⟩ := kd.form
      have hat : ∀ q, q < 6 → wr.cell? ⟨g, k * 6 + q, none⟩ = kd.cells[q]? := fun q hq => by
        have hdr : (kts ++ kids.drop k)[k]? = some kd := by
          rw [List.getElem?_append_right (by rw [HI.out.len]; exact Nat.le_refl _), HI.out.len, Nat.sub_self, List.getElem?_drop]
          exact hkd
        rw [HI.out.own.cellAt _ (by omega), cellsK_at _ k hdr q hq]
      have hcl6 : kd.cells = [.int .i64 yk, .int .u8 yf, .slice ysp ym ysc, .int .u32 yn, .string Y, .slice ykp yl ykc] := by simpa using congrArg Array.toList hc
      rw [hcl6] at hat
      have a0 : wr.cell? ⟨g, k * 6, none⟩ = _ := hat 0 (by omega)
      have a1 := hat 1 (by omega)
      have a2 := hat 2 (by omega)
      have a3 := hat 3 (by omega)
      have a4 := hat 4 (by omega)
      have a5 := hat 5 (by omega)
      simp only [List.getElem?_cons_zero, List.getElem?_cons_succ] at a0 a1 a2 a3 a4 a5
      have C := fun w (hb : Below wr.heap.size wr w) => HIH.out kd (List.mem_of_getElem? hkd) w (KeyC.below hb kd hkc)
      rw [hv] at C
      have C := Lib.hid C
      have r5 := hcr.cell (i := 5) rfl
      have rl := hcr.lt
      have HCR := Lib.hid hcr
      have HKD := Lib.hid hkd
      have HV := Lib.hid hv
      have HC := Lib.hid hc
      have hqk : (k : Int) < N := by omega
      have hqk0 : (0 : Int) ≤ k := by omega
      clear hcr hkd hkc hat hv hc hWr hcl6
      go_wp2_with fail
      obtain ⟨w3, hw3⟩ : ∃ w3, wr.alloc (.cells #[.int .i64 yk, .int .u8 yf, .slice ysp ym ysc, .int .u32 yn, .string Y, .slice ykp yl ykc] 37) = w3 := ⟨_, rfl⟩
      have b3 : Below wr.heap.size wr w3 := by rw [← hw3]; exact (Below.refl _ wr).alloc (Nat.le_refl _) _
      have c3 : Cells w3 wr.heap.size 37 #[.int .i64 yk, .int .u8 yf, .slice ysp ym ysc, .int .u32 yn, .string Y, .slice ykp yl ykc] := by rw [← hw3]; exact heap_alloc_new wr _
      rw [hw3]
      clear hw3
      have FS : Hid (∀ x, Below w3.heap.size w3 x → x.cell? ⟨W.heap.size, 5, none⟩ = some (.slice (some ⟨g, 0, none⟩) N kcp) ∧ x.cell? ⟨wr.heap.size, 0, none⟩ = some (.int .i64 yk) ∧ x.cell? ⟨wr.heap.size, 1, none⟩ = some (.int .u8 yf) ∧ x.cell? ⟨wr.heap.size, 2, none⟩ = some (.slice ysp ym ysc) ∧ x.cell? ⟨wr.heap.size, 3, none⟩ = some (.int .u32 yn) ∧ x.cell? ⟨wr.heap.size, 4, none⟩ = some (.string Y) ∧ x.cell? ⟨wr.heap.size, 5, none⟩ = some (.slice ykp yl ykc)) := fun x hx => by
        have h1 := Cells.later (Cells.later HCR.out (b3.block _ rl)) (hx.block _ (Nat.lt_of_lt_of_le rl b3.size))
        have h2 := Cells.later c3 (hx.block _ (Cells.lt c3))
        exact ⟨h1.cell (i := 5) rfl, h2.cell (i := 0) rfl, h2.cell (i := 1) rfl, h2.cell (i := 2) rfl, h2.cell (i := 3) rfl, h2.cell (i := 4) rfl, h2.cell (i := 5) rfl⟩
      have HB3 := Lib.hid b3
      have HGO := Lib.hid hgo
      clear b3 c3 a0 a1 a2 a3 a4 a5 r5 q5 y5
      refine wp_region_slots2 [21, 22, 23, 24, 25, 26] (fun L vs w => ∃ k2, CpF w3 W.heap.size g N kcp k kd k2 L vs w) (by kernel_rfl) (by kernel_rfl) ?_ ?_ ?_
      · exact fun vs => ⟨kd, CpF.start w3.drew (Below.refl _ _).drew vs⟩
      · intro i o9 L vs w ho hL hA hJ
        obtain ⟨k2, h⟩ := hJ
        have hi7 : i < 7 := (Array.getElem?_eq_some_iff.1 ho).1
        have HH := Lib.hid h
        clear h
        obtain rfl | rfl | rfl | rfl | rfl | rfl | rfl : i = 0 ∨ i = 1 ∨ i = 2 ∨ i = 3 ∨ i = 4 ∨ i = 5 ∨ i = 6 := by omega
        all_goals
          have ho' := Option.some.inj (show some _ = some o9 from ho)
          subst ho'
          clear ho
        · clear hA
          refine wpOp_step rfl (fun K' hK => ?_)
          have HK := Lib.hid hK
          clear hK
          simp only [slotsPut, Act.put, List.setIfInBounds_toArray, List.set_cons_zero, List.set_cons_succ]
          go_simp
          exact HK.out _ _ ⟨upV vs 21 (.pointer (some ⟨W.heap.size, 5, none⟩)), (by simp only [slotsPut, Act.put, List.setIfInBounds_toArray, List.set_cons_zero, List.set_cons_succ]; simp [upV]), k2, HH.out.s0⟩
        · have h0 := hA ⟨0, .data⟩ (by simp) rfl
          have e0 := HH.out.l0 h0
          have hb := HH.out.b (HH.out.no6 (.inr (.inl hL)))
          obtain ⟨c5, _⟩ := FS.out w hb
          have HE := Lib.hid e0
          have cl : W.heap.size < w.heap.size := Nat.lt_of_lt_of_le rl (Nat.le_trans HB3.out.size hb.size)
          have HS := Lib.hid (HH.out.s1 h0)
          clear hA e0 hb
          refine wpOp_step rfl (fun K' hK => ?_)
          have HK := Lib.hid hK
          clear hK
          simp only [slotsPut, Act.put, List.setIfInBounds_toArray, List.set_cons_zero, List.set_cons_succ]
          rw [HE.out]
          go_simp
          exact HK.out _ _ ⟨upV vs 22 (.slice (some ⟨g, 0, none⟩) N kcp), (by simp only [slotsPut, Act.put, List.setIfInBounds_toArray, List.set_cons_zero, List.set_cons_succ]; simp [upV, HE.out]), k2, HS.out⟩
        · clear hA
          refine wpOp_step rfl (fun K' hK => ?_)
          have HK := Lib.hid hK
          clear hK
          simp only [slotsPut, Act.put, List.setIfInBounds_toArray, List.set_cons_zero, List.set_cons_succ]
          go_simp
          exact HK.out _ _ ⟨upV vs 23 (.int .i64 k), (by simp only [slotsPut, Act.put, List.setIfInBounds_toArray, List.set_cons_zero, List.set_cons_succ]; simp [upV]), k2, HH.out.s2⟩
        · clear hA
          have hb := HH.out.b (HH.out.no6 (.inr (.inr (.inr (.inl hL)))))
          obtain ⟨_, c0, c1, c2, c3, c4, c5⟩ := FS.out w hb
          have HS := Lib.hid HH.out.s3
          rw [HV.out] at HS
          clear hb
          refine wpOp_step rfl (fun K' hK => ?_)
          have HK := Lib.hid hK
          clear hK
          simp only [slotsPut, Act.put, List.setIfInBounds_toArray, List.set_cons_zero, List.set_cons_succ]
          go_simp
          exact HK.out _ _ ⟨upV vs 24 (.agg #[.int .i64 yk, .int .u8 yf, .slice ysp ym ysc, .int .u32 yn, .string Y, .slice ykp yl ykc]), (by simp only [slotsPut, Act.put, List.setIfInBounds_toArray, List.set_cons_zero, List.set_cons_succ]; simp [upV]), k2, HS.out⟩
        · have h3 := hA ⟨3, .data⟩ (by simp) rfl
          have e3 := HH.out.l3 h3
          rw [HV.out] at e3
          have hb := HH.out.b (HH.out.no6 (.inr (.inr (.inr (.inr (.inl hL))))))
          have hbw : Below wr.heap.size wr w := HB3.out.trans (hb.mono HB3.out.size)
          have HE := Lib.hid e3
          have HBW := Lib.hid hbw
          clear hA e3 hb hbw
          refine wpOp_step rfl (fun K' hK => ?_)
          have HK := Lib.hid hK
          clear hK
          simp only [slotsPut, Act.put, List.setIfInBounds_toArray, List.set_cons_zero, List.set_cons_succ]
          rw [HE.out]
          go_wp2_with (go_at_call 71; refine (C.out w HBW.out).mono ?_; rintro e w' ⟨k3, rfl, hbk, hc, hi, hb⟩)
          exact HK.out _ _ ⟨upV vs 25 k3.val, (by simp only [slotsPut, Act.put, List.setIfInBounds_toArray, List.set_cons_zero, List.set_cons_succ]; simp [upV, HE.out]), k3, HH.out.s4 hL h3 hb hc hi hbk⟩
        · have h1 := hA ⟨1, .data⟩ (by simp) rfl
          have h2 := hA ⟨2, .data⟩ (by simp) rfl
          have e1 := HH.out.l1 h1
          have e2 := HH.out.l2 h2
          have HE := Lib.hid (And.intro e1 e2)
          have HS := Lib.hid (HH.out.s5 h1 h2)
          clear hA e1 e2
          refine wpOp_step rfl (fun K' hK => ?_)
          have HK := Lib.hid hK
          clear hK
          simp only [slotsPut, Act.put, List.setIfInBounds_toArray, List.set_cons_zero, List.set_cons_succ]
          rw [HE.out.1, HE.out.2]
          go_simp
          exact HK.out _ _ ⟨upV vs 26 (.pointer (some ⟨g, k * 6, none⟩)), (by simp only [slotsPut, Act.put, List.setIfInBounds_toArray, List.set_cons_zero, List.set_cons_succ]; simp [upV, HE.out.1, HE.out.2]), k2, HS.out⟩
        · have h5 := hA ⟨5, .data⟩ (by simp) rfl
          have h4 := hA ⟨4, .data⟩ (by simp) rfl
          have e5 := HH.out.l5 h5
          have e4 := (HH.out.l4 h4).1
          have hb := HH.out.b hL
          have hbw : Below wr.heap.size wr w := HB3.out.trans (hb.mono HB3.out.size)
          have how := own_below HI.out.own hbw
          have hcw : ∀ q, q < 6 → ∃ u, w.cell? ⟨g, k * 6 + q, none⟩ = some u := fun q hq => by
            have hlen : (cellsK (kts ++ kids.drop k)).length = N * 6 := how.1
            exact ⟨_, (how.cellAt (k * 6 + q) (by omega)).trans (List.getElem?_eq_getElem (by omega))⟩
          obtain ⟨z0, t0⟩ := hcw 0 (by omega)
          obtain ⟨z1, t1⟩ := hcw 1 (by omega)
          obtain ⟨z2, t2⟩ := hcw 2 (by omega)
          obtain ⟨z3, t3⟩ := hcw 3 (by omega)
          obtain ⟨z4, t4⟩ := hcw 4 (by omega)
          obtain ⟨z5, t5⟩ := hcw 5 (by omega)
          have t0 : w.cell? ⟨g, k * 6, none⟩ = some z0 := t0
          have fz := fun j => how.frozenAt j
          have gl := (how.lt g rfl).2
          obtain ⟨xk, xf, xm, xn, xl, xsp, xkp, xsc, xkc, Z, hv2, hcc⟩ := k2.form
          have hcl7 : k2.cells = [.int .i64 xk, .int .u8 xf, .slice xsp xm xsc, .int .u32 xn, .string Z, .slice xkp xl xkc] := by simpa using congrArg Array.toList hcc
          have hs6 := HH.out.s6 hL h4 h5
          rw [hcl7] at hs6
          rw [hv2] at e4
          have HS := Lib.hid hs6
          have HE := Lib.hid (And.intro e5 e4)
          clear hA e4 e5 how hcw hv2 hcc hcl7 hs6 hb hbw
          refine wpOp_step rfl (fun K' hK => ?_)
          have HK := Lib.hid hK
          clear hK
          simp only [slotsPut, Act.put, List.setIfInBounds_toArray, List.set_cons_zero, List.set_cons_succ]
          rw [HE.out.1, HE.out.2]
          go_simp
          exact HK.out _ _ ⟨vs, (by simp only [slotsPut, Act.put, List.setIfInBounds_toArray, List.set_cons_zero, List.set_cons_succ]; rw [HE.out.1, HE.out.2]), k2, HS.out⟩
      · intro L vs we hall hJ
        obtain ⟨k2, h⟩ := hJ
        obtain ⟨w4, hb4, hc4, rfl⟩ := h.l6 (hall 6 (by decide))
        obtain ⟨_, hi4, hk4, _⟩ := h.l4 (hall 4 (by decide))
        have HN2 := Lib.hid (CpI.step HI.out HKD.out (HB3.out.trans (hb4.mono HB3.out.size)) hk4 hc4 (KeyIn.mono HB3.out.size k2 hi4))
        obtain ⟨wn, hwn⟩ : ∃ wn, putR g w4 (k * 6) k2.cells = wn := ⟨_, rfl⟩
        rw [hwn] at HN2 ⊢
        clear hwn h hb4 hc4 hi4 hk4 hall
        simp only [slotsPut, Act.put, List.setIfInBounds_toArray, List.set_cons_zero, List.set_cons_succ]
        go_wp2_with fail
        go_roundw
        case rel => exact ⟨k + 1, by omega, by go_num, _, HN2.out⟩
        case measure => simp [intOf]; omega
    · obtain rfl : k = N := by omega
      have hown := HI.out.own
      have hdr : kids.drop k = [] := List.drop_eq_nil_of_le (by rw [HN.out]; exact Nat.le_refl _)
      rw [hdr, List.append_nil] at hown
      have hgo : ∀ q, (Value.slice kad k kcp).ownBlock = some q → W.heap.size + 2 ≤ q := fun q hq => (HI.out.own.lt q hq).1
      have hc : Cells wr W.heap.size 37 #[.int .i64 kind, .int .u8 flag, .slice sad M scp, .int .u32 n, .string X, .slice kad k kcp] := Cells.later HCL.out (grown_at9 HI.out.g HCL.out.lt (fun e => by have := hgo _ e; omega))
      have hr : Cells wr (W.heap.size + 1) 37 #[.int .i64 0, .int .u8 0, .slice none 0 0, .int .u32 0, .string ⟨#[]⟩, .slice none 0 0] := Cells.later HRL.out (grown_at9 HI.out.g HRL.out.lt (fun e => by have := hgo _ e; omega))
      have hbw : Below W.heap.size W wr := HBL.out.trans ⟨HI.out.g.os, HI.out.g.tape, HI.out.g.output, HI.out.g.size, fun b hb => grown_at9 HI.out.g (by have := HBIG.out; omega) (fun e => by have := hgo _ e; omega)⟩
      have HOW := Lib.hid hown
      have HGO := Lib.hid hgo
      have HRR := Lib.hid hr
      have HBW := Lib.hid hbw
      have q0 := hc.cell (i := 0) rfl
      have q1 := hc.cell (i := 1) rfl
      have q2 := hc.cell (i := 2) rfl
      have q3 := hc.cell (i := 3) rfl
      have q4 := hc.cell (i := 4) rfl
      have q5 := hc.cell (i := 5) rfl
      have r0 := hr.cell (i := 0) rfl
      have r1 := hr.cell (i := 1) rfl
      have r2 := hr.cell (i := 2) rfl
      have r3 := hr.cell (i := 3) rfl
      have r4 := hr.cell (i := 4) rfl
      have r5 := hr.cell (i := 5) rfl
      have fr := fun i => hr.frozen i
      have hrl := hr.lt
      have hq : ¬ (k : Int) < k := by omega
      clear hc hr hown hgo hbw hdr
      go_wp2_with fail
      refine bodyPost_ret (results_cp _ _ (W.heap.size + 1) _ _ _ _ _ _ (Cells.six HRR.out _ _ _ _ _ _) rfl) rfl ?_
      rw [← HR.out]
      obtain ⟨kp', kc', hkv, hkk, hku⟩ := kids_own2 (by rw [HI.out.len]; exact HOW.out) rfl HI.out.keys
      have hop := own_grown HSL.out HI.out.g (fun q hq e => HSK.out q hq e)
      rw [← HM.out] at hop
      obtain ⟨sp', sc', hsv', hps, hsu⟩ := own_pairs hop
      have ht9 : ∀ (x : World) (i : Nat) (v : Value), Tk (W.heap.size + 1) wr x → Tk (W.heap.size + 1) wr (x.setCell ⟨W.heap.size + 1, i, none⟩ v) := fun x i v h => h.trans (Tk.set x i v)
      have hall := ht9 _ 5 (.slice kad k kcp) (ht9 _ 4 (.string X) (ht9 _ 3 (.int .u32 n) (ht9 _ 2 (.slice sad M scp) (ht9 _ 1 (.int .u8 flag) (ht9 _ 0 (.int .i64 kind) (Tk.refl _ wr))))))
      have hkeep : KeepUp (W.heap.size + 2) wr _ := KeepUp.tk hall (by omega)
      obtain ⟨_, hkm, hfl, hn9, hsl, hsm, _⟩ := HK.out.kids
      have hkl : kts.length = kids.length := by rw [HI.out.len, HN.out]
      refine ⟨KT.mk kind flag set n s kts sp' sc' kp' kc', ?_, ?_, ?_, ?_, HBW.out.trans ((hall.below (Nat.le_refl _) (by omega)).mono (by omega))⟩
      · have e1 : Value.slice sad M scp = Value.slice sp' set.length sc' := by rw [HM.out]; rw [HM.out] at hsv'; exact hsv'
        have e2 : Value.slice kad k kcp = Value.slice kp' kts.length kc' := by rw [← hkv]
        show _ = Ending.returned (.agg #[.int .i64 kind, .int .u8 flag, .slice sp' set.length sc', .int .u32 n, .string (txt s), .slice kp' kts.length kc'])
        rw [← e1, ← e2, HX.out]
      · rw [bareK, bareK, HI.out.bare, bareL_map, List.take_of_length_le (by rw [HN.out]; exact Nat.le_refl _)]
      · unfold KeyC
        exact ⟨hfl, hn9, ⟨hsl, by rw [hkl]; exact hkm, hsm⟩, hps.keep hsu hkeep, KidsC.keep hkeep kts kp' 0 hkk hku (kidsIn_of kts HI.out.up)⟩
      · unfold KeyIn
        exact ⟨hsu.mono (by omega), hku.mono (by omega), KidsIn.mono (by omega) kts (kidsIn_of kts HI.out.up)⟩
theorem copied_c (k : KT) : ShortK k → ∀ W, KeyC W k → Calls Tryz.prog 71 #[k.val] W (OwnDoes W k) := by
  refine KT.ind (P := fun k => ShortK k → ∀ W, KeyC W k → Calls Tryz.prog 71 #[k.val] W (OwnDoes W k)) ?_ k
  intro kind flag set n s kids sp scap kp kcap ih hs W hK
  unfold ShortK at hs
  exact copied_step kind flag set n s kids sp scap kp kcap (fun x hx => ih x hx (hs.2.2.mem x hx)) ⟨hs.1, hs.2.1⟩ W hK
end Go.Proofs.YtpnnchpaaopdcaaGreatDoor
namespace Go.Proofs.YtpnnchpaaopdcaaGreatDoor
open Go Go.RowKit
mutual
theorem pre_short : ∀ (k : KT), ShortK k → ∀ x ∈ preK k, ShortK x
  | .mk kind flag set n s kids sp scap kp kcap, h, x, hx => by
    rw [preK] at hx
    rcases List.mem_cons.1 hx with e | hx
    · rw [e]; exact h
    · unfold ShortK at h
      exact pres_short kids h.2.2 x hx
theorem pres_short : ∀ (l : List KT), ShortL l → ∀ x ∈ preKs l, ShortK x
  | [], h, x, hx => by rw [preKs] at hx; simp at hx
  | k :: r, h, x, hx => by
    rw [preKs] at hx
    unfold ShortL at h
    rcases List.mem_append.1 hx with hx | hx
    · exact pre_short k h.1 x hx
    · exact pres_short r h.2 x hx
end
def stepW (k : KT) (pre : List KT) (x : KT) (W : World) : Prop := KeyC W x ∧ (pre ++ [x]).map bareK <+: (preK k).map bareK
mutual
theorem short_bare : ∀ k : KT, ShortK (bareK k) ↔ ShortK k
  | .mk kind flag set n s kids sp scap kp kcap => by
    rw [bareK]
    unfold ShortK
    rw [shortL_bare kids, bareL_map, List.length_map]
theorem shortL_bare : ∀ l : List KT, ShortL (bareL l) ↔ ShortL l
  | [] => by rw [bareL]
  | k :: r => by
    rw [bareL]
    unfold ShortL
    rw [short_bare k, shortL_bare r]
end
theorem short_of_bare {a b : KT} (h : bareK a = bareK b) (hb : ShortK b) : ShortK a := (short_bare a).1 (by rw [h]; exact (short_bare b).2 hb)
set_option maxRecDepth 20000 in
theorem sWalk_c (k : KT) (hs : ShortK k) (W : World) (hK : KeyC W k) : Calls Tryz.prog 22 #[k.val] W fun e w' => ∃ A k2, e = .returned (.func (.func 72) #[] #[.pointer (some ⟨A, 0, none⟩)]) ∧ Box6 w' A k2 ∧ bareK k2 = bareK k ∧ KeyC w' k2 ∧ ShortK k2 ∧ W.heap.size ≤ A ∧ Below W.heap.size W w' := by
  have C := fun w (hb : Below W.heap.size W w) => copied_c k hs w (KeyC.below hb k hK)
  obtain ⟨yk, yf, ym, yn, yl, ysp, ykp, ysc, ykc, Y, hyv, hyc⟩ := k.form
  rw [hyv] at C ⊢
  obtain ⟨w0, hw0⟩ : ∃ w0, W.alloc (.cells #[.int .i64 yk, .int .u8 yf, .slice ysp ym ysc, .int .u32 yn, .string Y, .slice ykp yl ykc] 37) = w0 := ⟨_, rfl⟩
  have hb0 : Below W.heap.size W w0 := by rw [← hw0]; exact (Below.refl _ W).alloc (Nat.le_refl _) _
  have c0 : Cells w0 W.heap.size 37 #[.int .i64 yk, .int .u8 yf, .slice ysp ym ysc, .int .u32 yn, .string Y, .slice ykp yl ykc] := by rw [← hw0]; exact heap_alloc_new W _
  have y0 := c0.cell (i := 0) rfl
  have y1 := c0.cell (i := 1) rfl
  have y2 := c0.cell (i := 2) rfl
  have y3 := c0.cell (i := 3) rfl
  have y4 := c0.cell (i := 4) rfl
  have y5 := c0.cell (i := 5) rfl
  have C := Lib.hid C
  have HB := Lib.hid hb0
  have HS := Lib.hid hs
  clear hK hyv hyc c0 hs hb0
  go_enter Tryz.func22, Tryz.ntmps22
  go_wp2_with fail
  refine (C.out w0 HB.out).mono ?_
  rintro e w2 ⟨k2, rfl, hbk, hc2, hi2, hb2⟩
  have hsh := short_of_bare hbk HS.out
  obtain ⟨zk, zf, zm, zn, zl, zsp, zkp, zsc, zkc, Z, hzv, hzc⟩ := k2.form
  rw [hzv]
  have hb3 : Below w2.heap.size w2 (w2.alloc (.cells #[.int .i64 zk, .int .u8 zf, .slice zsp zm zsc, .int .u32 zn, .string Z, .slice zkp zl zkc] 37)) := (Below.refl _ _).alloc (Nat.le_refl _) _
  have hbx : Box6 (w2.alloc (.cells #[.int .i64 zk, .int .u8 zf, .slice zsp zm zsc, .int .u32 zn, .string Z, .slice zkp zl zkc] 37)) w2.heap.size k2 := by
    unfold Box6
    rw [hzc]
    exact heap_alloc_new w2 _
  have HR := Lib.hid (And.intro hbx (And.intro hbk (And.intro (KeyC.below hb3 k2 hc2) (And.intro hsh (And.intro (Nat.le_trans HB.out.size hb2.size) ((HB.out.trans (hb2.mono HB.out.size)).trans (hb3.mono (Nat.le_trans HB.out.size hb2.size))))))))
  clear hbx hbk hc2 hi2 hb2 hb3 hsh hzv hzc y0 y1 y2 y3 y4 y5
  go_wp2_with fail
  go_ret
  exact ⟨_, k2, rfl, HR.out⟩
structure WkF (Wb : World) (yv xv : Value) (bx : KT) (F : Bool → World → Prop) (L : Nat → Bool) (vs : Nat → Value) (w : World) : Prop where
  b : L 3 = false → Below Wb.heap.size Wb w
  l0 : L 0 = true → vs 7 = yv
  l1 : L 1 = true → vs 8 = xv
  l2 : L 2 = true → ∃ k3 : KT, vs 9 = k3.val ∧ bareK k3 = bx ∧ (L 3 = false → KeyC w k3)
  l3 : L 3 = true → ∃ b, vs 10 = .bool b ∧ F b w
  l4 : L 4 = true → ∀ b, vs 10 = .bool b → vs 11 = .bool (!b)
  o2 : L 2 = true → L 1 = true
  o3 : L 3 = true → L 0 = true ∧ L 2 = true
  o4 : L 4 = true → L 3 = true
section
variable {Wb : World} {yv xv : Value} {bx : KT} {F : Bool → World → Prop} {L : Nat → Bool} {vs : Nat → Value} {w w' : World}
theorem WkF.start (w : World) (hb : Below Wb.heap.size Wb w) (vs : Nat → Value) : WkF Wb yv xv bx F (fun _ => false) vs w :=
  ⟨fun _ => hb, (fun e => no_bool e rfl), (fun e => no_bool e rfl), (fun e => no_bool e rfl), (fun e => no_bool e rfl), (fun e => no_bool e rfl), (fun e => no_bool e rfl), (fun e => no_bool e rfl), (fun e => no_bool e rfl)⟩
theorem WkF.no3 (h : WkF Wb yv xv bx F L vs w) (hn : L 0 = false ∨ L 1 = false ∨ L 2 = false ∨ L 3 = false) : L 3 = false := by
  cases e : L 3 with
  | false => rfl
  | true =>
    obtain ⟨a0, a2⟩ := h.o3 e
    have a1 := h.o2 a2
    rw [a0, a1, a2, e] at hn
    simp at hn
theorem WkF.no4 (h : WkF Wb yv xv bx F L vs w) (h3 : L 3 = false) : L 4 = false := by
  cases e : L 4 with
  | false => rfl
  | true => have := h.o4 e; rw [h3] at this; cases this
theorem WkF.s0 (h : WkF Wb yv xv bx F L vs w) : WkF Wb yv xv bx F (upL L 0) (upV vs 7 yv) w := ⟨h.b, fun _ => rfl, h.l1, h.l2, h.l3, h.l4, h.o2, fun e => ⟨rfl, (h.o3 e).2⟩, h.o4⟩
theorem WkF.s1 (h : WkF Wb yv xv bx F L vs w) : WkF Wb yv xv bx F (upL L 1) (upV vs 8 xv) w := ⟨h.b, h.l0, fun _ => rfl, h.l2, h.l3, h.l4, fun _ => rfl, h.o3, h.o4⟩
theorem WkF.s2 (h : WkF Wb yv xv bx F L vs w) (h2 : L 2 = false) (h1 : L 1 = true) (hb : Below w.heap.size w w') {k3 : KT} (hk : bareK k3 = bx) (hc : KeyC w' k3) : WkF Wb yv xv bx F (upL L 2) (upV vs 9 k3.val) w' := by
  have h3 := h.no3 (.inr (.inr (.inl h2)))
  have hb2 := h.b h3
  exact ⟨fun _ => hb2.trans (hb.mono hb2.size), h.l0, h.l1, fun _ => ⟨k3, rfl, hk, fun _ => hc⟩, fun e => (by have e3 : L 3 = true := e; rw [h3] at e3; cases e3), h.l4, fun _ => h1, fun e => (by have e3 : L 3 = true := e; rw [h3] at e3; cases e3), h.o4⟩
theorem WkF.s3 (h : WkF Wb yv xv bx F L vs w) (h3 : L 3 = false) (h0 : L 0 = true) (h2 : L 2 = true) {b : Bool} (hF : F b w') : WkF Wb yv xv bx F (upL L 3) (upV vs 10 (.bool b)) w' := by
  have h4 := h.no4 h3
  exact ⟨(fun e => no_bool e rfl), h.l0, h.l1, fun e => (by obtain ⟨k3, a, b, _⟩ := h.l2 e; exact ⟨k3, a, b, fun e => no_bool e rfl⟩), fun _ => ⟨b, rfl, hF⟩, fun e => (by have e4 : L 4 = true := e; rw [h4] at e4; cases e4), h.o2, fun _ => ⟨h0, h2⟩, fun _ => rfl⟩
theorem WkF.s4 (h : WkF Wb yv xv bx F L vs w) (h3 : L 3 = true) {b : Bool} (hb : vs 10 = .bool b) : WkF Wb yv xv bx F (upL L 4) (upV vs 11 (.bool (!b))) w :=
  ⟨h.b, h.l0, h.l1, h.l2, h.l3, fun _ b' e => (by have e2 : vs 10 = .bool b' := e; rw [hb] at e2; cases e2; rfl), h.o2, h.o3, fun _ => h3⟩
end
end Go.Proofs.YtpnnchpaaopdcaaGreatDoor
namespace Go.Proofs.YtpnnchpaaopdcaaGreatDoor
open Go Go.RowKit
attribute [local go_sem] Oper.semAt_some wide_fnK wide_depthK
set_option maxRecDepth 100000 in
set_option maxHeartbeats 4000000 in
theorem walk1_iter (k : KT) (hsh : ShortK k) (W0 : World) (b1 : Nat) (hkey : KeyC W0 k) : IterV Tryz.prog 72 #[.pointer (some ⟨b1, 0, none⟩)] (fun x : KT => #[x.val]) skT0 (capK b1 W0.heap.size) (fun _ => False) (SKC W0 b1 k)
    (stepW k) (fun xs => xs.map bareK = (preK k).map bareK) (fun pre => pre.map bareK <+: (preK k).map bareK) (fun _ => True) := by
  rintro l T J Jx W hcap hT hJ hJx hY h0
  have hJ1 : ∀ s A B, J s A → Itself skT0 W.heap.size A B → J s B := fun s A B h q => hJ s A B h (ItselfM.of q)
  have hJx1 : ∀ s A B, Jx s A → Itself skT0 W.heap.size A B → Jx s B := fun s A B h q => hJx s A B h (ItselfM.of q)
  obtain ⟨yk, yf, ym, yn, yl, ysp, ykp, ysc, ykc, Y, hyv, hyc⟩ := k.form
  have h6 := hcap.bx
  have hlb := h6.lt
  have hH0 : W0.heap.size ≤ W.heap.size := hcap.sz
  obtain ⟨w0, hw0⟩ : ∃ w0, W.alloc (.cells #[.func (.yield l) #[] #[]] 46) = w0 := ⟨_, rfl⟩
  have hb0 : Below W.heap.size W w0 := by rw [← hw0]; exact (Below.refl _ W).alloc (Nat.le_refl _) _
  have hs0 : w0.heap.size = W.heap.size + 1 := by rw [← hw0]; simp
  have hY0 : Boxed w0 W.heap.size 46 (.func (.yield l) #[] #[]) := by rw [← hw0]; exact Boxed.new W 46 (.func (.yield l) #[] #[])
  have hit0 : Itself skT0 W.heap.size W w0 := by rw [← hw0]; exact Itself.alloc _ _ _ (Nat.le_refl _)
  have hcell : ∀ (q : Nat) (u : Value), (#[.int .i64 yk, .int .u8 yf, .slice ysp ym ysc, .int .u32 yn, .string Y, .slice ykp yl ykc] : Array Value)[q]? = some u → w0.cell? ⟨b1, q, none⟩ = some u := fun q u hu => by
    rw [← hyc] at hu
    exact (hcap.below hb0).bx.cell (by simpa using hu)
  have c0 := hcell 0 _ rfl
  have c1 := hcell 1 _ rfl
  have c2 := hcell 2 _ rfl
  have c3 := hcell 3 _ rfl
  have c4 := hcell 4 _ rfl
  have c5 := hcell 5 _ rfl
  have CK := fun w => keys_c k w
  rw [hyv] at CK
  have CK := Lib.hid CK
  have HC0 := Lib.hid (hcap.below hb0)
  have HJ := Lib.hid hJ1
  have HX := Lib.hid hJx1
  have HY := Lib.hid hY
  have HT := Lib.hid hT
  have HB0 := Lib.hid hb0
  have HY0 := Lib.hid hY0
  have HIT0 := Lib.hid hit0
  have H0 := Lib.hid h0
  have HKEY := Lib.hid hkey
  have CP := Lib.hid (fun x (hx : x ∈ preK k) => copied_c x (pre_short k hsh x hx))
  clear hcap hJ hJx hJ1 hJx1 hY hT h6 hb0 hY0 hit0 hcell h0 hkey hyv hyc hsh
  refine (callsIn_wide (n := 3)).1 ?_
  refine callsIn_of_wp_marks Tryz.func72 rfl trivial ?_
  simp only [Tryz.ntmps72, List.size_toArray, List.length_cons, List.length_nil, Nat.reduceAdd, Nat.reduceSub, Array.replicate_succ, Array.replicate_zero, List.push_toArray, List.append_toArray, List.nil_append, List.cons_append]
  refine wpIn_wide.2 ?_
  go_wp2_with (go_at_call 73; refine (CK.out _).mono ?_; rintro e w7 ⟨rfl, hbx7, hb7, hsz7⟩)
  rw [hs0] at hbx7 hsz7
  have HB7 : Hid (Below W.heap.size W w7) := HB0.out.trans (hb7.mono HB0.out.size)
  have hit7 : Itself skT0 W.heap.size W w7 := ⟨HB7.out.os, HB7.out.tape, HB7.out.output, HB7.out.size, HB7.out.block, fun j c e fz _ hj => (HB7.out.block j (Array.getElem?_eq_some_iff.1 hj).1).trans hj⟩
  have hkc7 : SKC W0 b1 k w7 := HC0.out.below hb7
  have hy7 : Boxed w7 W.heap.size 46 (.func (.yield l) #[] #[]) := (hb7.block _ (by omega)).trans HY0.out
  have HKD : Hid (SKC W0 (W.heap.size + 1) k w7) := ⟨hbx7, hkc7.sz, hkc7.sm⟩
  have HRI : Hid (RK W0 b1 W.heap.size (W.heap.size + 1) k k l [] w7.heap.size w7) := ⟨hkc7, hy7, Marks.nil _ _, Nat.le_refl _, HKD.out⟩
  have HRS : Hid (RKS W0 b1 W.heap.size (W.heap.size + 1) [] w7.heap.size) := ⟨hlb, hH0, by omega, by omega, fun j hj => by simp at hj⟩
  have hlo7 : W.heap.size ≤ w7.heap.size := by omega
  have HJ7 : Hid (∃ cs : List KT, cs.map bareK = ([] : List KT).map bareK ∧ J cs w7) := ⟨[], rfl, HJ.out _ _ _ H0.out hit7⟩
  have hup : ∀ {A B : World}, Itself skT0 w7.heap.size A B → Itself skT0 W.heap.size A B := fun h => h.mono (fun _ h => h) hlo7
  clear hkc7 hit7 hy7 hbx7 hb7 c0 c1 c2 c3 c4 c5
  refine (wpIn_wide (n := 3)).1 ?_
  refine wpIn_rangeIterL (gf := 132) (lb := #[.pointer (some ⟨W.heap.size + 1, 0, none⟩)]) (by first | rfl | (simp [Act.eval, Operand.eval, hs0])) (enters_of Tryz.func132 (by kernel_rfl) rfl) (keys1_iter k W0 (W.heap.size + 1) HKEY.out) T (fun e h => HT.out e h) (fun _ => rfl)
    (fun j hj => by
      rcases hj with rfl | hj
      · omega
      · omega)
    (fun W' hW' => HKD.out.below hW')
    (fun pre W' => (∃ cs : List KT, cs.map bareK = pre.map bareK ∧ J cs W') ∧ RK W0 b1 W.heap.size (W.heap.size + 1) k k l [] w7.heap.size W')
    (fun c pre W' => c = .ret ∧ (∃ cs : List KT, cs.map bareK = pre.map bareK ∧ Jx cs W') ∧ RK W0 b1 W.heap.size (W.heap.size + 1) k k l [] w7.heap.size W')
    (fun s' A B h hAB => ⟨(by obtain ⟨cs, h1, h2⟩ := h.1; exact ⟨cs, h1, HJ.out _ _ _ h2 (hup hAB)⟩), h.2.itself HRS.out hAB⟩)
    (fun c s' A B h hAB => ⟨h.1, (by obtain ⟨cs, h1, h2⟩ := h.2.1; exact ⟨cs, h1, HX.out _ _ _ h2 (hup hAB)⟩), h.2.2.itself HRS.out hAB⟩)
    ⟨HJ7.out, HRI.out⟩ ?round ?done ?stop
  case round =>
    rintro l' pre x W1 hl ⟨rr, hrr⟩ ⟨⟨cs, hcs, hj⟩, hri⟩ hst
    have hl1 : l' < W1.heap.size := (Array.getElem?_eq_some_iff.1 hrr).1
    have hlw : w7.heap.size ≤ W1.heap.size := hri.siz
    have HRI1 := Lib.hid hri
    have HJ1 := Lib.hid hj
    have HST := Lib.hid hst
    have HCS := Lib.hid hcs
    obtain ⟨xk, xf, xm, xn, xl, xsp, xkp, xsc, xkc, Z, hxv, hxc⟩ := x.form
    have HXV := Lib.hid hxv
    have HXC := Lib.hid hxc
    clear hri hj hst hxc hcs
    rw [hxv]
    clear hxv
    gi_wp2_with fail
    refine ⟨Keeps.alloc _ _ _ _ _, fun W2 hits hsz2 hrec hoth => ?_⟩
    have hit1 : Itself skT0 w7.heap.size W1 (W1.alloc (.cells #[.int .i64 xk, .int .u8 xf, .slice xsp xm xsc, .int .u32 xn, .string Z, .slice xkp xl xkc] 37)) := Itself.alloc _ _ _ hlw
    have hit2 := hit1.trans hits
    have HRI2 := Lib.hid (HRI1.out.itself HRS.out hit2)
    have HJ2 := Lib.hid (HJ.out _ _ _ HJ1.out (hup hit2))
    have hbn : Box6 W2 W1.heap.size x := by
      have h1 := (hoth _ (by omega)).trans (heap_alloc_new W1 (.cells #[.int .i64 xk, .int .u8 xf, .slice xsp xm xsc, .int .u32 xn, .string Z, .slice xkp xl xkc] 37))
      rw [← HXC.out] at h1
      exact h1
    have l2 : W1.heap.size < W2.heap.size := hbn.lt
    have hxm : x ∈ preK k := (List.IsPrefix.subset HST.out) (show x ∈ pre ++ [x] by simp)
    have hxK : KeyC W2 x := HRI2.out.kc.key (pre_key k HKEY.out x hxm)
    have FS : Hid (∀ w, Below W2.heap.size W2 w → W.heap.size < w.heap.size ∧ W1.heap.size < w.heap.size ∧ w.cell? ⟨W.heap.size, 0, none⟩ = some (.func (.yield l) #[] #[]) ∧ w.cell? ⟨W1.heap.size, 0, none⟩ = some (.int .i64 xk) ∧ w.cell? ⟨W1.heap.size, 1, none⟩ = some (.int .u8 xf) ∧ w.cell? ⟨W1.heap.size, 2, none⟩ = some (.slice xsp xm xsc) ∧ w.cell? ⟨W1.heap.size, 3, none⟩ = some (.int .u32 xn) ∧ w.cell? ⟨W1.heap.size, 4, none⟩ = some (.string Z) ∧ w.cell? ⟨W1.heap.size, 5, none⟩ = some (.slice xkp xl xkc)) := fun w hw => by
      have hbw : Box6 w W1.heap.size x := (hw.block _ l2).trans hbn
      have hcell : ∀ (q : Nat) (u : Value), (#[.int .i64 xk, .int .u8 xf, .slice xsp xm xsc, .int .u32 xn, .string Z, .slice xkp xl xkc] : Array Value)[q]? = some u → w.cell? ⟨W1.heap.size, q, none⟩ = some u := fun q u hu => by
        rw [← HXC.out] at hu; exact hbw.cell (by simpa using hu)
      have hyw : Boxed w W.heap.size 46 (.func (.yield l) #[] #[]) := (hw.block _ (lt_of_block HRI2.out.yb)).trans HRI2.out.yb
      exact ⟨lt_of_block hyw, hbw.lt, hyw.cell, hcell 0 _ rfl, hcell 1 _ rfl, hcell 2 _ rfl, hcell 3 _ rfl, hcell 4 _ rfl, hcell 5 _ rfl⟩
    have CX : Hid (∀ w, Below W2.heap.size W2 w → Calls Tryz.prog 71 #[.agg #[.int .i64 xk, .int .u8 xf, .slice xsp xm xsc, .int .u32 xn, .string Z, .slice xkp xl xkc]] w (OwnDoes w x)) := fun w hw => by
      rw [← HXV.out]; exact CP.out x hxm w (KeyC.below hw x hxK)
    clear hits hit1 hit2 hsz2 hrec hoth hbn hrr hxK
    gi_wp2_with fail
    refine wpIn_region_slots2 [7, 8, 9, 10, 11] (fun L vs w => WkF W2 (.func (.yield l) #[] #[]) (.agg #[.int .i64 xk, .int .u8 xf, .slice xsp xm xsc, .int .u32 xn, .string Z, .slice xkp xl xkc]) (bareK x)
      (fun b w => Keeps T (capK (W.heap.size + 1) W0.heap.size) w7.heap.size W2 w ∧ RK W0 b1 W.heap.size (W.heap.size + 1) k k l [] w7.heap.size w ∧ ∃ cs : List KT, cs.map bareK = (pre ++ [x]).map bareK ∧ if b = true then J cs w else Jx cs w) L vs w) (by kernel_rfl) (by kernel_rfl) ?_ ?_ ?_
    · exact fun vs => WkF.start W2.drew (Below.refl _ _).drew vs
    · intro i o9 L vs w ho hL hA hJ
      have hi5 : i < 5 := (Array.getElem?_eq_some_iff.1 ho).1
      have HH := Lib.hid hJ
      clear hJ
      obtain rfl | rfl | rfl | rfl | rfl : i = 0 ∨ i = 1 ∨ i = 2 ∨ i = 3 ∨ i = 4 := by omega
      all_goals
        have ho' := Option.some.inj (show some _ = some o9 from ho)
        subst ho'
        clear ho
      · clear hA
        have hb := HH.out.b (HH.out.no3 (.inl hL))
        obtain ⟨cl, _, c0, _⟩ := FS.out w hb
        clear hb
        refine wpOpIn_step rfl (fun K' hK => ?_)
        have HK := Lib.hid hK
        clear hK
        simp only [slotsPut, Act.put, List.setIfInBounds_toArray, List.set_cons_zero, List.set_cons_succ]
        gi_wp2_with fail
        exact HK.out _ _ ⟨upV vs 7 (.func (.yield l) #[] #[]), (by simp only [slotsPut, Act.put, List.setIfInBounds_toArray, List.set_cons_zero, List.set_cons_succ]; simp [upV]), HH.out.s0⟩
      · clear hA
        have hb := HH.out.b (HH.out.no3 (.inr (.inl hL)))
        obtain ⟨_, cl, _, c0, c1, c2, c3, c4, c5⟩ := FS.out w hb
        clear hb
        refine wpOpIn_step rfl (fun K' hK => ?_)
        have HK := Lib.hid hK
        clear hK
        simp only [slotsPut, Act.put, List.setIfInBounds_toArray, List.set_cons_zero, List.set_cons_succ]
        gi_wp2_with fail
        exact HK.out _ _ ⟨upV vs 8 (.agg #[.int .i64 xk, .int .u8 xf, .slice xsp xm xsc, .int .u32 xn, .string Z, .slice xkp xl xkc]), (by simp only [slotsPut, Act.put, List.setIfInBounds_toArray, List.set_cons_zero, List.set_cons_succ]; simp [upV]), HH.out.s1⟩
      · have h1 := hA ⟨1, .data⟩ (by simp) rfl
        have e1 := HH.out.l1 h1
        have hb := HH.out.b (HH.out.no3 (.inr (.inr (.inl hL))))
        have HE := Lib.hid e1
        have HB := Lib.hid hb
        clear hA e1 hb
        refine wpOpIn_step rfl (fun K' hK => ?_)
        have HK := Lib.hid hK
        clear hK
        simp only [slotsPut, Act.put, List.setIfInBounds_toArray, List.set_cons_zero, List.set_cons_succ]
        rw [HE.out]
        gi_wp2_with (gi_at_call 71; refine CallsIn.wr (CX.out w HB.out) ?_; rintro e w' ⟨k3, rfl, hbk, hc, hi, hb⟩)
        exact HK.out _ _ ⟨upV vs 9 k3.val, (by simp only [slotsPut, Act.put, List.setIfInBounds_toArray, List.set_cons_zero, List.set_cons_succ]; simp [upV, HE.out]), HH.out.s2 hL h1 hb hbk hc⟩
      · have h0 := hA ⟨0, .data⟩ (by simp) rfl
        have h2 := hA ⟨2, .data⟩ (by simp) rfl
        have e0 := HH.out.l0 h0
        obtain ⟨k3, e2, hbk, hc3⟩ := HH.out.l2 h2
        have hb := HH.out.b hL
        have hitw : Itself skT0 w7.heap.size W2 w := ⟨hb.os, hb.tape, hb.output, hb.size, fun j hj => hb.block j (by omega), fun j c e fz _ hj => (hb.block j (Array.getElem?_eq_some_iff.1 hj).1).trans hj⟩
        have hriw := HRI2.out.itself HRS.out hitw
        have hjw := HJ.out _ _ _ HJ2.out (hup hitw)
        have hpre : stepW k cs k3 w := by
          refine ⟨hc3 hL, ?_⟩
          rw [List.map_append, HCS.out]
          have := List.IsPrefix.map bareK HST.out
          rw [List.map_append] at this
          simpa [hbk] using this
        obtain ⟨fn, tmps, assign, body, hy, hR⟩ := HY.out cs k3 w hjw hpre
        have hkw : Keeps T (capK (W.heap.size + 1) W0.heap.size) w7.heap.size W2 w := Keeps.of_below hb
        have HR := Lib.hid (RoundIn.inL (m := 0) l' hR)
        have HE := Lib.hid (And.intro e0 e2)
        have HRW := Lib.hid hriw
        have HKW := Lib.hid hkw
        have HBK := Lib.hid hbk
        clear hA e0 e2 hb hitw hriw hjw hpre hR hkw hc3 hbk
        try dsimp only at hy
        refine wpOpIn_step rfl (fun K' hK => ?_)
        have HK := Lib.hid hK
        clear hK
        simp only [slotsPut, Act.put, List.setIfInBounds_toArray, List.set_cons_zero, List.set_cons_succ]
        rw [HE.out.1, HE.out.2]
        gi_wp2_with fail
        refine HR.out.mono ?_
        rintro e W3 ⟨hk3, (⟨rfl, hj3⟩ | ⟨rfl, hx3⟩)⟩
        · have hF : Keeps T (capK (W.heap.size + 1) W0.heap.size) w7.heap.size W2 W3 ∧ RK W0 b1 W.heap.size (W.heap.size + 1) k k l [] w7.heap.size W3 ∧ ∃ cs : List KT, cs.map bareK = (pre ++ [x]).map bareK ∧ if true = true then J cs W3 else Jx cs W3 :=
            ⟨HKW.out.trans (HRW.out.inner HRS.out HT.out hk3), HRW.out.keeps HRS.out HT.out hk3, cs ++ [k3], by rw [List.map_append, List.map_append, HCS.out]; simp [HBK.out], hj3⟩
          exact HK.out _ _ ⟨upV vs 10 (.bool true), (by simp only [slotsPut, Act.put, List.setIfInBounds_toArray, List.set_cons_zero, List.set_cons_succ]; simp [upV, HE.out.1, HE.out.2]), HH.out.s3 hL h0 h2 hF⟩
        · have hF : Keeps T (capK (W.heap.size + 1) W0.heap.size) w7.heap.size W2 W3 ∧ RK W0 b1 W.heap.size (W.heap.size + 1) k k l [] w7.heap.size W3 ∧ ∃ cs : List KT, cs.map bareK = (pre ++ [x]).map bareK ∧ if false = true then J cs W3 else Jx cs W3 :=
            ⟨HKW.out.trans (HRW.out.inner HRS.out HT.out hk3), HRW.out.keeps HRS.out HT.out hk3, cs ++ [k3], by rw [List.map_append, List.map_append, HCS.out]; simp [HBK.out], hx3⟩
          exact HK.out _ _ ⟨upV vs 10 (.bool false), (by simp only [slotsPut, Act.put, List.setIfInBounds_toArray, List.set_cons_zero, List.set_cons_succ]; simp [upV, HE.out.1, HE.out.2]), HH.out.s3 hL h0 h2 hF⟩
      · have h3 := hA ⟨3, .data⟩ (by simp) rfl
        obtain ⟨b, e3, _⟩ := HH.out.l3 h3
        have HS := Lib.hid (HH.out.s4 h3 e3)
        have HE := Lib.hid e3
        clear hA e3
        refine wpOpIn_step rfl (fun K' hK => ?_)
        have HK := Lib.hid hK
        clear hK
        simp only [slotsPut, Act.put, List.setIfInBounds_toArray, List.set_cons_zero, List.set_cons_succ]
        rw [HE.out]
        gi_wp2_with fail
        exact HK.out _ _ ⟨upV vs 11 (.bool (!b)), (by simp only [slotsPut, Act.put, List.setIfInBounds_toArray, List.set_cons_zero, List.set_cons_succ]; simp [upV, HE.out]), HS.out⟩
    · intro L vs we hall hJ
      obtain ⟨b, e10, hkp, hre, cs2, hcs2, hjj⟩ := hJ.l3 (hall 3 (by decide))
      have e11 := hJ.l4 (hall 4 (by decide)) b e10
      have HE := Lib.hid (And.intro e10 e11)
      have HKP := Lib.hid hkp
      have HRE := Lib.hid hre
      have HC2 := Lib.hid hcs2
      have HJJ := Lib.hid hjj
      have HSZ := Lib.hid hsz7
      clear hJ hall e10 e11 hkp hre hcs2 hjj hsz7
      simp only [slotsPut, Act.put, List.setIfInBounds_toArray, List.set_cons_zero, List.set_cons_succ]
      rw [HE.out.1, HE.out.2]
      cases b with
      | true =>
        simp only [Bool.not_true]
        gi_wp2_with fail
        exact ⟨HKP.out, ⟨cs2, HC2.out, HJJ.out⟩, HRE.out⟩
      | false =>
        simp only [Bool.not_false]
        gi_wp2_with fail
        exact ⟨HKP.out, rfl, ⟨cs2, HC2.out, HJJ.out⟩, HRE.out⟩
  case done =>
    rintro D' xs W1 hD hxs ⟨⟨cs, hcs, hj⟩, hri⟩ hK
    have HMK := Lib.hid (hri.mks.cons (D := D') (by omega) hK (fun d hd he => by rw [he] at hd; simp at hd))
    have HJ1 := Lib.hid hj
    have HCS := Lib.hid hcs
    clear hj hri hK hcs
    gi_wp2_with fail
    refine HMK.out.leaves (fun W' hW' => ?_)
    exact ⟨_, results_none rfl _ _ _, ⟨_, rfl⟩, .inl ⟨cs, by rw [HCS.out, hxs], HJ.out _ _ _ HJ1.out (hW'.mono (fun _ h => h.elim) (Nat.le_refl _)), trivial⟩⟩
  case stop =>
    rintro D' c pre W1 hD hpre ⟨rfl, ⟨cs, hcs, hx⟩, hri⟩ hK
    have HMK := Lib.hid (hri.mks.cons (D := D') (by omega) hK (fun d hd he => by rw [he] at hd; simp at hd))
    have HX1 := Lib.hid hx
    have hpre2 : cs.map bareK <+: (preK k).map bareK := by rw [hcs]; exact List.IsPrefix.map bareK hpre
    have HPR := Lib.hid hpre2
    clear hx hri hK hpre hpre2 hcs
    gi_wp2_with fail
    refine HMK.out.leaves (fun W' hW' => ?_)
    exact ⟨_, results_none rfl _ _ _, ⟨_, rfl⟩, .inr ⟨_, HPR.out, HX.out _ _ _ HX1.out (hW'.mono (fun _ h => h.elim) (Nat.le_refl _))⟩⟩
end Go.Proofs.YtpnnchpaaopdcaaGreatDoor
namespace Go.Proofs.YtpnnchpaaopdcaaGreatDoor
open Go Go.RowKit
mutual
theorem sameK_bare : ∀ a b : KT, sameK (bareK a) (bareK b) = sameK a b
  | .mk kd fl set n s kids _ _ _ _, .mk kd' fl' set' n' s' kids' _ _ _ _ => by
    rw [bareK, bareK, sameK, sameK, sameL_bare kids kids']
theorem sameL_bare : ∀ a b : List KT, sameL (bareL a) (bareL b) = sameL a b
  | [], [] => by rw [bareL]
  | a :: r, b :: r' => by rw [bareL, bareL, sameL, sameL, sameK_bare a b, sameL_bare r r']
  | [], b :: r' => by rw [bareL, bareL, sameL, sameL]
  | a :: r, [] => by rw [bareL, bareL, sameL, sameL]
end
mutual
theorem sameK_refl : ∀ a : KT, sameK a a = true
  | .mk kd fl set n s kids _ _ _ _ => by
    rw [sameK, sameL_refl kids]
    simp
theorem sameL_refl : ∀ a : List KT, sameL a a = true
  | [] => by rw [sameL]
  | a :: r => by rw [sameL, sameK_refl a, sameL_refl r]; rfl
end
theorem same_of_bare {a b a' b' : KT} (h : bareK a = bareK a') (h' : bareK b = bareK b') : sameK a b = sameK a' b' := by
  rw [← sameK_bare, h, h', sameK_bare]
mutual
theorem textK_bare : ∀ k : KT, textK (bareK k) = textK k
  | .mk kind flag set n s kids _ _ _ _ => by rw [bareK, textK, textK, textsK_bare kids]
theorem textsK_bare : ∀ l : List KT, textsK (bareL l) = textsK l
  | [] => by rw [bareL]
  | k :: r => by rw [bareL, textsK, textsK, textK_bare k, textsK_bare r]
end
mutual
theorem okT_bare : ∀ k : KT, okT (bareK k) ↔ okT k
  | .mk kind flag set n s kids _ _ _ _ => by
    rw [bareK]
    unfold okT
    rw [textsK_bare kids, okTs_bare kids]
theorem okTs_bare : ∀ l : List KT, okTs (bareL l) ↔ okTs l
  | [] => by rw [bareL]
  | k :: r => by
    rw [bareL]
    unfold okTs
    rw [okT_bare k, okTs_bare r]
end
theorem ok_of_bare {a b : KT} (h : bareK a = bareK b) (hb : okT b) : okT a := (okT_bare a).1 (by rw [h]; exact (okT_bare b).2 hb)
theorem text_of_bare {a b : KT} (h : bareK a = bareK b) : textK a = textK b := by rw [← textK_bare, h, textK_bare]
theorem rightK_of_bare {a b : KT} (h : bareK a = bareK b) (d : Int) : rightK a d = rightK b d := by rw [← rightK_bare, h, rightK_bare]
mutual
theorem sizeK_bare : ∀ k : KT, sizeK (bareK k) = sizeK k
  | .mk kind flag set n s kids _ _ _ _ => by rw [bareK, sizeK, sizeK, sizeR_bare kids]
theorem sizeR_bare : ∀ (l : List KT) (n : Nat), sizeR (bareL l) n = sizeR l n
  | [], n => by rw [bareL]
  | k :: r, n => by rw [bareL, sizeR, sizeR, sizeK_bare k, sizeR_bare r]
end
theorem size_of_bare {a b : KT} (h : bareK a = bareK b) : sizeK a = sizeK b := by rw [← sizeK_bare, h, sizeK_bare]
theorem preKs_len : ∀ l : List KT, (∀ k ∈ l, sizeK k ≤ 200 → (preK k).length = sizeK k) → sumK l ≤ 199 → (preKs l).length = sumK l
  | [], _, _ => by rw [preKs, sumK]; rfl
  | k :: r, h, hs => by
    rw [sumK] at hs ⊢
    rw [preKs, List.length_append, h k (by simp) (by omega), preKs_len r (fun x hx => h x (by simp [hx])) (by omega)]
theorem preK_len (k : KT) : sizeK k ≤ 200 → (preK k).length = sizeK k := by
  refine KT.ind (P := fun k => sizeK k ≤ 200 → (preK k).length = sizeK k) ?_ k
  intro kind flag set n s kids sp scap kp kcap ih h
  obtain ⟨_, _, h3⟩ := size_sum h
  rw [preK, List.length_cons, preKs_len kids ih (by omega), h3]
  omega
theorem stepW_first {k x : KT} {W : World} (h : stepW k [] x W) : bareK x = bareK k := by
  obtain ⟨_, t, ht⟩ := h
  rw [preK_eq] at ht
  simp at ht
  exact ht.1
theorem stepW_len {k x : KT} {pre : List KT} {W : World} (h : stepW k pre x W) : pre.length + 1 ≤ (preK k).length := by
  have := h.2.length_le
  simpa using this
structure Gv (W : World) : Prop where
  errs : Errs W
  names : Names W
  words : ∀ k, k < 11 → W.cell? ⟨2, k, none⟩ = some (.string (wB k))
theorem Gv.below {W W' : World} (h : Gv W) (hb : Below W.heap.size W W') : Gv W' := by
  obtain ⟨h1, ⟨n0, n1, n2, n3, n4⟩, h3⟩ := h
  have cb : ∀ {b i : Nat} {v : Value}, W.cell? ⟨b, i, none⟩ = some v → W'.cell? ⟨b, i, none⟩ = some v := fun {b i v} hc => (hb.cell (p := ⟨b, i, none⟩) (cell_ltA hc)).trans hc
  exact ⟨h1.below hb, ⟨cb n0, cb n1, cb n2, cb n3, cb n4⟩, fun k hk => cb (h3 k hk)⟩
theorem Gv.gl {W : World} {g : Nat} (h : Gv W) {B : Nat} (hB : W.heap.size ≤ g) : Gl W g :=
  ⟨h.errs, h.names, h.words, h.errs.away hB, fun e => by have := cell_ltA h.names.1; dsimp only at this; omega, fun e => by have := cell_ltA (h.words 0 (by omega)); dsimp only at this; omega⟩
theorem Gl.below {W W' : World} {g : Nat} (h : Gl W g) (hb : Below W.heap.size W W') : Gl W' g := h.tk (Tk.of_below hb)
set_option maxRecDepth 100000 in
set_option maxHeartbeats 4000000 in
theorem awake14_c (W : World) (hG : Gv W) (hX : MaxL W) : Calls Tryz.prog 23 #[] W fun e w' => e = .returned (.bool true) ∧ Below W.heap.size W w' := by
  have R1 := tkRead_c exN W
  rw [show txt exN = ⟨#[78, 79, 84, 32, 40, 83, 69, 69, 78, 32, 49, 58, 50, 41]⟩ from rfl] at R1
  have R1 := Lib.hid R1
  have HG := Lib.hid hG
  have HX := Lib.hid hX
  clear hG hX
  go_enter Tryz.func23, Tryz.ntmps23
  go_wp2_with fail
  refine R1.out.mono ?_
  rintro e w1 ⟨rfl, h1, b1⟩
  have B1 := Lib.hid b1
  have hlt1 : W.heap.size < w1.heap.size := Cells.lt h1
  have gl := (HG.out.gl (g := W.heap.size) (B := 0) (Nat.le_refl _)).below b1
  have C := sRead0_c h1 (fun h => by cases h) (by decide) gl
  rw [ex_read] at C
  have C := Lib.hid C
  clear h1 b1 gl
  go_wp2_with fail
  refine C.out.mono ?_
  rintro e w2 ⟨kt, rfl, hbk, hkc, hki, hpr, htk⟩
  have hbk : bareK kt = exK := hbk
  have hpr : PR w2 W.heap.size ⟨[], false⟩ := hpr
  obtain ⟨xk, xf, xm, xn, xl, xsp, xkp, xsc, xkc, X, hv, hc⟩ := kt.form
  have hb2 : Below w2.heap.size w2 (w2.alloc (.cells #[.int .i64 xk, .int .u8 xf, .slice xsp xm xsc, .int .u32 xn, .string X, .slice xkp xl xkc] 37)) := (Below.refl _ w2).alloc (Nat.le_refl _) _
  have hx2 : Cells (w2.alloc (.cells #[.int .i64 xk, .int .u8 xf, .slice xsp xm xsc, .int .u32 xn, .string X, .slice xkp xl xkc] 37)) w2.heap.size 37 #[.int .i64 xk, .int .u8 xf, .slice xsp xm xsc, .int .u32 xn, .string X, .slice xkp xl xkc] := heap_alloc_new w2 _
  have b2 : Below W.heap.size W w2 := B1.out.trans (htk.below (Nat.le_refl _) (by omega))
  have hk2 := KeyC.below hb2 kt hkc
  have hs2 := b2.size
  have hz2 : (w2.alloc (.cells #[.int .i64 xk, .int .u8 xf, .slice xsp xm xsc, .int .u32 xn, .string X, .slice xkp xl xkc] 37)).heap.size = w2.heap.size + 1 := by simp
  have b3 : Below W.heap.size W (w2.alloc (.cells #[.int .i64 xk, .int .u8 xf, .slice xsp xm xsc, .int .u32 xn, .string X, .slice xkp xl xkc] 37)) := b2.trans (hb2.mono hs2)
  have CE := tkEnd_c (hpr.tk (Tk.of_below (g := W.heap.size + 1) hb2) (by omega))
  rw [show (!(⟨[], false⟩ : RS).f && (⟨[], false⟩ : RS).l.isEmpty) = true from rfl] at CE
  have m1 : ∀ w, Below w2.heap.size w2 w → Calls Tryz.prog 20 #[kt.val, .agg #[.int .u32 9, .int .u8 8, .string ⟨#[]⟩], .agg #[.int .u32 3, .int .u32 5, .int .u32 9]] w fun e w' => e = .returned (.bool true) ∧ Below w.heap.size w w' := fun w hb => by
    have h9 := sMatch_c (m := ⟨9, 8, [], 3, 5, 9⟩) ⟨by decide, by decide⟩ kt w (KeyC.below hb kt hkc) ((HX.out.below b2).below hb)
    rw [← matchP_bare, hbk, ex_one] at h9
    exact h9
  have m2 : ∀ w, Below w2.heap.size w2 w → Calls Tryz.prog 20 #[kt.val, .agg #[.int .u32 9, .int .u8 8, .string ⟨#[]⟩], .agg #[.int .u32 2, .int .u32 5, .int .u32 9]] w fun e w' => e = .returned (.bool false) ∧ Below w.heap.size w w' := fun w hb => by
    have h9 := sMatch_c (m := ⟨9, 8, [], 2, 5, 9⟩) ⟨by decide, by decide⟩ kt w (KeyC.below hb kt hkc) ((HX.out.below b2).below hb)
    rw [← matchP_bare, hbk, ex_two] at h9
    exact h9
  rw [hv] at m1 m2
  have M1 := Lib.hid (m1 _ hb2)
  have M2 := Lib.hid m2
  have CE := Lib.hid CE
  have HB2 := Lib.hid hb2
  have HB3 := Lib.hid b3
  have HX2 := Lib.hid hx2
  rw [hv]
  clear hv hc hbk hkc hki hpr htk hb2 b2 hx2 hk2 m1 m2 b3
  go_wp2_with fail
  refine CE.out.mono ?_
  rintro e w3 ⟨rfl, rfl⟩
  go_wp2_with fail
  refine M1.out.mono ?_
  rintro e w4 ⟨rfl, hb4⟩
  have hx4 := Cells.later HX2.out (hb4.block _ (Cells.lt HX2.out))
  have q0 := hx4.cell (i := 0) rfl
  have q1 := hx4.cell (i := 1) rfl
  have q2 := hx4.cell (i := 2) rfl
  have q3 := hx4.cell (i := 3) rfl
  have q4 := hx4.cell (i := 4) rfl
  have q5 := hx4.cell (i := 5) rfl
  have M2' := Lib.hid (M2.out w4 (HB2.out.trans (hb4.mono HB2.out.size)))
  have HB4 := Lib.hid (HB3.out.trans (hb4.mono HB3.out.size))
  clear hx4 hb4
  go_wp2_with fail
  refine M2'.out.mono ?_
  rintro e w5 ⟨rfl, hb5⟩
  have HB5 := Lib.hid (HB4.out.trans (hb5.mono HB4.out.size))
  clear hb5
  go_wp2_with fail
  go_ret
  exact ⟨rfl, HB5.out⟩
end Go.Proofs.YtpnnchpaaopdcaaGreatDoor

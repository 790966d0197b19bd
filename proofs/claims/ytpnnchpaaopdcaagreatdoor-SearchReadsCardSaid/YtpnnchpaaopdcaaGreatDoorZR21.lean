/-
  Whether a key matches, by the program, be it right or not: contract.
  The law's 'not' of a key: contract.
  Keys without their addresses match as with them; the law's own example of a reading.
  What a key of two keys means: lists.
  Two keys of one's own, made in whatever order: what stands behind each operation.
  XInv's law with the frame written out once for all operations; a guard that holds.
  The document's reading of a key: what stands behind each operation of the region that gathers a key.
  search.copied: contract.
  search.copied: the walk.
  search.Walk: what it hands out; what stands in a round.
  The law's look at one known case: contract.
-/
import Derived.Test.YtpnnchpaaopdcaaGreatDoorZR04
import Derived.Test.YtpnnchpaaopdcaaGreatDoorZR20
import Derived.Test.YtpnnchpaaopdcaaGreatDoorZR11
import Derived.Test.YtpnnchpaaopdcaaGreatDoorZR18
import Derived.Test.YtpnnchpaaopdcaaGreatDoorZR06
import Derived.Test.YtpnnchpaaopdcaaGreatDoorZR19
import Derived.Laws.OwnMore
import Derived.Test.YtpnnchpaaopdcaaGreatDoorZR09
set_option linter.unusedVariables false
set_option linter.unusedSimpArgs false
namespace Go.Proofs.YtpnnchpaaopdcaaGreatDoor
open Go Go.RowKit
theorem no_bool {a b : Bool} {p : Prop} (h : a = b) (h2 : (a != b) = true) : p := by
  subst h
  simp at h2
theorem match_three (W : World) (m : MP) (c0 c1 c2 c3 c4 c5 : Value) : ∃ w0, ((W.alloc (.cells #[c0, c1, c2, c3, c4, c5] 37)).alloc (.cells #[.int .u32 m.uid, .int .u8 m.fl, .string (txt m.tx)] 50)).alloc (.cells #[.int .u32 m.sq, .int .u32 m.lastS, .int .u32 m.lastU] 43) = w0 ∧
    Below W.heap.size W w0 ∧ w0.heap.size = W.heap.size + 3 ∧ Bx2 w0 (W.heap.size + 1) (W.heap.size + 1 + 1) m ∧ w0.heap[W.heap.size]? = some (.cells #[c0, c1, c2, c3, c4, c5] 37 (0, 0)) := by
  refine ⟨_, rfl, ?_, by simp, ⟨?_, ?_⟩, ?_⟩
  · exact (((Below.refl _ W).alloc (Nat.le_refl _) _).alloc (by simp) _).alloc (by simp; omega) _
  · have h := heap_alloc_new (W.alloc (.cells #[c0, c1, c2, c3, c4, c5] 37)) (.cells #[.int .u32 m.uid, .int .u8 m.fl, .string (txt m.tx)] 50)
    rw [World.size_alloc] at h
    rw [Below.heap_alloc _ _ _ (by simp)]
    exact h
  · have h := heap_alloc_new ((W.alloc (.cells #[c0, c1, c2, c3, c4, c5] 37)).alloc (.cells #[.int .u32 m.uid, .int .u8 m.fl, .string (txt m.tx)] 50)) (.cells #[.int .u32 m.sq, .int .u32 m.lastS, .int .u32 m.lastU] 43)
    rw [World.size_alloc, World.size_alloc] at h
    exact h
  · have h := heap_alloc_new W (.cells #[c0, c1, c2, c3, c4, c5] 37)
    rw [Below.heap_alloc _ _ _ (by simp; omega), Below.heap_alloc _ _ _ (by simp)]
    exact h
def matchP (m : MP) (k : KT) : Bool := rightK k 16 && matchK m k
set_option maxRecDepth 100000 in
set_option maxHeartbeats 2000000 in
theorem sMatch_c {m : MP} (hm : m.Ok) (k : KT) (W : World) (hK : KeyC W k) (hX : MaxL W) : Calls Tryz.prog 20 #[k.val, m.recv, m.plc] W fun e w' => e = .returned (.bool (matchP m k)) ∧ Below W.heap.size W w' := by
  unfold matchP
  have C1 := fun w hb => sRight_c k w (hK.below (W' := w) hb)
  have C2 : rightK k 16 = true → ∀ w, Below W.heap.size W w → Calls Tryz.prog 70 #[k.val, m.recv, m.plc] w fun e w' => e = .returned (.bool (matchK m k)) ∧ Below w.heap.size w w' := fun hr w hb => by
    rw [rightK_eq, Bool.and_eq_true] at hr
    exact sMatches_c hm k hr.2 w (hK.below hb) (hX.below hb)
  obtain ⟨yk, yf, ym, yn, yl, ysp, ykp, ysc, ykc, Y, hyv, hyc⟩ := k.form
  rw [hyv] at C1 C2 ⊢
  unfold MP.recv MP.plc at C2 ⊢
  obtain ⟨w0, hw0, hb0, hs0, hbx, hkb⟩ := match_three W m (.int .i64 yk) (.int .u8 yf) (.slice ysp ym ysc) (.int .u32 yn) (.string Y) (.slice ykp yl ykc)
  obtain ⟨b1, hb1⟩ : ∃ b, rightK k 16 = b := ⟨_, rfl⟩
  obtain ⟨b2, hb2⟩ : ∃ b, matchK m k = b := ⟨_, rfl⟩
  rw [hb1] at C1 C2 ⊢
  rw [hb2] at C2 ⊢
  have C := Lib.hid (C1 w0 hb0)
  have HB0 := Lib.hid hb0
  obtain ⟨uid, mfl, tx, sq, lastS, lastU⟩ := m
  dsimp only at hw0 hbx C2 ⊢
  obtain ⟨TX, hTX⟩ : ∃ TX, txt tx = TX := ⟨_, rfl⟩
  rw [hTX] at hw0 C2 ⊢
  have HW0 := Lib.hid hw0
  have HBX := Lib.hid hbx
  have HKB := Lib.hid hkb
  have HTX := Lib.hid hTX
  cases b1 with
  | false =>
    rw [Bool.false_and]
    clear C1 C2 hK hX hyv hyc hb1 hb2 hb0 hw0 hbx hkb hm hTX
    go_enter Tryz.func20, Tryz.ntmps20
    go_wp2_with fail
    rw [HW0.out]
    refine C.out.mono ?_
    rintro e w2 ⟨rfl, hb⟩
    have HB2 := Lib.hid (HB0.out.trans (hb.mono HB0.out.size))
    clear hb
    go_wp2_with fail
    go_ret
    exact ⟨rfl, HB2.out⟩
  | true =>
    rw [Bool.true_and]
    have C2h := Lib.hid (C2 rfl)
    clear C2
    clear C1 hK hX hyv hyc hb1 hb2 hb0 hw0 hbx hkb hm hTX
    go_enter Tryz.func20, Tryz.ntmps20
    go_wp2_with fail
    rw [HW0.out]
    refine C.out.mono ?_
    rintro e w2 ⟨rfl, hb⟩
    have hkb2 : w2.heap[W.heap.size]? = some (.cells #[.int .i64 yk, .int .u8 yf, .slice ysp ym ysc, .int .u32 yn, .string Y, .slice ykp yl ykc] 37 (0, 0)) := (hb.block _ (Array.getElem?_eq_some_iff.1 HKB.out).1).trans HKB.out
    have hbx2 := HBX.out.below hb
    obtain ⟨⟨r0, r1, r2⟩, ⟨p0, p1, p2⟩, hl1, hl2⟩ := hbx2.cells
    dsimp only at r0 r1 r2 p0 p1 p2
    rw [HTX.out] at r2
    have k0 : w2.cell? ⟨W.heap.size, 0, none⟩ = some (.int .i64 yk) := by rw [Lib.cell_of_heap hkb2]; rfl
    have k1 : w2.cell? ⟨W.heap.size, 1, none⟩ = some (.int .u8 yf) := by rw [Lib.cell_of_heap hkb2]; rfl
    have k2 : w2.cell? ⟨W.heap.size, 2, none⟩ = some (.slice ysp ym ysc) := by rw [Lib.cell_of_heap hkb2]; rfl
    have k3 : w2.cell? ⟨W.heap.size, 3, none⟩ = some (.int .u32 yn) := by rw [Lib.cell_of_heap hkb2]; rfl
    have k4 : w2.cell? ⟨W.heap.size, 4, none⟩ = some (.string Y) := by rw [Lib.cell_of_heap hkb2]; rfl
    have k5 : w2.cell? ⟨W.heap.size, 5, none⟩ = some (.slice ykp yl ykc) := by rw [Lib.cell_of_heap hkb2]; rfl
    have hkl := (Array.getElem?_eq_some_iff.1 hkb2).1
    have HB2 := Lib.hid (HB0.out.trans (hb.mono HB0.out.size))
    have C3 := Lib.hid (C2h.out w2 HB2.out)
    clear hb hkb2 hbx2
    cases b2
    all_goals
      go_wp2_with fail
      refine C3.out.mono ?_
      rintro e w5 ⟨rfl, hb⟩
      have HB5 := Lib.hid (HB2.out.trans (hb.mono HB2.out.size))
      clear hb
      go_wp2_with fail
      go_ret
      exact ⟨rfl, HB5.out⟩
variable {W : World}
end Go.Proofs.YtpnnchpaaopdcaaGreatDoor
namespace Go.Proofs.YtpnnchpaaopdcaaGreatDoor
open Go Go.RowKit
mutual
theorem matchK_bare (m : MP) : ∀ k : KT, matchK m (bareK k) = matchK m k
  | .mk kind flag set n s kids _ _ _ _ => by rw [bareK, matchK, matchK, matchHd_bare m kids, matchAny_bare m kids, matchNot_bare m kids]
theorem matchHd_bare (m : MP) : ∀ l : List KT, matchHd m (bareL l) = matchHd m l
  | [] => by rw [bareL]
  | k :: r => by rw [bareL, matchHd, matchHd, matchK_bare m k]
theorem matchAny_bare (m : MP) : ∀ l : List KT, matchAny m (bareL l) = matchAny m l
  | [] => by rw [bareL]
  | k :: r => by rw [bareL, matchAny, matchAny, matchK_bare m k, matchAny_bare m r]
theorem matchNot_bare (m : MP) : ∀ l : List KT, matchNot m (bareL l) = matchNot m l
  | [] => by rw [bareL]
  | k :: r => by rw [bareL, matchNot, matchNot, matchK_bare m k, matchNot_bare m r]
end
theorem matchP_bare (m : MP) (k : KT) : matchP m (bareK k) = matchP m k := by unfold matchP; rw [matchK_bare, rightK_bare]
def exN : List UInt8 := [78, 79, 84, 32, 40, 83, 69, 69, 78, 32, 49, 58, 50, 41]
def exK : KT := plainK 8 0 [] 0 [] [plainK 10 0 [] 0 [] [plainK 1 8 [] 0 [] [], plainK 3 0 [(1, 2)] 0 [] []]]
theorem ex_one : matchP ⟨9, 8, [], 3, 5, 9⟩ exK = true := by decide +kernel
theorem ex_two : matchP ⟨9, 8, [], 2, 5, 9⟩ exK = false := by decide +kernel
theorem ex_read : readTop ⟨exN, false⟩ = (exK, ⟨[], false⟩) := by kernel_rfl
variable {W : World}
end Go.Proofs.YtpnnchpaaopdcaaGreatDoor
namespace Go.Proofs.YtpnnchpaaopdcaaGreatDoor
open Go Go.RowKit
variable {w5 w w' : World}
abbrev upL (L : Nat → Bool) (i : Nat) : Nat → Bool := fun j => if j = i then true else L j
abbrev upV (vs : Nat → Value) (s : Nat) (v : Value) : Nat → Value := fun j => if j = s then v else vs j
variable {kv ov : Value} {bk bo k2 o2 : KT} {A B : Nat} {L : Nat → Bool} {vs : Nat → Value}
end Go.Proofs.YtpnnchpaaopdcaaGreatDoor
namespace Go.Proofs.YtpnnchpaaopdcaaGreatDoor
open Go Go.RowKit
theorem of_if {c : Prop} [Decidable c] {A B : Prop} (h : c) (a : A) : if c then A else B := by rw [if_pos h]; exact a
theorem wp_region_slotsF {P : Program} {id : Nat} {ops : Array Oper} {Q : Exit → Act → World → Prop} {a : Act} {w : World} (slots : List Nat) (J : (Nat → Bool) → (Nat → Value) → World → Prop) (F : (Nat → Value) → Act) (hF : ∀ vs, slotsPut slots vs a = F vs) (hm : P.follows .mixedOrders = true) (hb : backB ops = true)
    (h0 : ∀ vs, J (fun _ => false) vs w.drew)
    (hstep : ∀ (i : Nat) (o : Oper) (L : Nat → Bool) (vs : Nat → Value) (w : World), ops[i]? = some o → L i = false → (∀ e ∈ o.after, Region.binds .any e = true → L e.on = true) → J L vs w →
      wpOp P ops Q i (fun a' w' => ∃ vs', a' = F vs' ∧ J (upL L i) vs' w') (F vs) w)
    (hend : ∀ (L : Nat → Bool) (vs : Nat → Value) (w : World), (∀ i, i < ops.size → L i = true) → J L vs w → Q .normal (F vs) w) : (Code.region id ops true).wp P Q a w := by
  have e : F = fun vs => slotsPut slots vs a := funext fun vs => (hF vs).symm
  subst e
  exact wp_region_slots2 slots J hm hb h0 hstep hend
theorem getD_mid {l1 l2 : List Value} {x y : Value} {j : Nat} (h : j ≠ l1.length) : (l1 ++ x :: l2).getD j undef = (l1 ++ y :: l2).getD j undef := by
  simp only [List.getD_eq_getElem?_getD]
  congr 1
  by_cases h1 : j < l1.length
  · rw [List.getElem?_append_left h1, List.getElem?_append_left h1]
  · rw [List.getElem?_append_right (by omega), List.getElem?_append_right (by omega)]
    obtain ⟨m, hm⟩ : ∃ m, j - l1.length = m + 1 := ⟨j - l1.length - 1, by omega⟩
    rw [hm, List.getElem?_cons_succ, List.getElem?_cons_succ]
structure RgV (s : Nat) (D : Nat) (wq : World) (val : KT → List Value) (c : Nat) (K : KT → World → Prop) (k : KT) (L : Nat → Bool) (vs : Nat → Value) (w : World) : Prop where
  b : Below D wq w
  l : ∀ i, L i = true → vs (s + i) = (val k).getD i undef
  k : L c = true → K k w
section
variable {s D : Nat} {wq : World} {val : KT → List Value} {c : Nat} {K : KT → World → Prop} {k : KT} {L : Nat → Bool} {vs : Nat → Value} {w w' : World}
theorem RgV.start (h : Below D wq w) : RgV s D wq val c K k (fun _ => false) vs w := ⟨h, (fun i e => no_bool e rfl), (fun e => no_bool e rfl)⟩
theorem RgV.vals {i : Nat} {v : Value} (h : ∀ j, L j = true → vs (s + j) = (val k).getD j undef) (hv : v = (val k).getD i undef) (j : Nat) (hj : upL L i j = true) : upV vs (s + i) v (s + j) = (val k).getD j undef := by
  by_cases e : j = i
  · subst e; unfold upV; rw [if_pos rfl]; exact hv
  · have h1 : L j = true := by unfold upL at hj; rwa [if_neg e] at hj
    unfold upV
    rw [if_neg (by omega)]
    exact h j h1
theorem RgV.step (h : RgV s D wq val c K k L vs w) (i : Nat) (v : Value) (hi : i ≠ c) (hv : v = (val k).getD i undef) (hb : Below D wq w') (hK : K k w → K k w') : RgV s D wq val c K k (upL L i) (upV vs (s + i) v) w' :=
  ⟨hb, RgV.vals h.l hv, fun e => hK (h.k (by unfold upL at e; rwa [if_neg (fun x => hi x.symm)] at e))⟩
theorem RgV.same (h : RgV s D wq val c K k L vs w) (i : Nat) (v : Value) (hi : i ≠ c) (hv : v = (val k).getD i undef) : RgV s D wq val c K k (upL L i) (upV vs (s + i) v) w := h.step i v hi hv h.b id
theorem RgV.made (h : RgV s D wq val c K k L vs w) (hL : L c = false) {k' : KT} (hval : ∀ j, j ≠ c → (val k').getD j undef = (val k).getD j undef) (v : Value) (hv : v = (val k').getD c undef) (hb : Below D wq w') (hK : K k' w') : RgV s D wq val c K k' (upL L c) (upV vs (s + c) v) w' := by
  refine ⟨hb, RgV.vals (fun j hj => ?_) hv, fun _ => hK⟩
  rw [hval j (fun e => by rw [e, hL] at hj; cases hj)]
  exact h.l j hj
theorem RgV.at (h : RgV s D wq val c K k L vs w) (i : Nat) (hi : L i = true) {v : Value} (hv : (val k).getD i undef = v) : vs (s + i) = v := (h.l i hi).trans hv
end
section
variable {s D n : Nat} {wq : World} {val : List Value} {p : Addr} {u : Value} {L : Nat → Bool} {vs : Nat → Value} {w w' : World}
end
end Go.Proofs.YtpnnchpaaopdcaaGreatDoor
namespace Go.Proofs.YtpnnchpaaopdcaaGreatDoor
open Go Go.RowKit
structure RkR (W : World) (g : Nat) (S : List UInt8) (wr : World) (T n : Nat) (d : Int) (v : Value) (kb : KT) (u2 : RS) (xs : List Value) (k2 : KT) (w4 : World) (g2 cap2 : Nat) (w6 : World) (L : Nat → Bool) (vs : Nat → Value) (w : World) : Prop where
  l0 : L 0 = true → vs 76 = .pointer (some ⟨T, 5, none⟩)
  l1 : L 1 = true → vs 77 = v
  l2 : L 2 = true → vs 78 = pt g
  l3 : L 3 = true → vs 79 = .int .i64 d
  l4 : L 4 = true → vs 80 = .int .i64 (d - 1)
  l8 : L 8 = true → vs 84 = .pointer (some ⟨T, 5, none⟩)
  o6 : L 6 = true → L 5 = true
  o7 : L 7 = true → L 6 = true ∧ L 1 = true
  o9 : L 9 = true → L 7 = true
  a : L 5 = false → w = wr.drew
  b : L 5 = true → vs 81 = k2.val ∧ bareK k2 = kb ∧ KeyC w4 k2 ∧ KeyIn wr.heap.size k2 ∧ DRS w4 g S u2 ∧ Tk g wr w4
  b2 : L 5 = true → L 6 = false → w = w4
  c : L 6 = true → vs 82 = .slice (some ⟨w4.heap.size, 0, none⟩) 1 1
  c2 : L 6 = true → L 7 = false → w = w4.alloc (.cells k2.cells.toArray 26)
  e : L 7 = true → vs 83 = .slice (some ⟨g2, 0, none⟩) (n + 1) cap2 ∧ w6.ownsRow (W.heap.size + 1) 26 6 (.slice (some ⟨g2, 0, none⟩) (n + 1) cap2) (n + 1) (xs ++ k2.cells) ∧ (w4.alloc (.cells k2.cells.toArray 26)).grownBy w6 v.ownBlock ∧ (v.ownBlock = some g2 ∨ g2 = w4.heap.size + 1)
  e2 : L 7 = true → L 9 = false → w = w6
  f : L 9 = true → w = w6.setCell ⟨T, 5, none⟩ (.slice (some ⟨g2, 0, none⟩) (n + 1) cap2)
section
variable {W : World} {g : Nat} {S : List UInt8} {wr : World} {T n : Nat} {d : Int} {v : Value} {kb : KT} {u2 : RS} {xs : List Value} {k2 : KT} {w4 : World} {g2 cap2 : Nat} {w6 : World} {L : Nat → Bool} {vs : Nat → Value} {w w' : World}
theorem no_true {b : Bool} (h : b = false) (h' : b = true) {p : Prop} : p := by rw [h] at h'; cases h'
theorem RkR.start (W : World) (g : Nat) (S : List UInt8) (wr : World) (T n : Nat) (d : Int) (v : Value) (kb : KT) (u2 : RS) (xs : List Value) (k2 : KT) (w4 : World) (g2 cap2 : Nat) (w6 : World) (vs : Nat → Value) : RkR W g S wr T n d v kb u2 xs k2 w4 g2 cap2 w6 (fun _ => false) vs wr.drew := by
  constructor
  all_goals first | (intro _; rfl) | (intro e; exact no_bool e rfl) | (intro e _; exact no_bool e rfl)
variable (h : RkR W g S wr T n d v kb u2 xs k2 w4 g2 cap2 w6 L vs w)
include h
theorem RkR.no6 (h5 : L 5 = false) : L 6 = false := by
  cases e : L 6 with
  | false => rfl
  | true => exact no_true h5 (h.o6 e)
theorem RkR.no7 (h6 : L 6 = false ∨ L 1 = false) : L 7 = false := by
  cases e : L 7 with
  | false => rfl
  | true => exact h6.elim (fun x => no_true x (h.o7 e).1) (fun x => no_true x (h.o7 e).2)
theorem RkR.no9 (h7 : L 7 = false) : L 9 = false := by
  cases e : L 9 with
  | false => rfl
  | true => exact no_true h7 (h.o9 e)
theorem RkR.s0 : RkR W g S wr T n d v kb u2 xs k2 w4 g2 cap2 w6 (upL L 0) (upV vs 76 (.pointer (some ⟨T, 5, none⟩))) w := ⟨fun _ => rfl, h.l1, h.l2, h.l3, h.l4, h.l8, h.o6, h.o7, h.o9, h.a, h.b, h.b2, h.c, h.c2, h.e, h.e2, h.f⟩
theorem RkR.s1 : RkR W g S wr T n d v kb u2 xs k2 w4 g2 cap2 w6 (upL L 1) (upV vs 77 v) w := ⟨h.l0, fun _ => rfl, h.l2, h.l3, h.l4, h.l8, h.o6, fun e => ⟨(h.o7 e).1, rfl⟩, h.o9, h.a, h.b, h.b2, h.c, h.c2, h.e, h.e2, h.f⟩
theorem RkR.s2 : RkR W g S wr T n d v kb u2 xs k2 w4 g2 cap2 w6 (upL L 2) (upV vs 78 (pt g)) w := ⟨h.l0, h.l1, fun _ => rfl, h.l3, h.l4, h.l8, h.o6, h.o7, h.o9, h.a, h.b, h.b2, h.c, h.c2, h.e, h.e2, h.f⟩
theorem RkR.s3 : RkR W g S wr T n d v kb u2 xs k2 w4 g2 cap2 w6 (upL L 3) (upV vs 79 (.int .i64 d)) w := ⟨h.l0, h.l1, h.l2, fun _ => rfl, h.l4, h.l8, h.o6, h.o7, h.o9, h.a, h.b, h.b2, h.c, h.c2, h.e, h.e2, h.f⟩
theorem RkR.s4 : RkR W g S wr T n d v kb u2 xs k2 w4 g2 cap2 w6 (upL L 4) (upV vs 80 (.int .i64 (d - 1))) w := ⟨h.l0, h.l1, h.l2, h.l3, fun _ => rfl, h.l8, h.o6, h.o7, h.o9, h.a, h.b, h.b2, h.c, h.c2, h.e, h.e2, h.f⟩
theorem RkR.s8 : RkR W g S wr T n d v kb u2 xs k2 w4 g2 cap2 w6 (upL L 8) (upV vs 84 (.pointer (some ⟨T, 5, none⟩))) w := ⟨h.l0, h.l1, h.l2, h.l3, h.l4, fun _ => rfl, h.o6, h.o7, h.o9, h.a, h.b, h.b2, h.c, h.c2, h.e, h.e2, h.f⟩
theorem RkR.s5 (h5 : L 5 = false) {k3 : KT} (hb : bareK k3 = kb) (hc : KeyC w' k3) (hi : KeyIn wr.heap.size k3) (hp : DRS w' g S u2) (ht : Tk g wr w') : RkR W g S wr T n d v kb u2 xs k3 w' g2 cap2 w6 (upL L 5) (upV vs 81 k3.val) w' := by
  have h6 := h.no6 h5
  have h7 := h.no7 (.inl h6)
  have h9 := h.no9 h7
  exact ⟨h.l0, h.l1, h.l2, h.l3, h.l4, h.l8, fun _ => rfl, h.o7, h.o9, (fun e => no_bool e rfl), fun _ => ⟨rfl, hb, hc, hi, hp, ht⟩, fun _ _ => rfl, fun e => no_true h6 e, fun e => no_true h6 e, fun e => no_true h7 e, fun e => no_true h7 e, fun e => no_true h9 e⟩
theorem RkR.s6 (h5 : L 5 = true) (h6 : L 6 = false) : RkR W g S wr T n d v kb u2 xs k2 w4 g2 cap2 w6 (upL L 6) (upV vs 82 (.slice (some ⟨w4.heap.size, 0, none⟩) 1 1)) (w4.alloc (.cells k2.cells.toArray 26)) := by
  have h7 := h.no7 (.inl h6)
  have h9 := h.no9 h7
  exact ⟨h.l0, h.l1, h.l2, h.l3, h.l4, h.l8, fun _ => h5, fun e => no_true h7 e, h.o9, fun e => no_true e h5, h.b, (fun _ e => no_bool e rfl), fun _ => rfl, fun _ _ => rfl, fun e => no_true h7 e, fun e => no_true h7 e, fun e => no_true h9 e⟩
theorem RkR.s7 (h1 : L 1 = true) (h6 : L 6 = true) (h7 : L 7 = false) {g3 cap3 : Nat} (ho : w'.ownsRow (W.heap.size + 1) 26 6 (.slice (some ⟨g3, 0, none⟩) (n + 1) cap3) (n + 1) (xs ++ k2.cells)) (hg : (w4.alloc (.cells k2.cells.toArray 26)).grownBy w' v.ownBlock) (hat : v.ownBlock = some g3 ∨ g3 = w4.heap.size + 1) :
    RkR W g S wr T n d v kb u2 xs k2 w4 g3 cap3 w' (upL L 7) (upV vs 83 (.slice (some ⟨g3, 0, none⟩) (n + 1) cap3)) w' := by
  have h9 := h.no9 h7
  have h5 := h.o6 h6
  exact ⟨h.l0, h.l1, h.l2, h.l3, h.l4, h.l8, h.o6, fun _ => ⟨h6, h1⟩, fun _ => rfl, fun e => no_true e h5, h.b, fun _ e => no_true e h6, h.c, (fun _ e => no_bool e rfl), fun _ => ⟨rfl, ho, hg, hat⟩, fun _ _ => rfl, fun e => no_true h9 e⟩
theorem RkR.s9 (h7 : L 7 = true) : RkR W g S wr T n d v kb u2 xs k2 w4 g2 cap2 w6 (upL L 9) vs (w6.setCell ⟨T, 5, none⟩ (.slice (some ⟨g2, 0, none⟩) (n + 1) cap2)) := by
  have h6 := (h.o7 h7).1
  have h5 := h.o6 h6
  exact ⟨h.l0, h.l1, h.l2, h.l3, h.l4, h.l8, h.o6, h.o7, fun _ => h7, fun e => no_true e h5, h.b, fun _ e => no_true e h6, h.c, fun _ e => no_true e h7, h.e, (fun _ e => no_bool e rfl), fun _ => rfl⟩
theorem RkR.cell (h1 : L 1 = false) {t : TypeId} {cs : Array Value} (hct : Cells wr T t cs) (hT : T ≠ g) : Cells w T t cs := by
  have h7 := h.no7 (.inr h1)
  cases h5 : L 5 with
  | false => rw [h.a h5]; exact hct
  | true =>
    have h4 : Cells w4 T t cs := Cells.later hct ((h.b h5).2.2.2.2.2.blk T hct.lt hT)
    cases h6 : L 6 with
    | false => rw [h.b2 h5 h6]; exact h4
    | true => rw [h.c2 h6 h7]; exact Cells.later h4 (Below.heap_alloc _ _ _ h4.lt)
theorem RkR.cell6 (h7 : L 7 = true) {t : TypeId} {cs : Array Value} (hct : Cells wr T t cs) (hT : T ≠ g) (hv : v.ownBlock ≠ some T) : Cells w6 T t cs := by
  have h5 := h.o6 (h.o7 h7).1
  have h4 : Cells w4 T t cs := Cells.later hct ((h.b h5).2.2.2.2.2.blk T hct.lt hT)
  have h45 : Cells (w4.alloc (.cells k2.cells.toArray 26)) T t cs := Cells.later h4 (Below.heap_alloc _ _ _ h4.lt)
  exact Cells.later h45 (grown_at9 (h.e h7).2.2.1 h45.lt hv)
end
end Go.Proofs.YtpnnchpaaopdcaaGreatDoor
namespace Go.Proofs.YtpnnchpaaopdcaaGreatDoor
open Go Go.RowKit
variable {W : World}
section
variable {w3 : World} {B R N cap k : Nat} {kd k2 : KT} {L : Nat → Bool} {vs : Nat → Value} {w w' : World}
end
end Go.Proofs.YtpnnchpaaopdcaaGreatDoor
namespace Go.Proofs.YtpnnchpaaopdcaaGreatDoor
open Go Go.RowKit
variable {W : World}
end Go.Proofs.YtpnnchpaaopdcaaGreatDoor
namespace Go.Proofs.YtpnnchpaaopdcaaGreatDoor
open Go Go.RowKit
section
variable {Wb : World} {yv xv : Value} {bx : KT} {F : Bool → World → Prop} {L : Nat → Bool} {vs : Nat → Value} {w w' : World}
end
end Go.Proofs.YtpnnchpaaopdcaaGreatDoor
namespace Go.Proofs.YtpnnchpaaopdcaaGreatDoor
open Go Go.RowKit
structure Gv (W : World) : Prop where
  errs : Errs W
  names : Names W
  words : ∀ k, k < 11 → W.cell? ⟨2, k, none⟩ = some (.string (wB k))
theorem Gv.below {W W' : World} (h : Gv W) (hb : Below W.heap.size W W') : Gv W' := by
  obtain ⟨h1, ⟨n0, n1, n2, n3, n4⟩, h3⟩ := h
  have cb : ∀ {b i : Nat} {v : Value}, W.cell? ⟨b, i, none⟩ = some v → W'.cell? ⟨b, i, none⟩ = some v := fun {b i v} hc => (hb.cell (p := ⟨b, i, none⟩) (cell_ltA hc)).trans hc
  exact ⟨h1.below hb, ⟨cb n0, cb n1, cb n2, cb n3, cb n4⟩, fun k hk => cb (h3 k hk)⟩
theorem Gv.gl {W : World} {g : Nat} (h : Gv W) {B : Nat} (hB : W.heap.size ≤ g) : Gl W g :=
  ⟨h.errs, h.names, h.words, h.errs.away hB, fun e => by have := cell_ltA h.names.1; dsimp only at this; omega, fun e => by have := cell_ltA (h.words 0 (by omega)); dsimp only at this; omega⟩
theorem Gl.below {W W' : World} {g : Nat} (h : Gl W g) (hb : Below W.heap.size W W') : Gl W' g := h.tk (Tk.of_below hb)
set_option maxRecDepth 100000 in
set_option maxHeartbeats 4000000 in
theorem awake14_c (W : World) (hG : Gv W) (hX : MaxL W) : Calls Tryz.prog 23 #[] W fun e w' => e = .returned (.bool true) ∧ Below W.heap.size W w' := by
  have R1 := tkRead_c exN W
  rw [show txt exN = ⟨#[78, 79, 84, 32, 40, 83, 69, 69, 78, 32, 49, 58, 50, 41]⟩ from rfl] at R1
  have R1 := Lib.hid R1
  have HG := Lib.hid hG
  have HX := Lib.hid hX
  clear hG hX
  go_enter Tryz.func23, Tryz.ntmps23
  go_wp2_with fail
  refine R1.out.mono ?_
  rintro e w1 ⟨rfl, h1, b1⟩
  have B1 := Lib.hid b1
  have hlt1 : W.heap.size < w1.heap.size := Cells.lt h1
  have gl := (HG.out.gl (g := W.heap.size) (B := 0) (Nat.le_refl _)).below b1
  have C := sRead0_c h1 (fun h => by cases h) (by decide) gl
  rw [ex_read] at C
  have C := Lib.hid C
  clear h1 b1 gl
  go_wp2_with fail
  refine C.out.mono ?_
  rintro e w2 ⟨kt, rfl, hbk, hkc, hki, hpr, htk⟩
  have hbk : bareK kt = exK := hbk
  have hpr : PR w2 W.heap.size ⟨[], false⟩ := hpr
  obtain ⟨xk, xf, xm, xn, xl, xsp, xkp, xsc, xkc, X, hv, hc⟩ := kt.form
  have hb2 : Below w2.heap.size w2 (w2.alloc (.cells #[.int .i64 xk, .int .u8 xf, .slice xsp xm xsc, .int .u32 xn, .string X, .slice xkp xl xkc] 37)) := (Below.refl _ w2).alloc (Nat.le_refl _) _
  have hx2 : Cells (w2.alloc (.cells #[.int .i64 xk, .int .u8 xf, .slice xsp xm xsc, .int .u32 xn, .string X, .slice xkp xl xkc] 37)) w2.heap.size 37 #[.int .i64 xk, .int .u8 xf, .slice xsp xm xsc, .int .u32 xn, .string X, .slice xkp xl xkc] := heap_alloc_new w2 _
  have b2 : Below W.heap.size W w2 := B1.out.trans (htk.below (Nat.le_refl _) (by omega))
  have hk2 := KeyC.below hb2 kt hkc
  have hs2 := b2.size
  have hz2 : (w2.alloc (.cells #[.int .i64 xk, .int .u8 xf, .slice xsp xm xsc, .int .u32 xn, .string X, .slice xkp xl xkc] 37)).heap.size = w2.heap.size + 1 := by simp
  have b3 : Below W.heap.size W (w2.alloc (.cells #[.int .i64 xk, .int .u8 xf, .slice xsp xm xsc, .int .u32 xn, .string X, .slice xkp xl xkc] 37)) := b2.trans (hb2.mono hs2)
  have CE := tkEnd_c (hpr.tk (Tk.of_below (g := W.heap.size + 1) hb2) (by omega))
  rw [show (!(⟨[], false⟩ : RS).f && (⟨[], false⟩ : RS).l.isEmpty) = true from rfl] at CE
  have m1 : ∀ w, Below w2.heap.size w2 w → Calls Tryz.prog 20 #[kt.val, .agg #[.int .u32 9, .int .u8 8, .string ⟨#[]⟩], .agg #[.int .u32 3, .int .u32 5, .int .u32 9]] w fun e w' => e = .returned (.bool true) ∧ Below w.heap.size w w' := fun w hb => by
    have h9 := sMatch_c (m := ⟨9, 8, [], 3, 5, 9⟩) ⟨by decide, by decide⟩ kt w (KeyC.below hb kt hkc) ((HX.out.below b2).below hb)
    rw [← matchP_bare, hbk, ex_one] at h9
    exact h9
  have m2 : ∀ w, Below w2.heap.size w2 w → Calls Tryz.prog 20 #[kt.val, .agg #[.int .u32 9, .int .u8 8, .string ⟨#[]⟩], .agg #[.int .u32 2, .int .u32 5, .int .u32 9]] w fun e w' => e = .returned (.bool false) ∧ Below w.heap.size w w' := fun w hb => by
    have h9 := sMatch_c (m := ⟨9, 8, [], 2, 5, 9⟩) ⟨by decide, by decide⟩ kt w (KeyC.below hb kt hkc) ((HX.out.below b2).below hb)
    rw [← matchP_bare, hbk, ex_two] at h9
    exact h9
  rw [hv] at m1 m2
  have M1 := Lib.hid (m1 _ hb2)
  have M2 := Lib.hid m2
  have CE := Lib.hid CE
  have HB2 := Lib.hid hb2
  have HB3 := Lib.hid b3
  have HX2 := Lib.hid hx2
  rw [hv]
  clear hv hc hbk hkc hki hpr htk hb2 b2 hx2 hk2 m1 m2 b3
  go_wp2_with fail
  refine CE.out.mono ?_
  rintro e w3 ⟨rfl, rfl⟩
  go_wp2_with fail
  refine M1.out.mono ?_
  rintro e w4 ⟨rfl, hb4⟩
  have hx4 := Cells.later HX2.out (hb4.block _ (Cells.lt HX2.out))
  have q0 := hx4.cell (i := 0) rfl
  have q1 := hx4.cell (i := 1) rfl
  have q2 := hx4.cell (i := 2) rfl
  have q3 := hx4.cell (i := 3) rfl
  have q4 := hx4.cell (i := 4) rfl
  have q5 := hx4.cell (i := 5) rfl
  have M2' := Lib.hid (M2.out w4 (HB2.out.trans (hb4.mono HB2.out.size)))
  have HB4 := Lib.hid (HB3.out.trans (hb4.mono HB3.out.size))
  clear hx4 hb4
  go_wp2_with fail
  refine M2'.out.mono ?_
  rintro e w5 ⟨rfl, hb5⟩
  have HB5 := Lib.hid (HB4.out.trans (hb5.mono HB4.out.size))
  clear hb5
  go_wp2_with fail
  go_ret
  exact ⟨rfl, HB5.out⟩
end Go.Proofs.YtpnnchpaaopdcaaGreatDoor

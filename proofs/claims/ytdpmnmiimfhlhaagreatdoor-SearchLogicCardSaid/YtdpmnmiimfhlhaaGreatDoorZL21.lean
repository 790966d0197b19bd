/-
  Whether a key matches, by the program, be it right or not: contract.
  The law's 'not' of a key: contract.
  Keys without their addresses match as with them; the law's own example of a reading.
  What a key of two keys means: lists.
  Two keys of one's own, made in whatever order: what stands behind each operation.
  A key of two nots, made in whatever order: what stands behind each operation.
  The law's own message: contract.
  The law's look at one known case: contract.
-/
import Derived.Test.YtdpmnmiimfhlhaaGreatDoorZL05
import Derived.Test.YtdpmnmiimfhlhaaGreatDoorZL20
import Derived.Test.YtdpmnmiimfhlhaaGreatDoorZL12
import Derived.Test.YtdpmnmiimfhlhaaGreatDoorZL19
import Derived.Test.YtdpmnmiimfhlhaaGreatDoorZL08
set_option linter.unusedVariables false
set_option linter.unusedSimpArgs false
namespace Go.Proofs.YtdpmnmiimfhlhaaGreatDoor
open Go Go.RowKit

theorem match_three (W : World) (m : MP) (c0 c1 c2 c3 c4 c5 : Value) : ∃ w0, ((W.alloc (.cells #[c0, c1, c2, c3, c4, c5] 37)).alloc (.cells #[.int .u32 m.uid, .int .u8 m.fl, .string (txt m.tx)] 50)).alloc (.cells #[.int .u32 m.sq, .int .u32 m.lastS, .int .u32 m.lastU] 43) = w0 ∧
    Below W.heap.size W w0 ∧ w0.heap.size = W.heap.size + 3 ∧ Bx2 w0 (W.heap.size + 1) (W.heap.size + 1 + 1) m ∧ w0.heap[W.heap.size]? = some (.cells #[c0, c1, c2, c3, c4, c5] 37 (0, 0)) := by
  refine ⟨_, rfl, ?_, by simp, ⟨?_, ?_⟩, ?_⟩
  · exact (((Below.refl _ W).alloc (Nat.le_refl _) _).alloc (by simp) _).alloc (by simp; omega) _
  · have h := heap_alloc_new (W.alloc (.cells #[c0, c1, c2, c3, c4, c5] 37)) (.cells #[.int .u32 m.uid, .int .u8 m.fl, .string (txt m.tx)] 50)
    rw [World.size_alloc] at h
    rw [Below.heap_alloc _ _ _ (by simp)]
    exact h
  · have h := heap_alloc_new ((W.alloc (.cells #[c0, c1, c2, c3, c4, c5] 37)).alloc (.cells #[.int .u32 m.uid, .int .u8 m.fl, .string (txt m.tx)] 50)) (.cells #[.int .u32 m.sq, .int .u32 m.lastS, .int .u32 m.lastU] 43)
    rw [World.size_alloc, World.size_alloc] at h
    exact h
  · have h := heap_alloc_new W (.cells #[c0, c1, c2, c3, c4, c5] 37)
    rw [Below.heap_alloc _ _ _ (by simp; omega), Below.heap_alloc _ _ _ (by simp)]
    exact h
def matchP (m : MP) (k : KT) : Bool := rightK k 16 && matchK m k
set_option maxRecDepth 100000 in
set_option maxHeartbeats 2000000 in
theorem sMatch_c {m : MP} (hm : m.Ok) (k : KT) (W : World) (hK : KeyC W k) (hX : MaxL W) : Calls Tryz.prog 20 #[k.val, m.recv, m.plc] W fun e w' => e = .returned (.bool (matchP m k)) ∧ Below W.heap.size W w' := by
  unfold matchP
  have C1 := fun w hb => sRight_c k w (hK.below (W' := w) hb)
  have C2 : rightK k 16 = true → ∀ w, Below W.heap.size W w → Calls Tryz.prog 70 #[k.val, m.recv, m.plc] w fun e w' => e = .returned (.bool (matchK m k)) ∧ Below w.heap.size w w' := fun hr w hb => by
    rw [rightK_eq, Bool.and_eq_true] at hr
    exact sMatches_c hm k hr.2 w (hK.below hb) (hX.below hb)
  obtain ⟨yk, yf, ym, yn, yl, ysp, ykp, ysc, ykc, Y, hyv, hyc⟩ := k.form
  rw [hyv] at C1 C2 ⊢
  unfold MP.recv MP.plc at C2 ⊢
  obtain ⟨w0, hw0, hb0, hs0, hbx, hkb⟩ := match_three W m (.int .i64 yk) (.int .u8 yf) (.slice ysp ym ysc) (.int .u32 yn) (.string Y) (.slice ykp yl ykc)
  obtain ⟨b1, hb1⟩ : ∃ b, rightK k 16 = b := ⟨_, rfl⟩
  obtain ⟨b2, hb2⟩ : ∃ b, matchK m k = b := ⟨_, rfl⟩
  rw [hb1] at C1 C2 ⊢
  rw [hb2] at C2 ⊢
  have C := Lib.hid (C1 w0 hb0)
  have HB0 := Lib.hid hb0
  obtain ⟨uid, mfl, tx, sq, lastS, lastU⟩ := m
  dsimp only at hw0 hbx C2 ⊢
  obtain ⟨TX, hTX⟩ : ∃ TX, txt tx = TX := ⟨_, rfl⟩
  rw [hTX] at hw0 C2 ⊢
  have HW0 := Lib.hid hw0
  have HBX := Lib.hid hbx
  have HKB := Lib.hid hkb
  have HTX := Lib.hid hTX
  cases b1 with
  | false =>
    rw [Bool.false_and]
    clear C1 C2 hK hX hyv hyc hb1 hb2 hb0 hw0 hbx hkb hm hTX
    go_enter Tryz.func20, Tryz.ntmps20
    go_wp2_with fail
    rw [HW0.out]
    refine C.out.mono ?_
    rintro e w2 ⟨rfl, hb⟩
    have HB2 := Lib.hid (HB0.out.trans (hb.mono HB0.out.size))
    clear hb
    go_wp2_with fail
    go_ret
    exact ⟨rfl, HB2.out⟩
  | true =>
    rw [Bool.true_and]
    have C2h := Lib.hid (C2 rfl)
    clear C2
    clear C1 hK hX hyv hyc hb1 hb2 hb0 hw0 hbx hkb hm hTX
    go_enter Tryz.func20, Tryz.ntmps20
    go_wp2_with fail
    rw [HW0.out]
    refine C.out.mono ?_
    rintro e w2 ⟨rfl, hb⟩
    have hkb2 : w2.heap[W.heap.size]? = some (.cells #[.int .i64 yk, .int .u8 yf, .slice ysp ym ysc, .int .u32 yn, .string Y, .slice ykp yl ykc] 37 (0, 0)) := (hb.block _ (Array.getElem?_eq_some_iff.1 HKB.out).1).trans HKB.out
    have hbx2 := HBX.out.below hb
    obtain ⟨⟨r0, r1, r2⟩, ⟨p0, p1, p2⟩, hl1, hl2⟩ := hbx2.cells
    dsimp only at r0 r1 r2 p0 p1 p2
    rw [HTX.out] at r2
    have k0 : w2.cell? ⟨W.heap.size, 0, none⟩ = some (.int .i64 yk) := by rw [Lib.cell_of_heap hkb2]; rfl
    have k1 : w2.cell? ⟨W.heap.size, 1, none⟩ = some (.int .u8 yf) := by rw [Lib.cell_of_heap hkb2]; rfl
    have k2 : w2.cell? ⟨W.heap.size, 2, none⟩ = some (.slice ysp ym ysc) := by rw [Lib.cell_of_heap hkb2]; rfl
    have k3 : w2.cell? ⟨W.heap.size, 3, none⟩ = some (.int .u32 yn) := by rw [Lib.cell_of_heap hkb2]; rfl
    have k4 : w2.cell? ⟨W.heap.size, 4, none⟩ = some (.string Y) := by rw [Lib.cell_of_heap hkb2]; rfl
    have k5 : w2.cell? ⟨W.heap.size, 5, none⟩ = some (.slice ykp yl ykc) := by rw [Lib.cell_of_heap hkb2]; rfl
    have hkl := (Array.getElem?_eq_some_iff.1 hkb2).1
    have HB2 := Lib.hid (HB0.out.trans (hb.mono HB0.out.size))
    have C3 := Lib.hid (C2h.out w2 HB2.out)
    clear hb hkb2 hbx2
    cases b2
    all_goals
      go_wp2_with fail
      refine C3.out.mono ?_
      rintro e w5 ⟨rfl, hb⟩
      have HB5 := Lib.hid (HB2.out.trans (hb.mono HB2.out.size))
      clear hb
      go_wp2_with fail
      go_ret
      exact ⟨rfl, HB5.out⟩
end Go.Proofs.YtdpmnmiimfhlhaaGreatDoor
set_option linter.unusedVariables false
set_option linter.unusedSimpArgs false
namespace Go.Proofs.YtdpmnmiimfhlhaaGreatDoor
open Go Go.RowKit
variable {W : World}

def notT (k : KT) (R : Nat) : KT := .mk 8 0 [] 0 [] [k] none 0 (some ⟨R, 0, none⟩) 1
theorem results_n1 (tmps : Array Value) (w : World) (B : Nat) (a b c d e f : Value) (h : Cells w B 37 #[a, b, c, d, e, f]) (h2 : tmps.getD 2 undef = .pointer (some ⟨B, 0, none⟩)) :
    (results Tryz.f35 tmps).run Tryz.prog w = .ok (.agg #[a, b, c, d, e, f]) w := by
  have c0 := h.cell (i := 0) rfl
  have c1 := h.cell (i := 1) rfl
  have c2 := h.cell (i := 2) rfl
  have c3 := h.cell (i := 3) rfl
  have c4 := h.cell (i := 4) rfl
  have c5 := h.cell (i := 5) rfl
  have h2' : tmps[2]?.getD undef = .pointer (some ⟨B, 0, none⟩) := by simpa using h2
  simp [results, Tryz.f35, go_sem, h2', c0, c1, c2, c3, c4, c5]
set_option maxRecDepth 100000 in
set_option maxHeartbeats 2000000 in
theorem not_c (k : KT) (W : World) (hk : KeyC W k) : Calls Tryz.prog 35 #[k.val] W fun e w' => ∃ R, e = .returned (notT k R).val ∧ KeyC w' (notT k R) ∧ W.heap.size ≤ R ∧ Below W.heap.size W w' := by
  obtain ⟨xk, xf, xm, xn, xl, xsp, xkp, xsc, xkc, X, hv, hc⟩ := k.form
  have HK := Lib.hid hk
  have HC := Lib.hid hc
  rw [hv]
  obtain ⟨Q, hQ⟩ : ∃ Q : Ending → World → Prop, (fun e w' => ∃ R, e = .returned (notT k R).val ∧ KeyC w' (notT k R) ∧ W.heap.size ≤ R ∧ Below W.heap.size W w') = Q := ⟨_, rfl⟩
  rw [hQ]
  have HQ := Lib.hid hQ
  clear hk hc hv hQ
  go_enter Tryz.func35, Tryz.ntmps35
  go_wp2_with fail
  have hb : Below W.heap.size W (((W.alloc (.cells #[.int .i64 xk, .int .u8 xf, .slice xsp xm xsc, .int .u32 xn, .string X, .slice xkp xl xkc] 37)).alloc (.cells #[.int .i64 8, .int .u8 0, .slice none 0 0, .int .u32 0, .string ⟨#[]⟩, .slice (some ⟨W.heap.size + 1 + 1, 0, none⟩) 1 1] 37)).alloc (.cells #[.int .i64 xk, .int .u8 xf, .slice xsp xm xsc, .int .u32 xn, .string X, .slice xkp xl xkc] 37)) := (((Below.refl _ W).alloc (Nat.le_refl _) _).alloc (by simp) _).alloc (by simp; omega) _
  have hr : Cells (((W.alloc (.cells #[.int .i64 xk, .int .u8 xf, .slice xsp xm xsc, .int .u32 xn, .string X, .slice xkp xl xkc] 37)).alloc (.cells #[.int .i64 8, .int .u8 0, .slice none 0 0, .int .u32 0, .string ⟨#[]⟩, .slice (some ⟨W.heap.size + 1 + 1, 0, none⟩) 1 1] 37)).alloc (.cells #[.int .i64 xk, .int .u8 xf, .slice xsp xm xsc, .int .u32 xn, .string X, .slice xkp xl xkc] 37)) (W.heap.size + 1) 37 #[.int .i64 8, .int .u8 0, .slice none 0 0, .int .u32 0, .string ⟨#[]⟩, .slice (some ⟨W.heap.size + 1 + 1, 0, none⟩) 1 1] := by
    have h := heap_alloc_new (W.alloc (.cells #[.int .i64 xk, .int .u8 xf, .slice xsp xm xsc, .int .u32 xn, .string X, .slice xkp xl xkc] 37)) (.cells #[.int .i64 8, .int .u8 0, .slice none 0 0, .int .u32 0, .string ⟨#[]⟩, .slice (some ⟨W.heap.size + 1 + 1, 0, none⟩) 1 1] 37)
    rw [World.size_alloc] at h
    show _ = _
    rw [Below.heap_alloc _ _ _ (by simp)]
    exact h
  have hx : Cells (((W.alloc (.cells #[.int .i64 xk, .int .u8 xf, .slice xsp xm xsc, .int .u32 xn, .string X, .slice xkp xl xkc] 37)).alloc (.cells #[.int .i64 8, .int .u8 0, .slice none 0 0, .int .u32 0, .string ⟨#[]⟩, .slice (some ⟨W.heap.size + 1 + 1, 0, none⟩) 1 1] 37)).alloc (.cells #[.int .i64 xk, .int .u8 xf, .slice xsp xm xsc, .int .u32 xn, .string X, .slice xkp xl xkc] 37)) (W.heap.size + 1 + 1) 37 #[.int .i64 xk, .int .u8 xf, .slice xsp xm xsc, .int .u32 xn, .string X, .slice xkp xl xkc] := by
    have h := heap_alloc_new ((W.alloc (.cells #[.int .i64 xk, .int .u8 xf, .slice xsp xm xsc, .int .u32 xn, .string X, .slice xkp xl xkc] 37)).alloc (.cells #[.int .i64 8, .int .u8 0, .slice none 0 0, .int .u32 0, .string ⟨#[]⟩, .slice (some ⟨W.heap.size + 1 + 1, 0, none⟩) 1 1] 37)) (.cells #[.int .i64 xk, .int .u8 xf, .slice xsp xm xsc, .int .u32 xn, .string X, .slice xkp xl xkc] 37)
    rw [World.size_alloc, World.size_alloc] at h
    exact h
  refine bodyPost_ret (results_n1 _ _ (W.heap.size + 1) _ _ _ _ _ _ hr rfl) rfl ?_
  rw [← HQ.out]
  refine ⟨W.heap.size + 1 + 1, rfl, ?_, by omega, hb⟩
  have hkid := kids_block (kts := [k]) hx (by rw [← HC.out]; simp [cellsK]) (fun x hx => by rw [List.mem_singleton.1 hx]; exact KeyC.below hb k HK.out)
  unfold notT KeyC
  exact ⟨by omega, by omega, ⟨by simp [maxLen], by simp [maxLen], by simp [maxLen]⟩, fun i r hr => by simp at hr, hkid⟩
/-- What a key's not means. -/
theorem not_match (m : MP) (k : KT) (R : Nat) : matchK m (notT k R) = !matchK m k := by
  unfold notT
  rw [matchK, matchHd]
  simp
theorem not_within (k : KT) (R : Nat) (d : Int) (hd : 0 ≤ d) (h : rightK k d = true) : rightK (notT k R) (d + 1) = true := by
  unfold notT
  rw [rightK, rightL, rightL, show d + 1 - 1 = d by omega, h]
  have hn : NodeP 8 0 0 0 0 1 := by decide
  simp [hn]
  omega

end Go.Proofs.YtdpmnmiimfhlhaaGreatDoor
set_option linter.unusedVariables false
set_option linter.unusedSimpArgs false
namespace Go.Proofs.YtdpmnmiimfhlhaaGreatDoor
open Go Go.RowKit

mutual
theorem matchK_bare (m : MP) : ∀ k : KT, matchK m (bareK k) = matchK m k
  | .mk kind flag set n s kids _ _ _ _ => by rw [bareK, matchK, matchK, matchHd_bare m kids, matchAny_bare m kids, matchNot_bare m kids]
theorem matchHd_bare (m : MP) : ∀ l : List KT, matchHd m (bareL l) = matchHd m l
  | [] => by rw [bareL]
  | k :: r => by rw [bareL, matchHd, matchHd, matchK_bare m k]
theorem matchAny_bare (m : MP) : ∀ l : List KT, matchAny m (bareL l) = matchAny m l
  | [] => by rw [bareL]
  | k :: r => by rw [bareL, matchAny, matchAny, matchK_bare m k, matchAny_bare m r]
theorem matchNot_bare (m : MP) : ∀ l : List KT, matchNot m (bareL l) = matchNot m l
  | [] => by rw [bareL]
  | k :: r => by rw [bareL, matchNot, matchNot, matchK_bare m k, matchNot_bare m r]
end
theorem matchP_bare (m : MP) (k : KT) : matchP m (bareK k) = matchP m k := by unfold matchP; rw [matchK_bare, rightK_bare]

def exN : List UInt8 := [78, 79, 84, 32, 40, 83, 69, 69, 78, 32, 49, 58, 50, 41]
def exK : KT := plainK 8 0 [] 0 [] [plainK 10 0 [] 0 [] [plainK 1 8 [] 0 [] [], plainK 3 0 [(1, 2)] 0 [] []]]
theorem ex_right : rightK exK 16 = true := by decide +kernel
theorem ex_one : matchP ⟨9, 8, [], 3, 5, 9⟩ exK = true := by decide +kernel
theorem ex_two : matchP ⟨9, 8, [], 2, 5, 9⟩ exK = false := by decide +kernel
theorem ex_k0 : kindV ⟨exN, false⟩ = 8 ∧ (kindS ⟨exN, false⟩).l = [40, 83, 69, 69, 78, 32, 49, 58, 50, 41] ∧ (kindS ⟨exN, false⟩).f = false := by decide +kernel
theorem ex_k1 : kindV ⟨[40, 83, 69, 69, 78, 32, 49, 58, 50, 41], false⟩ = 10 ∧ (kindS ⟨[40, 83, 69, 69, 78, 32, 49, 58, 50, 41], false⟩).l = [83, 69, 69, 78, 32, 49, 58, 50, 41] ∧ (kindS ⟨[40, 83, 69, 69, 78, 32, 49, 58, 50, 41], false⟩).f = false := by decide +kernel
theorem ex_k2 : kindV ⟨[83, 69, 69, 78, 32, 49, 58, 50, 41], false⟩ = 1 ∧ (kindS ⟨[83, 69, 69, 78, 32, 49, 58, 50, 41], false⟩).l = [83, 69, 69, 78, 32, 49, 58, 50, 41] ∧ (kindS ⟨[83, 69, 69, 78, 32, 49, 58, 50, 41], false⟩).f = false := by decide +kernel
theorem ex_f : rflagV ⟨[83, 69, 69, 78, 32, 49, 58, 50, 41], false⟩ = 8 ∧ (rflagS ⟨[83, 69, 69, 78, 32, 49, 58, 50, 41], false⟩).l = [32, 49, 58, 50, 41] ∧ (rflagS ⟨[83, 69, 69, 78, 32, 49, 58, 50, 41], false⟩).f = false := by decide +kernel
theorem ex_k3 : kindV ⟨[49, 58, 50, 41], false⟩ = 3 ∧ (kindS ⟨[49, 58, 50, 41], false⟩).l = [49, 58, 50, 41] ∧ (kindS ⟨[49, 58, 50, 41], false⟩).f = false := by decide +kernel
theorem ex_s : rsetV ⟨[49, 58, 50, 41], false⟩ = [(1, 2)] ∧ (rsetS ⟨[49, 58, 50, 41], false⟩).l = [41] ∧ (rsetS ⟨[49, 58, 50, 41], false⟩).f = false := by decide +kernel
theorem ex_read : readTop ⟨exN, false⟩ = (exK, ⟨[], false⟩) := by kernel_rfl

end Go.Proofs.YtdpmnmiimfhlhaaGreatDoor
set_option linter.unusedVariables false
set_option linter.unusedSimpArgs false
namespace Go.Proofs.YtdpmnmiimfhlhaaGreatDoor
open Go Go.RowKit
variable {W : World}

mutual
theorem rightK_mono : ∀ (k : KT) {d d' : Int}, d ≤ d' → rightK k d = true → rightK k d' = true
  | .mk kind flag set n s kids _ _ _ _, d, d', hd, h => by
    unfold rightK at h ⊢
    rw [Bool.and_eq_true, Bool.and_eq_true, decide_eq_true_eq] at h ⊢
    exact ⟨by omega, h.2.1, rightL_mono kids (by omega) h.2.2⟩
theorem rightL_mono : ∀ (l : List KT) {d d' : Int}, d ≤ d' → rightL l d = true → rightL l d' = true
  | [], d, d', hd, h => by unfold rightL; rfl
  | k :: r, d, d', hd, h => by
    unfold rightL at h ⊢
    rw [Bool.and_eq_true] at h ⊢
    exact ⟨rightK_mono k hd h.1, rightL_mono r hd h.2⟩
end
/-- A key of two keys. -/
def twoT (kind : Int) (a b : KT) (R : Nat) : KT := .mk kind 0 [] 0 [] [a, b] none 0 (some ⟨R, 0, none⟩) 2
theorem two_right {kind : Int} (hk : kind = 9 ∨ kind = 10) (a b : KT) (R : Nat) {d : Int} (hd : 0 ≤ d) (ha : rightK a d = true) (hb : rightK b d = true) : rightK (twoT kind a b R) (d + 1) = true := by
  unfold twoT
  rw [rightK, rightL, rightL, rightL, show d + 1 - 1 = d by omega, ha, hb]
  have hn : NodeP kind 0 0 0 0 2 := by
    rcases hk with rfl | rfl <;> decide
  simp [hn]
  omega
theorem and_match (m : MP) (a b : KT) (R : Nat) : matchK m (twoT 10 a b R) = (matchK m a && matchK m b) := by
  unfold twoT
  rw [matchK, matchNot, matchNot, matchNot]
  cases matchK m a <;> cases matchK m b <;> rfl
theorem or_match (m : MP) (a b : KT) (R : Nat) : matchK m (twoT 9 a b R) = (matchK m a || matchK m b) := by
  unfold twoT
  rw [matchK, matchAny, matchAny, matchAny]
  cases matchK m a <;> cases matchK m b <;> rfl
theorem matchP_right {m : MP} {k : KT} (h : rightK k 16 = true) : matchP m k = matchK m k := by unfold matchP; rw [h, Bool.true_and]
/-- A row of two keys in a block of its own. -/
theorem two_keyC {w : World} {R : Nat} {a b : KT} {kind : Int} {c : Array Value} (h : Cells w R 37 c) (hc : c.toList = a.cells ++ b.cells) (ha : KeyC w a) (hb : KeyC w b) : KeyC w (twoT kind a b R) := by
  have hkid := kids_block (kts := [a, b]) h (by rw [hc]; simp [cellsK]) (fun x hx => by
    rcases List.mem_cons.1 hx with e | e
    · rw [e]; exact ha
    · rw [List.mem_singleton.1 e]; exact hb)
  unfold twoT KeyC
  exact ⟨by omega, by omega, ⟨by simp [maxLen], by simp [maxLen], by simp [maxLen]⟩, fun i r hr => by simp at hr, hkid⟩
theorem right_of_bare {a b : KT} {d : Int} (h : bareK a = bareK b) (hr : rightK b d = true) : rightK a d = true := by
  rw [← rightK_bare, h, rightK_bare]; exact hr
theorem match_of_bare {m : MP} {a b : KT} (h : bareK a = bareK b) : matchK m a = matchK m b := by
  rw [← matchK_bare, h, matchK_bare]

end Go.Proofs.YtdpmnmiimfhlhaaGreatDoor
set_option linter.unusedVariables false
set_option linter.unusedSimpArgs false
namespace Go.Proofs.YtdpmnmiimfhlhaaGreatDoor
open Go Go.RowKit
variable {w5 w w' : World}

def zK : Array Value := #[.int .i64 0, .int .u8 0, .slice none 0 0, .int .u32 0, .string ⟨#[]⟩, .slice none 0 0]
abbrev upL (L : Nat → Bool) (i : Nat) : Nat → Bool := fun j => if j = i then true else L j
abbrev upV (vs : Nat → Value) (s : Nat) (v : Value) : Nat → Value := fun j => if j = s then v else vs j
def pK (A : Nat) : Value := .pointer (some ⟨A, 0, none⟩)
structure LgF (w5 : World) (kv ov : Value) (bk bo k2 o2 : KT) (A B : Nat) (L : Nat → Bool) (vs : Nat → Value) (w : World) : Prop where
  b : Below w5.heap.size w5 w
  l0 : L 0 = true → vs 52 = kv
  l2 : L 2 = true → vs 54 = ov
  l1 : L 1 = true → vs 53 = k2.val ∧ bareK k2 = bk ∧ KeyC w k2 ∧ (L 4 = true → KeyQ (fun b => b ≠ A) k2) ∧ (L 5 = true → KeyQ (fun b => b ≠ B) k2)
  l3 : L 3 = true → vs 55 = o2.val ∧ bareK o2 = bo ∧ KeyC w o2 ∧ (L 4 = true → KeyQ (fun b => b ≠ A) o2) ∧ (L 5 = true → KeyQ (fun b => b ≠ B) o2)
  l4 : L 4 = true → vs 10 = pK A ∧ w5.heap.size ≤ A ∧ Cells w A 37 (if L 6 = true then k2.cells.toArray else zK)
  l5 : L 5 = true → vs 11 = pK B ∧ w5.heap.size ≤ B ∧ Cells w B 37 (if L 7 = true then o2.cells.toArray else zK)
  ne : L 4 = true → L 5 = true → A ≠ B
  o6 : L 6 = true → L 1 = true ∧ L 4 = true
  o7 : L 7 = true → L 3 = true ∧ L 5 = true
variable {kv ov : Value} {bk bo k2 o2 : KT} {A B : Nat} {L : Nat → Bool} {vs : Nat → Value}
theorem LgF.s0 (h : LgF w5 kv ov bk bo k2 o2 A B L vs w) : LgF w5 kv ov bk bo k2 o2 A B (upL L 0) (upV vs 52 kv) w :=
  ⟨h.b, fun _ => rfl, h.l2, h.l1, h.l3, h.l4, h.l5, h.ne, h.o6, h.o7⟩
theorem LgF.s2 (h : LgF w5 kv ov bk bo k2 o2 A B L vs w) : LgF w5 kv ov bk bo k2 o2 A B (upL L 2) (upV vs 54 ov) w :=
  ⟨h.b, h.l0, fun _ => rfl, h.l1, h.l3, h.l4, h.l5, h.ne, h.o6, h.o7⟩
theorem LgF.below (h : LgF w5 kv ov bk bo k2 o2 A B L vs w) (hb : Below w.heap.size w w') : LgF w5 kv ov bk bo k2 o2 A B L vs w' := by
  have hs := h.b.size
  exact ⟨h.b.trans (hb.mono hs), h.l0, h.l2, fun e => ⟨(h.l1 e).1, (h.l1 e).2.1, KeyC.below hb k2 (h.l1 e).2.2.1, (h.l1 e).2.2.2⟩, fun e => ⟨(h.l3 e).1, (h.l3 e).2.1, KeyC.below hb o2 (h.l3 e).2.2.1, (h.l3 e).2.2.2⟩,
    fun e => ⟨(h.l4 e).1, (h.l4 e).2.1, Cells.later (h.l4 e).2.2 (hb.block A (Cells.lt (h.l4 e).2.2))⟩, fun e => ⟨(h.l5 e).1, (h.l5 e).2.1, Cells.later (h.l5 e).2.2 (hb.block B (Cells.lt (h.l5 e).2.2))⟩, h.ne, h.o6, h.o7⟩
theorem LgF.s1 (h : LgF w5 kv ov bk bo k2 o2 A B L vs w) (h1 : L 1 = false) (hb : Below w.heap.size w w') {kn : KT} (hn : bareK kn = bk) (hc : KeyC w' kn) (hi : KeyIn w.heap.size kn) :
    LgF w5 kv ov bk bo kn o2 A B (upL L 1) (upV vs 53 kn.val) w' := by
  have h6 : L 6 = false := by
    cases e : L 6 with
    | false => rfl
    | true => have := (h.o6 e).1; rw [h1] at this; cases this
  have g := h.below hb
  refine ⟨g.b, g.l0, g.l2, fun _ => ⟨rfl, hn, hc, fun e => ?_, fun e => ?_⟩, g.l3, fun e => ?_, g.l5, g.ne, fun e => ?_, g.o7⟩
  · have := Cells.lt (h.l4 e).2.2
    exact KeyQ.mono (fun b hb => by omega) kn (KeyQ.of_in kn hi)
  · have := Cells.lt (h.l5 e).2.2
    exact KeyQ.mono (fun b hb => by omega) kn (KeyQ.of_in kn hi)
  · have := g.l4 e
    rw [h6] at this
    have e6 : upL L 1 6 = false := h6
    rw [e6]
    exact this
  · have e6 : upL L 1 6 = false := h6
    rw [e6] at e; cases e
theorem LgF.s3 (h : LgF w5 kv ov bk bo k2 o2 A B L vs w) (h1 : L 3 = false) (hb : Below w.heap.size w w') {kn : KT} (hn : bareK kn = bo) (hc : KeyC w' kn) (hi : KeyIn w.heap.size kn) :
    LgF w5 kv ov bk bo k2 kn A B (upL L 3) (upV vs 55 kn.val) w' := by
  have h6 : L 7 = false := by
    cases e : L 7 with
    | false => rfl
    | true => have := (h.o7 e).1; rw [h1] at this; cases this
  have g := h.below hb
  refine ⟨g.b, g.l0, g.l2, g.l1, fun _ => ⟨rfl, hn, hc, fun e => ?_, fun e => ?_⟩, g.l4, fun e => ?_, g.ne, g.o6, fun e => ?_⟩
  · have := Cells.lt (h.l4 e).2.2
    exact KeyQ.mono (fun b hb => by omega) kn (KeyQ.of_in kn hi)
  · have := Cells.lt (h.l5 e).2.2
    exact KeyQ.mono (fun b hb => by omega) kn (KeyQ.of_in kn hi)
  · have := g.l5 e
    rw [h6] at this
    have e6 : upL L 3 7 = false := h6
    rw [e6]
    exact this
  · have e6 : upL L 3 7 = false := h6
    rw [e6] at e; cases e
theorem LgF.s4 (h : LgF w5 kv ov bk bo k2 o2 A B L vs w) (h1 : L 4 = false) : LgF w5 kv ov bk bo k2 o2 w.heap.size B (upL L 4) (upV vs 10 (pK w.heap.size)) (w.alloc (.cells zK 37)) := by
  have h6 : L 6 = false := by
    cases e : L 6 with
    | false => rfl
    | true => have := (h.o6 e).2; rw [h1] at this; cases this
  have hb : Below w.heap.size w (w.alloc (.cells zK 37)) := (Below.refl _ w).alloc (Nat.le_refl _) _
  have g := h.below hb
  have hlt : ∀ x, KeyC w x → KeyQ (fun b => b ≠ w.heap.size) x := fun x hx => KeyQ.mono (fun b hb => by omega) x (KeyC.lt x hx)
  refine ⟨g.b, g.l0, g.l2, fun e => ⟨(g.l1 e).1, (g.l1 e).2.1, (g.l1 e).2.2.1, fun _ => hlt _ (h.l1 e).2.2.1, (g.l1 e).2.2.2.2⟩, fun e => ⟨(g.l3 e).1, (g.l3 e).2.1, (g.l3 e).2.2.1, fun _ => hlt _ (h.l3 e).2.2.1, (g.l3 e).2.2.2.2⟩, fun _ => ⟨rfl, h.b.size, ?_⟩, g.l5, fun _ e => ?_, fun e => ?_, g.o7⟩
  · have e6 : upL L 4 6 = false := h6
    rw [e6]
    exact heap_alloc_new w _
  · have := Cells.lt (h.l5 e).2.2
    omega
  · have e6 : upL L 4 6 = false := h6
    rw [e6] at e; cases e
theorem LgF.s5 (h : LgF w5 kv ov bk bo k2 o2 A B L vs w) (h1 : L 5 = false) : LgF w5 kv ov bk bo k2 o2 A w.heap.size (upL L 5) (upV vs 11 (pK w.heap.size)) (w.alloc (.cells zK 37)) := by
  have h6 : L 7 = false := by
    cases e : L 7 with
    | false => rfl
    | true => have := (h.o7 e).2; rw [h1] at this; cases this
  have hb : Below w.heap.size w (w.alloc (.cells zK 37)) := (Below.refl _ w).alloc (Nat.le_refl _) _
  have g := h.below hb
  have hlt : ∀ x, KeyC w x → KeyQ (fun b => b ≠ w.heap.size) x := fun x hx => KeyQ.mono (fun b hb => by omega) x (KeyC.lt x hx)
  refine ⟨g.b, g.l0, g.l2, fun e => ⟨(g.l1 e).1, (g.l1 e).2.1, (g.l1 e).2.2.1, (g.l1 e).2.2.2.1, fun _ => hlt _ (h.l1 e).2.2.1⟩, fun e => ⟨(g.l3 e).1, (g.l3 e).2.1, (g.l3 e).2.2.1, (g.l3 e).2.2.2.1, fun _ => hlt _ (h.l3 e).2.2.1⟩, g.l4, fun _ => ⟨rfl, h.b.size, ?_⟩, fun e _ => ?_, g.o6, fun e => ?_⟩
  · have e6 : upL L 5 7 = false := h6
    rw [e6]
    exact heap_alloc_new w _
  · have := Cells.lt (h.l4 e).2.2
    omega
  · have e6 : upL L 5 7 = false := h6
    rw [e6] at e; cases e
theorem LgF.s6 (h : LgF w5 kv ov bk bo k2 o2 A B L vs w) (h1 : L 1 = true) (h4 : L 4 = true) (ht : Tk A w w') (hc : Cells w' A 37 k2.cells.toArray) : LgF w5 kv ov bk bo k2 o2 A B (upL L 6) vs w' := by
  have hk : ∀ x, KeyC w x → KeyQ (fun b => b ≠ A) x → KeyC w' x := fun x hx hq => KeyC.keepQ ⟨ht.size, fun b hb hlt => ht.blk b hlt hb⟩ x hx hq
  have hbb := ht.below (h.l4 h4).2.1 h.b.size
  refine ⟨h.b.trans hbb, h.l0, h.l2, fun e => ⟨(h.l1 e).1, (h.l1 e).2.1, hk _ (h.l1 e).2.2.1 ((h.l1 e).2.2.2.1 h4), (h.l1 e).2.2.2⟩, fun e => ⟨(h.l3 e).1, (h.l3 e).2.1, hk _ (h.l3 e).2.2.1 ((h.l3 e).2.2.2.1 h4), (h.l3 e).2.2.2⟩,
    fun e => ⟨(h.l4 e).1, (h.l4 e).2.1, hc⟩, fun e => ⟨(h.l5 e).1, (h.l5 e).2.1, Cells.later (h.l5 e).2.2 (ht.blk B (Cells.lt (h.l5 e).2.2) (fun e2 => h.ne h4 e e2.symm))⟩, h.ne, fun _ => ⟨h1, h4⟩, h.o7⟩
theorem LgF.s7 (h : LgF w5 kv ov bk bo k2 o2 A B L vs w) (h1 : L 3 = true) (h5 : L 5 = true) (ht : Tk B w w') (hc : Cells w' B 37 o2.cells.toArray) : LgF w5 kv ov bk bo k2 o2 A B (upL L 7) vs w' := by
  have hk : ∀ x, KeyC w x → KeyQ (fun b => b ≠ B) x → KeyC w' x := fun x hx hq => KeyC.keepQ ⟨ht.size, fun b hb hlt => ht.blk b hlt hb⟩ x hx hq
  have hbb := ht.below (h.l5 h5).2.1 h.b.size
  refine ⟨h.b.trans hbb, h.l0, h.l2, fun e => ⟨(h.l1 e).1, (h.l1 e).2.1, hk _ (h.l1 e).2.2.1 ((h.l1 e).2.2.2.2 h5), (h.l1 e).2.2.2⟩, fun e => ⟨(h.l3 e).1, (h.l3 e).2.1, hk _ (h.l3 e).2.2.1 ((h.l3 e).2.2.2.2 h5), (h.l3 e).2.2.2⟩,
    fun e => ⟨(h.l4 e).1, (h.l4 e).2.1, Cells.later (h.l4 e).2.2 (ht.blk A (Cells.lt (h.l4 e).2.2) (fun e2 => h.ne e h5 e2))⟩, fun e => ⟨(h.l5 e).1, (h.l5 e).2.1, hc⟩, h.ne, h.o6, fun _ => ⟨h1, h5⟩⟩
theorem LgF.start (w5 w : World) (hb : Below w5.heap.size w5 w) (kv ov : Value) (bk bo k2 o2 : KT) (A B : Nat) (vs : Nat → Value) : LgF w5 kv ov bk bo k2 o2 A B (fun _ => false) vs w :=
  ⟨hb, (fun e => nomatch e), (fun e => nomatch e), (fun e => nomatch e), (fun e => nomatch e), (fun e => nomatch e), (fun e => nomatch e), (fun e _ => nomatch e), (fun e => nomatch e), (fun e => nomatch e)⟩
end Go.Proofs.YtdpmnmiimfhlhaaGreatDoor
set_option linter.unusedVariables false
set_option linter.unusedSimpArgs false
namespace Go.Proofs.YtdpmnmiimfhlhaaGreatDoor
open Go Go.RowKit
variable {w5 w w' : World}

def rowTwo (a b : KT) : Array Value := (a.cells ++ b.cells).toArray
structure LhF (w5 : World) (fv kv ov : Value) (k o : KT) (R1 R2 N C : Nat) (L : Nat → Bool) (vs : Nat → Value) (w : World) : Prop where
  b : Below w5.heap.size w5 w
  l0 : L 0 = true → vs 114 = fv
  l3 : L 3 = true → vs 117 = fv
  l1 : L 1 = true → vs 115 = kv
  l4 : L 4 = true → vs 118 = ov
  l2 : L 2 = true → vs 116 = (notT k R1).val ∧ KeyC w (notT k R1) ∧ (L 8 = true → KeyQ (fun b => b ≠ C) (notT k R1))
  l5 : L 5 = true → vs 119 = (notT o R2).val ∧ KeyC w (notT o R2) ∧ (L 8 = true → KeyQ (fun b => b ≠ C) (notT o R2))
  l6 : L 6 = true → L 2 = true ∧ L 5 = true ∧ vs 120 = .slice (some ⟨N, 0, none⟩) 2 2 ∧ Cells w N 37 (rowTwo (notT k R1) (notT o R2)) ∧ (L 8 = true → N ≠ C)
  l7 : L 7 = true → L 6 = true ∧ vs 121 = .agg #[.int .i64 9, .int .u8 0, .slice none 0 0, .int .u32 0, .string ⟨#[]⟩, .slice (some ⟨N, 0, none⟩) 2 2]
  l8 : L 8 = true → vs 16 = pK C ∧ w5.heap.size ≤ C ∧ Cells w C 37 (if L 9 = true then #[.int .i64 9, .int .u8 0, .slice none 0 0, .int .u32 0, .string ⟨#[]⟩, .slice (some ⟨N, 0, none⟩) 2 2] else zK)
  o9 : L 9 = true → L 7 = true ∧ L 8 = true
variable {fv kv ov : Value} {k o : KT} {R1 R2 N C : Nat} {L : Nat → Bool} {vs : Nat → Value}
theorem LhF.s0 (h : LhF w5 fv kv ov k o R1 R2 N C L vs w) : LhF w5 fv kv ov k o R1 R2 N C (upL L 0) (upV vs 114 fv) w := ⟨h.b, fun _ => rfl, h.l3, h.l1, h.l4, h.l2, h.l5, h.l6, h.l7, h.l8, h.o9⟩
theorem LhF.s3 (h : LhF w5 fv kv ov k o R1 R2 N C L vs w) : LhF w5 fv kv ov k o R1 R2 N C (upL L 3) (upV vs 117 fv) w := ⟨h.b, h.l0, fun _ => rfl, h.l1, h.l4, h.l2, h.l5, h.l6, h.l7, h.l8, h.o9⟩
theorem LhF.s1 (h : LhF w5 fv kv ov k o R1 R2 N C L vs w) : LhF w5 fv kv ov k o R1 R2 N C (upL L 1) (upV vs 115 kv) w := ⟨h.b, h.l0, h.l3, fun _ => rfl, h.l4, h.l2, h.l5, h.l6, h.l7, h.l8, h.o9⟩
theorem LhF.s4 (h : LhF w5 fv kv ov k o R1 R2 N C L vs w) : LhF w5 fv kv ov k o R1 R2 N C (upL L 4) (upV vs 118 ov) w := ⟨h.b, h.l0, h.l3, h.l1, fun _ => rfl, h.l2, h.l5, h.l6, h.l7, h.l8, h.o9⟩
theorem LhF.below (h : LhF w5 fv kv ov k o R1 R2 N C L vs w) (hb : Below w.heap.size w w') : LhF w5 fv kv ov k o R1 R2 N C L vs w' :=
  ⟨h.b.trans (hb.mono h.b.size), h.l0, h.l3, h.l1, h.l4, fun e => ⟨(h.l2 e).1, KeyC.below hb _ (h.l2 e).2.1, (h.l2 e).2.2⟩, fun e => ⟨(h.l5 e).1, KeyC.below hb _ (h.l5 e).2.1, (h.l5 e).2.2⟩,
    fun e => ⟨(h.l6 e).1, (h.l6 e).2.1, (h.l6 e).2.2.1, Cells.later (h.l6 e).2.2.2.1 (hb.block N (Cells.lt (h.l6 e).2.2.2.1)), (h.l6 e).2.2.2.2⟩, h.l7, fun e => ⟨(h.l8 e).1, (h.l8 e).2.1, Cells.later (h.l8 e).2.2 (hb.block C (Cells.lt (h.l8 e).2.2))⟩, h.o9⟩
theorem LhF.no6 (h : LhF w5 fv kv ov k o R1 R2 N C L vs w) (h2 : L 2 = false ∨ L 5 = false) : L 6 = false := by
  cases e : L 6 with
  | false => rfl
  | true =>
    obtain ⟨a, b, _⟩ := h.l6 e
    rcases h2 with h2 | h2
    · rw [h2] at a; cases a
    · rw [h2] at b; cases b
theorem LhF.s2 (h : LhF w5 fv kv ov k o R1 R2 N C L vs w) (h1 : L 2 = false) (hb : Below w.heap.size w w') {R : Nat} (hc : KeyC w' (notT k R)) (hq : KeyQ (fun b => b ≠ C) (notT k R) ∨ L 8 = false) :
    LhF w5 fv kv ov k o R R2 N C (upL L 2) (upV vs 116 (notT k R).val) w' := by
  have h6 := h.no6 (.inl h1)
  have g := h.below hb
  refine ⟨g.b, g.l0, g.l3, g.l1, g.l4, fun _ => ⟨rfl, hc, fun e => ?_⟩, g.l5, fun e => ?_, g.l7, g.l8, g.o9⟩
  · rcases hq with hq | hq
    · exact hq
    · have e8 : L 8 = true := e
      rw [hq] at e8; cases e8
  · have e6 : L 6 = true := e
    rw [h6] at e6; cases e6
theorem LhF.s5 (h : LhF w5 fv kv ov k o R1 R2 N C L vs w) (h1 : L 5 = false) (hb : Below w.heap.size w w') {R : Nat} (hc : KeyC w' (notT o R)) (hq : KeyQ (fun b => b ≠ C) (notT o R) ∨ L 8 = false) :
    LhF w5 fv kv ov k o R1 R N C (upL L 5) (upV vs 119 (notT o R).val) w' := by
  have h6 := h.no6 (.inr h1)
  have g := h.below hb
  refine ⟨g.b, g.l0, g.l3, g.l1, g.l4, g.l2, fun _ => ⟨rfl, hc, fun e => ?_⟩, fun e => ?_, g.l7, g.l8, g.o9⟩
  · rcases hq with hq | hq
    · exact hq
    · have e8 : L 8 = true := e
      rw [hq] at e8; cases e8
  · have e6 : L 6 = true := e
    rw [h6] at e6; cases e6
theorem LhF.s6 (h : LhF w5 fv kv ov k o R1 R2 N C L vs w) (h1 : L 6 = false) (h2 : L 2 = true) (h5 : L 5 = true) :
    LhF w5 fv kv ov k o R1 R2 w.heap.size C (upL L 6) (upV vs 120 (.slice (some ⟨w.heap.size, 0, none⟩) 2 2)) (w.alloc (.cells (rowTwo (notT k R1) (notT o R2)) 37)) := by
  have h7 : L 7 = false := by
    cases e : L 7 with
    | false => rfl
    | true => have := (h.l7 e).1; rw [h1] at this; cases this
  have h9 : L 9 = false := by
    cases e : L 9 with
    | false => rfl
    | true => have := (h.o9 e).1; rw [h7] at this; cases this
  have hb : Below w.heap.size w (w.alloc (.cells (rowTwo (notT k R1) (notT o R2)) 37)) := (Below.refl _ w).alloc (Nat.le_refl _) _
  have g := h.below hb
  refine ⟨g.b, g.l0, g.l3, g.l1, g.l4, g.l2, g.l5, fun _ => ⟨h2, h5, rfl, heap_alloc_new w _, fun e => ?_⟩, fun e => ?_, fun e => ?_, g.o9⟩
  · have := Cells.lt (h.l8 e).2.2
    omega
  · have e6 : L 7 = true := e
    rw [h7] at e6; cases e6
  · obtain ⟨a, b, c⟩ := g.l8 e
    rw [h9] at c
    have e9 : upL L 6 9 = false := h9
    rw [e9]
    exact ⟨a, b, c⟩
theorem LhF.s7 (h : LhF w5 fv kv ov k o R1 R2 N C L vs w) (h6 : L 6 = true) : LhF w5 fv kv ov k o R1 R2 N C (upL L 7) (upV vs 121 (.agg #[.int .i64 9, .int .u8 0, .slice none 0 0, .int .u32 0, .string ⟨#[]⟩, .slice (some ⟨N, 0, none⟩) 2 2])) w :=
  ⟨h.b, h.l0, h.l3, h.l1, h.l4, h.l2, h.l5, h.l6, fun _ => ⟨h6, rfl⟩, h.l8, fun e => ⟨rfl, (h.o9 e).2⟩⟩
theorem LhF.s8 (h : LhF w5 fv kv ov k o R1 R2 N C L vs w) (h1 : L 8 = false) : LhF w5 fv kv ov k o R1 R2 N w.heap.size (upL L 8) (upV vs 16 (pK w.heap.size)) (w.alloc (.cells zK 37)) := by
  have h9 : L 9 = false := by
    cases e : L 9 with
    | false => rfl
    | true => have := (h.o9 e).2; rw [h1] at this; cases this
  have hb : Below w.heap.size w (w.alloc (.cells zK 37)) := (Below.refl _ w).alloc (Nat.le_refl _) _
  have g := h.below hb
  have hlt : ∀ x, KeyC w x → KeyQ (fun b => b ≠ w.heap.size) x := fun x hx => KeyQ.mono (fun b hb => by omega) x (KeyC.lt x hx)
  refine ⟨g.b, g.l0, g.l3, g.l1, g.l4, fun e => ⟨(g.l2 e).1, (g.l2 e).2.1, fun _ => hlt _ (h.l2 e).2.1⟩, fun e => ⟨(g.l5 e).1, (g.l5 e).2.1, fun _ => hlt _ (h.l5 e).2.1⟩,
    fun e => ⟨(g.l6 e).1, (g.l6 e).2.1, (g.l6 e).2.2.1, (g.l6 e).2.2.2.1, fun _ => ?_⟩, g.l7, fun _ => ⟨rfl, h.b.size, ?_⟩, fun e => ?_⟩
  · have := Cells.lt (h.l6 e).2.2.2.1
    omega
  · have e9 : upL L 8 9 = false := h9
    rw [e9]
    exact heap_alloc_new w _
  · have e9 : L 9 = true := e
    rw [h9] at e9; cases e9
theorem LhF.s9 (h : LhF w5 fv kv ov k o R1 R2 N C L vs w) (h7 : L 7 = true) (h8 : L 8 = true) (ht : Tk C w w') (hc : Cells w' C 37 #[.int .i64 9, .int .u8 0, .slice none 0 0, .int .u32 0, .string ⟨#[]⟩, .slice (some ⟨N, 0, none⟩) 2 2]) :
    LhF w5 fv kv ov k o R1 R2 N C (upL L 9) vs w' := by
  have hk : ∀ x, KeyC w x → KeyQ (fun b => b ≠ C) x → KeyC w' x := fun x hx hq => KeyC.keepQ ⟨ht.size, fun b hb hlt => ht.blk b hlt hb⟩ x hx hq
  refine ⟨h.b.trans (ht.below (h.l8 h8).2.1 h.b.size), h.l0, h.l3, h.l1, h.l4, fun e => ⟨(h.l2 e).1, hk _ (h.l2 e).2.1 ((h.l2 e).2.2 h8), (h.l2 e).2.2⟩, fun e => ⟨(h.l5 e).1, hk _ (h.l5 e).2.1 ((h.l5 e).2.2 h8), (h.l5 e).2.2⟩,
    fun e => ⟨(h.l6 e).1, (h.l6 e).2.1, (h.l6 e).2.2.1, Cells.later (h.l6 e).2.2.2.1 (ht.blk N (Cells.lt (h.l6 e).2.2.2.1) ((h.l6 e).2.2.2.2 h8)), (h.l6 e).2.2.2.2⟩, h.l7, fun e => ⟨(h.l8 e).1, (h.l8 e).2.1, hc⟩, fun _ => ⟨h7, h8⟩⟩
theorem LhF.start (w5 w : World) (hb : Below w5.heap.size w5 w) (fv kv ov : Value) (k o : KT) (R1 R2 N C : Nat) (vs : Nat → Value) : LhF w5 fv kv ov k o R1 R2 N C (fun _ => false) vs w :=
  ⟨hb, (fun e => nomatch e), (fun e => nomatch e), (fun e => nomatch e), (fun e => nomatch e), (fun e => nomatch e), (fun e => nomatch e), (fun e => nomatch e), (fun e => nomatch e), (fun e => nomatch e), (fun e => nomatch e)⟩
theorem four_blocks (w : World) (c1 c2 c3 c4 : Array Value) (t : TypeId) : ∃ wy, (((w.alloc (.cells c1 t)).alloc (.cells c2 t)).alloc (.cells c3 t)).alloc (.cells c4 t) = wy ∧ Below w.heap.size w wy ∧ wy.heap.size = w.heap.size + 4 ∧
    Cells wy w.heap.size t c1 ∧ Cells wy (w.heap.size + 1) t c2 ∧ Cells wy (w.heap.size + 2) t c3 ∧ Cells wy (w.heap.size + 3) t c4 := by
  refine ⟨_, rfl, ?_, by simp, ?_, ?_, ?_, ?_⟩
  · exact ((((Below.refl _ w).alloc (Nat.le_refl _) _).alloc (by simp) _).alloc (by simp <;> omega) _).alloc (by simp <;> omega) _
  · have h := heap_alloc_new w (.cells c1 t)
    show _ = _
    rw [Below.heap_alloc _ _ _ (by simp <;> omega), Below.heap_alloc _ _ _ (by simp <;> omega), Below.heap_alloc _ _ _ (by simp)]
    exact h
  · have h := heap_alloc_new (w.alloc (.cells c1 t)) (.cells c2 t)
    rw [World.size_alloc] at h
    show _ = _
    rw [Below.heap_alloc _ _ _ (by simp <;> omega), Below.heap_alloc _ _ _ (by simp)]
    exact h
  · have h := heap_alloc_new ((w.alloc (.cells c1 t)).alloc (.cells c2 t)) (.cells c3 t)
    rw [World.size_alloc, World.size_alloc] at h
    show _ = _
    rw [Below.heap_alloc _ _ _ (by simp)]
    exact h
  · have h := heap_alloc_new (((w.alloc (.cells c1 t)).alloc (.cells c2 t)).alloc (.cells c3 t)) (.cells c4 t)
    rw [World.size_alloc, World.size_alloc, World.size_alloc] at h
    exact h
theorem not_kq {k : KT} {R C : Nat} (hk : KeyQ (fun b => b ≠ C) k) (hR : R ≠ C) : KeyQ (fun b => b ≠ C) (notT k R) := by
  unfold notT KeyQ KidsQ KidsQ
  exact ⟨fun h => absurd rfl h, fun _ a e => by cases e; exact hR, hk, trivial⟩
theorem below_step {a w w' : World} {R : Prop} (h : Below a.heap.size a w ∧ R) (hb : Below w.heap.size w w') : Below a.heap.size a w' := h.1.trans (hb.mono h.1.size)
end Go.Proofs.YtdpmnmiimfhlhaaGreatDoor
set_option linter.unusedVariables false
set_option linter.unusedSimpArgs false
namespace Go.Proofs.YtdpmnmiimfhlhaaGreatDoor
open Go Go.RowKit
variable {W : World}

theorem results_o7 (tmps : Array Value) (w : World) (B : Nat) (a b c : Value) (h : Cells w B 50 #[a, b, c]) (h2 : tmps.getD 2 undef = .pointer (some ⟨B, 0, none⟩)) :
    (results Tryz.f21 tmps).run Tryz.prog w = .ok (.agg #[a, b, c]) w := by
  have c0 := h.cell (i := 0) rfl
  have c1 := h.cell (i := 1) rfl
  have c2 := h.cell (i := 2) rfl
  have h2' : tmps[2]?.getD undef = .pointer (some ⟨B, 0, none⟩) := by simpa using h2
  simp [results, Tryz.f21, go_sem, h2', c0, c1, c2]
set_option maxRecDepth 100000 in
set_option maxHeartbeats 2000000 in
theorem own7S_c (m : MP) (W : World) : Calls Tryz.prog 21 #[m.recv] W fun e w' => e = .returned m.recv ∧ Below W.heap.size W w' := by
  unfold MP.recv
  obtain ⟨X, hX⟩ : ∃ X, txt m.tx = X := ⟨_, rfl⟩
  obtain ⟨u, hu⟩ : ∃ u, m.uid = u := ⟨_, rfl⟩
  obtain ⟨f, hf⟩ : ∃ f, m.fl = f := ⟨_, rfl⟩
  rw [hX, hu, hf]
  clear hX hu hf
  have HT : Hid (Cells ((W.alloc (.cells #[.int .u32 u, .int .u8 f, .string X] 28)).alloc (.cells #[.int .u32 u, .int .u8 f, .string X] 50)) (W.heap.size + 1) 50 #[.int .u32 u, .int .u8 f, .string X]) := by
    have h := heap_alloc_new (W.alloc (.cells #[.int .u32 u, .int .u8 f, .string X] 28)) (.cells #[.int .u32 u, .int .u8 f, .string X] 50)
    rw [World.size_alloc] at h
    exact h
  have HB : Hid (Below W.heap.size W ((W.alloc (.cells #[.int .u32 u, .int .u8 f, .string X] 28)).alloc (.cells #[.int .u32 u, .int .u8 f, .string X] 50))) := ((Below.refl _ _).alloc (Nat.le_refl _) _).alloc (by simp) _
  go_enter Tryz.func21, Tryz.ntmps21
  go_wp2_with fail
  exact bodyPost_ret (results_o7 _ _ _ _ _ _ HT.out rfl) rfl ⟨rfl, HB.out⟩

end Go.Proofs.YtdpmnmiimfhlhaaGreatDoor
set_option linter.unusedVariables false
set_option linter.unusedSimpArgs false
namespace Go.Proofs.YtdpmnmiimfhlhaaGreatDoor
open Go Go.RowKit

/-- The variables that a key's reading looks at, where a reader is made. -/
structure Gv (W : World) : Prop where
  errs : Errs W
  names : Names W
  words : ∀ k, k < 11 → W.cell? ⟨2, k, none⟩ = some (.string (wB k))
theorem Gv.below {W W' : World} (h : Gv W) (hb : Below W.heap.size W W') : Gv W' := by
  obtain ⟨h1, ⟨n0, n1, n2, n3, n4⟩, h3⟩ := h
  have cb : ∀ {b i : Nat} {v : Value}, W.cell? ⟨b, i, none⟩ = some v → W'.cell? ⟨b, i, none⟩ = some v := fun {b i v} hc => (hb.cell (p := ⟨b, i, none⟩) (cell_ltA hc)).trans hc
  exact ⟨h1.below hb, ⟨cb n0, cb n1, cb n2, cb n3, cb n4⟩, fun k hk => cb (h3 k hk)⟩
theorem Gv.gl {W : World} {g : Nat} (h : Gv W) {B : Nat} (hB : W.heap.size ≤ g) : Gl W g :=
  ⟨h.errs, h.names, h.words, h.errs.away hB, fun e => by have := cell_ltA h.names.1; dsimp only at this; omega, fun e => by have := cell_ltA (h.words 0 (by omega)); dsimp only at this; omega⟩
theorem Gl.below {W W' : World} {g : Nat} (h : Gl W g) (hb : Below W.heap.size W W') : Gl W' g := h.tk (Tk.of_below hb)

set_option maxRecDepth 100000 in
set_option maxHeartbeats 4000000 in
theorem awake14_c (W : World) (hG : Gv W) (hX : MaxL W) : Calls Tryz.prog 23 #[] W fun e w' => e = .returned (.bool true) ∧ Below W.heap.size W w' := by
  have R1 := tkRead_c exN W
  rw [show txt exN = ⟨#[78, 79, 84, 32, 40, 83, 69, 69, 78, 32, 49, 58, 50, 41]⟩ from rfl] at R1
  have R1 := Lib.hid R1
  have HG := Lib.hid hG
  have HX := Lib.hid hX
  clear hG hX
  go_enter Tryz.func23, Tryz.ntmps23
  go_wp2_with fail
  refine R1.out.mono ?_
  rintro e w1 ⟨rfl, h1, b1⟩
  have B1 := Lib.hid b1
  have hlt1 : W.heap.size < w1.heap.size := Cells.lt h1
  have gl := (HG.out.gl (g := W.heap.size) (B := 0) (Nat.le_refl _)).below b1
  have C := sRead0_c h1 (fun h => by cases h) (by decide) gl
  rw [ex_read] at C
  have C := Lib.hid C
  clear h1 b1 gl
  go_wp2_with fail
  refine C.out.mono ?_
  rintro e w2 ⟨kt, rfl, hbk, hkc, hki, hpr, htk⟩
  have hbk : bareK kt = exK := hbk
  have hpr : PR w2 W.heap.size ⟨[], false⟩ := hpr
  obtain ⟨xk, xf, xm, xn, xl, xsp, xkp, xsc, xkc, X, hv, hc⟩ := kt.form
  have hb2 : Below w2.heap.size w2 (w2.alloc (.cells #[.int .i64 xk, .int .u8 xf, .slice xsp xm xsc, .int .u32 xn, .string X, .slice xkp xl xkc] 37)) := (Below.refl _ w2).alloc (Nat.le_refl _) _
  have hx2 : Cells (w2.alloc (.cells #[.int .i64 xk, .int .u8 xf, .slice xsp xm xsc, .int .u32 xn, .string X, .slice xkp xl xkc] 37)) w2.heap.size 37 #[.int .i64 xk, .int .u8 xf, .slice xsp xm xsc, .int .u32 xn, .string X, .slice xkp xl xkc] := heap_alloc_new w2 _
  have b2 : Below W.heap.size W w2 := B1.out.trans (htk.below (Nat.le_refl _) (by omega))
  have hk2 := KeyC.below hb2 kt hkc
  have hs2 := b2.size
  have hz2 : (w2.alloc (.cells #[.int .i64 xk, .int .u8 xf, .slice xsp xm xsc, .int .u32 xn, .string X, .slice xkp xl xkc] 37)).heap.size = w2.heap.size + 1 := by simp
  have b3 : Below W.heap.size W (w2.alloc (.cells #[.int .i64 xk, .int .u8 xf, .slice xsp xm xsc, .int .u32 xn, .string X, .slice xkp xl xkc] 37)) := b2.trans (hb2.mono hs2)
  have CE := tkEnd_c (hpr.tk (Tk.of_below (g := W.heap.size + 1) hb2) (by omega))
  rw [show (!(⟨[], false⟩ : RS).f && (⟨[], false⟩ : RS).l.isEmpty) = true from rfl] at CE
  have m1 : ∀ w, Below w2.heap.size w2 w → Calls Tryz.prog 20 #[kt.val, .agg #[.int .u32 9, .int .u8 8, .string ⟨#[]⟩], .agg #[.int .u32 3, .int .u32 5, .int .u32 9]] w fun e w' => e = .returned (.bool true) ∧ Below w.heap.size w w' := fun w hb => by
    have h9 := sMatch_c (m := ⟨9, 8, [], 3, 5, 9⟩) ⟨by decide, by decide⟩ kt w (KeyC.below hb kt hkc) ((HX.out.below b2).below hb)
    rw [← matchP_bare, hbk, ex_one] at h9
    exact h9
  have m2 : ∀ w, Below w2.heap.size w2 w → Calls Tryz.prog 20 #[kt.val, .agg #[.int .u32 9, .int .u8 8, .string ⟨#[]⟩], .agg #[.int .u32 2, .int .u32 5, .int .u32 9]] w fun e w' => e = .returned (.bool false) ∧ Below w.heap.size w w' := fun w hb => by
    have h9 := sMatch_c (m := ⟨9, 8, [], 2, 5, 9⟩) ⟨by decide, by decide⟩ kt w (KeyC.below hb kt hkc) ((HX.out.below b2).below hb)
    rw [← matchP_bare, hbk, ex_two] at h9
    exact h9
  rw [hv] at m1 m2
  have M1 := Lib.hid (m1 _ hb2)
  have M2 := Lib.hid m2
  have CE := Lib.hid CE
  have HB2 := Lib.hid hb2
  have HB3 := Lib.hid b3
  have HX2 := Lib.hid hx2
  rw [hv]
  clear hv hc hbk hkc hki hpr htk hb2 b2 hx2 hk2 m1 m2 b3
  go_wp2_with fail
  refine CE.out.mono ?_
  rintro e w3 ⟨rfl, rfl⟩
  go_wp2_with fail
  refine M1.out.mono ?_
  rintro e w4 ⟨rfl, hb4⟩
  have hx4 := Cells.later HX2.out (hb4.block _ (Cells.lt HX2.out))
  have q0 := hx4.cell (i := 0) rfl
  have q1 := hx4.cell (i := 1) rfl
  have q2 := hx4.cell (i := 2) rfl
  have q3 := hx4.cell (i := 3) rfl
  have q4 := hx4.cell (i := 4) rfl
  have q5 := hx4.cell (i := 5) rfl
  have M2' := Lib.hid (M2.out w4 (HB2.out.trans (hb4.mono HB2.out.size)))
  have HB4 := Lib.hid (HB3.out.trans (hb4.mono HB3.out.size))
  clear hx4 hb4
  go_wp2_with fail
  refine M2'.out.mono ?_
  rintro e w5 ⟨rfl, hb5⟩
  have HB5 := Lib.hid (HB4.out.trans (hb5.mono HB4.out.size))
  clear hb5
  go_wp2_with fail
  go_ret
  exact ⟨rfl, HB5.out⟩

end Go.Proofs.YtdpmnmiimfhlhaaGreatDoor

/-
  Whether a right key matches, by the document: contract. MADE by wip/tools/mkRm2.py.
-/
import Derived.Test.YtpnnchpaaopdcaaGreatDoorZT04
import Derived.Test.YtpnnchpaaopdcaaGreatDoorZT08
import Derived.Test.YtpnnchpaaopdcaaGreatDoorZT37
set_option linter.unusedVariables false
set_option linter.unusedSimpArgs false
namespace Go.Proofs.YtpnnchpaaopdcaaGreatDoor
open Go Go.RowKit
theorem u8_and_natM (a b : Nat) (ha : a < 256) (hb : b < 256) : bits BinOp.and IntKind.u8 (a : Int) (b : Int) = ((a &&& b : Nat) : Int) := u8_and_nat a b ha hb
theorem flag_meets : ∀ i < 5, ∀ t < 256, ((t &&& 2 ^ i) != 0) = sHas t (2 ^ i) := by decide +kernel
theorem below_step9 {a w w' : World} {R : Prop} (h : Below a.heap.size a w ∧ R) (hb : Below w.heap.size w w') : Below a.heap.size a w' := h.1.trans (hb.mono h.1.size)
def RMatchIH (m : MP) (k : KT) : Prop := ∀ (d : Int) (W : World), KeyC W k → rightK k d = true → Calls Tryz.prog 15 #[k.val, m.recv, .int .u32 m.sq, .int .u32 m.lastS, .int .u32 m.lastU] W fun e w' => e = .returned (.bool (matchK m k)) ∧ Below W.heap.size W w'
theorem rm_boxes (W : World) (m : MP) (c : Array Value) : ∃ w0, (W.alloc (.cells c 26)).alloc (.cells #[.int .u32 m.uid, .int .u8 m.fl, .string (txt m.tx)] 28) = w0 ∧ Below W.heap.size W w0 ∧ w0.heap.size = W.heap.size + 2 ∧ Cells w0 W.heap.size 26 c ∧ Cells w0 (W.heap.size + 1) 28 #[.int .u32 m.uid, .int .u8 m.fl, .string (txt m.tx)] := by
  refine ⟨_, rfl, ?_, by simp, ?_, ?_⟩
  · exact ((Below.refl _ W).alloc (Nat.le_refl _) _).alloc (by simp) _
  · have h := heap_alloc_new W (.cells c 26)
    show _ = _
    rw [Below.heap_alloc _ _ _ (by simp)]
    exact h
  · have h := heap_alloc_new (W.alloc (.cells c 26)) (.cells #[.int .u32 m.uid, .int .u8 m.fl, .string (txt m.tx)] 28)
    rw [World.size_alloc] at h
    exact h
set_option maxRecDepth 100000 in
set_option maxHeartbeats 4000000 in
theorem rMatch0_c {m : MP} (hm : m.Ok) (flag : Nat) (set : List (Nat × Nat)) (n : Nat) (s : List UInt8) (kids : List KT) (sp : Option Addr) (scap : Nat) (kp : Option Addr) (kcap : Nat) (ih : ∀ x ∈ kids, RMatchIH m x) (d : Int) (W : World)
    (hK : KeyC W (.mk 0 flag set n s kids sp scap kp kcap)) (hr : rightK (.mk 0 flag set n s kids sp scap kp kcap) d = true) :
    Calls Tryz.prog 15 #[(KT.mk 0 flag set n s kids sp scap kp kcap).val, m.recv, .int .u32 m.sq, .int .u32 m.lastS, .int .u32 m.lastU] W fun e w' => e = .returned (.bool (matchK m (.mk 0 flag set n s kids sp scap kp kcap))) ∧ Below W.heap.size W w' := by
  unfold rightK at hr
  rw [Bool.and_eq_true, Bool.and_eq_true, decide_eq_true_eq, decide_eq_true_eq] at hr
  obtain ⟨hd, hN, hrk⟩ := hr
  obtain ⟨hkids, hkm, hfl, hn9, hsl, hsm, hpairs⟩ := hK.kids
  have htl := hm.tx
  have hmf := hm.fl
  unfold maxLen at hkm
  obtain ⟨uid, mfl, tx, sq, lastS, lastU⟩ := m
  dsimp only at htl hmf
  unfold MP.recv
  dsimp only
  obtain ⟨Z, hZ⟩ : ∃ b, matchK ⟨uid, mfl, tx, sq, lastS, lastU⟩ (.mk 0 flag set n s kids sp scap kp kcap) = b := ⟨_, rfl⟩
  rw [hZ]
  show Calls Tryz.prog 15 #[.agg #[.int .i64 0, .int .u8 flag, .slice sp set.length scap, .int .u32 n, .string (txt s), .slice kp kids.length kcap], .agg #[.int .u32 uid, .int .u8 mfl, .string (txt tx)], .int .u32 sq, .int .u32 lastS, .int .u32 lastU] W _
  obtain ⟨w0, hw0, hb0, hs0, hc0, hd0⟩ := rm_boxes W ⟨uid, mfl, tx, sq, lastS, lastU⟩ #[.int .i64 0, .int .u8 flag, .slice sp set.length scap, .int .u32 n, .string (txt s), .slice kp kids.length kcap]
  dsimp only at hw0 hd0
  have eX := txt_size tx
  have eS := txt_size s
  have hz : Z = true := by rw [← hZ, matchK]; simp
  obtain ⟨TX, hTX⟩ : ∃ X, txt tx = X := ⟨_, rfl⟩
  obtain ⟨X, hX⟩ : ∃ X, txt s = X := ⟨_, rfl⟩
  obtain ⟨M, hM⟩ : ∃ M, set.length = M := ⟨_, rfl⟩
  obtain ⟨N, hNN⟩ : ∃ N, kids.length = N := ⟨_, rfl⟩
  rw [hX, hM, hNN] at hc0
  rw [hTX] at hd0
  rw [hTX, hX, hM, hNN] at hw0
  rw [hTX, hX, hM, hNN]
  rw [hTX] at eX
  have H9 : Hid (∀ x, Below w0.heap.size w0 x → (x.cell? ⟨W.heap.size, 0, none⟩ = some (.int .i64 0) ∧ x.cell? ⟨W.heap.size, 1, none⟩ = some (.int .u8 flag) ∧ x.cell? ⟨W.heap.size, 2, none⟩ = some (.slice sp M scap) ∧ x.cell? ⟨W.heap.size, 3, none⟩ = some (.int .u32 n) ∧ x.cell? ⟨W.heap.size, 4, none⟩ = some (.string X) ∧ x.cell? ⟨W.heap.size, 5, none⟩ = some (.slice kp N kcap)) ∧
      (x.cell? ⟨W.heap.size + 1, 0, none⟩ = some (.int .u32 uid) ∧ x.cell? ⟨W.heap.size + 1, 1, none⟩ = some (.int .u8 mfl) ∧ x.cell? ⟨W.heap.size + 1, 2, none⟩ = some (.string TX))) := fun x hb => by
    have h := Cells.later hc0 (hb.block _ (Cells.lt hc0))
    have h2 := Cells.later hd0 (hb.block _ (Cells.lt hd0))
    exact ⟨⟨h.cell (i := 0) rfl, h.cell (i := 1) rfl, h.cell (i := 2) rfl, h.cell (i := 3) rfl, h.cell (i := 4) rfl, h.cell (i := 5) rfl⟩, ⟨h2.cell (i := 0) rfl, h2.cell (i := 1) rfl, h2.cell (i := 2) rfl⟩⟩
  have HB0 := Lib.hid hb0
  have HW0 := Lib.hid hw0
  have hk0 : N = 0 := by rw [← hNN]; exact hN.2.2.2.2.2.2.2.2.2.1 (by decide)
  subst hk0
  have HZ := Lib.hid hz
  clear hz hZ hd hN hrk hkids hkm hfl hn9 hsl hsm hpairs htl hmf hb0 hs0 hc0 hd0 hw0 hK hm ih hX hM hNN hTX eX eS
  go_enter Tryz.func15, Tryz.ntmps15
  go_wp2_with fail
  rw [HW0.out]
  obtain ⟨⟨c0, c1, c2, c3, c4, c5⟩, d0, d1, d2⟩ := H9.out w0 (Below.refl _ _)
  go_wp2_with fail
  go_loopw [11, 12, 13] (fun t11 t12 t13 wr => t11 = .bool false ∧ t12 = .bool true ∧ t13 = .int .i64 0 ∧ wr = w0) (fun _ _ _ _ => 0)
  case atStart => exact ⟨rfl, rfl, rfl, rfl⟩
  case round =>
    obtain ⟨rfl, rfl, rfl, rfl⟩ := hrel
    go_wp2_with fail
    go_ret
    exact ⟨by rw [HZ.out]; try rfl, HB0.out⟩
set_option maxRecDepth 100000 in
set_option maxHeartbeats 4000000 in
theorem rMatch1_c {m : MP} (hm : m.Ok) (flag : Nat) (set : List (Nat × Nat)) (n : Nat) (s : List UInt8) (kids : List KT) (sp : Option Addr) (scap : Nat) (kp : Option Addr) (kcap : Nat) (ih : ∀ x ∈ kids, RMatchIH m x) (d : Int) (W : World)
    (hK : KeyC W (.mk 1 flag set n s kids sp scap kp kcap)) (hr : rightK (.mk 1 flag set n s kids sp scap kp kcap) d = true) :
    Calls Tryz.prog 15 #[(KT.mk 1 flag set n s kids sp scap kp kcap).val, m.recv, .int .u32 m.sq, .int .u32 m.lastS, .int .u32 m.lastU] W fun e w' => e = .returned (.bool (matchK m (.mk 1 flag set n s kids sp scap kp kcap))) ∧ Below W.heap.size W w' := by
  unfold rightK at hr
  rw [Bool.and_eq_true, Bool.and_eq_true, decide_eq_true_eq, decide_eq_true_eq] at hr
  obtain ⟨hd, hN, hrk⟩ := hr
  obtain ⟨hkids, hkm, hfl, hn9, hsl, hsm, hpairs⟩ := hK.kids
  have htl := hm.tx
  have hmf := hm.fl
  unfold maxLen at hkm
  obtain ⟨uid, mfl, tx, sq, lastS, lastU⟩ := m
  dsimp only at htl hmf
  unfold MP.recv
  dsimp only
  obtain ⟨Z, hZ⟩ : ∃ b, matchK ⟨uid, mfl, tx, sq, lastS, lastU⟩ (.mk 1 flag set n s kids sp scap kp kcap) = b := ⟨_, rfl⟩
  rw [hZ]
  show Calls Tryz.prog 15 #[.agg #[.int .i64 1, .int .u8 flag, .slice sp set.length scap, .int .u32 n, .string (txt s), .slice kp kids.length kcap], .agg #[.int .u32 uid, .int .u8 mfl, .string (txt tx)], .int .u32 sq, .int .u32 lastS, .int .u32 lastU] W _
  obtain ⟨w0, hw0, hb0, hs0, hc0, hd0⟩ := rm_boxes W ⟨uid, mfl, tx, sq, lastS, lastU⟩ #[.int .i64 1, .int .u8 flag, .slice sp set.length scap, .int .u32 n, .string (txt s), .slice kp kids.length kcap]
  dsimp only at hw0 hd0
  have eX := txt_size tx
  have eS := txt_size s
  obtain ⟨i, hi, hfi⟩ : ∃ i, i < 5 ∧ flag = 2 ^ i := by
    rcases hN.2.2.2.1 (by rw [ne_eq]; have := hN.2.2.1; simp at this; omega) with h | h | h | h | h
    · exact ⟨0, by omega, h⟩
    · exact ⟨1, by omega, h⟩
    · exact ⟨2, by omega, h⟩
    · exact ⟨3, by omega, h⟩
    · exact ⟨4, by omega, h⟩
  have hz : Z = sHas mfl flag := by rw [← hZ, matchK]; simp
  have hand := u8_and_natM mfl flag hmf hfl
  have hme := flag_meets i hi mfl hmf
  rw [← hfi] at hme
  obtain ⟨v, hv⟩ : ∃ v, sHas mfl flag = v := ⟨_, rfl⟩
  rw [hv] at hz hme
  obtain ⟨TX, hTX⟩ : ∃ X, txt tx = X := ⟨_, rfl⟩
  obtain ⟨X, hX⟩ : ∃ X, txt s = X := ⟨_, rfl⟩
  obtain ⟨M, hM⟩ : ∃ M, set.length = M := ⟨_, rfl⟩
  obtain ⟨N, hNN⟩ : ∃ N, kids.length = N := ⟨_, rfl⟩
  rw [hX, hM, hNN] at hc0
  rw [hTX] at hd0
  rw [hTX, hX, hM, hNN] at hw0
  rw [hTX, hX, hM, hNN]
  rw [hTX] at eX
  have H9 : Hid (∀ x, Below w0.heap.size w0 x → (x.cell? ⟨W.heap.size, 0, none⟩ = some (.int .i64 1) ∧ x.cell? ⟨W.heap.size, 1, none⟩ = some (.int .u8 flag) ∧ x.cell? ⟨W.heap.size, 2, none⟩ = some (.slice sp M scap) ∧ x.cell? ⟨W.heap.size, 3, none⟩ = some (.int .u32 n) ∧ x.cell? ⟨W.heap.size, 4, none⟩ = some (.string X) ∧ x.cell? ⟨W.heap.size, 5, none⟩ = some (.slice kp N kcap)) ∧
      (x.cell? ⟨W.heap.size + 1, 0, none⟩ = some (.int .u32 uid) ∧ x.cell? ⟨W.heap.size + 1, 1, none⟩ = some (.int .u8 mfl) ∧ x.cell? ⟨W.heap.size + 1, 2, none⟩ = some (.string TX))) := fun x hb => by
    have h := Cells.later hc0 (hb.block _ (Cells.lt hc0))
    have h2 := Cells.later hd0 (hb.block _ (Cells.lt hd0))
    exact ⟨⟨h.cell (i := 0) rfl, h.cell (i := 1) rfl, h.cell (i := 2) rfl, h.cell (i := 3) rfl, h.cell (i := 4) rfl, h.cell (i := 5) rfl⟩, ⟨h2.cell (i := 0) rfl, h2.cell (i := 1) rfl, h2.cell (i := 2) rfl⟩⟩
  have HB0 := Lib.hid hb0
  have HW0 := Lib.hid hw0
  obtain ⟨A, hA⟩ : ∃ A, mfl &&& flag = A := ⟨_, rfl⟩
  rw [hA] at hand hme
  have HZ := Lib.hid hz
  clear hz hZ hv hi hfi hA hd hN hrk hkids hkm hfl hn9 hsl hsm hpairs htl hmf hb0 hs0 hc0 hd0 hw0 hK hm ih hX hM hNN hTX eX eS
  cases v with
  | true =>
    have hA0 : A ≠ 0 := by simpa using hme
    have q1 : ((A : Int) != 0) = true := qN (by omega)
    have q2 : ((A : Int) == 0) = false := qF (by omega)
    clear hme hA0
    go_enter Tryz.func15, Tryz.ntmps15
    go_wp2_with fail
    rw [HW0.out]
    obtain ⟨⟨c0, c1, c2, c3, c4, c5⟩, d0, d1, d2⟩ := H9.out w0 (Below.refl _ _)
    go_wp2_with fail
    go_ret
    exact ⟨by rw [HZ.out]; try rfl, HB0.out⟩
  | false =>
    have hA0 : A = 0 := by simpa using hme
    subst hA0
    clear hme
    go_enter Tryz.func15, Tryz.ntmps15
    go_wp2_with fail
    rw [HW0.out]
    obtain ⟨⟨c0, c1, c2, c3, c4, c5⟩, d0, d1, d2⟩ := H9.out w0 (Below.refl _ _)
    go_wp2_with fail
    go_ret
    exact ⟨by rw [HZ.out]; try rfl, HB0.out⟩
set_option maxRecDepth 100000 in
set_option maxHeartbeats 4000000 in
theorem rMatch2_c {m : MP} (hm : m.Ok) (flag : Nat) (set : List (Nat × Nat)) (n : Nat) (s : List UInt8) (kids : List KT) (sp : Option Addr) (scap : Nat) (kp : Option Addr) (kcap : Nat) (ih : ∀ x ∈ kids, RMatchIH m x) (d : Int) (W : World)
    (hK : KeyC W (.mk 2 flag set n s kids sp scap kp kcap)) (hr : rightK (.mk 2 flag set n s kids sp scap kp kcap) d = true) :
    Calls Tryz.prog 15 #[(KT.mk 2 flag set n s kids sp scap kp kcap).val, m.recv, .int .u32 m.sq, .int .u32 m.lastS, .int .u32 m.lastU] W fun e w' => e = .returned (.bool (matchK m (.mk 2 flag set n s kids sp scap kp kcap))) ∧ Below W.heap.size W w' := by
  unfold rightK at hr
  rw [Bool.and_eq_true, Bool.and_eq_true, decide_eq_true_eq, decide_eq_true_eq] at hr
  obtain ⟨hd, hN, hrk⟩ := hr
  obtain ⟨hkids, hkm, hfl, hn9, hsl, hsm, hpairs⟩ := hK.kids
  have htl := hm.tx
  have hmf := hm.fl
  unfold maxLen at hkm
  obtain ⟨uid, mfl, tx, sq, lastS, lastU⟩ := m
  dsimp only at htl hmf
  unfold MP.recv
  dsimp only
  obtain ⟨Z, hZ⟩ : ∃ b, matchK ⟨uid, mfl, tx, sq, lastS, lastU⟩ (.mk 2 flag set n s kids sp scap kp kcap) = b := ⟨_, rfl⟩
  rw [hZ]
  show Calls Tryz.prog 15 #[.agg #[.int .i64 2, .int .u8 flag, .slice sp set.length scap, .int .u32 n, .string (txt s), .slice kp kids.length kcap], .agg #[.int .u32 uid, .int .u8 mfl, .string (txt tx)], .int .u32 sq, .int .u32 lastS, .int .u32 lastU] W _
  obtain ⟨w0, hw0, hb0, hs0, hc0, hd0⟩ := rm_boxes W ⟨uid, mfl, tx, sq, lastS, lastU⟩ #[.int .i64 2, .int .u8 flag, .slice sp set.length scap, .int .u32 n, .string (txt s), .slice kp kids.length kcap]
  dsimp only at hw0 hd0
  have eX := txt_size tx
  have eS := txt_size s
  obtain ⟨i, hi, hfi⟩ : ∃ i, i < 5 ∧ flag = 2 ^ i := by
    rcases hN.2.2.2.1 (by rw [ne_eq]; have := hN.2.2.1; simp at this; omega) with h | h | h | h | h
    · exact ⟨0, by omega, h⟩
    · exact ⟨1, by omega, h⟩
    · exact ⟨2, by omega, h⟩
    · exact ⟨3, by omega, h⟩
    · exact ⟨4, by omega, h⟩
  have hz : Z = !sHas mfl flag := by rw [← hZ, matchK]; simp
  have hand := u8_and_natM mfl flag hmf hfl
  have hme := flag_meets i hi mfl hmf
  rw [← hfi] at hme
  obtain ⟨v, hv⟩ : ∃ v, sHas mfl flag = v := ⟨_, rfl⟩
  rw [hv] at hz hme
  obtain ⟨TX, hTX⟩ : ∃ X, txt tx = X := ⟨_, rfl⟩
  obtain ⟨X, hX⟩ : ∃ X, txt s = X := ⟨_, rfl⟩
  obtain ⟨M, hM⟩ : ∃ M, set.length = M := ⟨_, rfl⟩
  obtain ⟨N, hNN⟩ : ∃ N, kids.length = N := ⟨_, rfl⟩
  rw [hX, hM, hNN] at hc0
  rw [hTX] at hd0
  rw [hTX, hX, hM, hNN] at hw0
  rw [hTX, hX, hM, hNN]
  rw [hTX] at eX
  have H9 : Hid (∀ x, Below w0.heap.size w0 x → (x.cell? ⟨W.heap.size, 0, none⟩ = some (.int .i64 2) ∧ x.cell? ⟨W.heap.size, 1, none⟩ = some (.int .u8 flag) ∧ x.cell? ⟨W.heap.size, 2, none⟩ = some (.slice sp M scap) ∧ x.cell? ⟨W.heap.size, 3, none⟩ = some (.int .u32 n) ∧ x.cell? ⟨W.heap.size, 4, none⟩ = some (.string X) ∧ x.cell? ⟨W.heap.size, 5, none⟩ = some (.slice kp N kcap)) ∧
      (x.cell? ⟨W.heap.size + 1, 0, none⟩ = some (.int .u32 uid) ∧ x.cell? ⟨W.heap.size + 1, 1, none⟩ = some (.int .u8 mfl) ∧ x.cell? ⟨W.heap.size + 1, 2, none⟩ = some (.string TX))) := fun x hb => by
    have h := Cells.later hc0 (hb.block _ (Cells.lt hc0))
    have h2 := Cells.later hd0 (hb.block _ (Cells.lt hd0))
    exact ⟨⟨h.cell (i := 0) rfl, h.cell (i := 1) rfl, h.cell (i := 2) rfl, h.cell (i := 3) rfl, h.cell (i := 4) rfl, h.cell (i := 5) rfl⟩, ⟨h2.cell (i := 0) rfl, h2.cell (i := 1) rfl, h2.cell (i := 2) rfl⟩⟩
  have HB0 := Lib.hid hb0
  have HW0 := Lib.hid hw0
  obtain ⟨A, hA⟩ : ∃ A, mfl &&& flag = A := ⟨_, rfl⟩
  rw [hA] at hand hme
  have HZ := Lib.hid hz
  clear hz hZ hv hi hfi hA hd hN hrk hkids hkm hfl hn9 hsl hsm hpairs htl hmf hb0 hs0 hc0 hd0 hw0 hK hm ih hX hM hNN hTX eX eS
  cases v with
  | true =>
    have hA0 : A ≠ 0 := by simpa using hme
    have q1 : ((A : Int) != 0) = true := qN (by omega)
    have q2 : ((A : Int) == 0) = false := qF (by omega)
    clear hme hA0
    go_enter Tryz.func15, Tryz.ntmps15
    go_wp2_with fail
    rw [HW0.out]
    obtain ⟨⟨c0, c1, c2, c3, c4, c5⟩, d0, d1, d2⟩ := H9.out w0 (Below.refl _ _)
    go_wp2_with fail
    go_ret
    exact ⟨by rw [HZ.out]; try rfl, HB0.out⟩
  | false =>
    have hA0 : A = 0 := by simpa using hme
    subst hA0
    clear hme
    go_enter Tryz.func15, Tryz.ntmps15
    go_wp2_with fail
    rw [HW0.out]
    obtain ⟨⟨c0, c1, c2, c3, c4, c5⟩, d0, d1, d2⟩ := H9.out w0 (Below.refl _ _)
    go_wp2_with fail
    go_ret
    exact ⟨by rw [HZ.out]; try rfl, HB0.out⟩
set_option maxRecDepth 100000 in
set_option maxHeartbeats 4000000 in
theorem rMatch3_c {m : MP} (hm : m.Ok) (flag : Nat) (set : List (Nat × Nat)) (n : Nat) (s : List UInt8) (kids : List KT) (sp : Option Addr) (scap : Nat) (kp : Option Addr) (kcap : Nat) (ih : ∀ x ∈ kids, RMatchIH m x) (d : Int) (W : World)
    (hK : KeyC W (.mk 3 flag set n s kids sp scap kp kcap)) (hr : rightK (.mk 3 flag set n s kids sp scap kp kcap) d = true) :
    Calls Tryz.prog 15 #[(KT.mk 3 flag set n s kids sp scap kp kcap).val, m.recv, .int .u32 m.sq, .int .u32 m.lastS, .int .u32 m.lastU] W fun e w' => e = .returned (.bool (matchK m (.mk 3 flag set n s kids sp scap kp kcap))) ∧ Below W.heap.size W w' := by
  unfold rightK at hr
  rw [Bool.and_eq_true, Bool.and_eq_true, decide_eq_true_eq, decide_eq_true_eq] at hr
  obtain ⟨hd, hN, hrk⟩ := hr
  obtain ⟨hkids, hkm, hfl, hn9, hsl, hsm, hpairs⟩ := hK.kids
  have htl := hm.tx
  have hmf := hm.fl
  unfold maxLen at hkm
  obtain ⟨uid, mfl, tx, sq, lastS, lastU⟩ := m
  dsimp only at htl hmf
  unfold MP.recv
  dsimp only
  obtain ⟨Z, hZ⟩ : ∃ b, matchK ⟨uid, mfl, tx, sq, lastS, lastU⟩ (.mk 3 flag set n s kids sp scap kp kcap) = b := ⟨_, rfl⟩
  rw [hZ]
  show Calls Tryz.prog 15 #[.agg #[.int .i64 3, .int .u8 flag, .slice sp set.length scap, .int .u32 n, .string (txt s), .slice kp kids.length kcap], .agg #[.int .u32 uid, .int .u8 mfl, .string (txt tx)], .int .u32 sq, .int .u32 lastS, .int .u32 lastU] W _
  obtain ⟨w0, hw0, hb0, hs0, hc0, hd0⟩ := rm_boxes W ⟨uid, mfl, tx, sq, lastS, lastU⟩ #[.int .i64 3, .int .u8 flag, .slice sp set.length scap, .int .u32 n, .string (txt s), .slice kp kids.length kcap]
  dsimp only at hw0 hd0
  have eX := txt_size tx
  have eS := txt_size s
  have hz : Z = hasB set sq lastS := by rw [← hZ, matchK]; simp
  have h64 : set.length ≤ 1000 := by have := hN.2.2.2.2.2.1; omega
  have C := fun w hb => rqhas_c sp scap set h64 sq lastS w (hpairs.below (w' := w) hb)
  obtain ⟨v, hv⟩ : ∃ v, hasB set sq lastS = v := ⟨_, rfl⟩
  simp only [hv] at C hz
  obtain ⟨TX, hTX⟩ : ∃ X, txt tx = X := ⟨_, rfl⟩
  obtain ⟨X, hX⟩ : ∃ X, txt s = X := ⟨_, rfl⟩
  obtain ⟨M, hM⟩ : ∃ M, set.length = M := ⟨_, rfl⟩
  obtain ⟨N, hNN⟩ : ∃ N, kids.length = N := ⟨_, rfl⟩
  rw [hX, hM, hNN] at hc0
  rw [hTX] at hd0
  rw [hTX, hX, hM, hNN] at hw0
  rw [hTX, hX, hM, hNN]
  rw [hTX] at eX
  have H9 : Hid (∀ x, Below w0.heap.size w0 x → (x.cell? ⟨W.heap.size, 0, none⟩ = some (.int .i64 3) ∧ x.cell? ⟨W.heap.size, 1, none⟩ = some (.int .u8 flag) ∧ x.cell? ⟨W.heap.size, 2, none⟩ = some (.slice sp M scap) ∧ x.cell? ⟨W.heap.size, 3, none⟩ = some (.int .u32 n) ∧ x.cell? ⟨W.heap.size, 4, none⟩ = some (.string X) ∧ x.cell? ⟨W.heap.size, 5, none⟩ = some (.slice kp N kcap)) ∧
      (x.cell? ⟨W.heap.size + 1, 0, none⟩ = some (.int .u32 uid) ∧ x.cell? ⟨W.heap.size + 1, 1, none⟩ = some (.int .u8 mfl) ∧ x.cell? ⟨W.heap.size + 1, 2, none⟩ = some (.string TX))) := fun x hb => by
    have h := Cells.later hc0 (hb.block _ (Cells.lt hc0))
    have h2 := Cells.later hd0 (hb.block _ (Cells.lt hd0))
    exact ⟨⟨h.cell (i := 0) rfl, h.cell (i := 1) rfl, h.cell (i := 2) rfl, h.cell (i := 3) rfl, h.cell (i := 4) rfl, h.cell (i := 5) rfl⟩, ⟨h2.cell (i := 0) rfl, h2.cell (i := 1) rfl, h2.cell (i := 2) rfl⟩⟩
  have HB0 := Lib.hid hb0
  have HW0 := Lib.hid hw0
  rw [hM] at C
  have C := Lib.hid (C w0 hb0)
  have HZ := Lib.hid hz
  clear hz hZ hv h64 hd hN hrk hkids hkm hfl hn9 hsl hsm hpairs htl hmf hb0 hs0 hc0 hd0 hw0 hK hm ih hX hM hNN hTX eX eS
  go_enter Tryz.func15, Tryz.ntmps15
  go_wp2_with fail
  rw [HW0.out]
  obtain ⟨⟨c0, c1, c2, c3, c4, c5⟩, d0, d1, d2⟩ := H9.out w0 (Below.refl _ _)
  go_wp2_with fail
  refine C.out.mono ?_
  rintro e w2 ⟨rfl, q, hq⟩
  have HB2 : Hid (Below W.heap.size W w2) := by rw [hq]; exact below_drewN HB0.out q
  clear hq
  go_wp2_with fail
  go_ret
  exact ⟨by rw [HZ.out]; try rfl, HB2.out⟩
set_option maxRecDepth 100000 in
set_option maxHeartbeats 4000000 in
theorem rMatch4_c {m : MP} (hm : m.Ok) (flag : Nat) (set : List (Nat × Nat)) (n : Nat) (s : List UInt8) (kids : List KT) (sp : Option Addr) (scap : Nat) (kp : Option Addr) (kcap : Nat) (ih : ∀ x ∈ kids, RMatchIH m x) (d : Int) (W : World)
    (hK : KeyC W (.mk 4 flag set n s kids sp scap kp kcap)) (hr : rightK (.mk 4 flag set n s kids sp scap kp kcap) d = true) :
    Calls Tryz.prog 15 #[(KT.mk 4 flag set n s kids sp scap kp kcap).val, m.recv, .int .u32 m.sq, .int .u32 m.lastS, .int .u32 m.lastU] W fun e w' => e = .returned (.bool (matchK m (.mk 4 flag set n s kids sp scap kp kcap))) ∧ Below W.heap.size W w' := by
  unfold rightK at hr
  rw [Bool.and_eq_true, Bool.and_eq_true, decide_eq_true_eq, decide_eq_true_eq] at hr
  obtain ⟨hd, hN, hrk⟩ := hr
  obtain ⟨hkids, hkm, hfl, hn9, hsl, hsm, hpairs⟩ := hK.kids
  have htl := hm.tx
  have hmf := hm.fl
  unfold maxLen at hkm
  obtain ⟨uid, mfl, tx, sq, lastS, lastU⟩ := m
  dsimp only at htl hmf
  unfold MP.recv
  dsimp only
  obtain ⟨Z, hZ⟩ : ∃ b, matchK ⟨uid, mfl, tx, sq, lastS, lastU⟩ (.mk 4 flag set n s kids sp scap kp kcap) = b := ⟨_, rfl⟩
  rw [hZ]
  show Calls Tryz.prog 15 #[.agg #[.int .i64 4, .int .u8 flag, .slice sp set.length scap, .int .u32 n, .string (txt s), .slice kp kids.length kcap], .agg #[.int .u32 uid, .int .u8 mfl, .string (txt tx)], .int .u32 sq, .int .u32 lastS, .int .u32 lastU] W _
  obtain ⟨w0, hw0, hb0, hs0, hc0, hd0⟩ := rm_boxes W ⟨uid, mfl, tx, sq, lastS, lastU⟩ #[.int .i64 4, .int .u8 flag, .slice sp set.length scap, .int .u32 n, .string (txt s), .slice kp kids.length kcap]
  dsimp only at hw0 hd0
  have eX := txt_size tx
  have eS := txt_size s
  have hz : Z = hasB set uid lastU := by rw [← hZ, matchK]; simp
  have h64 : set.length ≤ 1000 := by have := hN.2.2.2.2.2.1; omega
  have C := fun w hb => rqhas_c sp scap set h64 uid lastU w (hpairs.below (w' := w) hb)
  obtain ⟨v, hv⟩ : ∃ v, hasB set uid lastU = v := ⟨_, rfl⟩
  simp only [hv] at C hz
  obtain ⟨TX, hTX⟩ : ∃ X, txt tx = X := ⟨_, rfl⟩
  obtain ⟨X, hX⟩ : ∃ X, txt s = X := ⟨_, rfl⟩
  obtain ⟨M, hM⟩ : ∃ M, set.length = M := ⟨_, rfl⟩
  obtain ⟨N, hNN⟩ : ∃ N, kids.length = N := ⟨_, rfl⟩
  rw [hX, hM, hNN] at hc0
  rw [hTX] at hd0
  rw [hTX, hX, hM, hNN] at hw0
  rw [hTX, hX, hM, hNN]
  rw [hTX] at eX
  have H9 : Hid (∀ x, Below w0.heap.size w0 x → (x.cell? ⟨W.heap.size, 0, none⟩ = some (.int .i64 4) ∧ x.cell? ⟨W.heap.size, 1, none⟩ = some (.int .u8 flag) ∧ x.cell? ⟨W.heap.size, 2, none⟩ = some (.slice sp M scap) ∧ x.cell? ⟨W.heap.size, 3, none⟩ = some (.int .u32 n) ∧ x.cell? ⟨W.heap.size, 4, none⟩ = some (.string X) ∧ x.cell? ⟨W.heap.size, 5, none⟩ = some (.slice kp N kcap)) ∧
      (x.cell? ⟨W.heap.size + 1, 0, none⟩ = some (.int .u32 uid) ∧ x.cell? ⟨W.heap.size + 1, 1, none⟩ = some (.int .u8 mfl) ∧ x.cell? ⟨W.heap.size + 1, 2, none⟩ = some (.string TX))) := fun x hb => by
    have h := Cells.later hc0 (hb.block _ (Cells.lt hc0))
    have h2 := Cells.later hd0 (hb.block _ (Cells.lt hd0))
    exact ⟨⟨h.cell (i := 0) rfl, h.cell (i := 1) rfl, h.cell (i := 2) rfl, h.cell (i := 3) rfl, h.cell (i := 4) rfl, h.cell (i := 5) rfl⟩, ⟨h2.cell (i := 0) rfl, h2.cell (i := 1) rfl, h2.cell (i := 2) rfl⟩⟩
  have HB0 := Lib.hid hb0
  have HW0 := Lib.hid hw0
  rw [hM] at C
  have C := Lib.hid (C w0 hb0)
  have HZ := Lib.hid hz
  clear hz hZ hv h64 hd hN hrk hkids hkm hfl hn9 hsl hsm hpairs htl hmf hb0 hs0 hc0 hd0 hw0 hK hm ih hX hM hNN hTX eX eS
  go_enter Tryz.func15, Tryz.ntmps15
  go_wp2_with fail
  rw [HW0.out]
  obtain ⟨⟨c0, c1, c2, c3, c4, c5⟩, d0, d1, d2⟩ := H9.out w0 (Below.refl _ _)
  go_wp2_with fail
  refine C.out.mono ?_
  rintro e w2 ⟨rfl, q, hq⟩
  have HB2 : Hid (Below W.heap.size W w2) := by rw [hq]; exact below_drewN HB0.out q
  clear hq
  go_wp2_with fail
  go_ret
  exact ⟨by rw [HZ.out]; try rfl, HB2.out⟩
set_option maxRecDepth 100000 in
set_option maxHeartbeats 4000000 in
theorem rMatch5_c {m : MP} (hm : m.Ok) (flag : Nat) (set : List (Nat × Nat)) (n : Nat) (s : List UInt8) (kids : List KT) (sp : Option Addr) (scap : Nat) (kp : Option Addr) (kcap : Nat) (ih : ∀ x ∈ kids, RMatchIH m x) (d : Int) (W : World)
    (hK : KeyC W (.mk 5 flag set n s kids sp scap kp kcap)) (hr : rightK (.mk 5 flag set n s kids sp scap kp kcap) d = true) :
    Calls Tryz.prog 15 #[(KT.mk 5 flag set n s kids sp scap kp kcap).val, m.recv, .int .u32 m.sq, .int .u32 m.lastS, .int .u32 m.lastU] W fun e w' => e = .returned (.bool (matchK m (.mk 5 flag set n s kids sp scap kp kcap))) ∧ Below W.heap.size W w' := by
  unfold rightK at hr
  rw [Bool.and_eq_true, Bool.and_eq_true, decide_eq_true_eq, decide_eq_true_eq] at hr
  obtain ⟨hd, hN, hrk⟩ := hr
  obtain ⟨hkids, hkm, hfl, hn9, hsl, hsm, hpairs⟩ := hK.kids
  have htl := hm.tx
  have hmf := hm.fl
  unfold maxLen at hkm
  obtain ⟨uid, mfl, tx, sq, lastS, lastU⟩ := m
  dsimp only at htl hmf
  unfold MP.recv
  dsimp only
  obtain ⟨Z, hZ⟩ : ∃ b, matchK ⟨uid, mfl, tx, sq, lastS, lastU⟩ (.mk 5 flag set n s kids sp scap kp kcap) = b := ⟨_, rfl⟩
  rw [hZ]
  show Calls Tryz.prog 15 #[.agg #[.int .i64 5, .int .u8 flag, .slice sp set.length scap, .int .u32 n, .string (txt s), .slice kp kids.length kcap], .agg #[.int .u32 uid, .int .u8 mfl, .string (txt tx)], .int .u32 sq, .int .u32 lastS, .int .u32 lastU] W _
  obtain ⟨w0, hw0, hb0, hs0, hc0, hd0⟩ := rm_boxes W ⟨uid, mfl, tx, sq, lastS, lastU⟩ #[.int .i64 5, .int .u8 flag, .slice sp set.length scap, .int .u32 n, .string (txt s), .slice kp kids.length kcap]
  dsimp only at hw0 hd0
  have eX := txt_size tx
  have eS := txt_size s
  have hz : Z = decide (n < tx.length) := by rw [← hZ, matchK]; simp
  obtain ⟨LT, hLT⟩ : ∃ L, tx.length = L := ⟨_, rfl⟩
  rw [hLT] at hz eX htl
  have hwn : IntKind.u64.wrap (n : Int) = n := IntWalk.u64_in _ (by omega)
  have hwl : IntKind.u64.wrap (LT : Int) = LT := IntWalk.u64_in _ (by omega)
  obtain ⟨TX, hTX⟩ : ∃ X, txt tx = X := ⟨_, rfl⟩
  obtain ⟨X, hX⟩ : ∃ X, txt s = X := ⟨_, rfl⟩
  obtain ⟨M, hM⟩ : ∃ M, set.length = M := ⟨_, rfl⟩
  obtain ⟨N, hNN⟩ : ∃ N, kids.length = N := ⟨_, rfl⟩
  rw [hX, hM, hNN] at hc0
  rw [hTX] at hd0
  rw [hTX, hX, hM, hNN] at hw0
  rw [hTX, hX, hM, hNN]
  rw [hTX] at eX
  have H9 : Hid (∀ x, Below w0.heap.size w0 x → (x.cell? ⟨W.heap.size, 0, none⟩ = some (.int .i64 5) ∧ x.cell? ⟨W.heap.size, 1, none⟩ = some (.int .u8 flag) ∧ x.cell? ⟨W.heap.size, 2, none⟩ = some (.slice sp M scap) ∧ x.cell? ⟨W.heap.size, 3, none⟩ = some (.int .u32 n) ∧ x.cell? ⟨W.heap.size, 4, none⟩ = some (.string X) ∧ x.cell? ⟨W.heap.size, 5, none⟩ = some (.slice kp N kcap)) ∧
      (x.cell? ⟨W.heap.size + 1, 0, none⟩ = some (.int .u32 uid) ∧ x.cell? ⟨W.heap.size + 1, 1, none⟩ = some (.int .u8 mfl) ∧ x.cell? ⟨W.heap.size + 1, 2, none⟩ = some (.string TX))) := fun x hb => by
    have h := Cells.later hc0 (hb.block _ (Cells.lt hc0))
    have h2 := Cells.later hd0 (hb.block _ (Cells.lt hd0))
    exact ⟨⟨h.cell (i := 0) rfl, h.cell (i := 1) rfl, h.cell (i := 2) rfl, h.cell (i := 3) rfl, h.cell (i := 4) rfl, h.cell (i := 5) rfl⟩, ⟨h2.cell (i := 0) rfl, h2.cell (i := 1) rfl, h2.cell (i := 2) rfl⟩⟩
  have HB0 := Lib.hid hb0
  have HW0 := Lib.hid hw0
  have HZ := Lib.hid hz
  have eX2 := eX
  clear hz hZ hLT hd hN hrk hkids hkm hfl hn9 hsl hsm hpairs htl hmf hb0 hs0 hc0 hd0 hw0 hK hm ih hX hM hNN hTX eS
  by_cases hlt : n < LT
  · have HZ2 : Hid (Z = true) := by show _ = _; rw [HZ.out, decide_eq_true hlt]
    have q : (n : Int) < LT := by omega
    go_enter Tryz.func15, Tryz.ntmps15
    go_wp2_with fail
    rw [HW0.out]
    obtain ⟨⟨c0, c1, c2, c3, c4, c5⟩, d0, d1, d2⟩ := H9.out w0 (Below.refl _ _)
    go_wp2_with fail
    go_ret
    exact ⟨by rw [HZ2.out]; try rfl, HB0.out⟩
  · have HZ2 : Hid (Z = false) := by show _ = _; rw [HZ.out, decide_eq_false hlt]
    have q : ¬ ((n : Int) < LT) := by omega
    go_enter Tryz.func15, Tryz.ntmps15
    go_wp2_with fail
    rw [HW0.out]
    obtain ⟨⟨c0, c1, c2, c3, c4, c5⟩, d0, d1, d2⟩ := H9.out w0 (Below.refl _ _)
    go_wp2_with fail
    go_ret
    exact ⟨by rw [HZ2.out]; try rfl, HB0.out⟩
set_option maxRecDepth 100000 in
set_option maxHeartbeats 4000000 in
theorem rMatch6_c {m : MP} (hm : m.Ok) (flag : Nat) (set : List (Nat × Nat)) (n : Nat) (s : List UInt8) (kids : List KT) (sp : Option Addr) (scap : Nat) (kp : Option Addr) (kcap : Nat) (ih : ∀ x ∈ kids, RMatchIH m x) (d : Int) (W : World)
    (hK : KeyC W (.mk 6 flag set n s kids sp scap kp kcap)) (hr : rightK (.mk 6 flag set n s kids sp scap kp kcap) d = true) :
    Calls Tryz.prog 15 #[(KT.mk 6 flag set n s kids sp scap kp kcap).val, m.recv, .int .u32 m.sq, .int .u32 m.lastS, .int .u32 m.lastU] W fun e w' => e = .returned (.bool (matchK m (.mk 6 flag set n s kids sp scap kp kcap))) ∧ Below W.heap.size W w' := by
  unfold rightK at hr
  rw [Bool.and_eq_true, Bool.and_eq_true, decide_eq_true_eq, decide_eq_true_eq] at hr
  obtain ⟨hd, hN, hrk⟩ := hr
  obtain ⟨hkids, hkm, hfl, hn9, hsl, hsm, hpairs⟩ := hK.kids
  have htl := hm.tx
  have hmf := hm.fl
  unfold maxLen at hkm
  obtain ⟨uid, mfl, tx, sq, lastS, lastU⟩ := m
  dsimp only at htl hmf
  unfold MP.recv
  dsimp only
  obtain ⟨Z, hZ⟩ : ∃ b, matchK ⟨uid, mfl, tx, sq, lastS, lastU⟩ (.mk 6 flag set n s kids sp scap kp kcap) = b := ⟨_, rfl⟩
  rw [hZ]
  show Calls Tryz.prog 15 #[.agg #[.int .i64 6, .int .u8 flag, .slice sp set.length scap, .int .u32 n, .string (txt s), .slice kp kids.length kcap], .agg #[.int .u32 uid, .int .u8 mfl, .string (txt tx)], .int .u32 sq, .int .u32 lastS, .int .u32 lastU] W _
  obtain ⟨w0, hw0, hb0, hs0, hc0, hd0⟩ := rm_boxes W ⟨uid, mfl, tx, sq, lastS, lastU⟩ #[.int .i64 6, .int .u8 flag, .slice sp set.length scap, .int .u32 n, .string (txt s), .slice kp kids.length kcap]
  dsimp only at hw0 hd0
  have eX := txt_size tx
  have eS := txt_size s
  have hz : Z = decide (tx.length < n) := by rw [← hZ, matchK]; simp
  obtain ⟨LT, hLT⟩ : ∃ L, tx.length = L := ⟨_, rfl⟩
  rw [hLT] at hz eX htl
  have hwn : IntKind.u64.wrap (n : Int) = n := IntWalk.u64_in _ (by omega)
  have hwl : IntKind.u64.wrap (LT : Int) = LT := IntWalk.u64_in _ (by omega)
  obtain ⟨TX, hTX⟩ : ∃ X, txt tx = X := ⟨_, rfl⟩
  obtain ⟨X, hX⟩ : ∃ X, txt s = X := ⟨_, rfl⟩
  obtain ⟨M, hM⟩ : ∃ M, set.length = M := ⟨_, rfl⟩
  obtain ⟨N, hNN⟩ : ∃ N, kids.length = N := ⟨_, rfl⟩
  rw [hX, hM, hNN] at hc0
  rw [hTX] at hd0
  rw [hTX, hX, hM, hNN] at hw0
  rw [hTX, hX, hM, hNN]
  rw [hTX] at eX
  have H9 : Hid (∀ x, Below w0.heap.size w0 x → (x.cell? ⟨W.heap.size, 0, none⟩ = some (.int .i64 6) ∧ x.cell? ⟨W.heap.size, 1, none⟩ = some (.int .u8 flag) ∧ x.cell? ⟨W.heap.size, 2, none⟩ = some (.slice sp M scap) ∧ x.cell? ⟨W.heap.size, 3, none⟩ = some (.int .u32 n) ∧ x.cell? ⟨W.heap.size, 4, none⟩ = some (.string X) ∧ x.cell? ⟨W.heap.size, 5, none⟩ = some (.slice kp N kcap)) ∧
      (x.cell? ⟨W.heap.size + 1, 0, none⟩ = some (.int .u32 uid) ∧ x.cell? ⟨W.heap.size + 1, 1, none⟩ = some (.int .u8 mfl) ∧ x.cell? ⟨W.heap.size + 1, 2, none⟩ = some (.string TX))) := fun x hb => by
    have h := Cells.later hc0 (hb.block _ (Cells.lt hc0))
    have h2 := Cells.later hd0 (hb.block _ (Cells.lt hd0))
    exact ⟨⟨h.cell (i := 0) rfl, h.cell (i := 1) rfl, h.cell (i := 2) rfl, h.cell (i := 3) rfl, h.cell (i := 4) rfl, h.cell (i := 5) rfl⟩, ⟨h2.cell (i := 0) rfl, h2.cell (i := 1) rfl, h2.cell (i := 2) rfl⟩⟩
  have HB0 := Lib.hid hb0
  have HW0 := Lib.hid hw0
  have HZ := Lib.hid hz
  have eX2 := eX
  clear hz hZ hLT hd hN hrk hkids hkm hfl hn9 hsl hsm hpairs htl hmf hb0 hs0 hc0 hd0 hw0 hK hm ih hX hM hNN hTX eS
  by_cases hlt : LT < n
  · have HZ2 : Hid (Z = true) := by show _ = _; rw [HZ.out, decide_eq_true hlt]
    have q : (LT : Int) < n := by omega
    go_enter Tryz.func15, Tryz.ntmps15
    go_wp2_with fail
    rw [HW0.out]
    obtain ⟨⟨c0, c1, c2, c3, c4, c5⟩, d0, d1, d2⟩ := H9.out w0 (Below.refl _ _)
    go_wp2_with fail
    go_ret
    exact ⟨by rw [HZ2.out]; try rfl, HB0.out⟩
  · have HZ2 : Hid (Z = false) := by show _ = _; rw [HZ.out, decide_eq_false hlt]
    have q : ¬ ((LT : Int) < n) := by omega
    go_enter Tryz.func15, Tryz.ntmps15
    go_wp2_with fail
    rw [HW0.out]
    obtain ⟨⟨c0, c1, c2, c3, c4, c5⟩, d0, d1, d2⟩ := H9.out w0 (Below.refl _ _)
    go_wp2_with fail
    go_ret
    exact ⟨by rw [HZ2.out]; try rfl, HB0.out⟩
set_option maxRecDepth 100000 in
set_option maxHeartbeats 4000000 in
theorem rMatch7_c {m : MP} (hm : m.Ok) (flag : Nat) (set : List (Nat × Nat)) (n : Nat) (s : List UInt8) (kids : List KT) (sp : Option Addr) (scap : Nat) (kp : Option Addr) (kcap : Nat) (ih : ∀ x ∈ kids, RMatchIH m x) (d : Int) (W : World)
    (hK : KeyC W (.mk 7 flag set n s kids sp scap kp kcap)) (hr : rightK (.mk 7 flag set n s kids sp scap kp kcap) d = true) :
    Calls Tryz.prog 15 #[(KT.mk 7 flag set n s kids sp scap kp kcap).val, m.recv, .int .u32 m.sq, .int .u32 m.lastS, .int .u32 m.lastU] W fun e w' => e = .returned (.bool (matchK m (.mk 7 flag set n s kids sp scap kp kcap))) ∧ Below W.heap.size W w' := by
  unfold rightK at hr
  rw [Bool.and_eq_true, Bool.and_eq_true, decide_eq_true_eq, decide_eq_true_eq] at hr
  obtain ⟨hd, hN, hrk⟩ := hr
  obtain ⟨hkids, hkm, hfl, hn9, hsl, hsm, hpairs⟩ := hK.kids
  have htl := hm.tx
  have hmf := hm.fl
  unfold maxLen at hkm
  obtain ⟨uid, mfl, tx, sq, lastS, lastU⟩ := m
  dsimp only at htl hmf
  unfold MP.recv
  dsimp only
  obtain ⟨Z, hZ⟩ : ∃ b, matchK ⟨uid, mfl, tx, sq, lastS, lastU⟩ (.mk 7 flag set n s kids sp scap kp kcap) = b := ⟨_, rfl⟩
  rw [hZ]
  show Calls Tryz.prog 15 #[.agg #[.int .i64 7, .int .u8 flag, .slice sp set.length scap, .int .u32 n, .string (txt s), .slice kp kids.length kcap], .agg #[.int .u32 uid, .int .u8 mfl, .string (txt tx)], .int .u32 sq, .int .u32 lastS, .int .u32 lastU] W _
  obtain ⟨w0, hw0, hb0, hs0, hc0, hd0⟩ := rm_boxes W ⟨uid, mfl, tx, sq, lastS, lastU⟩ #[.int .i64 7, .int .u8 flag, .slice sp set.length scap, .int .u32 n, .string (txt s), .slice kp kids.length kcap]
  dsimp only at hw0 hd0
  have eX := txt_size tx
  have eS := txt_size s
  have hz : Z = Lib.contains (tx.map upB) (s.map upB) := by rw [← hZ, matchK]; simp
  have hs6 : s.length ≤ 65536 := hN.2.2.2.2.2.2.2.2.1
  have C1 := fun w => rtUpper_c tx (by omega) w
  have C2 := fun w => rtUpper_c s (by omega) w
  have C3 := fun w => rwithin14_c (tx.map upB) (s.map upB) (by rw [List.length_map]; omega) (by rw [List.length_map]; omega) w
  obtain ⟨v, hv⟩ : ∃ v, Lib.contains (tx.map upB) (s.map upB) = v := ⟨_, rfl⟩
  obtain ⟨U1, hU1⟩ : ∃ v, txt (tx.map upB) = v := ⟨_, rfl⟩
  obtain ⟨U2, hU2⟩ : ∃ v, txt (s.map upB) = v := ⟨_, rfl⟩
  simp only [hv] at C3 hz
  simp only [hU1] at C1 C3
  simp only [hU2] at C2 C3
  obtain ⟨TX, hTX⟩ : ∃ X, txt tx = X := ⟨_, rfl⟩
  obtain ⟨X, hX⟩ : ∃ X, txt s = X := ⟨_, rfl⟩
  obtain ⟨M, hM⟩ : ∃ M, set.length = M := ⟨_, rfl⟩
  obtain ⟨N, hNN⟩ : ∃ N, kids.length = N := ⟨_, rfl⟩
  rw [hX, hM, hNN] at hc0
  rw [hTX] at hd0
  rw [hTX, hX, hM, hNN] at hw0
  rw [hTX, hX, hM, hNN]
  rw [hTX] at eX
  have H9 : Hid (∀ x, Below w0.heap.size w0 x → (x.cell? ⟨W.heap.size, 0, none⟩ = some (.int .i64 7) ∧ x.cell? ⟨W.heap.size, 1, none⟩ = some (.int .u8 flag) ∧ x.cell? ⟨W.heap.size, 2, none⟩ = some (.slice sp M scap) ∧ x.cell? ⟨W.heap.size, 3, none⟩ = some (.int .u32 n) ∧ x.cell? ⟨W.heap.size, 4, none⟩ = some (.string X) ∧ x.cell? ⟨W.heap.size, 5, none⟩ = some (.slice kp N kcap)) ∧
      (x.cell? ⟨W.heap.size + 1, 0, none⟩ = some (.int .u32 uid) ∧ x.cell? ⟨W.heap.size + 1, 1, none⟩ = some (.int .u8 mfl) ∧ x.cell? ⟨W.heap.size + 1, 2, none⟩ = some (.string TX))) := fun x hb => by
    have h := Cells.later hc0 (hb.block _ (Cells.lt hc0))
    have h2 := Cells.later hd0 (hb.block _ (Cells.lt hd0))
    exact ⟨⟨h.cell (i := 0) rfl, h.cell (i := 1) rfl, h.cell (i := 2) rfl, h.cell (i := 3) rfl, h.cell (i := 4) rfl, h.cell (i := 5) rfl⟩, ⟨h2.cell (i := 0) rfl, h2.cell (i := 1) rfl, h2.cell (i := 2) rfl⟩⟩
  have HB0 := Lib.hid hb0
  have HW0 := Lib.hid hw0
  rw [hTX] at C1
  rw [hX] at C2
  have C1 := Lib.hid C1
  have C2 := Lib.hid C2
  have C3 := Lib.hid C3
  have HZ := Lib.hid hz
  have s0 : Below w0.heap.size w0 w0.drew ∧ (w0.drew.cell? ⟨W.heap.size, 4, none⟩ = some (.string X) ∧ w0.drew.cell? ⟨W.heap.size + 1, 2, none⟩ = some (.string TX)) := by
    have h := H9.out w0.drew (Below.refl _ _).drew
    exact ⟨(Below.refl _ _).drew, h.1.2.2.2.2.1, h.2.2.2⟩
  have FS : Hid (∀ x, Below w0.heap.size w0 x → Below w0.heap.size w0 x ∧ (x.cell? ⟨W.heap.size, 4, none⟩ = some (.string X) ∧ x.cell? ⟨W.heap.size + 1, 2, none⟩ = some (.string TX))) := fun x hx => ⟨hx, (H9.out x hx).1.2.2.2.2.1, (H9.out x hx).2.2.2⟩
  clear hz hZ hv hU1 hU2 hs6 hd hN hrk hkids hkm hfl hn9 hsl hsm hpairs htl hmf hb0 hs0 hc0 hd0 hw0 hK hm ih hX hM hNN hTX eX eS
  go_enter Tryz.func15, Tryz.ntmps15
  go_wp2_with fail
  rw [HW0.out]
  obtain ⟨⟨c0, c1, c2, c3, c4, c5⟩, d0, d1, d2⟩ := H9.out w0 (Below.refl _ _)
  go_wp2_with fail
  first
  | go_region_held3 (fun x => Below w0.heap.size w0 x ∧ (x.cell? ⟨W.heap.size, 4, none⟩ = some (.string X) ∧ x.cell? ⟨W.heap.size + 1, 2, none⟩ = some (.string TX)))
      (with_reducible assumption)
      (first | (have _ := T2; go_at_call 60; refine (C3.out _).mono ?_; rintro e w9 ⟨rfl, hb9⟩; have hs9 := FS.out w9 (below_step9 (by assumption) hb9); have T3 : True := trivial) | (have _ := T1; go_at_call 61; refine (C2.out _).mono ?_; rintro e w9 ⟨rfl, hb9⟩; have hs9 := FS.out w9 (below_step9 (by assumption) hb9); have T2 : True := trivial) | (go_at_call 61; refine (C1.out _).mono ?_; rintro e w9 ⟨rfl, hb9⟩; have hs9 := FS.out w9 (below_step9 (by assumption) hb9); have T1 : True := trivial))
  | fail "held15"
  have HB9 : Hid (Below W.heap.size W w9) := HB0.out.trans (hs9.1.mono HB0.out.size)
  clear s0 hs9 hb9
  go_wp2_with fail
  go_ret
  exact ⟨by rw [HZ.out]; try rfl, HB9.out⟩
set_option maxRecDepth 100000 in
set_option maxHeartbeats 4000000 in
theorem rMatch8_c {m : MP} (hm : m.Ok) (flag : Nat) (set : List (Nat × Nat)) (n : Nat) (s : List UInt8) (kids : List KT) (sp : Option Addr) (scap : Nat) (kp : Option Addr) (kcap : Nat) (ih : ∀ x ∈ kids, RMatchIH m x) (d : Int) (W : World)
    (hK : KeyC W (.mk 8 flag set n s kids sp scap kp kcap)) (hr : rightK (.mk 8 flag set n s kids sp scap kp kcap) d = true) :
    Calls Tryz.prog 15 #[(KT.mk 8 flag set n s kids sp scap kp kcap).val, m.recv, .int .u32 m.sq, .int .u32 m.lastS, .int .u32 m.lastU] W fun e w' => e = .returned (.bool (matchK m (.mk 8 flag set n s kids sp scap kp kcap))) ∧ Below W.heap.size W w' := by
  unfold rightK at hr
  rw [Bool.and_eq_true, Bool.and_eq_true, decide_eq_true_eq, decide_eq_true_eq] at hr
  obtain ⟨hd, hN, hrk⟩ := hr
  obtain ⟨hkids, hkm, hfl, hn9, hsl, hsm, hpairs⟩ := hK.kids
  have htl := hm.tx
  have hmf := hm.fl
  unfold maxLen at hkm
  obtain ⟨uid, mfl, tx, sq, lastS, lastU⟩ := m
  dsimp only at htl hmf
  unfold MP.recv
  dsimp only
  obtain ⟨Z, hZ⟩ : ∃ b, matchK ⟨uid, mfl, tx, sq, lastS, lastU⟩ (.mk 8 flag set n s kids sp scap kp kcap) = b := ⟨_, rfl⟩
  rw [hZ]
  show Calls Tryz.prog 15 #[.agg #[.int .i64 8, .int .u8 flag, .slice sp set.length scap, .int .u32 n, .string (txt s), .slice kp kids.length kcap], .agg #[.int .u32 uid, .int .u8 mfl, .string (txt tx)], .int .u32 sq, .int .u32 lastS, .int .u32 lastU] W _
  obtain ⟨w0, hw0, hb0, hs0, hc0, hd0⟩ := rm_boxes W ⟨uid, mfl, tx, sq, lastS, lastU⟩ #[.int .i64 8, .int .u8 flag, .slice sp set.length scap, .int .u32 n, .string (txt s), .slice kp kids.length kcap]
  dsimp only at hw0 hd0
  have eX := txt_size tx
  have eS := txt_size s
  have h1 : kids.length = 1 := hN.2.2.2.2.2.2.2.2.2.2.1 rfl
  obtain ⟨x, hx⟩ : ∃ x, kids[0]? = some x := ⟨_, List.getElem?_eq_getElem (by omega)⟩
  have hxm := List.mem_of_getElem? hx
  have hz : Z = !matchK ⟨uid, mfl, tx, sq, lastS, lastU⟩ x := by
    rw [← hZ, matchK]
    cases kids with
    | nil => simp at hx
    | cons a r =>
      have : a = x := by simpa using hx
      subst this
      simp [matchHd]
  obtain ⟨b1, o1, hkp, hl1, k1, K1⟩ := KidsC.at kids kp 0 0 x hkids hx
  have C := fun w (hw : Below W.heap.size W w) => ih x hxm (d - 1) w (KeyC.below hw _ K1) (rightL_at hrk hxm)
  unfold MP.recv at C
  dsimp only at C
  obtain ⟨xk, xf, xm, xn, xl, xsp, xkp, xsc, xkc, XX, hxv, hxc⟩ := x.form
  rw [hxv] at C
  obtain ⟨v, hv⟩ : ∃ v, matchK ⟨uid, mfl, tx, sq, lastS, lastU⟩ x = v := ⟨_, rfl⟩
  simp only [hv] at C
  rw [hv] at hz
  subst hkp
  obtain ⟨TX, hTX⟩ : ∃ X, txt tx = X := ⟨_, rfl⟩
  obtain ⟨X, hX⟩ : ∃ X, txt s = X := ⟨_, rfl⟩
  obtain ⟨M, hM⟩ : ∃ M, set.length = M := ⟨_, rfl⟩
  obtain ⟨N, hNN⟩ : ∃ N, kids.length = N := ⟨_, rfl⟩
  rw [hX, hM, hNN] at hc0
  rw [hTX] at hd0
  rw [hTX, hX, hM, hNN] at hw0
  rw [hTX, hX, hM, hNN]
  rw [hTX] at eX
  have H9 : Hid (∀ x, Below w0.heap.size w0 x → (x.cell? ⟨W.heap.size, 0, none⟩ = some (.int .i64 8) ∧ x.cell? ⟨W.heap.size, 1, none⟩ = some (.int .u8 flag) ∧ x.cell? ⟨W.heap.size, 2, none⟩ = some (.slice sp M scap) ∧ x.cell? ⟨W.heap.size, 3, none⟩ = some (.int .u32 n) ∧ x.cell? ⟨W.heap.size, 4, none⟩ = some (.string X) ∧ x.cell? ⟨W.heap.size, 5, none⟩ = some (.slice (some ⟨b1, o1, none⟩) N kcap)) ∧
      (x.cell? ⟨W.heap.size + 1, 0, none⟩ = some (.int .u32 uid) ∧ x.cell? ⟨W.heap.size + 1, 1, none⟩ = some (.int .u8 mfl) ∧ x.cell? ⟨W.heap.size + 1, 2, none⟩ = some (.string TX))) := fun x hb => by
    have h := Cells.later hc0 (hb.block _ (Cells.lt hc0))
    have h2 := Cells.later hd0 (hb.block _ (Cells.lt hd0))
    exact ⟨⟨h.cell (i := 0) rfl, h.cell (i := 1) rfl, h.cell (i := 2) rfl, h.cell (i := 3) rfl, h.cell (i := 4) rfl, h.cell (i := 5) rfl⟩, ⟨h2.cell (i := 0) rfl, h2.cell (i := 1) rfl, h2.cell (i := 2) rfl⟩⟩
  have HB0 := Lib.hid hb0
  have HW0 := Lib.hid hw0
  rw [hTX] at C
  have hN1 : N = 1 := by rw [← hNN]; exact h1
  subst hN1
  rw [Nat.zero_add] at k1
  have CK : Hid (∀ w, Below w0.heap.size w0 w → w.cell? ⟨b1, o1, none⟩ = some (.int .i64 xk) ∧ w.cell? ⟨b1, o1 + 1, none⟩ = some (.int .u8 xf) ∧ w.cell? ⟨b1, o1 + 2, none⟩ = some (.slice xsp xm xsc) ∧ w.cell? ⟨b1, o1 + 3, none⟩ = some (.int .u32 xn) ∧ w.cell? ⟨b1, o1 + 4, none⟩ = some (.string XX) ∧ w.cell? ⟨b1, o1 + 5, none⟩ = some (.slice xkp xl xkc)) := fun w hw => by
    have hW := hb0.trans (hw.mono hb0.size)
    have hcx : ∀ (q : Nat) (u : Value), (#[.int .i64 xk, .int .u8 xf, .slice xsp xm xsc, .int .u32 xn, .string XX, .slice xkp xl xkc] : Array Value)[q]? = some u → w.cell? ⟨b1, o1 + q, none⟩ = some u := fun q u hu => by
      have h1 := k1 q u (by rw [← hxc] at hu; simpa using hu)
      rw [Nat.zero_mul, Nat.add_zero] at h1
      exact (hW.cell (p := ⟨b1, _, none⟩) hl1).trans h1
    exact ⟨by have := hcx 0 _ rfl; simpa using this, hcx 1 _ rfl, hcx 2 _ rfl, hcx 3 _ rfl, hcx 4 _ rfl, hcx 5 _ rfl⟩
  have SS : Hid (∀ x, Below w0.heap.size w0 x → Below w0.heap.size w0 x ∧ x.cell? ⟨W.heap.size, 5, none⟩ = some (.slice (some ⟨b1, o1, none⟩) 1 kcap) ∧ (x.cell? ⟨W.heap.size + 1, 0, none⟩ = some (.int .u32 uid) ∧ x.cell? ⟨W.heap.size + 1, 1, none⟩ = some (.int .u8 mfl) ∧ x.cell? ⟨W.heap.size + 1, 2, none⟩ = some (.string TX)) ∧
      x.cell? ⟨b1, o1, none⟩ = some (.int .i64 xk) ∧ x.cell? ⟨b1, o1 + 1, none⟩ = some (.int .u8 xf) ∧ x.cell? ⟨b1, o1 + 2, none⟩ = some (.slice xsp xm xsc) ∧ x.cell? ⟨b1, o1 + 3, none⟩ = some (.int .u32 xn) ∧ x.cell? ⟨b1, o1 + 4, none⟩ = some (.string XX) ∧ x.cell? ⟨b1, o1 + 5, none⟩ = some (.slice xkp xl xkc)) := fun x hx => ⟨hx, (H9.out x hx).1.2.2.2.2.2, (H9.out x hx).2, CK.out x hx⟩
  have s0 := SS.out w0.drew (Below.refl _ _).drew
  have C : Hid (∀ w, Below w0.heap.size w0 w → _) := fun w hw => C w (hb0.trans (hw.mono hb0.size))
  have HZ := Lib.hid hz
  clear hz hZ hv k1 K1 hxv hxc hx hxm h1 hl1 CK hd hN hrk hkids hkm hfl hn9 hsl hsm hpairs htl hmf hb0 hs0 hc0 hd0 hw0 hK hm ih hX hM hTX eX eS
  go_enter Tryz.func15, Tryz.ntmps15
  go_wp2_with fail
  rw [HW0.out]
  obtain ⟨⟨c0, c1, c2, c3, c4, c5⟩, d0, d1, d2⟩ := H9.out w0 (Below.refl _ _)
  go_wp2_with fail
  first
  | go_region_held3 (fun x => Below w0.heap.size w0 x ∧ x.cell? ⟨W.heap.size, 5, none⟩ = some (.slice (some ⟨b1, o1, none⟩) 1 kcap) ∧ (x.cell? ⟨W.heap.size + 1, 0, none⟩ = some (.int .u32 uid) ∧ x.cell? ⟨W.heap.size + 1, 1, none⟩ = some (.int .u8 mfl) ∧ x.cell? ⟨W.heap.size + 1, 2, none⟩ = some (.string TX)) ∧
      x.cell? ⟨b1, o1, none⟩ = some (.int .i64 xk) ∧ x.cell? ⟨b1, o1 + 1, none⟩ = some (.int .u8 xf) ∧ x.cell? ⟨b1, o1 + 2, none⟩ = some (.slice xsp xm xsc) ∧ x.cell? ⟨b1, o1 + 3, none⟩ = some (.int .u32 xn) ∧ x.cell? ⟨b1, o1 + 4, none⟩ = some (.string XX) ∧ x.cell? ⟨b1, o1 + 5, none⟩ = some (.slice xkp xl xkc))
      (with_reducible assumption)
      (first | (go_at_call 15; refine (C.out _ (And.left (by assumption))).mono ?_; rintro e w9 ⟨rfl, hb9⟩; have hs9 := SS.out w9 (below_step9 (by assumption) hb9)))
  | fail "held17"
  have HB9 : Hid (Below W.heap.size W w9) := HB0.out.trans (hs9.1.mono HB0.out.size)
  clear s0 hs9 hb9
  cases v <;>
  · go_wp2_with fail
    go_ret
    exact ⟨by rw [HZ.out]; try rfl, HB9.out⟩
set_option maxRecDepth 100000 in
set_option maxHeartbeats 4000000 in
theorem rMatch9_c {m : MP} (hm : m.Ok) (flag : Nat) (set : List (Nat × Nat)) (n : Nat) (s : List UInt8) (kids : List KT) (sp : Option Addr) (scap : Nat) (kp : Option Addr) (kcap : Nat) (ih : ∀ x ∈ kids, RMatchIH m x) (d : Int) (W : World)
    (hK : KeyC W (.mk 9 flag set n s kids sp scap kp kcap)) (hr : rightK (.mk 9 flag set n s kids sp scap kp kcap) d = true) :
    Calls Tryz.prog 15 #[(KT.mk 9 flag set n s kids sp scap kp kcap).val, m.recv, .int .u32 m.sq, .int .u32 m.lastS, .int .u32 m.lastU] W fun e w' => e = .returned (.bool (matchK m (.mk 9 flag set n s kids sp scap kp kcap))) ∧ Below W.heap.size W w' := by
  unfold rightK at hr
  rw [Bool.and_eq_true, Bool.and_eq_true, decide_eq_true_eq, decide_eq_true_eq] at hr
  obtain ⟨hd, hN, hrk⟩ := hr
  obtain ⟨hkids, hkm, hfl, hn9, hsl, hsm, hpairs⟩ := hK.kids
  have htl := hm.tx
  have hmf := hm.fl
  unfold maxLen at hkm
  obtain ⟨uid, mfl, tx, sq, lastS, lastU⟩ := m
  dsimp only at htl hmf
  unfold MP.recv
  dsimp only
  obtain ⟨Z, hZ⟩ : ∃ b, matchK ⟨uid, mfl, tx, sq, lastS, lastU⟩ (.mk 9 flag set n s kids sp scap kp kcap) = b := ⟨_, rfl⟩
  rw [hZ]
  show Calls Tryz.prog 15 #[.agg #[.int .i64 9, .int .u8 flag, .slice sp set.length scap, .int .u32 n, .string (txt s), .slice kp kids.length kcap], .agg #[.int .u32 uid, .int .u8 mfl, .string (txt tx)], .int .u32 sq, .int .u32 lastS, .int .u32 lastU] W _
  obtain ⟨w0, hw0, hb0, hs0, hc0, hd0⟩ := rm_boxes W ⟨uid, mfl, tx, sq, lastS, lastU⟩ #[.int .i64 9, .int .u8 flag, .slice sp set.length scap, .int .u32 n, .string (txt s), .slice kp kids.length kcap]
  dsimp only at hw0 hd0
  have eX := txt_size tx
  have eS := txt_size s
  have hz : Z = matchAny ⟨uid, mfl, tx, sq, lastS, lastU⟩ kids := by rw [← hZ, matchK]; simp
  rw [matchAny_any] at hz
  have CI := fun (x : KT) (hx : x ∈ kids) w (hw : KeyC w x) => ih x hx (d - 1) w hw (rightL_at hrk hx)
  unfold MP.recv at CI
  dsimp only at CI
  obtain ⟨TX, hTX⟩ : ∃ X, txt tx = X := ⟨_, rfl⟩
  obtain ⟨X, hX⟩ : ∃ X, txt s = X := ⟨_, rfl⟩
  obtain ⟨M, hM⟩ : ∃ M, set.length = M := ⟨_, rfl⟩
  obtain ⟨N, hNN⟩ : ∃ N, kids.length = N := ⟨_, rfl⟩
  rw [hX, hM, hNN] at hc0
  rw [hTX] at hd0
  rw [hTX, hX, hM, hNN] at hw0
  rw [hTX, hX, hM, hNN]
  rw [hTX] at eX
  have H9 : Hid (∀ x, Below w0.heap.size w0 x → (x.cell? ⟨W.heap.size, 0, none⟩ = some (.int .i64 9) ∧ x.cell? ⟨W.heap.size, 1, none⟩ = some (.int .u8 flag) ∧ x.cell? ⟨W.heap.size, 2, none⟩ = some (.slice sp M scap) ∧ x.cell? ⟨W.heap.size, 3, none⟩ = some (.int .u32 n) ∧ x.cell? ⟨W.heap.size, 4, none⟩ = some (.string X) ∧ x.cell? ⟨W.heap.size, 5, none⟩ = some (.slice kp N kcap)) ∧
      (x.cell? ⟨W.heap.size + 1, 0, none⟩ = some (.int .u32 uid) ∧ x.cell? ⟨W.heap.size + 1, 1, none⟩ = some (.int .u8 mfl) ∧ x.cell? ⟨W.heap.size + 1, 2, none⟩ = some (.string TX))) := fun x hb => by
    have h := Cells.later hc0 (hb.block _ (Cells.lt hc0))
    have h2 := Cells.later hd0 (hb.block _ (Cells.lt hd0))
    exact ⟨⟨h.cell (i := 0) rfl, h.cell (i := 1) rfl, h.cell (i := 2) rfl, h.cell (i := 3) rfl, h.cell (i := 4) rfl, h.cell (i := 5) rfl⟩, ⟨h2.cell (i := 0) rfl, h2.cell (i := 1) rfl, h2.cell (i := 2) rfl⟩⟩
  have HB0 := Lib.hid hb0
  have HW0 := Lib.hid hw0
  rw [hTX] at CI
  have hN9 : (N : Int) ≤ 9223372036854775807 := by rw [← hNN]; omega
  have CI := Lib.hid CI
  have HZ := Lib.hid hz
  have HKids := Lib.hid hkids
  have HNN := Lib.hid hNN
  clear hz hZ hd hN hrk hkids hkm hfl hn9 hsl hsm hpairs htl hmf hb0 hs0 hc0 hd0 hw0 hK hm ih hX hM hNN hTX eX eS
  go_enter Tryz.func15, Tryz.ntmps15
  go_wp2_with fail
  rw [HW0.out]
  obtain ⟨⟨c0, c1, c2, c3, c4, c5⟩, d0, d1, d2⟩ := H9.out w0 (Below.refl _ _)
  go_wp2_with fail
  go_loopw [11, 12, 13] (fun t11 t12 t13 wr => ∃ (i : Nat) (a b : Bool), i ≤ N ∧ t11 = .bool a ∧ t12 = .bool b ∧ t13 = .int .i64 i ∧ Hid (a = (kids.take i).any (matchK ⟨uid, mfl, tx, sq, lastS, lastU⟩)) ∧ Hid (b = !(kids.take i).any (fun x => !matchK ⟨uid, mfl, tx, sq, lastS, lastU⟩ x)) ∧ Hid (Below w0.heap.size w0 wr)) (fun _ _ t13 _ => N - (intOf t13).toNat)
  case atStart => exact ⟨0, false, true, Nat.zero_le _, rfl, rfl, rfl, rfl, rfl, Below.refl _ _⟩
  case round =>
    obtain ⟨i, a, b, hi, rfl, rfl, rfl, HA, HBb, HB⟩ := hrel
    clear c0 c1 c2 c3 c4 c5 d0 d1 d2
    obtain ⟨⟨c0, c1, c2, c3, c4, c5⟩, d0, d1, d2⟩ := H9.out wr HB.out
    have hsz : W.heap.size + 1 < wr.heap.size := World.block_lt_of_cell? wr _ d0
    by_cases hlt : i < N
    · have hq : (i : Int) < N := by omega
      have hq0 : (0 : Int) ≤ i := by omega
      obtain ⟨x, hx⟩ : ∃ x, kids[i]? = some x := ⟨_, List.getElem?_eq_getElem (by rw [HNN.out]; exact hlt)⟩
      have hxm := List.mem_of_getElem? hx
      obtain ⟨b1, o1, rfl, hl1, k1, K1⟩ := KidsC.at kids kp 0 i x HKids.out hx
      have hWr := HB0.out.trans (HB.out.mono HB0.out.size)
      have C := fun w (hw : Below wr.heap.size wr w) => CI.out x hxm w (KeyC.below (hWr.trans (hw.mono hWr.size)) _ K1)
      obtain ⟨xk, xf, xm, xn, xl, xsp, xkp, xsc, xkc, XX, hxv, hxc⟩ := x.form
      rw [hxv] at C
      obtain ⟨v, hv⟩ : ∃ v, matchK ⟨uid, mfl, tx, sq, lastS, lastU⟩ x = v := ⟨_, rfl⟩
      simp only [hv] at C
      rw [Nat.zero_add] at k1
      have SS : Hid (∀ y, Below wr.heap.size wr y → Below wr.heap.size wr y ∧ y.cell? ⟨W.heap.size, 5, none⟩ = some (.slice (some ⟨b1, o1, none⟩) N kcap) ∧ (y.cell? ⟨W.heap.size + 1, 0, none⟩ = some (.int .u32 uid) ∧ y.cell? ⟨W.heap.size + 1, 1, none⟩ = some (.int .u8 mfl) ∧ y.cell? ⟨W.heap.size + 1, 2, none⟩ = some (.string TX)) ∧
          y.cell? ⟨b1, o1 + i * 6, none⟩ = some (.int .i64 xk) ∧ y.cell? ⟨b1, o1 + i * 6 + 1, none⟩ = some (.int .u8 xf) ∧ y.cell? ⟨b1, o1 + i * 6 + 2, none⟩ = some (.slice xsp xm xsc) ∧ y.cell? ⟨b1, o1 + i * 6 + 3, none⟩ = some (.int .u32 xn) ∧ y.cell? ⟨b1, o1 + i * 6 + 4, none⟩ = some (.string XX) ∧ y.cell? ⟨b1, o1 + i * 6 + 5, none⟩ = some (.slice xkp xl xkc)) := fun y hy => by
        have hW := hWr.trans (hy.mono hWr.size)
        have h0 := H9.out y (HB.out.trans (hy.mono HB.out.size))
        have hcx : ∀ (q : Nat) (u : Value), (#[.int .i64 xk, .int .u8 xf, .slice xsp xm xsc, .int .u32 xn, .string XX, .slice xkp xl xkc] : Array Value)[q]? = some u → y.cell? ⟨b1, o1 + i * 6 + q, none⟩ = some u := fun q u hu => by
          have h1 := k1 q u (by rw [← hxc] at hu; simpa using hu)
          exact (hW.cell (p := ⟨b1, _, none⟩) hl1).trans h1
        exact ⟨hy, h0.1.2.2.2.2.2, h0.2, by have := hcx 0 _ rfl; simpa using this, hcx 1 _ rfl, hcx 2 _ rfl, hcx 3 _ rfl, hcx 4 _ rfl, hcx 5 _ rfl⟩
      have s0 := SS.out wr.drew (Below.refl _ _).drew
      have HT1 : Hid ((kids.take (i + 1)).any (matchK ⟨uid, mfl, tx, sq, lastS, lastU⟩) = (a || v)) := by
        show _ = _
        rw [take_atS hx, List.any_append, HA.out]; simp [hv]
      have HT2 : Hid ((!(kids.take (i + 1)).any (fun x => !matchK ⟨uid, mfl, tx, sq, lastS, lastU⟩ x)) = (b && v)) := by
        show _ = _
        rw [take_atS hx, List.any_append, HBb.out]; simp [hv]
      have C := Lib.hid C
      clear hx hxm k1 K1 hWr hxv hxc hv hl1
      go_wp2_with fail
      first
      | go_region_held3 (fun y => Below wr.heap.size wr y ∧ y.cell? ⟨W.heap.size, 5, none⟩ = some (.slice (some ⟨b1, o1, none⟩) N kcap) ∧ (y.cell? ⟨W.heap.size + 1, 0, none⟩ = some (.int .u32 uid) ∧ y.cell? ⟨W.heap.size + 1, 1, none⟩ = some (.int .u8 mfl) ∧ y.cell? ⟨W.heap.size + 1, 2, none⟩ = some (.string TX)) ∧
          y.cell? ⟨b1, o1 + i * 6, none⟩ = some (.int .i64 xk) ∧ y.cell? ⟨b1, o1 + i * 6 + 1, none⟩ = some (.int .u8 xf) ∧ y.cell? ⟨b1, o1 + i * 6 + 2, none⟩ = some (.slice xsp xm xsc) ∧ y.cell? ⟨b1, o1 + i * 6 + 3, none⟩ = some (.int .u32 xn) ∧ y.cell? ⟨b1, o1 + i * 6 + 4, none⟩ = some (.string XX) ∧ y.cell? ⟨b1, o1 + i * 6 + 5, none⟩ = some (.slice xkp xl xkc))
          (with_reducible assumption)
          (first | (go_at_call 15; refine (C.out _ (And.left (by assumption))).mono ?_; rintro e w9 ⟨rfl, hb9⟩; have hs9 := SS.out w9 (below_step9 (by assumption) hb9)))
      | fail "held22"
      have HB9 : Hid (Below w0.heap.size w0 w9) := HB.out.trans (hs9.1.mono HB.out.size)
      clear s0 hs9 hb9
      cases v with
      | true =>
        rw [Bool.or_true] at HT1
        rw [Bool.and_true] at HT2
        go_wp2_with fail
        go_roundw
        case rel => exact ⟨i + 1, true, b, by omega, rfl, rfl, by go_num, HT1.out.symm, HT2.out.symm, HB9.out⟩
        case measure => simp [intOf]; omega
      | false =>
        rw [Bool.or_false] at HT1
        rw [Bool.and_false] at HT2
        go_wp2_with fail
        go_roundw
        case rel => exact ⟨i + 1, a, false, by omega, rfl, rfl, by go_num, HT1.out.symm, HT2.out.symm, HB9.out⟩
        case measure => simp [intOf]; omega
    · obtain rfl : i = N := by omega
      have hq : ¬ ((i : Int) < i) := by omega
      have hZ2 : Hid (Z = a) := by
        have ha := HA.out
        have hb := HBb.out
        rw [List.take_of_length_le (by rw [HNN.out]; exact Nat.le_refl _)] at ha hb
        show _ = _
        rw [HZ.out, ha]
      have HBW : Hid (Below W.heap.size W wr) := HB0.out.trans (HB.out.mono HB0.out.size)
      clear HA HBb
      go_wp2_with fail
      go_ret
      exact ⟨by rw [hZ2.out]; try rfl, HBW.out⟩
set_option maxRecDepth 100000 in
set_option maxHeartbeats 4000000 in
theorem rMatch10_c {m : MP} (hm : m.Ok) (flag : Nat) (set : List (Nat × Nat)) (n : Nat) (s : List UInt8) (kids : List KT) (sp : Option Addr) (scap : Nat) (kp : Option Addr) (kcap : Nat) (ih : ∀ x ∈ kids, RMatchIH m x) (d : Int) (W : World)
    (hK : KeyC W (.mk 10 flag set n s kids sp scap kp kcap)) (hr : rightK (.mk 10 flag set n s kids sp scap kp kcap) d = true) :
    Calls Tryz.prog 15 #[(KT.mk 10 flag set n s kids sp scap kp kcap).val, m.recv, .int .u32 m.sq, .int .u32 m.lastS, .int .u32 m.lastU] W fun e w' => e = .returned (.bool (matchK m (.mk 10 flag set n s kids sp scap kp kcap))) ∧ Below W.heap.size W w' := by
  unfold rightK at hr
  rw [Bool.and_eq_true, Bool.and_eq_true, decide_eq_true_eq, decide_eq_true_eq] at hr
  obtain ⟨hd, hN, hrk⟩ := hr
  obtain ⟨hkids, hkm, hfl, hn9, hsl, hsm, hpairs⟩ := hK.kids
  have htl := hm.tx
  have hmf := hm.fl
  unfold maxLen at hkm
  obtain ⟨uid, mfl, tx, sq, lastS, lastU⟩ := m
  dsimp only at htl hmf
  unfold MP.recv
  dsimp only
  obtain ⟨Z, hZ⟩ : ∃ b, matchK ⟨uid, mfl, tx, sq, lastS, lastU⟩ (.mk 10 flag set n s kids sp scap kp kcap) = b := ⟨_, rfl⟩
  rw [hZ]
  show Calls Tryz.prog 15 #[.agg #[.int .i64 10, .int .u8 flag, .slice sp set.length scap, .int .u32 n, .string (txt s), .slice kp kids.length kcap], .agg #[.int .u32 uid, .int .u8 mfl, .string (txt tx)], .int .u32 sq, .int .u32 lastS, .int .u32 lastU] W _
  obtain ⟨w0, hw0, hb0, hs0, hc0, hd0⟩ := rm_boxes W ⟨uid, mfl, tx, sq, lastS, lastU⟩ #[.int .i64 10, .int .u8 flag, .slice sp set.length scap, .int .u32 n, .string (txt s), .slice kp kids.length kcap]
  dsimp only at hw0 hd0
  have eX := txt_size tx
  have eS := txt_size s
  have hz : Z = !matchNot ⟨uid, mfl, tx, sq, lastS, lastU⟩ kids := by rw [← hZ, matchK]; simp
  rw [matchNot_any] at hz
  have CI := fun (x : KT) (hx : x ∈ kids) w (hw : KeyC w x) => ih x hx (d - 1) w hw (rightL_at hrk hx)
  unfold MP.recv at CI
  dsimp only at CI
  obtain ⟨TX, hTX⟩ : ∃ X, txt tx = X := ⟨_, rfl⟩
  obtain ⟨X, hX⟩ : ∃ X, txt s = X := ⟨_, rfl⟩
  obtain ⟨M, hM⟩ : ∃ M, set.length = M := ⟨_, rfl⟩
  obtain ⟨N, hNN⟩ : ∃ N, kids.length = N := ⟨_, rfl⟩
  rw [hX, hM, hNN] at hc0
  rw [hTX] at hd0
  rw [hTX, hX, hM, hNN] at hw0
  rw [hTX, hX, hM, hNN]
  rw [hTX] at eX
  have H9 : Hid (∀ x, Below w0.heap.size w0 x → (x.cell? ⟨W.heap.size, 0, none⟩ = some (.int .i64 10) ∧ x.cell? ⟨W.heap.size, 1, none⟩ = some (.int .u8 flag) ∧ x.cell? ⟨W.heap.size, 2, none⟩ = some (.slice sp M scap) ∧ x.cell? ⟨W.heap.size, 3, none⟩ = some (.int .u32 n) ∧ x.cell? ⟨W.heap.size, 4, none⟩ = some (.string X) ∧ x.cell? ⟨W.heap.size, 5, none⟩ = some (.slice kp N kcap)) ∧
      (x.cell? ⟨W.heap.size + 1, 0, none⟩ = some (.int .u32 uid) ∧ x.cell? ⟨W.heap.size + 1, 1, none⟩ = some (.int .u8 mfl) ∧ x.cell? ⟨W.heap.size + 1, 2, none⟩ = some (.string TX))) := fun x hb => by
    have h := Cells.later hc0 (hb.block _ (Cells.lt hc0))
    have h2 := Cells.later hd0 (hb.block _ (Cells.lt hd0))
    exact ⟨⟨h.cell (i := 0) rfl, h.cell (i := 1) rfl, h.cell (i := 2) rfl, h.cell (i := 3) rfl, h.cell (i := 4) rfl, h.cell (i := 5) rfl⟩, ⟨h2.cell (i := 0) rfl, h2.cell (i := 1) rfl, h2.cell (i := 2) rfl⟩⟩
  have HB0 := Lib.hid hb0
  have HW0 := Lib.hid hw0
  rw [hTX] at CI
  have hN9 : (N : Int) ≤ 9223372036854775807 := by rw [← hNN]; omega
  have CI := Lib.hid CI
  have HZ := Lib.hid hz
  have HKids := Lib.hid hkids
  have HNN := Lib.hid hNN
  clear hz hZ hd hN hrk hkids hkm hfl hn9 hsl hsm hpairs htl hmf hb0 hs0 hc0 hd0 hw0 hK hm ih hX hM hNN hTX eX eS
  go_enter Tryz.func15, Tryz.ntmps15
  go_wp2_with fail
  rw [HW0.out]
  obtain ⟨⟨c0, c1, c2, c3, c4, c5⟩, d0, d1, d2⟩ := H9.out w0 (Below.refl _ _)
  go_wp2_with fail
  go_loopw [11, 12, 13] (fun t11 t12 t13 wr => ∃ (i : Nat) (a b : Bool), i ≤ N ∧ t11 = .bool a ∧ t12 = .bool b ∧ t13 = .int .i64 i ∧ Hid (a = (kids.take i).any (matchK ⟨uid, mfl, tx, sq, lastS, lastU⟩)) ∧ Hid (b = !(kids.take i).any (fun x => !matchK ⟨uid, mfl, tx, sq, lastS, lastU⟩ x)) ∧ Hid (Below w0.heap.size w0 wr)) (fun _ _ t13 _ => N - (intOf t13).toNat)
  case atStart => exact ⟨0, false, true, Nat.zero_le _, rfl, rfl, rfl, rfl, rfl, Below.refl _ _⟩
  case round =>
    obtain ⟨i, a, b, hi, rfl, rfl, rfl, HA, HBb, HB⟩ := hrel
    clear c0 c1 c2 c3 c4 c5 d0 d1 d2
    obtain ⟨⟨c0, c1, c2, c3, c4, c5⟩, d0, d1, d2⟩ := H9.out wr HB.out
    have hsz : W.heap.size + 1 < wr.heap.size := World.block_lt_of_cell? wr _ d0
    by_cases hlt : i < N
    · have hq : (i : Int) < N := by omega
      have hq0 : (0 : Int) ≤ i := by omega
      obtain ⟨x, hx⟩ : ∃ x, kids[i]? = some x := ⟨_, List.getElem?_eq_getElem (by rw [HNN.out]; exact hlt)⟩
      have hxm := List.mem_of_getElem? hx
      obtain ⟨b1, o1, rfl, hl1, k1, K1⟩ := KidsC.at kids kp 0 i x HKids.out hx
      have hWr := HB0.out.trans (HB.out.mono HB0.out.size)
      have C := fun w (hw : Below wr.heap.size wr w) => CI.out x hxm w (KeyC.below (hWr.trans (hw.mono hWr.size)) _ K1)
      obtain ⟨xk, xf, xm, xn, xl, xsp, xkp, xsc, xkc, XX, hxv, hxc⟩ := x.form
      rw [hxv] at C
      obtain ⟨v, hv⟩ : ∃ v, matchK ⟨uid, mfl, tx, sq, lastS, lastU⟩ x = v := ⟨_, rfl⟩
      simp only [hv] at C
      rw [Nat.zero_add] at k1
      have SS : Hid (∀ y, Below wr.heap.size wr y → Below wr.heap.size wr y ∧ y.cell? ⟨W.heap.size, 5, none⟩ = some (.slice (some ⟨b1, o1, none⟩) N kcap) ∧ (y.cell? ⟨W.heap.size + 1, 0, none⟩ = some (.int .u32 uid) ∧ y.cell? ⟨W.heap.size + 1, 1, none⟩ = some (.int .u8 mfl) ∧ y.cell? ⟨W.heap.size + 1, 2, none⟩ = some (.string TX)) ∧
          y.cell? ⟨b1, o1 + i * 6, none⟩ = some (.int .i64 xk) ∧ y.cell? ⟨b1, o1 + i * 6 + 1, none⟩ = some (.int .u8 xf) ∧ y.cell? ⟨b1, o1 + i * 6 + 2, none⟩ = some (.slice xsp xm xsc) ∧ y.cell? ⟨b1, o1 + i * 6 + 3, none⟩ = some (.int .u32 xn) ∧ y.cell? ⟨b1, o1 + i * 6 + 4, none⟩ = some (.string XX) ∧ y.cell? ⟨b1, o1 + i * 6 + 5, none⟩ = some (.slice xkp xl xkc)) := fun y hy => by
        have hW := hWr.trans (hy.mono hWr.size)
        have h0 := H9.out y (HB.out.trans (hy.mono HB.out.size))
        have hcx : ∀ (q : Nat) (u : Value), (#[.int .i64 xk, .int .u8 xf, .slice xsp xm xsc, .int .u32 xn, .string XX, .slice xkp xl xkc] : Array Value)[q]? = some u → y.cell? ⟨b1, o1 + i * 6 + q, none⟩ = some u := fun q u hu => by
          have h1 := k1 q u (by rw [← hxc] at hu; simpa using hu)
          exact (hW.cell (p := ⟨b1, _, none⟩) hl1).trans h1
        exact ⟨hy, h0.1.2.2.2.2.2, h0.2, by have := hcx 0 _ rfl; simpa using this, hcx 1 _ rfl, hcx 2 _ rfl, hcx 3 _ rfl, hcx 4 _ rfl, hcx 5 _ rfl⟩
      have s0 := SS.out wr.drew (Below.refl _ _).drew
      have HT1 : Hid ((kids.take (i + 1)).any (matchK ⟨uid, mfl, tx, sq, lastS, lastU⟩) = (a || v)) := by
        show _ = _
        rw [take_atS hx, List.any_append, HA.out]; simp [hv]
      have HT2 : Hid ((!(kids.take (i + 1)).any (fun x => !matchK ⟨uid, mfl, tx, sq, lastS, lastU⟩ x)) = (b && v)) := by
        show _ = _
        rw [take_atS hx, List.any_append, HBb.out]; simp [hv]
      have C := Lib.hid C
      clear hx hxm k1 K1 hWr hxv hxc hv hl1
      go_wp2_with fail
      first
      | go_region_held3 (fun y => Below wr.heap.size wr y ∧ y.cell? ⟨W.heap.size, 5, none⟩ = some (.slice (some ⟨b1, o1, none⟩) N kcap) ∧ (y.cell? ⟨W.heap.size + 1, 0, none⟩ = some (.int .u32 uid) ∧ y.cell? ⟨W.heap.size + 1, 1, none⟩ = some (.int .u8 mfl) ∧ y.cell? ⟨W.heap.size + 1, 2, none⟩ = some (.string TX)) ∧
          y.cell? ⟨b1, o1 + i * 6, none⟩ = some (.int .i64 xk) ∧ y.cell? ⟨b1, o1 + i * 6 + 1, none⟩ = some (.int .u8 xf) ∧ y.cell? ⟨b1, o1 + i * 6 + 2, none⟩ = some (.slice xsp xm xsc) ∧ y.cell? ⟨b1, o1 + i * 6 + 3, none⟩ = some (.int .u32 xn) ∧ y.cell? ⟨b1, o1 + i * 6 + 4, none⟩ = some (.string XX) ∧ y.cell? ⟨b1, o1 + i * 6 + 5, none⟩ = some (.slice xkp xl xkc))
          (with_reducible assumption)
          (first | (go_at_call 15; refine (C.out _ (And.left (by assumption))).mono ?_; rintro e w9 ⟨rfl, hb9⟩; have hs9 := SS.out w9 (below_step9 (by assumption) hb9)))
      | fail "held22"
      have HB9 : Hid (Below w0.heap.size w0 w9) := HB.out.trans (hs9.1.mono HB.out.size)
      clear s0 hs9 hb9
      cases v with
      | true =>
        rw [Bool.or_true] at HT1
        rw [Bool.and_true] at HT2
        go_wp2_with fail
        go_roundw
        case rel => exact ⟨i + 1, true, b, by omega, rfl, rfl, by go_num, HT1.out.symm, HT2.out.symm, HB9.out⟩
        case measure => simp [intOf]; omega
      | false =>
        rw [Bool.or_false] at HT1
        rw [Bool.and_false] at HT2
        go_wp2_with fail
        go_roundw
        case rel => exact ⟨i + 1, a, false, by omega, rfl, rfl, by go_num, HT1.out.symm, HT2.out.symm, HB9.out⟩
        case measure => simp [intOf]; omega
    · obtain rfl : i = N := by omega
      have hq : ¬ ((i : Int) < i) := by omega
      have hZ2 : Hid (Z = b) := by
        have ha := HA.out
        have hb := HBb.out
        rw [List.take_of_length_le (by rw [HNN.out]; exact Nat.le_refl _)] at ha hb
        show _ = _
        rw [HZ.out, hb]
      have HBW : Hid (Below W.heap.size W wr) := HB0.out.trans (HB.out.mono HB0.out.size)
      clear HA HBb
      go_wp2_with fail
      go_ret
      exact ⟨by rw [hZ2.out]; try rfl, HBW.out⟩
theorem rMatch14_c {m : MP} (hm : m.Ok) (k : KT) : RMatchIH m k := by
  induction k using KT.ind with
  | h kind flag set n s kids sp scap kp kcap ih =>
    intro d W hK hr
    have hN : NodeP kind flag set.length n s.length kids.length := by
      unfold rightK at hr
      rw [Bool.and_eq_true, Bool.and_eq_true, decide_eq_true_eq, decide_eq_true_eq] at hr
      exact hr.2.1
    obtain ⟨h0, h1, _⟩ := hN
    have ih2 : ∀ x ∈ kids, RMatchIH m x := ih
    obtain rfl | rfl | rfl | rfl | rfl | rfl | rfl | rfl | rfl | rfl | rfl : kind = 0 ∨ kind = 1 ∨ kind = 2 ∨ kind = 3 ∨ kind = 4 ∨ kind = 5 ∨ kind = 6 ∨ kind = 7 ∨ kind = 8 ∨ kind = 9 ∨ kind = 10 := by omega
    · exact rMatch0_c hm flag set n s kids sp scap kp kcap ih2 d W hK hr
    · exact rMatch1_c hm flag set n s kids sp scap kp kcap ih2 d W hK hr
    · exact rMatch2_c hm flag set n s kids sp scap kp kcap ih2 d W hK hr
    · exact rMatch3_c hm flag set n s kids sp scap kp kcap ih2 d W hK hr
    · exact rMatch4_c hm flag set n s kids sp scap kp kcap ih2 d W hK hr
    · exact rMatch5_c hm flag set n s kids sp scap kp kcap ih2 d W hK hr
    · exact rMatch6_c hm flag set n s kids sp scap kp kcap ih2 d W hK hr
    · exact rMatch7_c hm flag set n s kids sp scap kp kcap ih2 d W hK hr
    · exact rMatch8_c hm flag set n s kids sp scap kp kcap ih2 d W hK hr
    · exact rMatch9_c hm flag set n s kids sp scap kp kcap ih2 d W hK hr
    · exact rMatch10_c hm flag set n s kids sp scap kp kcap ih2 d W hK hr
end Go.Proofs.YtpnnchpaaopdcaaGreatDoor

/-
  What is asked of a reader, of the program and of the document: contract.
-/
import Derived.Test.YtidhnhjhdmfpiaaDoorTkF
import Derived.Deep.RegionHeld3
import Derived.RegionTactic
import Derived.Deep.RegionLaw
set_option linter.unusedVariables false
set_option linter.unusedSimpArgs false
namespace Go.Proofs.YtidhnhjhdmfpiaaDoor
open Go Go.RowKit
variable {W : World} {gr gd D : Nat} {s : RS} {S : List UInt8}

/-- Both readers, at one state; what lies below them. -/
structure Two (D : Nat) (S : List UInt8) (W0 : World) (W : World) (gr gd : Nat) (s : RS) : Prop where
  p : PR W gr s
  d : DRS W gd S s
  b : Below D W0 W
  e : 1 < D ∧ 2 < D ∧ Errs W
theorem Two.away (h : Two D S W W gr gd s) : True := trivial
theorem errs_belowD {w w' : World} (h : 1 < D ∧ 2 < D ∧ Errs w) (hb : Below D w w') : 1 < D ∧ 2 < D ∧ Errs w' := by
  obtain ⟨h1, h2, ⟨t1, p1, e1⟩, t2, p2, e2⟩ := h
  exact ⟨h1, h2, ⟨t1, p1, (cell_same (hb.block _ h1)).trans e1⟩, t2, p2, (cell_same (hb.block _ h2)).trans e2⟩
def AskP (D : Nat) (S : List UInt8) (W : World) (gr gd : Nat) (s' : RS) (e : Ending) (w' : World) : Prop := e = .returned (.bool true) ∧ Two D S W w' gr gd s'
theorem ask_world (hp : PR W gr s) (hd : DRS W gd S s) (a b : Array Value) (ta tb : TypeId) :
    PR ((W.alloc (.cells a ta)).alloc (.cells b tb)) gr s ∧ DRS ((W.alloc (.cells a ta)).alloc (.cells b tb)) gd S s ∧ Below W.heap.size W ((W.alloc (.cells a ta)).alloc (.cells b tb)) ∧
      Cells ((W.alloc (.cells a ta)).alloc (.cells b tb)) W.heap.size ta a ∧ Cells ((W.alloc (.cells a ta)).alloc (.cells b tb)) (W.heap.size + 1) tb b := by
  have hb : Below W.heap.size W ((W.alloc (.cells a ta)).alloc (.cells b tb)) := ((Below.refl _ W).alloc (Nat.le_refl _) _).alloc (by simp) _
  refine ⟨hp.tk (Tk.of_below (g := gr + 1) hb) (by omega), hd.tk (Tk.of_below (g := gd + 1) hb) (by omega), hb, ?_, ?_⟩
  · show _ = _
    rw [Below.heap_alloc (W.alloc (.cells a ta)) _ W.heap.size (by simp)]
    exact heap_alloc_new W _
  · have := heap_alloc_new (W.alloc (.cells a ta)) (.cells b tb)
    rw [World.size_alloc] at this
    exact this
theorem Two.pstep {W0 W' : World} {s' : RS} (h : Two D S W0 W gr gd s) (hp : PR W' gr s') (hk : Tk gr W W') (hD : D ≤ gr) (hW0 : D ≤ W0.heap.size) (hne : gr ≠ gd) : DRS W' gd S s ∧ Below D W0 W' ∧ (1 < D ∧ 2 < D ∧ Errs W') := by
  have hb : Below D W W' := hk.below hD (Nat.le_trans hW0 h.b.size)
  exact ⟨h.d.tk hk (Ne.symm hne), h.b.trans hb, errs_belowD h.e hb⟩
theorem Two.dstep {W0 : World} {s' t : RS} {w1 w2 : World} (hp : PR w1 gr s') (hb1 : Below D W0 w1) (he : 1 < D ∧ 2 < D ∧ Errs w1) (hd : DRS w2 gd S s') (hk : Tk gd w1 w2) (hD : D ≤ gd) (hW0 : D ≤ W0.heap.size) (hne : gr ≠ gd) : Two D S W0 w2 gr gd s' := by
  have hb : Below D w1 w2 := hk.below hD (Nat.le_trans hW0 hb1.size)
  exact ⟨hp.tk hk hne, hd, hb1.trans hb, errs_belowD he hb⟩

set_option maxRecDepth 100000 in
set_option maxHeartbeats 4000000 in
theorem askN0_c (h : Two D S W W gr gd s) (hS : S.length ≤ 100000) (hDr : D ≤ gr) (hDd : D ≤ gd) (hDW : D ≤ W.heap.size) (hne : gr ≠ gd) (x : List UInt8) (hx : x.length ≤ 20) :
    Calls Tryd.prog 6 #[pt gr, pt gd, .agg #[.int .u8 0, .string (txt x)]] W (AskP D S W gr gd (atomS s)) := by
  have awr : Away gr := ⟨by have := h.e.1; omega, by have := h.e.2.1; omega⟩
  have hok := h.d.ok
  have hle := h.d.le
  have hx20 := Lib.hid hx
  have e1 := txt_size x
  have e0 := isEmpty_txt' x
  obtain ⟨X, hX⟩ : ∃ X, txt x = X := ⟨_, rfl⟩
  rw [hX] at e1 e0 ⊢
  obtain ⟨M, hM⟩ : ∃ M, x.length = M := ⟨_, rfl⟩
  rw [hM] at e1 hx
  cases hxe : x with
  | nil =>
    rw [hxe] at e0 hM
    have e0 : X.toList.isEmpty = true := e0
    obtain ⟨P1, D1, B1, A1, F1⟩ := ask_world h.p h.d #[.int .u8 0, .string X] #[.int .u8 32] 29 5
    obtain ⟨w1, hw1⟩ : ∃ w1, (W.alloc (.cells #[.int .u8 0, .string X] 29)).alloc (.cells #[.int .u8 32] 5) = w1 := ⟨_, rfl⟩
    rw [hw1] at P1 D1 B1 A1 F1
    have hT : Two D S W w1 gr gd s := ⟨P1, D1, B1.mono hDW, errs_belowD h.e (B1.mono hDW)⟩
    have HT := Lib.hid hT
    have HW1 := Lib.hid hw1
    have HA1 := Lib.hid A1
    have HF1 := Lib.hid F1
    have CP := tkAtom_c hT.p hok (by have := hle; omega)
    have CD := fun w (hw : DRS w gd S s) => rtAtom_c hw hS
    obtain ⟨V, hV⟩ : ∃ V, txt (atomV s) = V := ⟨_, rfl⟩
    obtain ⟨T, hT2⟩ : ∃ T, atomS s = T := ⟨_, rfl⟩
    rw [hV, hT2] at CP
    simp only [hV, hT2] at CD
    rw [hT2]
    clear hV hT2
    have CP := Lib.hid CP
    have CD := Lib.hid CD
    clear h P1 D1 B1 A1 F1 hT hw1 hX hxe hM hok
    go_enter Tryd.func6, Tryd.ntmps6
    go_wp2_with fail
    rw [HW1.out]
    refine CP.out.mono ?_
    rintro e w2 ⟨rfl, h2, k2⟩
    obtain ⟨hd2, hb2, he2⟩ := HT.out.pstep h2 k2 hDr hDW hne
    have CD2 := Lib.hid (CD.out _ hd2)
    have H2 := Lib.hid h2
    have HB2 := Lib.hid hb2
    have HE2 := Lib.hid he2
    clear h2 k2 hd2 hb2 he2
    go_wp2_with fail
    refine CD2.out.mono ?_
    rintro e w3 ⟨rfl, h3, k3⟩
    have H3 := Lib.hid (Two.dstep (t := s) H2.out HB2.out HE2.out h3 k3 hDd hDW hne)
    clear h3 k3
    go_wp2_with fail
    go_ret
    exact ⟨by simp, H3.out⟩
  | cons c0 cr =>
    rw [hxe] at e0 hM
    have e0 : X.toList.isEmpty = false := e0
    have hsz : 0 < X.size := by rw [e1, ← hM]; simp
    have hq1 : (0 : Int) < X.size := by omega
    have hc1 : X[0].toNat < 256 := X[0].toNat_lt
    obtain ⟨P1, D1, B1, A1, F1⟩ := ask_world h.p h.d #[.int .u8 0, .string X] #[.int .u8 X[0].toNat] 29 5
    obtain ⟨w1, hw1⟩ : ∃ w1, (W.alloc (.cells #[.int .u8 0, .string X] 29)).alloc (.cells #[.int .u8 X[0].toNat] 5) = w1 := ⟨_, rfl⟩
    rw [hw1] at P1 D1 B1 A1 F1
    have hT : Two D S W w1 gr gd s := ⟨P1, D1, B1.mono hDW, errs_belowD h.e (B1.mono hDW)⟩
    have HT := Lib.hid hT
    have HW1 := Lib.hid hw1
    have HA1 := Lib.hid A1
    have HF1 := Lib.hid F1
    have CP := tkAtom_c hT.p hok (by have := hle; omega)
    have CD := fun w (hw : DRS w gd S s) => rtAtom_c hw hS
    obtain ⟨V, hV⟩ : ∃ V, txt (atomV s) = V := ⟨_, rfl⟩
    obtain ⟨T, hT2⟩ : ∃ T, atomS s = T := ⟨_, rfl⟩
    rw [hV, hT2] at CP
    simp only [hV, hT2] at CD
    rw [hT2]
    clear hV hT2
    have CP := Lib.hid CP
    have CD := Lib.hid CD
    clear h P1 D1 B1 A1 F1 hT hw1 hX hxe hM hok
    go_enter Tryd.func6, Tryd.ntmps6
    go_wp2_with fail
    rw [HW1.out]
    refine CP.out.mono ?_
    rintro e w2 ⟨rfl, h2, k2⟩
    obtain ⟨hd2, hb2, he2⟩ := HT.out.pstep h2 k2 hDr hDW hne
    have CD2 := Lib.hid (CD.out _ hd2)
    have H2 := Lib.hid h2
    have HB2 := Lib.hid hb2
    have HE2 := Lib.hid he2
    clear h2 k2 hd2 hb2 he2
    go_wp2_with fail
    refine CD2.out.mono ?_
    rintro e w3 ⟨rfl, h3, k3⟩
    have H3 := Lib.hid (Two.dstep (t := s) H2.out HB2.out HE2.out h3 k3 hDd hDW hne)
    clear h3 k3
    go_wp2_with fail
    go_ret
    exact ⟨by simp, H3.out⟩
set_option maxRecDepth 100000 in
set_option maxHeartbeats 4000000 in
theorem askN1_c (h : Two D S W W gr gd s) (hS : S.length ≤ 100000) (hDr : D ≤ gr) (hDd : D ≤ gd) (hDW : D ≤ W.heap.size) (hne : gr ≠ gd) (x : List UInt8) (hx : x.length ≤ 20) :
    Calls Tryd.prog 6 #[pt gr, pt gd, .agg #[.int .u8 1, .string (txt x)]] W (AskP D S W gr gd (numS s)) := by
  have awr : Away gr := ⟨by have := h.e.1; omega, by have := h.e.2.1; omega⟩
  have hok := h.d.ok
  have hle := h.d.le
  have hx20 := Lib.hid hx
  have e1 := txt_size x
  have e0 := isEmpty_txt' x
  obtain ⟨X, hX⟩ : ∃ X, txt x = X := ⟨_, rfl⟩
  rw [hX] at e1 e0 ⊢
  obtain ⟨M, hM⟩ : ∃ M, x.length = M := ⟨_, rfl⟩
  rw [hM] at e1 hx
  cases hxe : x with
  | nil =>
    rw [hxe] at e0 hM
    have e0 : X.toList.isEmpty = true := e0
    obtain ⟨P1, D1, B1, A1, F1⟩ := ask_world h.p h.d #[.int .u8 1, .string X] #[.int .u8 32] 29 5
    obtain ⟨w1, hw1⟩ : ∃ w1, (W.alloc (.cells #[.int .u8 1, .string X] 29)).alloc (.cells #[.int .u8 32] 5) = w1 := ⟨_, rfl⟩
    rw [hw1] at P1 D1 B1 A1 F1
    have hT : Two D S W w1 gr gd s := ⟨P1, D1, B1.mono hDW, errs_belowD h.e (B1.mono hDW)⟩
    have HT := Lib.hid hT
    have HW1 := Lib.hid hw1
    have HA1 := Lib.hid A1
    have HF1 := Lib.hid F1
    have CP := tkNumber_c hT.p hok (by have := hle; omega) hT.e.2.2 awr
    have CD := fun w (hw : DRS w gd S s) => rtNumber_c hw hS
    obtain ⟨V, hV⟩ : ∃ V, numN s = V := ⟨_, rfl⟩
    obtain ⟨T, hT2⟩ : ∃ T, numS s = T := ⟨_, rfl⟩
    rw [hV, hT2] at CP
    simp only [hV, hT2] at CD
    rw [hT2]
    clear hV hT2
    have CP := Lib.hid CP
    have CD := Lib.hid CD
    clear h P1 D1 B1 A1 F1 hT hw1 hX hxe hM hok
    go_enter Tryd.func6, Tryd.ntmps6
    go_wp2_with fail
    rw [HW1.out]
    refine CP.out.mono ?_
    rintro e w2 ⟨rfl, h2, k2⟩
    obtain ⟨hd2, hb2, he2⟩ := HT.out.pstep h2 k2 hDr hDW hne
    have CD2 := Lib.hid (CD.out _ hd2)
    have H2 := Lib.hid h2
    have HB2 := Lib.hid hb2
    have HE2 := Lib.hid he2
    clear h2 k2 hd2 hb2 he2
    go_wp2_with fail
    refine CD2.out.mono ?_
    rintro e w3 ⟨rfl, h3, k3⟩
    have H3 := Lib.hid (Two.dstep (t := s) H2.out HB2.out HE2.out h3 k3 hDd hDW hne)
    clear h3 k3
    go_wp2_with fail
    go_ret
    exact ⟨by simp, H3.out⟩
  | cons c0 cr =>
    rw [hxe] at e0 hM
    have e0 : X.toList.isEmpty = false := e0
    have hsz : 0 < X.size := by rw [e1, ← hM]; simp
    have hq1 : (0 : Int) < X.size := by omega
    have hc1 : X[0].toNat < 256 := X[0].toNat_lt
    obtain ⟨P1, D1, B1, A1, F1⟩ := ask_world h.p h.d #[.int .u8 1, .string X] #[.int .u8 X[0].toNat] 29 5
    obtain ⟨w1, hw1⟩ : ∃ w1, (W.alloc (.cells #[.int .u8 1, .string X] 29)).alloc (.cells #[.int .u8 X[0].toNat] 5) = w1 := ⟨_, rfl⟩
    rw [hw1] at P1 D1 B1 A1 F1
    have hT : Two D S W w1 gr gd s := ⟨P1, D1, B1.mono hDW, errs_belowD h.e (B1.mono hDW)⟩
    have HT := Lib.hid hT
    have HW1 := Lib.hid hw1
    have HA1 := Lib.hid A1
    have HF1 := Lib.hid F1
    have CP := tkNumber_c hT.p hok (by have := hle; omega) hT.e.2.2 awr
    have CD := fun w (hw : DRS w gd S s) => rtNumber_c hw hS
    obtain ⟨V, hV⟩ : ∃ V, numN s = V := ⟨_, rfl⟩
    obtain ⟨T, hT2⟩ : ∃ T, numS s = T := ⟨_, rfl⟩
    rw [hV, hT2] at CP
    simp only [hV, hT2] at CD
    rw [hT2]
    clear hV hT2
    have CP := Lib.hid CP
    have CD := Lib.hid CD
    clear h P1 D1 B1 A1 F1 hT hw1 hX hxe hM hok
    go_enter Tryd.func6, Tryd.ntmps6
    go_wp2_with fail
    rw [HW1.out]
    refine CP.out.mono ?_
    rintro e w2 ⟨rfl, h2, k2⟩
    obtain ⟨hd2, hb2, he2⟩ := HT.out.pstep h2 k2 hDr hDW hne
    have CD2 := Lib.hid (CD.out _ hd2)
    have H2 := Lib.hid h2
    have HB2 := Lib.hid hb2
    have HE2 := Lib.hid he2
    clear h2 k2 hd2 hb2 he2
    go_wp2_with fail
    refine CD2.out.mono ?_
    rintro e w3 ⟨rfl, h3, k3⟩
    have H3 := Lib.hid (Two.dstep (t := s) H2.out HB2.out HE2.out h3 k3 hDd hDW hne)
    clear h3 k3
    go_wp2_with fail
    go_ret
    exact ⟨by simp, H3.out⟩
set_option maxRecDepth 100000 in
set_option maxHeartbeats 4000000 in
theorem askN2_c (h : Two D S W W gr gd s) (hS : S.length ≤ 100000) (hDr : D ≤ gr) (hDd : D ≤ gd) (hDW : D ≤ W.heap.size) (hne : gr ≠ gd) (x : List UInt8) (hx : x.length ≤ 20) :
    Calls Tryd.prog 6 #[pt gr, pt gd, .agg #[.int .u8 2, .string (txt x)]] W (AskP D S W gr gd (strS s)) := by
  have awr : Away gr := ⟨by have := h.e.1; omega, by have := h.e.2.1; omega⟩
  have hok := h.d.ok
  have hle := h.d.le
  have hx20 := Lib.hid hx
  have e1 := txt_size x
  have e0 := isEmpty_txt' x
  obtain ⟨X, hX⟩ : ∃ X, txt x = X := ⟨_, rfl⟩
  rw [hX] at e1 e0 ⊢
  obtain ⟨M, hM⟩ : ∃ M, x.length = M := ⟨_, rfl⟩
  rw [hM] at e1 hx
  cases hxe : x with
  | nil =>
    rw [hxe] at e0 hM
    have e0 : X.toList.isEmpty = true := e0
    obtain ⟨P1, D1, B1, A1, F1⟩ := ask_world h.p h.d #[.int .u8 2, .string X] #[.int .u8 32] 29 5
    obtain ⟨w1, hw1⟩ : ∃ w1, (W.alloc (.cells #[.int .u8 2, .string X] 29)).alloc (.cells #[.int .u8 32] 5) = w1 := ⟨_, rfl⟩
    rw [hw1] at P1 D1 B1 A1 F1
    have hT : Two D S W w1 gr gd s := ⟨P1, D1, B1.mono hDW, errs_belowD h.e (B1.mono hDW)⟩
    have HT := Lib.hid hT
    have HW1 := Lib.hid hw1
    have HA1 := Lib.hid A1
    have HF1 := Lib.hid F1
    have CP := tkString_c hT.p hok (by have := hle; omega) hT.e.2.2 awr
    have CD := fun w (hw : DRS w gd S s) => rtString_c hw hS
    obtain ⟨V, hV⟩ : ∃ V, txt (strV s) = V := ⟨_, rfl⟩
    obtain ⟨T, hT2⟩ : ∃ T, strS s = T := ⟨_, rfl⟩
    rw [hV, hT2] at CP
    simp only [hV, hT2] at CD
    rw [hT2]
    clear hV hT2
    have CP := Lib.hid CP
    have CD := Lib.hid CD
    clear h P1 D1 B1 A1 F1 hT hw1 hX hxe hM hok
    go_enter Tryd.func6, Tryd.ntmps6
    go_wp2_with fail
    rw [HW1.out]
    refine CP.out.mono ?_
    rintro e w2 ⟨rfl, h2, k2⟩
    obtain ⟨hd2, hb2, he2⟩ := HT.out.pstep h2 k2 hDr hDW hne
    have CD2 := Lib.hid (CD.out _ hd2)
    have H2 := Lib.hid h2
    have HB2 := Lib.hid hb2
    have HE2 := Lib.hid he2
    clear h2 k2 hd2 hb2 he2
    go_wp2_with fail
    refine CD2.out.mono ?_
    rintro e w3 ⟨rfl, h3, k3⟩
    have H3 := Lib.hid (Two.dstep (t := s) H2.out HB2.out HE2.out h3 k3 hDd hDW hne)
    clear h3 k3
    go_wp2_with fail
    go_ret
    exact ⟨by simp, H3.out⟩
  | cons c0 cr =>
    rw [hxe] at e0 hM
    have e0 : X.toList.isEmpty = false := e0
    have hsz : 0 < X.size := by rw [e1, ← hM]; simp
    have hq1 : (0 : Int) < X.size := by omega
    have hc1 : X[0].toNat < 256 := X[0].toNat_lt
    obtain ⟨P1, D1, B1, A1, F1⟩ := ask_world h.p h.d #[.int .u8 2, .string X] #[.int .u8 X[0].toNat] 29 5
    obtain ⟨w1, hw1⟩ : ∃ w1, (W.alloc (.cells #[.int .u8 2, .string X] 29)).alloc (.cells #[.int .u8 X[0].toNat] 5) = w1 := ⟨_, rfl⟩
    rw [hw1] at P1 D1 B1 A1 F1
    have hT : Two D S W w1 gr gd s := ⟨P1, D1, B1.mono hDW, errs_belowD h.e (B1.mono hDW)⟩
    have HT := Lib.hid hT
    have HW1 := Lib.hid hw1
    have HA1 := Lib.hid A1
    have HF1 := Lib.hid F1
    have CP := tkString_c hT.p hok (by have := hle; omega) hT.e.2.2 awr
    have CD := fun w (hw : DRS w gd S s) => rtString_c hw hS
    obtain ⟨V, hV⟩ : ∃ V, txt (strV s) = V := ⟨_, rfl⟩
    obtain ⟨T, hT2⟩ : ∃ T, strS s = T := ⟨_, rfl⟩
    rw [hV, hT2] at CP
    simp only [hV, hT2] at CD
    rw [hT2]
    clear hV hT2
    have CP := Lib.hid CP
    have CD := Lib.hid CD
    clear h P1 D1 B1 A1 F1 hT hw1 hX hxe hM hok
    go_enter Tryd.func6, Tryd.ntmps6
    go_wp2_with fail
    rw [HW1.out]
    refine CP.out.mono ?_
    rintro e w2 ⟨rfl, h2, k2⟩
    obtain ⟨hd2, hb2, he2⟩ := HT.out.pstep h2 k2 hDr hDW hne
    have CD2 := Lib.hid (CD.out _ hd2)
    have H2 := Lib.hid h2
    have HB2 := Lib.hid hb2
    have HE2 := Lib.hid he2
    clear h2 k2 hd2 hb2 he2
    go_wp2_with fail
    refine CD2.out.mono ?_
    rintro e w3 ⟨rfl, h3, k3⟩
    have H3 := Lib.hid (Two.dstep (t := s) H2.out HB2.out HE2.out h3 k3 hDd hDW hne)
    clear h3 k3
    go_wp2_with fail
    go_ret
    exact ⟨by simp, H3.out⟩
set_option maxRecDepth 100000 in
set_option maxHeartbeats 4000000 in
theorem askN3_c (h : Two D S W W gr gd s) (hS : S.length ≤ 100000) (hDr : D ≤ gr) (hDd : D ≤ gd) (hDW : D ≤ W.heap.size) (hne : gr ≠ gd) (x : List UInt8) (hx : x.length ≤ 20) :
    Calls Tryd.prog 6 #[pt gr, pt gd, .agg #[.int .u8 3, .string (txt x)]] W (AskP D S W gr gd (litS s)) := by
  have awr : Away gr := ⟨by have := h.e.1; omega, by have := h.e.2.1; omega⟩
  have hok := h.d.ok
  have hle := h.d.le
  have hx20 := Lib.hid hx
  have e1 := txt_size x
  have e0 := isEmpty_txt' x
  obtain ⟨X, hX⟩ : ∃ X, txt x = X := ⟨_, rfl⟩
  rw [hX] at e1 e0 ⊢
  obtain ⟨M, hM⟩ : ∃ M, x.length = M := ⟨_, rfl⟩
  rw [hM] at e1 hx
  cases hxe : x with
  | nil =>
    rw [hxe] at e0 hM
    have e0 : X.toList.isEmpty = true := e0
    obtain ⟨P1, D1, B1, A1, F1⟩ := ask_world h.p h.d #[.int .u8 3, .string X] #[.int .u8 32] 29 5
    obtain ⟨w1, hw1⟩ : ∃ w1, (W.alloc (.cells #[.int .u8 3, .string X] 29)).alloc (.cells #[.int .u8 32] 5) = w1 := ⟨_, rfl⟩
    rw [hw1] at P1 D1 B1 A1 F1
    have hT : Two D S W w1 gr gd s := ⟨P1, D1, B1.mono hDW, errs_belowD h.e (B1.mono hDW)⟩
    have HT := Lib.hid hT
    have HW1 := Lib.hid hw1
    have HA1 := Lib.hid A1
    have HF1 := Lib.hid F1
    have CP := tkLiteral_c hT.p hok (by have := hle; omega) hT.e.2.2 awr
    have CD := fun w (hw : DRS w gd S s) => rtLiteral_c hw hS
    obtain ⟨V, hV⟩ : ∃ V, txt (litV s) = V := ⟨_, rfl⟩
    obtain ⟨T, hT2⟩ : ∃ T, litS s = T := ⟨_, rfl⟩
    rw [hV, hT2] at CP
    simp only [hV, hT2] at CD
    rw [hT2]
    clear hV hT2
    have CP := Lib.hid CP
    have CD := Lib.hid CD
    clear h P1 D1 B1 A1 F1 hT hw1 hX hxe hM hok
    go_enter Tryd.func6, Tryd.ntmps6
    go_wp2_with fail
    rw [HW1.out]
    refine CP.out.mono ?_
    rintro e w2 ⟨rfl, h2, k2⟩
    obtain ⟨hd2, hb2, he2⟩ := HT.out.pstep h2 k2 hDr hDW hne
    have CD2 := Lib.hid (CD.out _ hd2)
    have H2 := Lib.hid h2
    have HB2 := Lib.hid hb2
    have HE2 := Lib.hid he2
    clear h2 k2 hd2 hb2 he2
    go_wp2_with fail
    refine CD2.out.mono ?_
    rintro e w3 ⟨rfl, h3, k3⟩
    have H3 := Lib.hid (Two.dstep (t := s) H2.out HB2.out HE2.out h3 k3 hDd hDW hne)
    clear h3 k3
    go_wp2_with fail
    go_ret
    exact ⟨by simp, H3.out⟩
  | cons c0 cr =>
    rw [hxe] at e0 hM
    have e0 : X.toList.isEmpty = false := e0
    have hsz : 0 < X.size := by rw [e1, ← hM]; simp
    have hq1 : (0 : Int) < X.size := by omega
    have hc1 : X[0].toNat < 256 := X[0].toNat_lt
    obtain ⟨P1, D1, B1, A1, F1⟩ := ask_world h.p h.d #[.int .u8 3, .string X] #[.int .u8 X[0].toNat] 29 5
    obtain ⟨w1, hw1⟩ : ∃ w1, (W.alloc (.cells #[.int .u8 3, .string X] 29)).alloc (.cells #[.int .u8 X[0].toNat] 5) = w1 := ⟨_, rfl⟩
    rw [hw1] at P1 D1 B1 A1 F1
    have hT : Two D S W w1 gr gd s := ⟨P1, D1, B1.mono hDW, errs_belowD h.e (B1.mono hDW)⟩
    have HT := Lib.hid hT
    have HW1 := Lib.hid hw1
    have HA1 := Lib.hid A1
    have HF1 := Lib.hid F1
    have CP := tkLiteral_c hT.p hok (by have := hle; omega) hT.e.2.2 awr
    have CD := fun w (hw : DRS w gd S s) => rtLiteral_c hw hS
    obtain ⟨V, hV⟩ : ∃ V, txt (litV s) = V := ⟨_, rfl⟩
    obtain ⟨T, hT2⟩ : ∃ T, litS s = T := ⟨_, rfl⟩
    rw [hV, hT2] at CP
    simp only [hV, hT2] at CD
    rw [hT2]
    clear hV hT2
    have CP := Lib.hid CP
    have CD := Lib.hid CD
    clear h P1 D1 B1 A1 F1 hT hw1 hX hxe hM hok
    go_enter Tryd.func6, Tryd.ntmps6
    go_wp2_with fail
    rw [HW1.out]
    refine CP.out.mono ?_
    rintro e w2 ⟨rfl, h2, k2⟩
    obtain ⟨hd2, hb2, he2⟩ := HT.out.pstep h2 k2 hDr hDW hne
    have CD2 := Lib.hid (CD.out _ hd2)
    have H2 := Lib.hid h2
    have HB2 := Lib.hid hb2
    have HE2 := Lib.hid he2
    clear h2 k2 hd2 hb2 he2
    go_wp2_with fail
    refine CD2.out.mono ?_
    rintro e w3 ⟨rfl, h3, k3⟩
    have H3 := Lib.hid (Two.dstep (t := s) H2.out HB2.out HE2.out h3 k3 hDd hDW hne)
    clear h3 k3
    go_wp2_with fail
    go_ret
    exact ⟨by simp, H3.out⟩
set_option maxRecDepth 100000 in
set_option maxHeartbeats 4000000 in
theorem askN4_c (h : Two D S W W gr gd s) (hS : S.length ≤ 100000) (hDr : D ≤ gr) (hDd : D ≤ gd) (hDW : D ≤ W.heap.size) (hne : gr ≠ gd) (x : List UInt8) (hx : x.length ≤ 20) :
    Calls Tryd.prog 6 #[pt gr, pt gd, .agg #[.int .u8 4, .string (txt x)]] W (AskP D S W gr gd (mustS s [32])) := by
  have awr : Away gr := ⟨by have := h.e.1; omega, by have := h.e.2.1; omega⟩
  have hok := h.d.ok
  have hle := h.d.le
  have hx20 := Lib.hid hx
  have e1 := txt_size x
  have e0 := isEmpty_txt' x
  obtain ⟨X, hX⟩ : ∃ X, txt x = X := ⟨_, rfl⟩
  rw [hX] at e1 e0 ⊢
  obtain ⟨M, hM⟩ : ∃ M, x.length = M := ⟨_, rfl⟩
  rw [hM] at e1 hx
  cases hxe : x with
  | nil =>
    rw [hxe] at e0 hM
    have e0 : X.toList.isEmpty = true := e0
    obtain ⟨P1, D1, B1, A1, F1⟩ := ask_world h.p h.d #[.int .u8 4, .string X] #[.int .u8 32] 29 5
    obtain ⟨w1, hw1⟩ : ∃ w1, (W.alloc (.cells #[.int .u8 4, .string X] 29)).alloc (.cells #[.int .u8 32] 5) = w1 := ⟨_, rfl⟩
    rw [hw1] at P1 D1 B1 A1 F1
    have hT : Two D S W w1 gr gd s := ⟨P1, D1, B1.mono hDW, errs_belowD h.e (B1.mono hDW)⟩
    have HT := Lib.hid hT
    have HW1 := Lib.hid hw1
    have HA1 := Lib.hid A1
    have HF1 := Lib.hid F1
    have CP := tkBlank_c hT.p (by have := hle; omega)
    have CD := fun w (hw : DRS w gd S s) => rtMust_c hw hS [32] (by decide)
    rw [show txt [32] = ⟨#[32]⟩ from rfl] at CD
    have CP := Lib.hid CP
    have CD := Lib.hid CD
    clear h P1 D1 B1 A1 F1 hT hw1 hX hxe hM hok
    go_enter Tryd.func6, Tryd.ntmps6
    go_wp2_with fail
    rw [HW1.out]
    refine CP.out.mono ?_
    rintro e w2 ⟨rfl, h2, k2⟩
    obtain ⟨hd2, hb2, he2⟩ := HT.out.pstep h2 k2 hDr hDW hne
    have CD2 := Lib.hid (CD.out _ hd2)
    have H2 := Lib.hid h2
    have HB2 := Lib.hid hb2
    have HE2 := Lib.hid he2
    clear h2 k2 hd2 hb2 he2
    go_wp2_with fail
    refine CD2.out.mono ?_
    rintro e w3 ⟨rfl, h3, k3⟩
    have H3 := Lib.hid (Two.dstep (t := s) H2.out HB2.out HE2.out h3 k3 hDd hDW hne)
    clear h3 k3
    go_wp2_with fail
    go_ret
    exact ⟨rfl, H3.out⟩
  | cons c0 cr =>
    rw [hxe] at e0 hM
    have e0 : X.toList.isEmpty = false := e0
    have hsz : 0 < X.size := by rw [e1, ← hM]; simp
    have hq1 : (0 : Int) < X.size := by omega
    have hc1 : X[0].toNat < 256 := X[0].toNat_lt
    obtain ⟨P1, D1, B1, A1, F1⟩ := ask_world h.p h.d #[.int .u8 4, .string X] #[.int .u8 X[0].toNat] 29 5
    obtain ⟨w1, hw1⟩ : ∃ w1, (W.alloc (.cells #[.int .u8 4, .string X] 29)).alloc (.cells #[.int .u8 X[0].toNat] 5) = w1 := ⟨_, rfl⟩
    rw [hw1] at P1 D1 B1 A1 F1
    have hT : Two D S W w1 gr gd s := ⟨P1, D1, B1.mono hDW, errs_belowD h.e (B1.mono hDW)⟩
    have HT := Lib.hid hT
    have HW1 := Lib.hid hw1
    have HA1 := Lib.hid A1
    have HF1 := Lib.hid F1
    have CP := tkBlank_c hT.p (by have := hle; omega)
    have CD := fun w (hw : DRS w gd S s) => rtMust_c hw hS [32] (by decide)
    rw [show txt [32] = ⟨#[32]⟩ from rfl] at CD
    have CP := Lib.hid CP
    have CD := Lib.hid CD
    clear h P1 D1 B1 A1 F1 hT hw1 hX hxe hM hok
    go_enter Tryd.func6, Tryd.ntmps6
    go_wp2_with fail
    rw [HW1.out]
    refine CP.out.mono ?_
    rintro e w2 ⟨rfl, h2, k2⟩
    obtain ⟨hd2, hb2, he2⟩ := HT.out.pstep h2 k2 hDr hDW hne
    have CD2 := Lib.hid (CD.out _ hd2)
    have H2 := Lib.hid h2
    have HB2 := Lib.hid hb2
    have HE2 := Lib.hid he2
    clear h2 k2 hd2 hb2 he2
    go_wp2_with fail
    refine CD2.out.mono ?_
    rintro e w3 ⟨rfl, h3, k3⟩
    have H3 := Lib.hid (Two.dstep (t := s) H2.out HB2.out HE2.out h3 k3 hDd hDW hne)
    clear h3 k3
    go_wp2_with fail
    go_ret
    exact ⟨rfl, H3.out⟩
set_option maxRecDepth 100000 in
set_option maxHeartbeats 4000000 in
theorem askN8_c (h : Two D S W W gr gd s) (hS : S.length ≤ 100000) (hDr : D ≤ gr) (hDd : D ≤ gd) (hDW : D ≤ W.heap.size) (hne : gr ≠ gd) (x : List UInt8) (hx : x.length ≤ 20) :
    Calls Tryd.prog 6 #[pt gr, pt gd, .agg #[.int .u8 8, .string (txt x)]] W (AskP D S W gr gd (.gone)) := by
  have awr : Away gr := ⟨by have := h.e.1; omega, by have := h.e.2.1; omega⟩
  have hok := h.d.ok
  have hle := h.d.le
  have hx20 := Lib.hid hx
  have e1 := txt_size x
  have e0 := isEmpty_txt' x
  obtain ⟨X, hX⟩ : ∃ X, txt x = X := ⟨_, rfl⟩
  rw [hX] at e1 e0 ⊢
  obtain ⟨M, hM⟩ : ∃ M, x.length = M := ⟨_, rfl⟩
  rw [hM] at e1 hx
  cases hxe : x with
  | nil =>
    rw [hxe] at e0 hM
    have e0 : X.toList.isEmpty = true := e0
    obtain ⟨P1, D1, B1, A1, F1⟩ := ask_world h.p h.d #[.int .u8 8, .string X] #[.int .u8 32] 29 5
    obtain ⟨w1, hw1⟩ : ∃ w1, (W.alloc (.cells #[.int .u8 8, .string X] 29)).alloc (.cells #[.int .u8 32] 5) = w1 := ⟨_, rfl⟩
    rw [hw1] at P1 D1 B1 A1 F1
    have hT : Two D S W w1 gr gd s := ⟨P1, D1, B1.mono hDW, errs_belowD h.e (B1.mono hDW)⟩
    have HT := Lib.hid hT
    have HW1 := Lib.hid hw1
    have HA1 := Lib.hid A1
    have HF1 := Lib.hid F1
    have CP := tkFail_c hT.p
    have CD := fun w (hw : DRS w gd S s) => rtFail_c hw
    have CP := Lib.hid CP
    have CD := Lib.hid CD
    clear h P1 D1 B1 A1 F1 hT hw1 hX hxe hM hok
    go_enter Tryd.func6, Tryd.ntmps6
    go_wp2_with fail
    rw [HW1.out]
    refine CP.out.mono ?_
    rintro e w2 ⟨rfl, h2, k2⟩
    obtain ⟨hd2, hb2, he2⟩ := HT.out.pstep h2 k2 hDr hDW hne
    have CD2 := Lib.hid (CD.out _ hd2)
    have H2 := Lib.hid h2
    have HB2 := Lib.hid hb2
    have HE2 := Lib.hid he2
    clear h2 k2 hd2 hb2 he2
    go_wp2_with fail
    refine CD2.out.mono ?_
    rintro e w3 ⟨rfl, h3, k3⟩
    have H3 := Lib.hid (Two.dstep (t := s) H2.out HB2.out HE2.out h3 k3 hDd hDW hne)
    clear h3 k3
    go_wp2_with fail
    go_ret
    exact ⟨rfl, H3.out⟩
  | cons c0 cr =>
    rw [hxe] at e0 hM
    have e0 : X.toList.isEmpty = false := e0
    have hsz : 0 < X.size := by rw [e1, ← hM]; simp
    have hq1 : (0 : Int) < X.size := by omega
    have hc1 : X[0].toNat < 256 := X[0].toNat_lt
    obtain ⟨P1, D1, B1, A1, F1⟩ := ask_world h.p h.d #[.int .u8 8, .string X] #[.int .u8 X[0].toNat] 29 5
    obtain ⟨w1, hw1⟩ : ∃ w1, (W.alloc (.cells #[.int .u8 8, .string X] 29)).alloc (.cells #[.int .u8 X[0].toNat] 5) = w1 := ⟨_, rfl⟩
    rw [hw1] at P1 D1 B1 A1 F1
    have hT : Two D S W w1 gr gd s := ⟨P1, D1, B1.mono hDW, errs_belowD h.e (B1.mono hDW)⟩
    have HT := Lib.hid hT
    have HW1 := Lib.hid hw1
    have HA1 := Lib.hid A1
    have HF1 := Lib.hid F1
    have CP := tkFail_c hT.p
    have CD := fun w (hw : DRS w gd S s) => rtFail_c hw
    have CP := Lib.hid CP
    have CD := Lib.hid CD
    clear h P1 D1 B1 A1 F1 hT hw1 hX hxe hM hok
    go_enter Tryd.func6, Tryd.ntmps6
    go_wp2_with fail
    rw [HW1.out]
    refine CP.out.mono ?_
    rintro e w2 ⟨rfl, h2, k2⟩
    obtain ⟨hd2, hb2, he2⟩ := HT.out.pstep h2 k2 hDr hDW hne
    have CD2 := Lib.hid (CD.out _ hd2)
    have H2 := Lib.hid h2
    have HB2 := Lib.hid hb2
    have HE2 := Lib.hid he2
    clear h2 k2 hd2 hb2 he2
    go_wp2_with fail
    refine CD2.out.mono ?_
    rintro e w3 ⟨rfl, h3, k3⟩
    have H3 := Lib.hid (Two.dstep (t := s) H2.out HB2.out HE2.out h3 k3 hDd hDW hne)
    clear h3 k3
    go_wp2_with fail
    go_ret
    exact ⟨rfl, H3.out⟩
set_option maxRecDepth 100000 in
set_option maxHeartbeats 4000000 in
theorem askN6_c (h : Two D S W W gr gd s) (hS : S.length ≤ 100000) (hDr : D ≤ gr) (hDd : D ≤ gd) (hDW : D ≤ W.heap.size) (hne : gr ≠ gd) (x : List UInt8) (hx : x.length ≤ 20) :
    Calls Tryd.prog 6 #[pt gr, pt gd, .agg #[.int .u8 6, .string (txt x)]] W (AskP D S W gr gd (s)) := by
  have awr : Away gr := ⟨by have := h.e.1; omega, by have := h.e.2.1; omega⟩
  have hok := h.d.ok
  have hle := h.d.le
  have hx20 := Lib.hid hx
  have e1 := txt_size x
  have e0 := isEmpty_txt' x
  obtain ⟨X, hX⟩ : ∃ X, txt x = X := ⟨_, rfl⟩
  rw [hX] at e1 e0 ⊢
  obtain ⟨M, hM⟩ : ∃ M, x.length = M := ⟨_, rfl⟩
  rw [hM] at e1 hx
  cases hxe : x with
  | nil =>
    rw [hxe] at e0 hM
    have e0 : X.toList.isEmpty = true := e0
    obtain ⟨P1, D1, B1, A1, F1⟩ := ask_world h.p h.d #[.int .u8 6, .string X] #[.int .u8 32] 29 5
    obtain ⟨w1, hw1⟩ : ∃ w1, (W.alloc (.cells #[.int .u8 6, .string X] 29)).alloc (.cells #[.int .u8 32] 5) = w1 := ⟨_, rfl⟩
    rw [hw1] at P1 D1 B1 A1 F1
    have hT : Two D S W w1 gr gd s := ⟨P1, D1, B1.mono hDW, errs_belowD h.e (B1.mono hDW)⟩
    have HT := Lib.hid hT
    have HW1 := Lib.hid hw1
    have HA1 := Lib.hid A1
    have HF1 := Lib.hid F1
    have CP : ∀ n, Calls Tryd.prog 18 #[pt gr, .int .u8 32] (w1.drewN n) fun e w' => e = .returned (.bool (nextB s 32)) ∧ w' = w1.drewN n := fun n => tkNext_c (W := w1.drewN n) hT.p 32 32 rfl
    have CD : ∀ n, Calls Tryd.prog 26 #[pt gd, .int .u8 32] (w1.drewN n) fun e w' => e = .returned (.bool (nextB s 32)) ∧ ∃ m, w' = (w1.drewN n).drewN m := fun n => rtNext_c (W := w1.drewN n) hT.d 32 32 rfl
    obtain ⟨V, hV⟩ : ∃ V, nextB s 32 = V := ⟨_, rfl⟩
    rw [hV] at CP CD
    have CP := Lib.hid CP
    have CD := Lib.hid CD
    have k0 := A1.cell (i := 0) rfl
    have k1 := F1.cell (i := 0) rfl
    have k2 := F1.lt
    clear h P1 D1 B1 hT hw1 hX hxe hM hok hV
    go_enter Tryd.func6, Tryd.ntmps6
    go_wp2_with fail
    rw [HW1.out]
    go_quiet (first | (go_at_call 18; exact Calls.quiet_of_same (CP.out _)) | (go_at_call 26; exact Calls.quiet_of (CD.out _)))
    go_wp2_with fail
    go_ret
    exact ⟨by simp, HT.out.p, HT.out.d, below_drewN HT.out.b _, HT.out.e⟩
  | cons c0 cr =>
    rw [hxe] at e0 hM
    have e0 : X.toList.isEmpty = false := e0
    have hsz : 0 < X.size := by rw [e1, ← hM]; simp
    have hq1 : (0 : Int) < X.size := by omega
    have hc1 : X[0].toNat < 256 := X[0].toNat_lt
    obtain ⟨P1, D1, B1, A1, F1⟩ := ask_world h.p h.d #[.int .u8 6, .string X] #[.int .u8 X[0].toNat] 29 5
    obtain ⟨w1, hw1⟩ : ∃ w1, (W.alloc (.cells #[.int .u8 6, .string X] 29)).alloc (.cells #[.int .u8 X[0].toNat] 5) = w1 := ⟨_, rfl⟩
    rw [hw1] at P1 D1 B1 A1 F1
    have hT : Two D S W w1 gr gd s := ⟨P1, D1, B1.mono hDW, errs_belowD h.e (B1.mono hDW)⟩
    have HT := Lib.hid hT
    have HW1 := Lib.hid hw1
    have HA1 := Lib.hid A1
    have HF1 := Lib.hid F1
    have CP : ∀ n, Calls Tryd.prog 18 #[pt gr, .int .u8 X[0].toNat] (w1.drewN n) fun e w' => e = .returned (.bool (nextB s X[0])) ∧ w' = w1.drewN n := fun n => tkNext_c (W := w1.drewN n) hT.p X[0].toNat X[0] rfl
    have CD : ∀ n, Calls Tryd.prog 26 #[pt gd, .int .u8 X[0].toNat] (w1.drewN n) fun e w' => e = .returned (.bool (nextB s X[0])) ∧ ∃ m, w' = (w1.drewN n).drewN m := fun n => rtNext_c (W := w1.drewN n) hT.d X[0].toNat X[0] rfl
    obtain ⟨V, hV⟩ : ∃ V, nextB s X[0] = V := ⟨_, rfl⟩
    rw [hV] at CP CD
    have CP := Lib.hid CP
    have CD := Lib.hid CD
    have k0 := A1.cell (i := 0) rfl
    have k1 := F1.cell (i := 0) rfl
    have k2 := F1.lt
    clear h P1 D1 B1 hT hw1 hX hxe hM hok hV
    go_enter Tryd.func6, Tryd.ntmps6
    go_wp2_with fail
    rw [HW1.out]
    go_quiet (first | (go_at_call 18; exact Calls.quiet_of_same (CP.out _)) | (go_at_call 26; exact Calls.quiet_of (CD.out _)))
    go_wp2_with fail
    go_ret
    exact ⟨by simp, HT.out.p, HT.out.d, below_drewN HT.out.b _, HT.out.e⟩
set_option maxRecDepth 100000 in
set_option maxHeartbeats 4000000 in
theorem askN5_c (h : Two D S W W gr gd s) (hS : S.length ≤ 100000) (hDr : D ≤ gr) (hDd : D ≤ gd) (hDW : D ≤ W.heap.size) (hne : gr ≠ gd) (x : List UInt8) (hx : x.length ≤ 20) :
    Calls Tryd.prog 6 #[pt gr, pt gd, .agg #[.int .u8 5, .string (txt x)]] W (AskP D S W gr gd (wordS s x)) := by
  have awr : Away gr := ⟨by have := h.e.1; omega, by have := h.e.2.1; omega⟩
  have hok := h.d.ok
  have hle := h.d.le
  have hx20 := Lib.hid hx
  have e1 := txt_size x
  have e0 := isEmpty_txt' x
  obtain ⟨X, hX⟩ : ∃ X, txt x = X := ⟨_, rfl⟩
  rw [hX] at e1 e0 ⊢
  obtain ⟨M, hM⟩ : ∃ M, x.length = M := ⟨_, rfl⟩
  rw [hM] at e1 hx
  cases hxe : x with
  | nil =>
    rw [hxe] at e0 hM
    have e0 : X.toList.isEmpty = true := e0
    obtain ⟨P1, D1, B1, A1, F1⟩ := ask_world h.p h.d #[.int .u8 5, .string X] #[.int .u8 32] 29 5
    obtain ⟨w1, hw1⟩ : ∃ w1, (W.alloc (.cells #[.int .u8 5, .string X] 29)).alloc (.cells #[.int .u8 32] 5) = w1 := ⟨_, rfl⟩
    rw [hw1] at P1 D1 B1 A1 F1
    have hT : Two D S W w1 gr gd s := ⟨P1, D1, B1.mono hDW, errs_belowD h.e (B1.mono hDW)⟩
    have HT := Lib.hid hT
    have HW1 := Lib.hid hw1
    have HA1 := Lib.hid A1
    have HF1 := Lib.hid F1
    have CP : ∀ w, PR w gr s → Calls Tryd.prog 17 #[pt gr, .string X] w (Does w gr (.bool (wordB s x)) (wordS s x)) := fun w hw => by rw [← hX]; exact tkWord_c hw (by omega) x (by have := hx20.out; omega)
    have CD : ∀ w, DRS w gd S s → Calls Tryd.prog 25 #[pt gd, .string X] w (DoesD w gd S (.bool (wordB s x)) (wordS s x)) := fun w hw => by rw [← hX]; exact rtWord_c hw hS x (by have := hx20.out; omega)
    obtain ⟨V, hV⟩ : ∃ V, wordB s x = V := ⟨_, rfl⟩
    obtain ⟨T, hT2⟩ : ∃ T, wordS s x = T := ⟨_, rfl⟩
    rw [hV, hT2] at CP CD
    rw [← hxe, hT2]
    have CP := Lib.hid CP
    have CD := Lib.hid CD
    have k0 := A1.cell (i := 1) rfl
    have klt := A1.lt
    have hgr : W.heap.size ≠ gr := Nat.ne_of_gt (Cells.lt h.p)
    have hgd : W.heap.size ≠ gd := Nat.ne_of_gt h.d.lt
    clear h P1 D1 B1 hT hw1 hX hxe hM hok hV hT2
    go_enter Tryd.func6, Tryd.ntmps6
    go_wp2_with fail
    rw [HW1.out]
    go_region_held3 (fun w' => w'.cell? ⟨W.heap.size, 1, none⟩ = some (.string X))
      (first | exact k0 | exact hs2 | exact hs3)
      (first
        | (go_at_call 17; refine (CP.out _ (by first | exact HT.out.p | exact (show PR w1.drew gr s from HT.out.p))).mono ?_; rintro e w2 ⟨rfl, h2, k2⟩; have k2' : Tk gr w1 w2 := (by first | exact k2 | exact ⟨k2.os, k2.tape, k2.output, k2.size, k2.blk⟩); have hs2 : w2.cell? ⟨W.heap.size, 1, none⟩ = some (.string X) := (cell_same (k2'.blk _ klt hgr)).trans k0; have D2 : DRS w2 gd S s := HT.out.d.tk k2' (Ne.symm hne))
        | (go_at_call 25; refine (CD.out _ (by first | exact D2 | exact (show DRS w2.drew gd S s from D2))).mono ?_; rintro e w3 ⟨rfl, h3, k3⟩; have k3' : Tk gd w2 w3 := (by first | exact k3 | exact ⟨k3.os, k3.tape, k3.output, k3.size, k3.blk⟩); have hs3 : w3.cell? ⟨W.heap.size, 1, none⟩ = some (.string X) := (cell_same (k3'.blk _ (Nat.lt_of_lt_of_le klt k2'.size) hgd)).trans hs2))
    all_goals
      have hps := HT.out.pstep h2 k2' hDr hDW hne
      have H3 := Lib.hid (Two.dstep (t := s) h2 hps.2.1 hps.2.2 h3 k3' hDd hDW hne)
      clear h2 k2 k2' D2 h3 k3 k3' hs2 hs3 hps
      go_wp2_with fail
      go_ret
      exact ⟨by simp, H3.out⟩
  | cons c0 cr =>
    rw [hxe] at e0 hM
    have e0 : X.toList.isEmpty = false := e0
    have hsz : 0 < X.size := by rw [e1, ← hM]; simp
    have hq1 : (0 : Int) < X.size := by omega
    have hc1 : X[0].toNat < 256 := X[0].toNat_lt
    obtain ⟨P1, D1, B1, A1, F1⟩ := ask_world h.p h.d #[.int .u8 5, .string X] #[.int .u8 X[0].toNat] 29 5
    obtain ⟨w1, hw1⟩ : ∃ w1, (W.alloc (.cells #[.int .u8 5, .string X] 29)).alloc (.cells #[.int .u8 X[0].toNat] 5) = w1 := ⟨_, rfl⟩
    rw [hw1] at P1 D1 B1 A1 F1
    have hT : Two D S W w1 gr gd s := ⟨P1, D1, B1.mono hDW, errs_belowD h.e (B1.mono hDW)⟩
    have HT := Lib.hid hT
    have HW1 := Lib.hid hw1
    have HA1 := Lib.hid A1
    have HF1 := Lib.hid F1
    have CP : ∀ w, PR w gr s → Calls Tryd.prog 17 #[pt gr, .string X] w (Does w gr (.bool (wordB s x)) (wordS s x)) := fun w hw => by rw [← hX]; exact tkWord_c hw (by omega) x (by have := hx20.out; omega)
    have CD : ∀ w, DRS w gd S s → Calls Tryd.prog 25 #[pt gd, .string X] w (DoesD w gd S (.bool (wordB s x)) (wordS s x)) := fun w hw => by rw [← hX]; exact rtWord_c hw hS x (by have := hx20.out; omega)
    obtain ⟨V, hV⟩ : ∃ V, wordB s x = V := ⟨_, rfl⟩
    obtain ⟨T, hT2⟩ : ∃ T, wordS s x = T := ⟨_, rfl⟩
    rw [hV, hT2] at CP CD
    rw [← hxe, hT2]
    have CP := Lib.hid CP
    have CD := Lib.hid CD
    have k0 := A1.cell (i := 1) rfl
    have klt := A1.lt
    have hgr : W.heap.size ≠ gr := Nat.ne_of_gt (Cells.lt h.p)
    have hgd : W.heap.size ≠ gd := Nat.ne_of_gt h.d.lt
    clear h P1 D1 B1 hT hw1 hX hxe hM hok hV hT2
    go_enter Tryd.func6, Tryd.ntmps6
    go_wp2_with fail
    rw [HW1.out]
    go_region_held3 (fun w' => w'.cell? ⟨W.heap.size, 1, none⟩ = some (.string X))
      (first | exact k0 | exact hs2 | exact hs3)
      (first
        | (go_at_call 17; refine (CP.out _ (by first | exact HT.out.p | exact (show PR w1.drew gr s from HT.out.p))).mono ?_; rintro e w2 ⟨rfl, h2, k2⟩; have k2' : Tk gr w1 w2 := (by first | exact k2 | exact ⟨k2.os, k2.tape, k2.output, k2.size, k2.blk⟩); have hs2 : w2.cell? ⟨W.heap.size, 1, none⟩ = some (.string X) := (cell_same (k2'.blk _ klt hgr)).trans k0; have D2 : DRS w2 gd S s := HT.out.d.tk k2' (Ne.symm hne))
        | (go_at_call 25; refine (CD.out _ (by first | exact D2 | exact (show DRS w2.drew gd S s from D2))).mono ?_; rintro e w3 ⟨rfl, h3, k3⟩; have k3' : Tk gd w2 w3 := (by first | exact k3 | exact ⟨k3.os, k3.tape, k3.output, k3.size, k3.blk⟩); have hs3 : w3.cell? ⟨W.heap.size, 1, none⟩ = some (.string X) := (cell_same (k3'.blk _ (Nat.lt_of_lt_of_le klt k2'.size) hgd)).trans hs2))
    all_goals
      have hps := HT.out.pstep h2 k2' hDr hDW hne
      have H3 := Lib.hid (Two.dstep (t := s) h2 hps.2.1 hps.2.2 h3 k3' hDd hDW hne)
      clear h2 k2 k2' D2 h3 k3 k3' hs2 hs3 hps
      go_wp2_with fail
      go_ret
      exact ⟨by simp, H3.out⟩
end Go.Proofs.YtidhnhjhdmfpiaaDoor

/-
  The reading of a key, kinds with kids. MADE by wip/tools/mkSrB.py.
  The reading of a key, OR. MADE by wip/tools/mkSrD.py.
  The reading of a key: contract.
  Read: the key that comes next: contract.
  A key that was read is right; the document's whole reading.
  The document's reading of keys below another one, as a loop; lists alone.
  The law's Own of a key: what it does; the beginning.
-/
import Derived.Test.YtpnnchpaaopdcaaGreatDoorZB04
import Derived.Test.YtpnnchpaaopdcaaGreatDoorZB10
import Derived.Deep.CutRange
import Derived.Test.YtpnnchpaaopdcaaGreatDoorZB08
set_option linter.unusedVariables false
set_option linter.unusedSimpArgs false
namespace Go.Proofs.YtpnnchpaaopdcaaGreatDoor
open Go Go.RowKit
variable {W : World} {g : Nat} {s : RS}
theorem bare_kids (kind : Int) (kts : List KT) (kp : Option Addr) (kcap : Nat) : bareK (.mk kind 0 [] 0 [] kts none 0 kp kcap) = .mk kind 0 [] 0 [] (kts.map bareK) none 0 none 0 := by
  rw [bareK, bareL_map]
theorem kids_block {w : World} {R : Nat} {kts : List KT} {c : Array Value} (h : Cells w R 37 c) (hc : c.toList = cellsK kts) (ha : ∀ k ∈ kts, KeyC w k) : KidsC w kts (some ⟨R, 0, none⟩) 0 := by
  refine kids_of kts _ 0 fun j k hj => ?_
  refine ⟨R, 0, rfl, h.lt, fun q u hq => ?_, ha k (List.mem_of_getElem? hj)⟩
  have hq6 : q < 6 := by have := (List.getElem?_eq_some_iff.1 hq).1; rw [cells_six] at this; exact this
  have h1 := cellsK_at kts j hj q hq6
  rw [hq, ← hc] at h1
  rw [show 0 + (0 + j) * 6 + q = j * 6 + q by omega]
  exact h.cell (by simpa using h1)
theorem kt_kids {w : World} {K U : Nat} (kind : Int) (kts : List KT) (kp : Option Addr) (kcap : Nat) (v : Value) (hK : K < U) (h : KidsC w kts kp 0) (hi : KidsIn U kts) (hu : Up U kp) (hm : kts.length ≤ maxLen) :
    KeyC (w.setCell ⟨K, 5, none⟩ v) (.mk kind 0 [] 0 [] kts none 0 kp kcap) ∧ KeyIn U (.mk kind 0 [] 0 [] kts none 0 kp kcap) := by
  constructor
  · unfold KeyC
    exact ⟨by omega, by omega, ⟨by simp [maxLen], hm, by simp [maxLen]⟩, fun i r hr => by simp at hr, KidsC.keep (KeepUp.set _ _ _ hK) kts kp 0 h hu hi⟩
  · unfold KeyIn
    exact ⟨fun a e => by (cases e), hu, hi⟩
set_option maxRecDepth 100000 in
set_option maxHeartbeats 4000000 in
theorem sRead_k8 {f : Nat} (ih : ReadAt f) (hf : f ≤ 15) (h : PR W g s) (hok : s.Ok) (hl : s.l.length ≤ 1100000) (hG : Gl W g) (hk : kindV s = 8) :
    Calls Tryz.prog 74 #[pt g, .int .i64 ((16 - f : Nat) : Int)] W (ReadDoes W g (readF (f + 1) s)) := by
  obtain ⟨w0, hw0, hb0, hs0, h2, h3, hr0⟩ := three_boxes W g ((16 - f : Nat) : Int)
  have hgl := Cells.lt h
  have T0 : Hid (Tk g W w0) := Tk.of_below hb0
  have p0 := h.tk (Tk.of_below (g := g + 1) hb0) (by omega)
  have C0 := sReadKind_c p0 hl (hG.tk T0.out)
  rw [hk] at C0
  have hfw := Fewer.kind hok
  obtain ⟨r, hr⟩ : ∃ r, readF (f + 1) s = r := ⟨_, rfl⟩
  rw [hr]
  unfold readF at hr
  dsimp only at hr
  rw [hk] at hr
  simp only [Nat.reduceEqDiff, or_true, true_or, or_false, false_or, if_true, if_false, reduceCtorEq, or_self] at hr
  obtain ⟨t, ht⟩ : ∃ t, kindS s = t := ⟨_, rfl⟩
  rw [ht] at C0 hfw hr
  have htl : t.l.length ≤ 1100000 := Nat.le_trans hfw.2 hl
  have HTK := Lib.hid hfw.1
  obtain ⟨d, hd⟩ : ∃ d, (16 - f : Nat) = d := ⟨_, rfl⟩
  have HD := Lib.hid hd
  rw [hd] at h3 hw0 ⊢
  have hd1 : 1 ≤ d := by omega
  have hd16 : ¬ (16 : Int) < d := by omega
  have C0 := Lib.hid C0
  have HR := Lib.hid hr
  have HG := Lib.hid hG
  have H2 := Lib.hid h2
  have H3 := Lib.hid h3
  have HR0 := Lib.hid hr0
  have hbl : W.heap.size < w0.heap.size ∧ W.heap.size + 1 < w0.heap.size ∧ W.heap.size + 1 + 1 < w0.heap.size := ⟨by omega, by omega, by omega⟩
  obtain ⟨hb1, hb2, hb3⟩ := hbl
  clear h hok hl hG hk hb0 h2 h3 hr0 hfw hr ht p0 hd
  have h2 := H2.out
  have h3 := H3.out
  go_enter Tryz.func74, Tryz.ntmps74
  go_wp2_with fail
  refine C0.out.mono ?_
  rintro e w1 ⟨rfl, p1, t1⟩
  have k2 := t1.cellN h2 (by omega)
  have hs1 := t1.size
  have hck : Cells (w1.alloc (.cells #[.int .i64 8, .int .u8 0, .slice none 0 0, .int .u32 0, .string ⟨#[]⟩, .slice none 0 0] 37)) w1.heap.size 37 #[.int .i64 8, .int .u8 0, .slice none 0 0, .int .u32 0, .string ⟨#[]⟩, .slice none 0 0] := heap_alloc_new w1 _
  have hbb : Below w1.heap.size w1 (w1.alloc (.cells #[.int .i64 8, .int .u8 0, .slice none 0 0, .int .u32 0, .string ⟨#[]⟩, .slice none 0 0] 37)) := by
    exact (Below.refl _ w1).alloc (Nat.le_refl _) _
  have hz2 : ((w1.alloc (.cells #[.int .i64 8, .int .u8 0, .slice none 0 0, .int .u32 0, .string ⟨#[]⟩, .slice none 0 0] 37))).heap.size = w1.heap.size + 1 := by simp
  have HRD : Hid (RD W g (W.heap.size + 1 + 1) w1.heap.size d t #[.int .i64 8, .int .u8 0, .slice none 0 0, .int .u32 0, .string ⟨#[]⟩, .slice none 0 0] (w1.alloc (.cells #[.int .i64 8, .int .u8 0, .slice none 0 0, .int .u32 0, .string ⟨#[]⟩, .slice none 0 0] 37))) := {
    hg := hgl
    hB := by omega
    hK := by omega
    two := (hbb.cell (p := ⟨W.heap.size, 0, none⟩) (by show W.heap.size < _; omega)).trans k2
    three := (hbb.cell (p := ⟨W.heap.size + 1, 0, none⟩) (by show W.heap.size + 1 < _; omega)).trans (t1.cellN h3 (by omega))
    hB2 := by omega
    ck := hck
    cr := Cells.later (Cells.later HR0.out (t1.blk _ hb3 (by omega))) (hbb.block _ (by omega))
    tk := (T0.out.trans t1).trans (Tk.of_below hbb)
    pr := p1.tk (Tk.of_below (g := g + 1) hbb) (by omega) }
  clear p1 t1 hck hbb
  have h3' : (w1.alloc (.cells #[.int .i64 8, .int .u8 0, .slice none 0 0, .int .u32 0, .string ⟨#[]⟩, .slice none 0 0] 37)).cell? ⟨W.heap.size + 1, 0, none⟩ = some (.int .i64 ((16 - f : Nat) : Int)) := by rw [HD.out]; exact HRD.out.three
  have C1 := Lib.hid (sRead1_c ih (by omega) W.heap.size (W.heap.size + 1) HRD.out.pr HTK.out htl (HG.out.tk HRD.out.tk) HRD.out.two h3' (by omega) (by omega))
  clear k2 h2 h3 h3'
  go_wp2_with fail
  refine C1.out.mono ?_
  rintro e w3 ⟨kx, rfl, hbk, hkc, hki, hpr, htk⟩
  rw [hz2] at hki
  obtain ⟨yk, yf, ym, yn, yl, ysp, ykp, ysc, ykc, Y, hv, hcx⟩ := kx.form
  rw [hv]
  have hw3 := htk.size
  rw [hz2] at hw3
  have hb4 : Below w3.heap.size w3 (w3.alloc (.cells #[.int .i64 yk, .int .u8 yf, .slice ysp ym ysc, .int .u32 yn, .string Y, .slice ykp yl ykc] 37)) := (Below.refl _ w3).alloc (Nat.le_refl _) _
  have HRD3 := Lib.hid ((HRD.out.tk' htk hpr).below hb4)
  have hz4 : (w3.alloc (.cells #[.int .i64 yk, .int .u8 yf, .slice ysp ym ysc, .int .u32 yn, .string Y, .slice ykp yl ykc] 37)).heap.size = w3.heap.size + 1 := by simp
  have HKC := Lib.hid (KeyC.below hb4 kx hkc)
  have hK5 : Hid (KidsC (w3.alloc (.cells #[.int .i64 yk, .int .u8 yf, .slice ysp ym ysc, .int .u32 yn, .string Y, .slice ykp yl ykc] 37)) [kx] (some ⟨w3.heap.size, 0, none⟩) 0) := kids_block (heap_alloc_new w3 _) (by rw [← hcx]; simp [cellsK]) (fun k hk => by rw [List.mem_singleton.1 hk]; exact HKC.out)
  have HBK := Lib.hid hbk
  have HKI := Lib.hid hki
  clear hv hcx hbk hkc hki hpr htk hb4
  have hc := HRD3.out.ck
  have hr := HRD3.out.cr
  have q0 := hc.cell (i := 0) rfl
  have q1 := hc.cell (i := 1) rfl
  have q2 := hc.cell (i := 2) rfl
  have q3 := hc.cell (i := 3) rfl
  have q4 := hc.cell (i := 4) rfl
  have q5 := hc.cell (i := 5) rfl
  have r0 := hr.cell (i := 0) rfl
  have r1 := hr.cell (i := 1) rfl
  have r2 := hr.cell (i := 2) rfl
  have r3 := hr.cell (i := 3) rfl
  have r4 := hr.cell (i := 4) rfl
  have r5 := hr.cell (i := 5) rfl
  have fq := fun i => hc.frozen i
  have fr := fun i => hr.frozen i
  have hcl := hc.lt
  have hrl := hr.lt
  have hne : ¬ w1.heap.size = W.heap.size + 1 + 1 := by omega
  clear hc hr
  go_wp2_with fail
  refine bodyPost_ret (results_k4 _ _ (W.heap.size + 1 + 1) _ _ _ _ _ _ (Cells.six (RD.cr (HRD3.out.set 5 (.slice (some ⟨w3.heap.size, 0, none⟩) 1 1))) _ _ _ _ _ _) rfl) rfl ?_
  have hkk := kt_kids (K := w1.heap.size) (U := w1.heap.size + 1) 8 [kx] (some ⟨w3.heap.size, 0, none⟩) 1 (.slice (some ⟨w3.heap.size, 0, none⟩) 1 1) (by omega) hK5.out (by unfold KidsIn KidsIn; exact ⟨HKI.out, trivial⟩) (fun a e => by cases e; exact hw3) (by simp [maxLen])
  refine RD.fin (HRD3.out.set 5 (.slice (some ⟨w3.heap.size, 0, none⟩) 1 1)) (KT.mk 8 0 [] 0 [] [kx] none 0 (some ⟨w3.heap.size, 0, none⟩) 1) rfl (w1.heap.size + 1) (by omega) hkk.1 hkk.2 _ ?_
  rw [← HR.out, ← HBK.out, bare_kids]
  rfl
set_option maxRecDepth 100000 in
set_option maxHeartbeats 4000000 in
theorem sRead_k10 {f : Nat} (ih : ReadAt f) (hf : f ≤ 15) (h : PR W g s) (hok : s.Ok) (hl : s.l.length ≤ 1100000) (hG : Gl W g) (hk : kindV s = 10) :
    Calls Tryz.prog 74 #[pt g, .int .i64 ((16 - f : Nat) : Int)] W (ReadDoes W g (readF (f + 1) s)) := by
  obtain ⟨w0, hw0, hb0, hs0, h2, h3, hr0⟩ := three_boxes W g ((16 - f : Nat) : Int)
  have hgl := Cells.lt h
  have T0 : Hid (Tk g W w0) := Tk.of_below hb0
  have p0 := h.tk (Tk.of_below (g := g + 1) hb0) (by omega)
  have C0 := sReadKind_c p0 hl (hG.tk T0.out)
  rw [hk] at C0
  have hfw := Fewer.kind hok
  obtain ⟨r, hr⟩ : ∃ r, readF (f + 1) s = r := ⟨_, rfl⟩
  rw [hr]
  unfold readF at hr
  dsimp only at hr
  rw [hk] at hr
  simp only [Nat.reduceEqDiff, or_true, true_or, or_false, false_or, if_true, if_false, reduceCtorEq, or_self] at hr
  obtain ⟨t, ht⟩ : ∃ t, kindS s = t := ⟨_, rfl⟩
  rw [ht] at C0 hfw hr
  have htl : t.l.length ≤ 1100000 := Nat.le_trans hfw.2 hl
  have HTK := Lib.hid hfw.1
  obtain ⟨d, hd⟩ : ∃ d, (16 - f : Nat) = d := ⟨_, rfl⟩
  have HD := Lib.hid hd
  rw [hd] at h3 hw0 ⊢
  have hd1 : 1 ≤ d := by omega
  have hd16 : ¬ (16 : Int) < d := by omega
  have C0 := Lib.hid C0
  have HR := Lib.hid hr
  have HG := Lib.hid hG
  have H2 := Lib.hid h2
  have H3 := Lib.hid h3
  have HR0 := Lib.hid hr0
  have hbl : W.heap.size < w0.heap.size ∧ W.heap.size + 1 < w0.heap.size ∧ W.heap.size + 1 + 1 < w0.heap.size := ⟨by omega, by omega, by omega⟩
  obtain ⟨hb1, hb2, hb3⟩ := hbl
  clear h hok hl hG hk hb0 h2 h3 hr0 hfw hr ht p0 hd
  have h2 := H2.out
  have h3 := H3.out
  go_enter Tryz.func74, Tryz.ntmps74
  go_wp2_with fail
  refine C0.out.mono ?_
  rintro e w1 ⟨rfl, p1, t1⟩
  have k2 := t1.cellN h2 (by omega)
  have hs1 := t1.size
  have hck : Cells (w1.alloc (.cells #[.int .i64 10, .int .u8 0, .slice none 0 0, .int .u32 0, .string ⟨#[]⟩, .slice none 0 0] 37)) w1.heap.size 37 #[.int .i64 10, .int .u8 0, .slice none 0 0, .int .u32 0, .string ⟨#[]⟩, .slice none 0 0] := heap_alloc_new w1 _
  have hbb : Below w1.heap.size w1 (w1.alloc (.cells #[.int .i64 10, .int .u8 0, .slice none 0 0, .int .u32 0, .string ⟨#[]⟩, .slice none 0 0] 37)) := by
    exact (Below.refl _ w1).alloc (Nat.le_refl _) _
  have hz2 : ((w1.alloc (.cells #[.int .i64 10, .int .u8 0, .slice none 0 0, .int .u32 0, .string ⟨#[]⟩, .slice none 0 0] 37))).heap.size = w1.heap.size + 1 := by simp
  have HRD : Hid (RD W g (W.heap.size + 1 + 1) w1.heap.size d t #[.int .i64 10, .int .u8 0, .slice none 0 0, .int .u32 0, .string ⟨#[]⟩, .slice none 0 0] (w1.alloc (.cells #[.int .i64 10, .int .u8 0, .slice none 0 0, .int .u32 0, .string ⟨#[]⟩, .slice none 0 0] 37))) := {
    hg := hgl
    hB := by omega
    hK := by omega
    two := (hbb.cell (p := ⟨W.heap.size, 0, none⟩) (by show W.heap.size < _; omega)).trans k2
    three := (hbb.cell (p := ⟨W.heap.size + 1, 0, none⟩) (by show W.heap.size + 1 < _; omega)).trans (t1.cellN h3 (by omega))
    hB2 := by omega
    ck := hck
    cr := Cells.later (Cells.later HR0.out (t1.blk _ hb3 (by omega))) (hbb.block _ (by omega))
    tk := (T0.out.trans t1).trans (Tk.of_below hbb)
    pr := p1.tk (Tk.of_below (g := g + 1) hbb) (by omega) }
  clear p1 t1 hck hbb
  have h3' : (w1.alloc (.cells #[.int .i64 10, .int .u8 0, .slice none 0 0, .int .u32 0, .string ⟨#[]⟩, .slice none 0 0] 37)).cell? ⟨W.heap.size + 1, 0, none⟩ = some (.int .i64 ((16 - f : Nat) : Int)) := by rw [HD.out]; exact HRD.out.three
  have C1 := Lib.hid (sReadKids_c ih (by omega) W.heap.size (W.heap.size + 1) HRD.out.pr HTK.out htl (HG.out.tk HRD.out.tk) HRD.out.two h3' (by omega) (by omega))
  have hfk := (Fewer.kids (rd := readF f) (Fewer.read f) HTK.out).2
  have k2' := HRD.out.two
  clear k2 h2 h3 h3'
  go_wp2_with fail
  refine C1.out.mono ?_
  rintro e w3 ⟨kts, kp, kcap, rfl, hbk, hkc, hup, hki, hpr, htk⟩
  rw [hz2] at hki hup
  have hkl : kts.length ≤ maxLen := by
    have : kts.length = (kidsF (readF f) t).1.length := by rw [← hbk, bareL_map, List.length_map]
    unfold maxLen; omega
  have HRD3 := Lib.hid (HRD.out.tk' htk hpr)
  have HKC := Lib.hid hkc
  have HBK := Lib.hid hbk
  have HKI := Lib.hid hki
  have HUP := Lib.hid hup
  have HKL := Lib.hid hkl
  clear hbk hkc hki hpr htk hup hkl
  have hc := HRD3.out.ck
  have hr := HRD3.out.cr
  have q0 := hc.cell (i := 0) rfl
  have q1 := hc.cell (i := 1) rfl
  have q2 := hc.cell (i := 2) rfl
  have q3 := hc.cell (i := 3) rfl
  have q4 := hc.cell (i := 4) rfl
  have q5 := hc.cell (i := 5) rfl
  have r0 := hr.cell (i := 0) rfl
  have r1 := hr.cell (i := 1) rfl
  have r2 := hr.cell (i := 2) rfl
  have r3 := hr.cell (i := 3) rfl
  have r4 := hr.cell (i := 4) rfl
  have r5 := hr.cell (i := 5) rfl
  have fq := fun i => hc.frozen i
  have fr := fun i => hr.frozen i
  have hcl := hc.lt
  have hrl := hr.lt
  have hne : ¬ w1.heap.size = W.heap.size + 1 + 1 := by omega
  clear hc hr
  go_wp2_with fail
  refine bodyPost_ret (results_k4 _ _ (W.heap.size + 1 + 1) _ _ _ _ _ _ (Cells.six (RD.cr (HRD3.out.set 5 (.slice kp kts.length kcap))) _ _ _ _ _ _) rfl) rfl ?_
  have hkk := kt_kids (K := w1.heap.size) (U := w1.heap.size + 1) 10 kts kp kcap (.slice kp kts.length kcap) (by omega) HKC.out HKI.out HUP.out HKL.out
  refine RD.fin (HRD3.out.set 5 (.slice kp kts.length kcap)) (KT.mk 10 0 [] 0 [] kts none 0 kp kcap) rfl (w1.heap.size + 1) (by omega) hkk.1 hkk.2 _ ?_
  rw [← HR.out, ← HBK.out, bare_kids, bareL_map]
  rfl
end Go.Proofs.YtpnnchpaaopdcaaGreatDoor
namespace Go.Proofs.YtpnnchpaaopdcaaGreatDoor
open Go Go.RowKit
variable {W : World} {g : Nat} {s : RS}
theorem RD.drew {B K : Nat} {d : Int} {t : RS} {c : Array Value} {w : World} (h : RD W g B K d t c w) : RD W g B K d t c w.drew := h.below (Below.refl _ w).drew
def OrRel (W : World) (g B K : Nat) (d : Int) (t : RS) (kx : KT) (r : KT) (wx : World) : Prop :=
  ∃ ky R, bareK ky = r ∧ RD W g B K d t #[.int .i64 9, .int .u8 0, .slice none 0 0, .int .u32 0, .string ⟨#[]⟩, .slice (some ⟨R, 0, none⟩) 2 2] wx ∧ KeyC wx (.mk 9 0 [] 0 [] [kx, ky] none 0 (some ⟨R, 0, none⟩) 2) ∧ KeyIn (K + 1) (.mk 9 0 [] 0 [] [kx, ky] none 0 (some ⟨R, 0, none⟩) 2)
theorem or_done {B K : Nat} {d : Int} {t : RS} {w : World} {kx ky : KT} {r : KT} (h : RD W g B K d t #[.int .i64 9, .int .u8 0, .slice none 0 0, .int .u32 0, .string ⟨#[]⟩, .slice none 0 0] w) (hx : KeyC w kx) (hy : KeyC w ky) (ix : KeyIn (K + 1) kx) (iy : KeyIn (K + 1) ky) (hr : bareK ky = r) (a0 a1 a2 a3 a4 a5 b0 b1 b2 b3 b4 b5 : Value)
    (cx : kx.cells = [a0, a1, a2, a3, a4, a5]) (cy : ky.cells = [b0, b1, b2, b3, b4, b5]) :
    OrRel W g B K d t kx r ((w.setCell ⟨K, 5, none⟩ (.slice (some ⟨w.heap.size, 0, none⟩) 2 2)).alloc (.cells #[a0, a1, a2, a3, a4, a5, b0, b1, b2, b3, b4, b5] 37)) := by
  have hkl := Cells.lt h.ck
  obtain ⟨w', hw'⟩ : ∃ w', w.setCell ⟨K, 5, none⟩ (.slice (some ⟨w.heap.size, 0, none⟩) 2 2) = w' := ⟨_, rfl⟩
  have hrd := h.set 5 (.slice (some ⟨w.heap.size, 0, none⟩) 2 2)
  have hku := KeepUp.set (B := K + 1) w 5 (.slice (some ⟨w.heap.size, 0, none⟩) 2 2) (Nat.lt_succ_self K)
  have hsz := size_setCell w ⟨K, 5, none⟩ (.slice (some ⟨w.heap.size, 0, none⟩) 2 2)
  rw [hw'] at hrd hku hsz ⊢
  have hb : Below w'.heap.size w' (w'.alloc (.cells #[a0, a1, a2, a3, a4, a5, b0, b1, b2, b3, b4, b5] 37)) := (Below.refl _ w').alloc (Nat.le_refl _) _
  rw [← hsz] at hrd hkl
  have hkid := kids_block (kts := [kx, ky]) (w := w'.alloc (.cells #[a0, a1, a2, a3, a4, a5, b0, b1, b2, b3, b4, b5] 37)) (heap_alloc_new w' _) (by simp [cellsK, cx, cy]) (fun k hk => by
      rcases List.mem_cons.1 hk with e | hk
      · rw [e]; exact KeyC.below hb kx (KeyC.keep hku kx hx ix)
      · rw [List.mem_singleton.1 hk]; exact KeyC.below hb ky (KeyC.keep hku ky hy iy))
  refine ⟨ky, w'.heap.size, hr, hrd.below hb, ?_, ?_⟩
  · unfold KeyC
    exact ⟨by omega, by omega, ⟨by simp [maxLen], by simp [maxLen], by simp [maxLen]⟩, fun i r hr => by simp at hr, hkid⟩
  · unfold KeyIn KidsIn KidsIn KidsIn
    exact ⟨fun a e => by (cases e), fun a e => by cases e; exact hkl, ix, iy, trivial⟩
set_option maxRecDepth 100000 in
set_option maxHeartbeats 4000000 in
theorem sRead_k9 {f : Nat} (ih : ReadAt f) (hf : f ≤ 15) (h : PR W g s) (hok : s.Ok) (hl : s.l.length ≤ 1100000) (hG : Gl W g) (hk : kindV s = 9) :
    Calls Tryz.prog 74 #[pt g, .int .i64 ((16 - f : Nat) : Int)] W (ReadDoes W g (readF (f + 1) s)) := by
  obtain ⟨w0, hw0, hb0, hs0, h2, h3, hr0⟩ := three_boxes W g ((16 - f : Nat) : Int)
  have hgl := Cells.lt h
  have T0 : Hid (Tk g W w0) := Tk.of_below hb0
  have p0 := h.tk (Tk.of_below (g := g + 1) hb0) (by omega)
  have C0 := sReadKind_c p0 hl (hG.tk T0.out)
  rw [hk] at C0
  have hfw := Fewer.kind hok
  obtain ⟨r, hr⟩ : ∃ r, readF (f + 1) s = r := ⟨_, rfl⟩
  rw [hr]
  unfold readF at hr
  dsimp only at hr
  rw [hk] at hr
  simp only [Nat.reduceEqDiff, or_true, true_or, or_false, false_or, if_true, if_false, reduceCtorEq, or_self] at hr
  obtain ⟨t, ht⟩ : ∃ t, kindS s = t := ⟨_, rfl⟩
  rw [ht] at C0 hfw hr
  have htl : t.l.length ≤ 1100000 := Nat.le_trans hfw.2 hl
  have HTK := Lib.hid hfw.1
  obtain ⟨d, hd⟩ : ∃ d, (16 - f : Nat) = d := ⟨_, rfl⟩
  have HD := Lib.hid hd
  rw [hd] at h3 hw0 ⊢
  have hd1 : 1 ≤ d := by omega
  have hd16 : ¬ (16 : Int) < d := by omega
  have C0 := Lib.hid C0
  have HR := Lib.hid hr
  have HG := Lib.hid hG
  have H2 := Lib.hid h2
  have H3 := Lib.hid h3
  have HR0 := Lib.hid hr0
  have hbl : W.heap.size < w0.heap.size ∧ W.heap.size + 1 < w0.heap.size ∧ W.heap.size + 1 + 1 < w0.heap.size := ⟨by omega, by omega, by omega⟩
  obtain ⟨hb1, hb2, hb3⟩ := hbl
  clear h hok hl hG hk hb0 h2 h3 hr0 hfw hr ht p0 hd
  have h2 := H2.out
  have h3 := H3.out
  go_enter Tryz.func74, Tryz.ntmps74
  go_wp2_with fail
  refine C0.out.mono ?_
  rintro e w1 ⟨rfl, p1, t1⟩
  have k2 := t1.cellN h2 (by omega)
  have hs1 := t1.size
  have hck : Cells (w1.alloc (.cells #[.int .i64 9, .int .u8 0, .slice none 0 0, .int .u32 0, .string ⟨#[]⟩, .slice none 0 0] 37)) w1.heap.size 37 #[.int .i64 9, .int .u8 0, .slice none 0 0, .int .u32 0, .string ⟨#[]⟩, .slice none 0 0] := heap_alloc_new w1 _
  have hbb : Below w1.heap.size w1 (w1.alloc (.cells #[.int .i64 9, .int .u8 0, .slice none 0 0, .int .u32 0, .string ⟨#[]⟩, .slice none 0 0] 37)) := by
    exact (Below.refl _ w1).alloc (Nat.le_refl _) _
  have hz2 : ((w1.alloc (.cells #[.int .i64 9, .int .u8 0, .slice none 0 0, .int .u32 0, .string ⟨#[]⟩, .slice none 0 0] 37))).heap.size = w1.heap.size + 1 := by simp
  have HRD : Hid (RD W g (W.heap.size + 1 + 1) w1.heap.size d t #[.int .i64 9, .int .u8 0, .slice none 0 0, .int .u32 0, .string ⟨#[]⟩, .slice none 0 0] (w1.alloc (.cells #[.int .i64 9, .int .u8 0, .slice none 0 0, .int .u32 0, .string ⟨#[]⟩, .slice none 0 0] 37))) := {
    hg := hgl
    hB := by omega
    hK := by omega
    two := (hbb.cell (p := ⟨W.heap.size, 0, none⟩) (by show W.heap.size < _; omega)).trans k2
    three := (hbb.cell (p := ⟨W.heap.size + 1, 0, none⟩) (by show W.heap.size + 1 < _; omega)).trans (t1.cellN h3 (by omega))
    hB2 := by omega
    ck := hck
    cr := Cells.later (Cells.later HR0.out (t1.blk _ hb3 (by omega))) (hbb.block _ (by omega))
    tk := (T0.out.trans t1).trans (Tk.of_below hbb)
    pr := p1.tk (Tk.of_below (g := g + 1) hbb) (by omega) }
  clear p1 t1 hck hbb
  have h3' : (w1.alloc (.cells #[.int .i64 9, .int .u8 0, .slice none 0 0, .int .u32 0, .string ⟨#[]⟩, .slice none 0 0] 37)).cell? ⟨W.heap.size + 1, 0, none⟩ = some (.int .i64 ((16 - f : Nat) : Int)) := by rw [HD.out]; exact HRD.out.three
  have C1 := Lib.hid (sRead1_c ih (by omega) W.heap.size (W.heap.size + 1) HRD.out.pr HTK.out htl (HG.out.tk HRD.out.tk) HRD.out.two h3' (by omega) (by omega))
  have hf1 := Fewer.read f t HTK.out
  obtain ⟨a, ha⟩ : ∃ a, readF f t = a := ⟨_, rfl⟩
  have hr9 := HR.out
  rw [ha] at C1 hf1 hr9
  have hok2 := (Fewer.must hf1.1 [32]).1
  have hlen2 : (mustS a.2 [32]).l.length ≤ 1100000 := Nat.le_trans (must_le _ _) (Nat.le_trans hf1.2 htl)
  have hlen1 : a.2.l.length ≤ 1100000 := Nat.le_trans hf1.2 htl
  obtain ⟨t2, ht2⟩ : ∃ t2, mustS a.2 [32] = t2 := ⟨_, rfl⟩
  rw [ht2] at hok2 hlen2 hr9
  have C2 : Hid (∀ x, RD W g (W.heap.size + 1 + 1) w1.heap.size d t2 #[.int .i64 9, .int .u8 0, .slice none 0 0, .int .u32 0, .string ⟨#[]⟩, .slice none 0 0] x → Calls Tryz.prog 133 #[.pointer (some ⟨W.heap.size, 0, none⟩), .pointer (some ⟨W.heap.size + 1, 0, none⟩)] x (ReadDoes x g (readF f t2))) := fun x hx => by
    have h3x : x.cell? ⟨W.heap.size + 1, 0, none⟩ = some (.int .i64 ((16 - f : Nat) : Int)) := by rw [HD.out]; exact hx.three
    exact sRead1_c ih (by omega) W.heap.size (W.heap.size + 1) hx.pr hok2 hlen2 (HG.out.tk hx.tk) hx.two h3x (cell_ltA hx.two) (cell_ltA hx.three)
  have HR9 := Lib.hid hr9
  have HT2 := Lib.hid ht2
  clear k2 h2 h3 h3' hr9 ht2 ha hf1 hok2
  go_wp2_with fail
  refine C1.out.mono ?_
  rintro e w3 ⟨kx, rfl, hbk, hkc, hki, hpr, htk⟩
  rw [hz2] at hki
  obtain ⟨xk, xf, xm, xn, xl, xsp, xkp, xsc, xkc, X, hv, hcx⟩ := kx.form
  have hclx : kx.cells = [.int .i64 xk, .int .u8 xf, .slice xsp xm xsc, .int .u32 xn, .string X, .slice xkp xl xkc] := by
    have := congrArg Array.toList hcx; simpa using this
  rw [hv]
  have hw3 := htk.size
  rw [hz2] at hw3
  have hb4 : Below w3.heap.size w3 (w3.alloc (.cells #[.int .i64 xk, .int .u8 xf, .slice xsp xm xsc, .int .u32 xn, .string X, .slice xkp xl xkc] 37)) := (Below.refl _ w3).alloc (Nat.le_refl _) _
  have HRD4 := Lib.hid ((HRD.out.tk' htk hpr).below hb4)
  have hz4 : (w3.alloc (.cells #[.int .i64 xk, .int .u8 xf, .slice xsp xm xsc, .int .u32 xn, .string X, .slice xkp xl xkc] 37)).heap.size = w3.heap.size + 1 := by simp
  have HKC := Lib.hid (KeyC.below hb4 kx hkc)
  have HX7 : Hid (Cells (w3.alloc (.cells #[.int .i64 xk, .int .u8 xf, .slice xsp xm xsc, .int .u32 xn, .string X, .slice xkp xl xkc] 37)) w3.heap.size 37 #[.int .i64 xk, .int .u8 xf, .slice xsp xm xsc, .int .u32 xn, .string X, .slice xkp xl xkc]) := heap_alloc_new w3 _
  have CB := Lib.hid (tkBlank_c HRD4.out.pr hlen1)
  have k4 := HRD4.out.two
  have HBK := Lib.hid hbk
  have HKI := Lib.hid hki
  have HCX := Lib.hid hclx
  clear hv hcx hbk hkc hki hpr htk hb4 hclx
  go_wp2_with fail
  refine CB.out.mono ?_
  rintro e w5 ⟨rfl, p5, t5⟩
  rw [HT2.out] at p5
  have HRD5 := Lib.hid (HRD4.out.tk' t5 p5)
  have HKC5 := Lib.hid (KeyC.keep (B := w1.heap.size + 1) (KeepUp.tk t5 (by omega)) kx HKC.out HKI.out)
  have HX5 := Lib.hid (Cells.later HX7.out (t5.blk _ (Cells.lt HX7.out) (by omega)))
  have hw5 := t5.size
  rw [hz4] at hw5
  clear p5 t5 k4
  have FS0 : ∀ x, KeepUp (w1.heap.size + 1) w5 x → ∀ i (u : Value), (#[.int .i64 xk, .int .u8 xf, .slice xsp xm xsc, .int .u32 xn, .string X, .slice xkp xl xkc] : Array Value)[i]? = some u → x.cell? ⟨w3.heap.size, i, none⟩ = some u := fun x hx i u hu => (hx.cell (by omega) (by omega)).trans (Cells.cell HX5.out hu)
  have FS : Hid (∀ x, KeepUp (w1.heap.size + 1) w5 x → x.cell? ⟨w3.heap.size, 0, none⟩ = some (.int .i64 xk) ∧ x.cell? ⟨w3.heap.size, 1, none⟩ = some (.int .u8 xf) ∧ x.cell? ⟨w3.heap.size, 2, none⟩ = some (.slice xsp xm xsc) ∧ x.cell? ⟨w3.heap.size, 3, none⟩ = some (.int .u32 xn) ∧ x.cell? ⟨w3.heap.size, 4, none⟩ = some (.string X) ∧ x.cell? ⟨w3.heap.size, 5, none⟩ = some (.slice xkp xl xkc)) := fun x h => ⟨FS0 _ h 0 _ rfl, FS0 _ h 1 _ rfl, FS0 _ h 2 _ rfl, FS0 _ h 3 _ rfl, FS0 _ h 4 _ rfl, FS0 _ h 5 _ rfl⟩
  clear FS0
  go_wp2_with fail
  go_region_held3 (fun x => x.cell? ⟨w3.heap.size, 0, none⟩ = some (.int .i64 xk) ∧ x.cell? ⟨w3.heap.size, 1, none⟩ = some (.int .u8 xf) ∧ x.cell? ⟨w3.heap.size, 2, none⟩ = some (.slice xsp xm xsc) ∧ x.cell? ⟨w3.heap.size, 3, none⟩ = some (.int .u32 xn) ∧ x.cell? ⟨w3.heap.size, 4, none⟩ = some (.string X) ∧ x.cell? ⟨w3.heap.size, 5, none⟩ = some (.slice xkp xl xkc))
      (first | exact FS.out _ (KeepUp.below (Below.refl _ _)) | exact FS.out _ (KeepUp.below (Below.refl _ _).drew) | exact hs6 | exact FS.out _ (HKU6.out.trans (KeepUp.below ((Below.refl _ w6).alloc (Nat.le_refl _) _))) | exact FS.out _ ((HKU6.out.trans (KeepUp.set _ _ _ (Nat.lt_succ_self _))).trans (KeepUp.below ((Below.refl _ _).alloc (Nat.le_refl _) _))) | exact FS.out _ ((HKU6.out.trans (KeepUp.below ((Below.refl _ w6).alloc (Nat.le_refl _) _))).trans (KeepUp.set _ _ _ (Nat.lt_succ_self _))))
      ((go_at_call 133; refine (C2.out _ (by first | exact HRD5.out | exact HRD5.out.drew)).mono ?_; rintro e w6 ⟨ky, rfl, hbk2, hkc2, hki2, hpr2, htk2⟩; have HKU6 : Hid (KeepUp (w1.heap.size + 1) w5 w6) := (by first | exact KeepUp.tk htk2 (by omega) | exact (KeepUp.below (Below.refl _ _).drew).trans (KeepUp.tk htk2 (by omega))); have hs6 := FS.out _ HKU6.out; have HRD6 : Hid (RD W g (W.heap.size + 1 + 1) w1.heap.size d (readF f t2).2 #[.int .i64 9, .int .u8 0, .slice none 0 0, .int .u32 0, .string ⟨#[]⟩, .slice none 0 0] w6) := (by first | exact HRD5.out.tk' htk2 hpr2 | exact HRD5.out.drew.tk' htk2 hpr2); have HKC6 := Lib.hid (KeyC.keep HKU6.out kx HKC5.out HKI.out); have HKI6 : Hid (KeyIn (w1.heap.size + 1) ky) := KeyIn.mono (by first | omega | (show w1.heap.size + 1 ≤ w5.heap.size; omega)) ky hki2; have HKY6 := Lib.hid hkc2; have HBY6 := Lib.hid hbk2; obtain ⟨yk, yf, ym, yn, yl, ysp, ykp, ysc, ykc, Y, hv2, hcy⟩ := ky.form; rw [hv2]; have HCY := Lib.hid hcy; have k5 := Cells.cell HRD6.out.ck (i := 5) rfl; have k5f := Cells.frozen HRD6.out.ck 5; have k5l := Cells.lt HRD6.out.ck; clear hbk2 hkc2 hki2 hpr2 htk2 hv2 hcy))
  have hor := or_done HRD6.out HKC6.out HKY6.out HKI.out HKI6.out HBY6.out _ _ _ _ _ _ _ _ _ _ _ _ HCX.out (by have := congrArg Array.toList HCY.out; simpa using this)
  obtain ⟨w7, hw7⟩ : ∃ w7, (w6.setCell ⟨w1.heap.size, 5, none⟩ (.slice (some ⟨w6.heap.size, 0, none⟩) 2 2)).alloc (.cells #[.int .i64 xk, .int .u8 xf, .slice xsp xm xsc, .int .u32 xn, .string X, .slice xkp xl xkc, .int .i64 yk, .int .u8 yf, .slice ysp ym ysc, .int .u32 yn, .string Y, .slice ykp yl ykc] 37) = w7 := ⟨_, rfl⟩
  rw [hw7] at hor ⊢
  clear hw7
  obtain ⟨kz, R, hbz, hrd7, hkc7, hki7⟩ := hor
  have HRD3 := Lib.hid hrd7
  have HKC7 := Lib.hid hkc7
  have HKI7 := Lib.hid hki7
  have HBZ := Lib.hid hbz
  clear hrd7 hkc7 hki7 hbz k5 k5f k5l hs6
  have hc := HRD3.out.ck
  have hr := HRD3.out.cr
  have q0 := hc.cell (i := 0) rfl
  have q1 := hc.cell (i := 1) rfl
  have q2 := hc.cell (i := 2) rfl
  have q3 := hc.cell (i := 3) rfl
  have q4 := hc.cell (i := 4) rfl
  have q5 := hc.cell (i := 5) rfl
  have r0 := hr.cell (i := 0) rfl
  have r1 := hr.cell (i := 1) rfl
  have r2 := hr.cell (i := 2) rfl
  have r3 := hr.cell (i := 3) rfl
  have r4 := hr.cell (i := 4) rfl
  have r5 := hr.cell (i := 5) rfl
  have fq := fun i => hc.frozen i
  have fr := fun i => hr.frozen i
  have hcl := hc.lt
  have hrl := hr.lt
  have hne : ¬ w1.heap.size = W.heap.size + 1 + 1 := by omega
  clear hc hr
  go_wp2_with fail
  refine bodyPost_ret (results_k4 _ _ (W.heap.size + 1 + 1) _ _ _ _ _ _ (Cells.six (RD.cr HRD3.out) _ _ _ _ _ _) rfl) rfl ?_
  refine RD.fin HRD3.out (KT.mk 9 0 [] 0 [] [kx, kz] none 0 (some ⟨R, 0, none⟩) 2) rfl (w1.heap.size + 1) (by omega) HKC7.out HKI7.out _ ?_
  rw [← HR9.out, bare_kids]
  show (KT.mk 9 0 [] 0 [] [bareK kx, bareK kz] none 0 none 0, _) = _
  rw [HBK.out, HBZ.out]
  rfl
end Go.Proofs.YtpnnchpaaopdcaaGreatDoor
namespace Go.Proofs.YtpnnchpaaopdcaaGreatDoor
open Go Go.RowKit
variable {W : World} {g : Nat} {s : RS}
set_option maxRecDepth 100000 in
set_option maxHeartbeats 4000000 in
theorem sRead_deep (h : PR W g s) (hG : Gl W g) : Calls Tryz.prog 74 #[pt g, .int .i64 17] W (ReadDoes W g (plainK 1 0 [] 0 [] [], .gone)) := by
  obtain ⟨w0, hw0, hb0, hs0, h2, h3, hr0⟩ := three_boxes W g 17
  have hgl := Cells.lt h
  have T0 : Hid (Tk g W w0) := Tk.of_below hb0
  have p0 := h.tk (Tk.of_below (g := g + 1) hb0) (by omega)
  have CF := Lib.hid (tkFail_c p0)
  have HG := Lib.hid hG
  have H2 := Lib.hid h2
  have H3 := Lib.hid h3
  have HR0 := Lib.hid hr0
  have hbl : W.heap.size < w0.heap.size ∧ W.heap.size + 1 < w0.heap.size ∧ W.heap.size + 1 + 1 < w0.heap.size := ⟨by omega, by omega, by omega⟩
  obtain ⟨hb1, hb2, hb3⟩ := hbl
  clear h hG hb0 h2 h3 hr0 p0
  have h2 := H2.out
  have h3 := H3.out
  go_enter Tryz.func74, Tryz.ntmps74
  go_wp2_with fail
  refine CF.out.mono ?_
  rintro e wf ⟨rfl, pf, tf⟩
  have j2 := tf.cellN h2 (by omega)
  have j3 := tf.cellN h3 (by omega)
  have C0 := sReadKind_c pf (Nat.zero_le _) (HG.out.tk (T0.out.trans tf))
  rw [kind_gone.1, kind_gone.2] at C0
  have C0 := Lib.hid C0
  have TF := Lib.hid tf
  have hsf := tf.size
  clear h2 h3 pf tf
  go_wp2_with fail
  refine C0.out.mono ?_
  rintro e w1 ⟨rfl, p1, t1⟩
  have k2 := t1.cellN j2 (by omega)
  have hs1 := t1.size
  have hck : Cells (w1.alloc (.cells #[.int .i64 1, .int .u8 0, .slice none 0 0, .int .u32 0, .string ⟨#[]⟩, .slice none 0 0] 37)) w1.heap.size 37 #[.int .i64 1, .int .u8 0, .slice none 0 0, .int .u32 0, .string ⟨#[]⟩, .slice none 0 0] := heap_alloc_new w1 _
  have hbb : Below w1.heap.size w1 (w1.alloc (.cells #[.int .i64 1, .int .u8 0, .slice none 0 0, .int .u32 0, .string ⟨#[]⟩, .slice none 0 0] 37)) := (Below.refl _ w1).alloc (Nat.le_refl _) _
  have hz2 : (w1.alloc (.cells #[.int .i64 1, .int .u8 0, .slice none 0 0, .int .u32 0, .string ⟨#[]⟩, .slice none 0 0] 37)).heap.size = w1.heap.size + 1 := by simp
  have HRD : Hid (RD W g (W.heap.size + 1 + 1) w1.heap.size 17 .gone #[.int .i64 1, .int .u8 0, .slice none 0 0, .int .u32 0, .string ⟨#[]⟩, .slice none 0 0] (w1.alloc (.cells #[.int .i64 1, .int .u8 0, .slice none 0 0, .int .u32 0, .string ⟨#[]⟩, .slice none 0 0] 37))) := {
    hg := hgl
    hB := by omega
    hK := by omega
    two := (hbb.cell (p := ⟨W.heap.size, 0, none⟩) (by show W.heap.size < _; omega)).trans k2
    three := (hbb.cell (p := ⟨W.heap.size + 1, 0, none⟩) (by show W.heap.size + 1 < _; omega)).trans (t1.cellN j3 (by omega))
    hB2 := by omega
    ck := hck
    cr := Cells.later (Cells.later HR0.out ((TF.out.trans t1).blk _ hb3 (by omega))) (hbb.block _ (by omega))
    tk := ((T0.out.trans TF.out).trans t1).trans (Tk.of_below hbb)
    pr := p1.tk (Tk.of_below (g := g + 1) hbb) (by omega) }
  clear p1 t1 hck hbb
  have C1 := sReadFlag_c HRD.out.pr (Nat.zero_le _) (HG.out.tk HRD.out.tk)
  rw [flag_gone.1, flag_gone.2] at C1
  have C1 := Lib.hid C1
  have k2' := HRD.out.two
  clear k2 j2 j3
  go_wp2_with fail
  refine C1.out.mono ?_
  rintro e w3 ⟨rfl, p3, t3⟩
  have HRD3 := Lib.hid (HRD.out.tk' t3 p3)
  clear p3 t3
  have hc := HRD3.out.ck
  have hr := HRD3.out.cr
  have q0 := hc.cell (i := 0) rfl
  have q1 := hc.cell (i := 1) rfl
  have q2 := hc.cell (i := 2) rfl
  have q3 := hc.cell (i := 3) rfl
  have q4 := hc.cell (i := 4) rfl
  have q5 := hc.cell (i := 5) rfl
  have r0 := hr.cell (i := 0) rfl
  have r1 := hr.cell (i := 1) rfl
  have r2 := hr.cell (i := 2) rfl
  have r3 := hr.cell (i := 3) rfl
  have r4 := hr.cell (i := 4) rfl
  have r5 := hr.cell (i := 5) rfl
  have fq := fun i => hc.frozen i
  have fr := fun i => hr.frozen i
  have hcl := hc.lt
  have hrl := hr.lt
  have hne : ¬ w1.heap.size = W.heap.size + 1 + 1 := by omega
  clear hc hr
  go_wp2_with fail
  refine bodyPost_ret (results_k4 _ _ (W.heap.size + 1 + 1) _ _ _ _ _ _ (Cells.six (RD.cr (HRD3.out.set 1 (.int .u8 0))) _ _ _ _ _ _) rfl) rfl ?_
  refine RD.fin (HRD3.out.set 1 (.int .u8 0)) (KT.mk 1 0 [] 0 [] [] none 0 none 0) rfl (w1.heap.size + 1) (by omega) ?_ ?_ _ rfl
  · unfold KeyC; exact ⟨by omega, by omega, ⟨by simp [maxLen], by simp [maxLen], by simp [maxLen]⟩, fun i r hr => by simp at hr, by unfold KidsC; trivial⟩
  · unfold KeyIn; exact ⟨fun a e => by (cases e), fun a e => by (cases e), by unfold KidsIn; trivial⟩
theorem sRead_at : ∀ f, f ≤ 16 → ReadAt f
  | 0, _ => fun W g s h hok hl hG => by
    have e : ((17 - 0 : Nat) : Int) = 17 := rfl
    rw [e]
    exact sRead_deep h hG
  | f + 1, hf => fun W g s h hok hl hG => by
    have ih := sRead_at f (by omega)
    have e : (17 - (f + 1) : Nat) = 16 - f := by omega
    rw [e]
    have hk := kindV_le s
    have hf' : f ≤ 15 := by omega
    obtain h0 | h0 | h0 | h0 | h0 | h0 | h0 | h0 | h0 | h0 | h0 : kindV s = 0 ∨ kindV s = 1 ∨ kindV s = 2 ∨ kindV s = 3 ∨ kindV s = 4 ∨ kindV s = 5 ∨ kindV s = 6 ∨ kindV s = 7 ∨ kindV s = 8 ∨ kindV s = 9 ∨ kindV s = 10 := by omega
    · exact sRead_k0 ih hf' h hok hl hG h0
    · exact sRead_k1 ih hf' h hok hl hG h0
    · exact sRead_k2 ih hf' h hok hl hG h0
    · exact sRead_k3 ih hf' h hok hl hG h0
    · exact sRead_k4 ih hf' h hok hl hG h0
    · exact sRead_k5 ih hf' h hok hl hG h0
    · exact sRead_k6 ih hf' h hok hl hG h0
    · exact sRead_k7 ih hf' h hok hl hG h0
    · exact sRead_k8 ih hf' h hok hl hG h0
    · exact sRead_k9 ih hf' h hok hl hG h0
    · exact sRead_k10 ih hf' h hok hl hG h0
end Go.Proofs.YtpnnchpaaopdcaaGreatDoor
namespace Go.Proofs.YtpnnchpaaopdcaaGreatDoor
open Go Go.RowKit
variable {W : World} {g : Nat} {s : RS}
theorem nodeP_bare (kind : Int) (flag : Nat) (set : List (Nat × Nat)) (n : Nat) (s : List UInt8) (kids : List KT) : decide (NodeP kind flag set.length n s.length (bareL kids).length) = decide (NodeP kind flag set.length n s.length kids.length) := by
  rw [bareL_map, List.length_map]
mutual
theorem rightK_bare : ∀ (k : KT) (d : Int), rightK (bareK k) d = rightK k d
  | .mk kind flag set n s kids _ _ _ _, d => by rw [bareK, rightK, rightK, nodeP_bare, rightL_bare kids]
theorem rightL_bare : ∀ (l : List KT) (d : Int), rightL (bareL l) d = rightL l d
  | [], d => by rw [bareL]
  | k :: r, d => by rw [bareL, rightL, rightL, rightK_bare k, rightL_bare r]
end
def readTop (s : RS) : KT × RS := if !(readF 16 s).2.f && rightK (readF 16 s).1 16 then readF 16 s else (plainK 0 0 [] 0 [] [], .gone)
theorem results_k2 (tmps : Array Value) (w : World) (B : Nat) (a b c d e f : Value) (h : Cells w B 37 #[a, b, c, d, e, f]) (h2 : tmps.getD 2 undef = .pointer (some ⟨B, 0, none⟩)) :
    (results Tryz.f25 tmps).run Tryz.prog w = .ok (.agg #[a, b, c, d, e, f]) w := by
  have c0 := h.cell (i := 0) rfl
  have c1 := h.cell (i := 1) rfl
  have c2 := h.cell (i := 2) rfl
  have c3 := h.cell (i := 3) rfl
  have c4 := h.cell (i := 4) rfl
  have c5 := h.cell (i := 5) rfl
  have h2' : tmps[2]?.getD undef = .pointer (some ⟨B, 0, none⟩) := by simpa using h2
  simp [results, Tryz.f25, go_sem, h2', c0, c1, c2, c3, c4, c5]
theorem top_fin {w0 w : World} {c : Array Value} {a0 a1 a2 a3 a4 a5 : Value} {t : RS} (hb : Below W.heap.size W w0) (hs : w0.heap.size = W.heap.size + 1) (hg : g < W.heap.size) (ht : Tk g w0 w) (hp : PR w g t) (kt : KT) (hc : kt.cells = [a0, a1, a2, a3, a4, a5]) (hk : KeyC w kt) (hi : KeyIn (W.heap.size + 1) kt) (r : KT × RS) (hr : (bareK kt, t) = r) :
    ReadDoes W g r (.returned (.agg #[a0, a1, a2, a3, a4, a5])) ((((((w.setCell ⟨W.heap.size, 0, none⟩ a0).setCell ⟨W.heap.size, 1, none⟩ a1).setCell ⟨W.heap.size, 2, none⟩ a2).setCell ⟨W.heap.size, 3, none⟩ a3).setCell ⟨W.heap.size, 4, none⟩ a4).setCell ⟨W.heap.size, 5, none⟩ a5) := by
  have ht9 : ∀ (x : World) (i : Nat) (v : Value), Tk W.heap.size w x → Tk W.heap.size w (x.setCell ⟨W.heap.size, i, none⟩ v) := fun x i v h => h.trans (Tk.set x i v)
  have hall := ht9 _ 5 a5 (ht9 _ 4 a4 (ht9 _ 3 a3 (ht9 _ 2 a2 (ht9 _ 1 a1 (ht9 _ 0 a0 (Tk.refl _ w))))))
  subst hr
  have h0 : Tk g W w := (Tk.of_below hb).trans ht
  exact ⟨kt, by unfold KT.val; rw [hc], rfl, KeyC.keep (KeepUp.tk hall (Nat.lt_succ_self _)) kt hk hi, KeyIn.mono (by omega) kt hi, hp.tk hall (by omega), h0.fresh hall (Nat.le_refl _)⟩
set_option maxRecDepth 100000 in
set_option maxHeartbeats 4000000 in
theorem sRead0_c (h : PR W g s) (hok : s.Ok) (hl : s.l.length ≤ 1100000) (hG : Gl W g) : Calls Tryz.prog 25 #[pt g] W (ReadDoes W g (readTop s)) := by
  have hgl := Cells.lt h
  obtain ⟨w0, hw0⟩ : ∃ w0, W.alloc (.cells #[.int .i64 0, .int .u8 0, .slice none 0 0, .int .u32 0, .string ⟨#[]⟩, .slice none 0 0] 37) = w0 := ⟨_, rfl⟩
  have hb0 : Below W.heap.size W w0 := by rw [← hw0]; exact (Below.refl _ W).alloc (Nat.le_refl _) _
  have hs0 : w0.heap.size = W.heap.size + 1 := by rw [← hw0]; simp
  have hc0 : Cells w0 W.heap.size 37 #[.int .i64 0, .int .u8 0, .slice none 0 0, .int .u32 0, .string ⟨#[]⟩, .slice none 0 0] := by rw [← hw0]; exact heap_alloc_new W _
  have t0 : Tk g W w0 := Tk.of_below hb0
  have C := sRead_at 16 (Nat.le_refl _) w0 g s (h.tk (Tk.of_below (g := g + 1) hb0) (by omega)) hok hl (hG.tk t0)
  rw [show ((17 - 16 : Nat) : Int) = 1 from rfl] at C
  have C := Lib.hid C
  have HC0 := Lib.hid hc0
  have HB0 := Lib.hid hb0
  have HS0 := Lib.hid hs0
  unfold readTop
  obtain ⟨r, hr⟩ : ∃ r, readF 16 s = r := ⟨_, rfl⟩
  rw [hr] at C ⊢
  obtain ⟨r1, ⟨rl, rf⟩⟩ := r
  dsimp only
  obtain ⟨z, hz⟩ : ∃ z, rightK r1 16 = z := ⟨_, rfl⟩
  have HZ := Lib.hid hz
  rw [hz]
  obtain ⟨y, hy⟩ : ∃ y : KT × RS, (if (!rf && z) = true then (r1, (⟨rl, rf⟩ : RS)) else (plainK 0 0 [] 0 [] [], .gone)) = y := ⟨_, rfl⟩
  rw [hy]
  have HY := Lib.hid hy
  clear hy
  clear h hok hl hG hb0 hs0 hc0 t0 hr hz
  go_enter Tryz.func25, Tryz.ntmps25
  go_wp2_with fail
  refine C.out.mono ?_
  rintro e w1 ⟨kt, rfl, hbk, hkc, hki, hpr, htk⟩
  obtain ⟨xk, xf, xm, xn, xl, xsp, xkp, xsc, xkc, X, hv, hc⟩ := kt.form
  have hbk : bareK kt = r1 := hbk
  have hpr : PR w1 g ⟨rl, rf⟩ := hpr
  have hcl : kt.cells = [.int .i64 xk, .int .u8 xf, .slice xsp xm xsc, .int .u32 xn, .string X, .slice xkp xl xkc] := by
    have := congrArg Array.toList hc; simpa using this
  have hb2 : Below w1.heap.size w1 (w1.alloc (.cells #[.int .i64 xk, .int .u8 xf, .slice xsp xm xsc, .int .u32 xn, .string X, .slice xkp xl xkc] 37)) := (Below.refl _ w1).alloc (Nat.le_refl _) _
  have hx2 : Cells (w1.alloc (.cells #[.int .i64 xk, .int .u8 xf, .slice xsp xm xsc, .int .u32 xn, .string X, .slice xkp xl xkc] 37)) w1.heap.size 37 #[.int .i64 xk, .int .u8 xf, .slice xsp xm xsc, .int .u32 xn, .string X, .slice xkp xl xkc] := heap_alloc_new w1 _
  have hp2 := hpr.tk (Tk.of_below (g := g + 1) hb2) (by omega)
  have ht2 := htk.trans (Tk.of_below (g := g) hb2)
  have hk2 := KeyC.below hb2 kt hkc
  have CO := Lib.hid (tkOk_c hp2)
  have CR := sRight_c kt _ hk2
  have hrk : rightK kt 16 = z := by
    have h9 := HZ.out
    rw [← hbk, rightK_bare] at h9; exact h9
  rw [hrk, hv] at CR
  have hs1 := htk.size
  have hz2 : (w1.alloc (.cells #[.int .i64 xk, .int .u8 xf, .slice xsp xm xsc, .int .u32 xn, .string X, .slice xkp xl xkc] 37)).heap.size = w1.heap.size + 1 := by simp
  rw [HS0.out] at hs1 hki
  have CR := Lib.hid CR
  have HX2 := Lib.hid hx2
  have HP2 := Lib.hid hp2
  have HT2 := Lib.hid ht2
  have HK2 := Lib.hid hk2
  have HKI := Lib.hid hki
  have HBK := Lib.hid hbk
  have HCL := Lib.hid hcl
  have HV := Lib.hid hv
  rw [hv]
  clear hv hc hcl hbk hkc hki hpr htk hb2 hx2 hp2 ht2 hk2 hrk
  have HC2 : Hid (Cells (w1.alloc (.cells #[.int .i64 xk, .int .u8 xf, .slice xsp xm xsc, .int .u32 xn, .string X, .slice xkp xl xkc] 37)) W.heap.size 37 #[.int .i64 0, .int .u8 0, .slice none 0 0, .int .u32 0, .string ⟨#[]⟩, .slice none 0 0]) :=
    Cells.later HC0.out (HT2.out.blk _ (Cells.lt HC0.out) (by omega))
  have zero : ∀ w : World, Tk g w0 w → PR w g .gone → Hid (ReadDoes W g (plainK 0 0 [] 0 [] [], .gone) (.returned (.agg #[.int .i64 0, .int .u8 0, .slice none 0 0, .int .u32 0, .string ⟨#[]⟩, .slice none 0 0]))
      ((((((w.setCell ⟨W.heap.size, 0, none⟩ (.int .i64 0)).setCell ⟨W.heap.size, 1, none⟩ (.int .u8 0)).setCell ⟨W.heap.size, 2, none⟩ (.slice none 0 0)).setCell ⟨W.heap.size, 3, none⟩ (.int .u32 0)).setCell ⟨W.heap.size, 4, none⟩ (.string ⟨#[]⟩)).setCell ⟨W.heap.size, 5, none⟩ (.slice none 0 0))) := fun w ht hp => by
    refine top_fin (c := #[]) HB0.out HS0.out hgl ht hp (KT.mk 0 0 [] 0 [] [] none 0 none 0) rfl ?_ ?_ _ rfl
    · unfold KeyC; exact ⟨by omega, by omega, ⟨by simp [maxLen], by simp [maxLen], by simp [maxLen]⟩, fun i r hr => by simp at hr, by unfold KidsC; trivial⟩
    · unfold KeyIn; exact ⟨fun a e => by (cases e), fun a e => by (cases e), by unfold KidsIn; trivial⟩
  have HZE := Lib.hid zero
  clear zero
  cases rf with
  | true =>
    have CF := Lib.hid (tkFail_c HP2.out)
    go_wp2_with fail
    refine CO.out.mono ?_
    rintro e w3 ⟨rfl, rfl⟩
    go_wp2_with fail
    refine CF.out.mono ?_
    rintro e w4 ⟨rfl, p4, t4⟩
    have hr := Cells.later HC2.out (t4.blk _ (Cells.lt HC2.out) (by omega))
    have HE := Lib.hid (HZE.out w4 (HT2.out.trans t4) p4)
    have HCR := Lib.hid hr
    have r0 := hr.cell (i := 0) rfl
    have r1 := hr.cell (i := 1) rfl
    have r2 := hr.cell (i := 2) rfl
    have r3 := hr.cell (i := 3) rfl
    have r4 := hr.cell (i := 4) rfl
    have r5 := hr.cell (i := 5) rfl
    have fr := fun i => hr.frozen i
    have hrl := hr.lt
    clear p4 t4 hr
    go_wp2_with fail
    refine bodyPost_ret (results_k2 _ _ W.heap.size _ _ _ _ _ _ (Cells.six HCR.out _ _ _ _ _ _) rfl) rfl ?_
    rw [← HY.out]
    exact HE.out
  | false =>
    cases z with
    | true =>
      go_wp2_with fail
      refine CO.out.mono ?_
      rintro e w3 ⟨rfl, rfl⟩
      go_wp2_with fail
      refine CR.out.mono ?_
      rintro e w4 ⟨rfl, hb4⟩
      have t4 := Tk.of_below (g := g) hb4
      have p4 := HP2.out.tk (Tk.of_below (g := g + 1) hb4) (by omega)
      have hr := Cells.later HC2.out (t4.blk _ (Cells.lt HC2.out) (by omega))
      have hc := Cells.later HX2.out (hb4.block _ (Cells.lt HX2.out))
      have HE := Lib.hid (top_fin (W := W) (w := w4) (c := #[]) HB0.out HS0.out hgl (HT2.out.trans t4) p4 kt HCL.out (KeyC.below hb4 kt HK2.out) HKI.out _ rfl)
      have HCR := Lib.hid hr
      have q0 := hc.cell (i := 0) rfl
      have q1 := hc.cell (i := 1) rfl
      have q2 := hc.cell (i := 2) rfl
      have q3 := hc.cell (i := 3) rfl
      have q4 := hc.cell (i := 4) rfl
      have q5 := hc.cell (i := 5) rfl
      have r0 := hr.cell (i := 0) rfl
      have r1 := hr.cell (i := 1) rfl
      have r2 := hr.cell (i := 2) rfl
      have r3 := hr.cell (i := 3) rfl
      have r4 := hr.cell (i := 4) rfl
      have r5 := hr.cell (i := 5) rfl
      have fr := fun i => hr.frozen i
      have hrl := hr.lt
      have hcl := hc.lt
      have hne : ¬ w1.heap.size = W.heap.size := by omega
      clear p4 t4 hr hc hb4
      go_wp2_with fail
      refine bodyPost_ret (results_k2 _ _ W.heap.size _ _ _ _ _ _ (Cells.six HCR.out _ _ _ _ _ _) rfl) rfl ?_
      rw [← HY.out, ← HBK.out]
      exact HE.out
    | false =>
      go_wp2_with fail
      refine CO.out.mono ?_
      rintro e w3 ⟨rfl, rfl⟩
      go_wp2_with fail
      refine CR.out.mono ?_
      rintro e w4 ⟨rfl, hb4⟩
      have CF := Lib.hid (tkFail_c (HP2.out.tk (Tk.of_below (g := g + 1) hb4) (by omega)))
      have T4 := Lib.hid (Tk.of_below (g := g) hb4)
      clear hb4
      go_wp2_with fail
      refine CF.out.mono ?_
      rintro e w5 ⟨rfl, p5, t5⟩
      have t45 := T4.out.trans t5
      have hr := Cells.later HC2.out (t45.blk _ (Cells.lt HC2.out) (by omega))
      have HE := Lib.hid (HZE.out w5 (HT2.out.trans t45) p5)
      have HCR := Lib.hid hr
      have r0 := hr.cell (i := 0) rfl
      have r1 := hr.cell (i := 1) rfl
      have r2 := hr.cell (i := 2) rfl
      have r3 := hr.cell (i := 3) rfl
      have r4 := hr.cell (i := 4) rfl
      have r5 := hr.cell (i := 5) rfl
      have fr := fun i => hr.frozen i
      have hrl := hr.lt
      clear p5 t5 t45 hr
      go_wp2_with fail
      refine bodyPost_ret (results_k2 _ _ W.heap.size _ _ _ _ _ _ (Cells.six HCR.out _ _ _ _ _ _) rfl) rfl ?_
      rw [← HY.out]
      exact HE.out
end Go.Proofs.YtpnnchpaaopdcaaGreatDoor
namespace Go.Proofs.YtpnnchpaaopdcaaGreatDoor
open Go Go.RowKit
variable {W : World}
def OwnDoes (W : World) (k : KT) (e : Ending) (w' : World) : Prop := ∃ k2, e = .returned k2.val ∧ bareK k2 = bareK k ∧ KeyC w' k2 ∧ KeyIn W.heap.size k2 ∧ Below W.heap.size W w'
mutual
def ShortK : KT → Prop
  | .mk _ _ set _ _ kids _ _ _ _ => set.length ≤ 1000 ∧ kids.length ≤ 1000 ∧ ShortL kids
def ShortL : List KT → Prop
  | [] => True
  | k :: r => ShortK k ∧ ShortL r
end
theorem ShortL.mem : ∀ {l : List KT}, ShortL l → ∀ k ∈ l, ShortK k
  | [], h, k, hk => by simp at hk
  | x :: r, h, k, hk => by
    unfold ShortL at h
    rcases List.mem_cons.1 hk with e | hk
    · rw [e]; exact h.1
    · exact ShortL.mem h.2 k hk
theorem own_far {w w' : World} {T B e sz n : Nat} {v : Value} {xs : List Value} (h : w.ownsRow B e sz v n xs) (ht : Tk T w w') (hv : ∀ b, v.ownBlock = some b → b ≠ T) : w'.ownsRow B e sz v n xs := by
  refine ⟨h.1, ?_⟩
  rcases h.2 with h2 | ⟨b, cap, cur, h1, h2, h3, h4⟩
  · exact .inl h2
  · have hb : v.ownBlock = some b := by rw [h1]; rfl
    exact .inr ⟨b, cap, cur, h1, h2, (ht.blk b (Array.getElem?_eq_some_iff.1 h3).1 (hv b hb)).trans h3, h4⟩
structure OwA (W w0 : World) (kind : Int) (flag n M N : Nat) (X : ByteArray) (set : List (Nat × Nat)) (T : Nat) (sv v : Value) (wx : World) : Prop where
  hT : W.heap.size + 2 ≤ T
  ct : Cells wx T 37 #[.int .i64 kind, .int .u8 flag, sv, .int .u32 n, .string X, v]
  own : wx.ownsRow (W.heap.size + 2) 112 2 sv M (cellsP set)
  far : ∀ b, sv.ownBlock = some b → b ≠ T
  below : Below w0.heap.size w0 wx
theorem OwA.last {w0 w6 : World} {kind : Int} {flag n M N : Nat} {X : ByteArray} {set : List (Nat × Nat)} {B : Nat} {sv : Value} (hs : w0.heap.size = W.heap.size + 2) (hb : Below w0.heap.size w0 w6) (ho : w6.ownsRow B 112 2 sv M (cellsP set)) (hB : W.heap.size + 2 ≤ B) :
    OwA W w0 kind flag n M N X set w6.heap.size sv (.slice none 0 0) (w6.alloc (.cells #[.int .i64 kind, .int .u8 flag, sv, .int .u32 n, .string X, .slice none 0 0] 37)) := by
  have hsz := hb.size
  have hb2 : Below w6.heap.size w6 (w6.alloc (.cells #[.int .i64 kind, .int .u8 flag, sv, .int .u32 n, .string X, .slice none 0 0] 37)) := (Below.refl _ w6).alloc (Nat.le_refl _) _
  exact ⟨by omega, heap_alloc_new w6 _, own_below (World.ownsRow.mono ho hB) hb2, fun b hb3 => by have := (ho.lt b hb3).2; omega, hb.trans (hb2.mono hsz)⟩
theorem OwA.front {w0 w6 : World} {kind : Int} {flag n M N : Nat} {X : ByteArray} {set : List (Nat × Nat)} {B : Nat} {sv : Value} {c : Array Value} {z0 z1 z2 z3 z4 z5 : Value} (hs : w0.heap.size = W.heap.size + 2) (hb : Below w0.heap.size w0 w6) (hc : Cells w6 w0.heap.size 37 #[z0, z1, z2, z3, z4, z5]) (ho : w6.ownsRow B 112 2 sv M (cellsP set)) (hB : w0.heap.size + 1 ≤ B) :
    OwA W w0 kind flag n M N X set w0.heap.size sv (.slice none 0 0) ((((((w6.setCell ⟨w0.heap.size, 0, none⟩ (.int .i64 kind)).setCell ⟨w0.heap.size, 1, none⟩ (.int .u8 flag)).setCell ⟨w0.heap.size, 2, none⟩ sv).setCell ⟨w0.heap.size, 3, none⟩ (.int .u32 n)).setCell ⟨w0.heap.size, 4, none⟩ (.string X)).setCell ⟨w0.heap.size, 5, none⟩ (.slice none 0 0)) := by
  have ht9 : ∀ (x : World) (i : Nat) (v : Value), Tk w0.heap.size w6 x → Tk w0.heap.size w6 (x.setCell ⟨w0.heap.size, i, none⟩ v) := fun x i v h => h.trans (Tk.set x i v)
  have hall := ht9 _ 5 (.slice none 0 0) (ht9 _ 4 (.string X) (ht9 _ 3 (.int .u32 n) (ht9 _ 2 sv (ht9 _ 1 (.int .u8 flag) (ht9 _ 0 (.int .i64 kind) (Tk.refl _ w6))))))
  have hsz := hb.size
  have hf : ∀ b, sv.ownBlock = some b → b ≠ w0.heap.size := fun b hb3 => by have := (ho.lt b hb3).1; omega
  exact ⟨by omega, hc.six _ _ _ _ _ _, own_far (World.ownsRow.mono ho (by omega)) hall hf, hf, hb.trans (hall.below (Nat.le_refl _) hsz)⟩
end Go.Proofs.YtpnnchpaaopdcaaGreatDoor

/-
  The reading of a key, the kinds without kids. MADE by wip/tools/mkSrB.py.
-/
import Derived.Test.YtpnnchpaaopdcaaGreatDoorZB04
import Derived.Test.YtpnnchpaaopdcaaGreatDoorZB08
set_option linter.unusedVariables false
set_option linter.unusedSimpArgs false
namespace Go.Proofs.YtpnnchpaaopdcaaGreatDoor
open Go Go.RowKit
variable {W : World} {g : Nat} {s : RS}
set_option maxRecDepth 100000 in
set_option maxHeartbeats 4000000 in
theorem sRead_k0 {f : Nat} (ih : ReadAt f) (hf : f ≤ 15) (h : PR W g s) (hok : s.Ok) (hl : s.l.length ≤ 1100000) (hG : Gl W g) (hk : kindV s = 0) :
    Calls Tryz.prog 74 #[pt g, .int .i64 ((16 - f : Nat) : Int)] W (ReadDoes W g (readF (f + 1) s)) := by
  obtain ⟨w0, hw0, hb0, hs0, h2, h3, hr0⟩ := three_boxes W g ((16 - f : Nat) : Int)
  have hgl := Cells.lt h
  have T0 : Hid (Tk g W w0) := Tk.of_below hb0
  have p0 := h.tk (Tk.of_below (g := g + 1) hb0) (by omega)
  have C0 := sReadKind_c p0 hl (hG.tk T0.out)
  rw [hk] at C0
  have hfw := Fewer.kind hok
  obtain ⟨r, hr⟩ : ∃ r, readF (f + 1) s = r := ⟨_, rfl⟩
  rw [hr]
  unfold readF at hr
  dsimp only at hr
  rw [hk] at hr
  simp only [Nat.reduceEqDiff, or_true, true_or, or_false, false_or, if_true, if_false, reduceCtorEq, or_self] at hr
  obtain ⟨t, ht⟩ : ∃ t, kindS s = t := ⟨_, rfl⟩
  rw [ht] at C0 hfw hr
  have htl : t.l.length ≤ 1100000 := Nat.le_trans hfw.2 hl
  have HTK := Lib.hid hfw.1
  obtain ⟨d, hd⟩ : ∃ d, (16 - f : Nat) = d := ⟨_, rfl⟩
  have HD := Lib.hid hd
  rw [hd] at h3 hw0 ⊢
  have hd1 : 1 ≤ d := by omega
  have hd16 : ¬ (16 : Int) < d := by omega
  have C0 := Lib.hid C0
  have HR := Lib.hid hr
  have HG := Lib.hid hG
  have H2 := Lib.hid h2
  have H3 := Lib.hid h3
  have HR0 := Lib.hid hr0
  have hbl : W.heap.size < w0.heap.size ∧ W.heap.size + 1 < w0.heap.size ∧ W.heap.size + 1 + 1 < w0.heap.size := ⟨by omega, by omega, by omega⟩
  obtain ⟨hb1, hb2, hb3⟩ := hbl
  clear h hok hl hG hk hb0 h2 h3 hr0 hfw hr ht p0 hd
  have h2 := H2.out
  have h3 := H3.out
  go_enter Tryz.func74, Tryz.ntmps74
  go_wp2_with fail
  refine C0.out.mono ?_
  rintro e w1 ⟨rfl, p1, t1⟩
  have k2 := t1.cellN h2 (by omega)
  have hs1 := t1.size
  have hck : Cells (w1.alloc (.cells #[.int .i64 0, .int .u8 0, .slice none 0 0, .int .u32 0, .string ⟨#[]⟩, .slice none 0 0] 37)) w1.heap.size 37 #[.int .i64 0, .int .u8 0, .slice none 0 0, .int .u32 0, .string ⟨#[]⟩, .slice none 0 0] := heap_alloc_new w1 _
  have hbb : Below w1.heap.size w1 (w1.alloc (.cells #[.int .i64 0, .int .u8 0, .slice none 0 0, .int .u32 0, .string ⟨#[]⟩, .slice none 0 0] 37)) := by
    exact (Below.refl _ w1).alloc (Nat.le_refl _) _
  have hz2 : ((w1.alloc (.cells #[.int .i64 0, .int .u8 0, .slice none 0 0, .int .u32 0, .string ⟨#[]⟩, .slice none 0 0] 37))).heap.size = w1.heap.size + 1 := by simp
  have HRD : Hid (RD W g (W.heap.size + 1 + 1) w1.heap.size d t #[.int .i64 0, .int .u8 0, .slice none 0 0, .int .u32 0, .string ⟨#[]⟩, .slice none 0 0] (w1.alloc (.cells #[.int .i64 0, .int .u8 0, .slice none 0 0, .int .u32 0, .string ⟨#[]⟩, .slice none 0 0] 37))) := {
    hg := hgl
    hB := by omega
    hK := by omega
    two := (hbb.cell (p := ⟨W.heap.size, 0, none⟩) (by show W.heap.size < _; omega)).trans k2
    three := (hbb.cell (p := ⟨W.heap.size + 1, 0, none⟩) (by show W.heap.size + 1 < _; omega)).trans (t1.cellN h3 (by omega))
    hB2 := by omega
    ck := hck
    cr := Cells.later (Cells.later HR0.out (t1.blk _ hb3 (by omega))) (hbb.block _ (by omega))
    tk := (T0.out.trans t1).trans (Tk.of_below hbb)
    pr := p1.tk (Tk.of_below (g := g + 1) hbb) (by omega) }
  clear p1 t1 hck hbb
  have HRD3 := HRD
  clear k2 h2 h3
  have hc := HRD3.out.ck
  have hr := HRD3.out.cr
  have q0 := hc.cell (i := 0) rfl
  have q1 := hc.cell (i := 1) rfl
  have q2 := hc.cell (i := 2) rfl
  have q3 := hc.cell (i := 3) rfl
  have q4 := hc.cell (i := 4) rfl
  have q5 := hc.cell (i := 5) rfl
  have r0 := hr.cell (i := 0) rfl
  have r1 := hr.cell (i := 1) rfl
  have r2 := hr.cell (i := 2) rfl
  have r3 := hr.cell (i := 3) rfl
  have r4 := hr.cell (i := 4) rfl
  have r5 := hr.cell (i := 5) rfl
  have fq := fun i => hc.frozen i
  have fr := fun i => hr.frozen i
  have hcl := hc.lt
  have hrl := hr.lt
  have hne : ¬ w1.heap.size = W.heap.size + 1 + 1 := by omega
  clear hc hr
  go_wp2_with fail
  refine bodyPost_ret (results_k4 _ _ (W.heap.size + 1 + 1) _ _ _ _ _ _ (Cells.six (RD.cr HRD3.out) _ _ _ _ _ _) rfl) rfl ?_
  exact RD.fin HRD3.out (KT.mk 0 0 [] 0 [] [] none 0 none 0) rfl (w1.heap.size + 1) (by omega) (by first | (unfold KeyC; exact ⟨by omega, by omega, ⟨by simp [maxLen], by simp [maxLen], by simp [maxLen]⟩, fun i r hr => by simp at hr, by unfold KidsC; trivial⟩) | (unfold KeyIn; exact ⟨fun a e => by (cases e), fun a e => by (cases e), by unfold KidsIn; trivial⟩)) (by first | (unfold KeyC; exact ⟨by omega, by omega, ⟨by simp [maxLen], by simp [maxLen], by simp [maxLen]⟩, fun i r hr => by simp at hr, by unfold KidsC; trivial⟩) | (unfold KeyIn; exact ⟨fun a e => by (cases e), fun a e => by (cases e), by unfold KidsIn; trivial⟩)) _ HR.out
set_option maxRecDepth 100000 in
set_option maxHeartbeats 4000000 in
theorem sRead_k1 {f : Nat} (ih : ReadAt f) (hf : f ≤ 15) (h : PR W g s) (hok : s.Ok) (hl : s.l.length ≤ 1100000) (hG : Gl W g) (hk : kindV s = 1) :
    Calls Tryz.prog 74 #[pt g, .int .i64 ((16 - f : Nat) : Int)] W (ReadDoes W g (readF (f + 1) s)) := by
  obtain ⟨w0, hw0, hb0, hs0, h2, h3, hr0⟩ := three_boxes W g ((16 - f : Nat) : Int)
  have hgl := Cells.lt h
  have T0 : Hid (Tk g W w0) := Tk.of_below hb0
  have p0 := h.tk (Tk.of_below (g := g + 1) hb0) (by omega)
  have C0 := sReadKind_c p0 hl (hG.tk T0.out)
  rw [hk] at C0
  have hfw := Fewer.kind hok
  obtain ⟨r, hr⟩ : ∃ r, readF (f + 1) s = r := ⟨_, rfl⟩
  rw [hr]
  unfold readF at hr
  dsimp only at hr
  rw [hk] at hr
  simp only [Nat.reduceEqDiff, or_true, true_or, or_false, false_or, if_true, if_false, reduceCtorEq, or_self] at hr
  obtain ⟨t, ht⟩ : ∃ t, kindS s = t := ⟨_, rfl⟩
  rw [ht] at C0 hfw hr
  have htl : t.l.length ≤ 1100000 := Nat.le_trans hfw.2 hl
  have HTK := Lib.hid hfw.1
  obtain ⟨d, hd⟩ : ∃ d, (16 - f : Nat) = d := ⟨_, rfl⟩
  have HD := Lib.hid hd
  rw [hd] at h3 hw0 ⊢
  have hd1 : 1 ≤ d := by omega
  have hd16 : ¬ (16 : Int) < d := by omega
  have C0 := Lib.hid C0
  have HR := Lib.hid hr
  have HG := Lib.hid hG
  have H2 := Lib.hid h2
  have H3 := Lib.hid h3
  have HR0 := Lib.hid hr0
  have hbl : W.heap.size < w0.heap.size ∧ W.heap.size + 1 < w0.heap.size ∧ W.heap.size + 1 + 1 < w0.heap.size := ⟨by omega, by omega, by omega⟩
  obtain ⟨hb1, hb2, hb3⟩ := hbl
  clear h hok hl hG hk hb0 h2 h3 hr0 hfw hr ht p0 hd
  have h2 := H2.out
  have h3 := H3.out
  go_enter Tryz.func74, Tryz.ntmps74
  go_wp2_with fail
  refine C0.out.mono ?_
  rintro e w1 ⟨rfl, p1, t1⟩
  have k2 := t1.cellN h2 (by omega)
  have hs1 := t1.size
  have hck : Cells (w1.alloc (.cells #[.int .i64 1, .int .u8 0, .slice none 0 0, .int .u32 0, .string ⟨#[]⟩, .slice none 0 0] 37)) w1.heap.size 37 #[.int .i64 1, .int .u8 0, .slice none 0 0, .int .u32 0, .string ⟨#[]⟩, .slice none 0 0] := heap_alloc_new w1 _
  have hbb : Below w1.heap.size w1 (w1.alloc (.cells #[.int .i64 1, .int .u8 0, .slice none 0 0, .int .u32 0, .string ⟨#[]⟩, .slice none 0 0] 37)) := by
    exact (Below.refl _ w1).alloc (Nat.le_refl _) _
  have hz2 : ((w1.alloc (.cells #[.int .i64 1, .int .u8 0, .slice none 0 0, .int .u32 0, .string ⟨#[]⟩, .slice none 0 0] 37))).heap.size = w1.heap.size + 1 := by simp
  have HRD : Hid (RD W g (W.heap.size + 1 + 1) w1.heap.size d t #[.int .i64 1, .int .u8 0, .slice none 0 0, .int .u32 0, .string ⟨#[]⟩, .slice none 0 0] (w1.alloc (.cells #[.int .i64 1, .int .u8 0, .slice none 0 0, .int .u32 0, .string ⟨#[]⟩, .slice none 0 0] 37))) := {
    hg := hgl
    hB := by omega
    hK := by omega
    two := (hbb.cell (p := ⟨W.heap.size, 0, none⟩) (by show W.heap.size < _; omega)).trans k2
    three := (hbb.cell (p := ⟨W.heap.size + 1, 0, none⟩) (by show W.heap.size + 1 < _; omega)).trans (t1.cellN h3 (by omega))
    hB2 := by omega
    ck := hck
    cr := Cells.later (Cells.later HR0.out (t1.blk _ hb3 (by omega))) (hbb.block _ (by omega))
    tk := (T0.out.trans t1).trans (Tk.of_below hbb)
    pr := p1.tk (Tk.of_below (g := g + 1) hbb) (by omega) }
  clear p1 t1 hck hbb
  have C1 := Lib.hid (sReadFlag_c HRD.out.pr htl (HG.out.tk HRD.out.tk))
  have k2' := HRD.out.two
  clear k2 h2 h3
  go_wp2_with fail
  refine C1.out.mono ?_
  rintro e w3 ⟨rfl, p3, t3⟩
  have HRD3 := Lib.hid (HRD.out.tk' t3 p3)
  clear p3 t3
  have hc := HRD3.out.ck
  have hr := HRD3.out.cr
  have q0 := hc.cell (i := 0) rfl
  have q1 := hc.cell (i := 1) rfl
  have q2 := hc.cell (i := 2) rfl
  have q3 := hc.cell (i := 3) rfl
  have q4 := hc.cell (i := 4) rfl
  have q5 := hc.cell (i := 5) rfl
  have r0 := hr.cell (i := 0) rfl
  have r1 := hr.cell (i := 1) rfl
  have r2 := hr.cell (i := 2) rfl
  have r3 := hr.cell (i := 3) rfl
  have r4 := hr.cell (i := 4) rfl
  have r5 := hr.cell (i := 5) rfl
  have fq := fun i => hc.frozen i
  have fr := fun i => hr.frozen i
  have hcl := hc.lt
  have hrl := hr.lt
  have hne : ¬ w1.heap.size = W.heap.size + 1 + 1 := by omega
  clear hc hr
  go_wp2_with fail
  refine bodyPost_ret (results_k4 _ _ (W.heap.size + 1 + 1) _ _ _ _ _ _ (Cells.six (RD.cr (HRD3.out.set 1 (.int .u8 (rflagV t)))) _ _ _ _ _ _) rfl) rfl ?_
  exact RD.fin (HRD3.out.set 1 (.int .u8 (rflagV t))) (KT.mk 1 (rflagV t) [] 0 [] [] none 0 none 0) rfl (w1.heap.size + 1) (by omega) (by first | (unfold KeyC; exact ⟨rflag_lt t, by omega, ⟨by simp [maxLen], by simp [maxLen], by simp [maxLen]⟩, fun i r hr => by simp at hr, by unfold KidsC; trivial⟩) | (unfold KeyIn; exact ⟨fun a e => by (cases e), fun a e => by (cases e), by unfold KidsIn; trivial⟩)) (by first | (unfold KeyC; exact ⟨rflag_lt t, by omega, ⟨by simp [maxLen], by simp [maxLen], by simp [maxLen]⟩, fun i r hr => by simp at hr, by unfold KidsC; trivial⟩) | (unfold KeyIn; exact ⟨fun a e => by (cases e), fun a e => by (cases e), by unfold KidsIn; trivial⟩)) _ HR.out
set_option maxRecDepth 100000 in
set_option maxHeartbeats 4000000 in
theorem sRead_k2 {f : Nat} (ih : ReadAt f) (hf : f ≤ 15) (h : PR W g s) (hok : s.Ok) (hl : s.l.length ≤ 1100000) (hG : Gl W g) (hk : kindV s = 2) :
    Calls Tryz.prog 74 #[pt g, .int .i64 ((16 - f : Nat) : Int)] W (ReadDoes W g (readF (f + 1) s)) := by
  obtain ⟨w0, hw0, hb0, hs0, h2, h3, hr0⟩ := three_boxes W g ((16 - f : Nat) : Int)
  have hgl := Cells.lt h
  have T0 : Hid (Tk g W w0) := Tk.of_below hb0
  have p0 := h.tk (Tk.of_below (g := g + 1) hb0) (by omega)
  have C0 := sReadKind_c p0 hl (hG.tk T0.out)
  rw [hk] at C0
  have hfw := Fewer.kind hok
  obtain ⟨r, hr⟩ : ∃ r, readF (f + 1) s = r := ⟨_, rfl⟩
  rw [hr]
  unfold readF at hr
  dsimp only at hr
  rw [hk] at hr
  simp only [Nat.reduceEqDiff, or_true, true_or, or_false, false_or, if_true, if_false, reduceCtorEq, or_self] at hr
  obtain ⟨t, ht⟩ : ∃ t, kindS s = t := ⟨_, rfl⟩
  rw [ht] at C0 hfw hr
  have htl : t.l.length ≤ 1100000 := Nat.le_trans hfw.2 hl
  have HTK := Lib.hid hfw.1
  obtain ⟨d, hd⟩ : ∃ d, (16 - f : Nat) = d := ⟨_, rfl⟩
  have HD := Lib.hid hd
  rw [hd] at h3 hw0 ⊢
  have hd1 : 1 ≤ d := by omega
  have hd16 : ¬ (16 : Int) < d := by omega
  have C0 := Lib.hid C0
  have HR := Lib.hid hr
  have HG := Lib.hid hG
  have H2 := Lib.hid h2
  have H3 := Lib.hid h3
  have HR0 := Lib.hid hr0
  have hbl : W.heap.size < w0.heap.size ∧ W.heap.size + 1 < w0.heap.size ∧ W.heap.size + 1 + 1 < w0.heap.size := ⟨by omega, by omega, by omega⟩
  obtain ⟨hb1, hb2, hb3⟩ := hbl
  clear h hok hl hG hk hb0 h2 h3 hr0 hfw hr ht p0 hd
  have h2 := H2.out
  have h3 := H3.out
  go_enter Tryz.func74, Tryz.ntmps74
  go_wp2_with fail
  refine C0.out.mono ?_
  rintro e w1 ⟨rfl, p1, t1⟩
  have k2 := t1.cellN h2 (by omega)
  have hs1 := t1.size
  have hck : Cells (w1.alloc (.cells #[.int .i64 2, .int .u8 0, .slice none 0 0, .int .u32 0, .string ⟨#[]⟩, .slice none 0 0] 37)) w1.heap.size 37 #[.int .i64 2, .int .u8 0, .slice none 0 0, .int .u32 0, .string ⟨#[]⟩, .slice none 0 0] := heap_alloc_new w1 _
  have hbb : Below w1.heap.size w1 (w1.alloc (.cells #[.int .i64 2, .int .u8 0, .slice none 0 0, .int .u32 0, .string ⟨#[]⟩, .slice none 0 0] 37)) := by
    exact (Below.refl _ w1).alloc (Nat.le_refl _) _
  have hz2 : ((w1.alloc (.cells #[.int .i64 2, .int .u8 0, .slice none 0 0, .int .u32 0, .string ⟨#[]⟩, .slice none 0 0] 37))).heap.size = w1.heap.size + 1 := by simp
  have HRD : Hid (RD W g (W.heap.size + 1 + 1) w1.heap.size d t #[.int .i64 2, .int .u8 0, .slice none 0 0, .int .u32 0, .string ⟨#[]⟩, .slice none 0 0] (w1.alloc (.cells #[.int .i64 2, .int .u8 0, .slice none 0 0, .int .u32 0, .string ⟨#[]⟩, .slice none 0 0] 37))) := {
    hg := hgl
    hB := by omega
    hK := by omega
    two := (hbb.cell (p := ⟨W.heap.size, 0, none⟩) (by show W.heap.size < _; omega)).trans k2
    three := (hbb.cell (p := ⟨W.heap.size + 1, 0, none⟩) (by show W.heap.size + 1 < _; omega)).trans (t1.cellN h3 (by omega))
    hB2 := by omega
    ck := hck
    cr := Cells.later (Cells.later HR0.out (t1.blk _ hb3 (by omega))) (hbb.block _ (by omega))
    tk := (T0.out.trans t1).trans (Tk.of_below hbb)
    pr := p1.tk (Tk.of_below (g := g + 1) hbb) (by omega) }
  clear p1 t1 hck hbb
  have C1 := Lib.hid (sReadFlag_c HRD.out.pr htl (HG.out.tk HRD.out.tk))
  have k2' := HRD.out.two
  clear k2 h2 h3
  go_wp2_with fail
  refine C1.out.mono ?_
  rintro e w3 ⟨rfl, p3, t3⟩
  have HRD3 := Lib.hid (HRD.out.tk' t3 p3)
  clear p3 t3
  have hc := HRD3.out.ck
  have hr := HRD3.out.cr
  have q0 := hc.cell (i := 0) rfl
  have q1 := hc.cell (i := 1) rfl
  have q2 := hc.cell (i := 2) rfl
  have q3 := hc.cell (i := 3) rfl
  have q4 := hc.cell (i := 4) rfl
  have q5 := hc.cell (i := 5) rfl
  have r0 := hr.cell (i := 0) rfl
  have r1 := hr.cell (i := 1) rfl
  have r2 := hr.cell (i := 2) rfl
  have r3 := hr.cell (i := 3) rfl
  have r4 := hr.cell (i := 4) rfl
  have r5 := hr.cell (i := 5) rfl
  have fq := fun i => hc.frozen i
  have fr := fun i => hr.frozen i
  have hcl := hc.lt
  have hrl := hr.lt
  have hne : ¬ w1.heap.size = W.heap.size + 1 + 1 := by omega
  clear hc hr
  go_wp2_with fail
  refine bodyPost_ret (results_k4 _ _ (W.heap.size + 1 + 1) _ _ _ _ _ _ (Cells.six (RD.cr (HRD3.out.set 1 (.int .u8 (rflagV t)))) _ _ _ _ _ _) rfl) rfl ?_
  exact RD.fin (HRD3.out.set 1 (.int .u8 (rflagV t))) (KT.mk 2 (rflagV t) [] 0 [] [] none 0 none 0) rfl (w1.heap.size + 1) (by omega) (by first | (unfold KeyC; exact ⟨rflag_lt t, by omega, ⟨by simp [maxLen], by simp [maxLen], by simp [maxLen]⟩, fun i r hr => by simp at hr, by unfold KidsC; trivial⟩) | (unfold KeyIn; exact ⟨fun a e => by (cases e), fun a e => by (cases e), by unfold KidsIn; trivial⟩)) (by first | (unfold KeyC; exact ⟨rflag_lt t, by omega, ⟨by simp [maxLen], by simp [maxLen], by simp [maxLen]⟩, fun i r hr => by simp at hr, by unfold KidsC; trivial⟩) | (unfold KeyIn; exact ⟨fun a e => by (cases e), fun a e => by (cases e), by unfold KidsIn; trivial⟩)) _ HR.out
set_option maxRecDepth 100000 in
set_option maxHeartbeats 4000000 in
theorem sRead_k3 {f : Nat} (ih : ReadAt f) (hf : f ≤ 15) (h : PR W g s) (hok : s.Ok) (hl : s.l.length ≤ 1100000) (hG : Gl W g) (hk : kindV s = 3) :
    Calls Tryz.prog 74 #[pt g, .int .i64 ((16 - f : Nat) : Int)] W (ReadDoes W g (readF (f + 1) s)) := by
  obtain ⟨w0, hw0, hb0, hs0, h2, h3, hr0⟩ := three_boxes W g ((16 - f : Nat) : Int)
  have hgl := Cells.lt h
  have T0 : Hid (Tk g W w0) := Tk.of_below hb0
  have p0 := h.tk (Tk.of_below (g := g + 1) hb0) (by omega)
  have C0 := sReadKind_c p0 hl (hG.tk T0.out)
  rw [hk] at C0
  have hfw := Fewer.kind hok
  obtain ⟨r, hr⟩ : ∃ r, readF (f + 1) s = r := ⟨_, rfl⟩
  rw [hr]
  unfold readF at hr
  dsimp only at hr
  rw [hk] at hr
  simp only [Nat.reduceEqDiff, or_true, true_or, or_false, false_or, if_true, if_false, reduceCtorEq, or_self] at hr
  obtain ⟨t, ht⟩ : ∃ t, kindS s = t := ⟨_, rfl⟩
  rw [ht] at C0 hfw hr
  have htl : t.l.length ≤ 1100000 := Nat.le_trans hfw.2 hl
  have HTK := Lib.hid hfw.1
  obtain ⟨d, hd⟩ : ∃ d, (16 - f : Nat) = d := ⟨_, rfl⟩
  have HD := Lib.hid hd
  rw [hd] at h3 hw0 ⊢
  have hd1 : 1 ≤ d := by omega
  have hd16 : ¬ (16 : Int) < d := by omega
  have C0 := Lib.hid C0
  have HR := Lib.hid hr
  have HG := Lib.hid hG
  have H2 := Lib.hid h2
  have H3 := Lib.hid h3
  have HR0 := Lib.hid hr0
  have hbl : W.heap.size < w0.heap.size ∧ W.heap.size + 1 < w0.heap.size ∧ W.heap.size + 1 + 1 < w0.heap.size := ⟨by omega, by omega, by omega⟩
  obtain ⟨hb1, hb2, hb3⟩ := hbl
  clear h hok hl hG hk hb0 h2 h3 hr0 hfw hr ht p0 hd
  have h2 := H2.out
  have h3 := H3.out
  go_enter Tryz.func74, Tryz.ntmps74
  go_wp2_with fail
  refine C0.out.mono ?_
  rintro e w1 ⟨rfl, p1, t1⟩
  have k2 := t1.cellN h2 (by omega)
  have hs1 := t1.size
  have hck : Cells (w1.alloc (.cells #[.int .i64 3, .int .u8 0, .slice none 0 0, .int .u32 0, .string ⟨#[]⟩, .slice none 0 0] 37)) w1.heap.size 37 #[.int .i64 3, .int .u8 0, .slice none 0 0, .int .u32 0, .string ⟨#[]⟩, .slice none 0 0] := heap_alloc_new w1 _
  have hbb : Below w1.heap.size w1 (w1.alloc (.cells #[.int .i64 3, .int .u8 0, .slice none 0 0, .int .u32 0, .string ⟨#[]⟩, .slice none 0 0] 37)) := by
    exact (Below.refl _ w1).alloc (Nat.le_refl _) _
  have hz2 : ((w1.alloc (.cells #[.int .i64 3, .int .u8 0, .slice none 0 0, .int .u32 0, .string ⟨#[]⟩, .slice none 0 0] 37))).heap.size = w1.heap.size + 1 := by simp
  have HRD : Hid (RD W g (W.heap.size + 1 + 1) w1.heap.size d t #[.int .i64 3, .int .u8 0, .slice none 0 0, .int .u32 0, .string ⟨#[]⟩, .slice none 0 0] (w1.alloc (.cells #[.int .i64 3, .int .u8 0, .slice none 0 0, .int .u32 0, .string ⟨#[]⟩, .slice none 0 0] 37))) := {
    hg := hgl
    hB := by omega
    hK := by omega
    two := (hbb.cell (p := ⟨W.heap.size, 0, none⟩) (by show W.heap.size < _; omega)).trans k2
    three := (hbb.cell (p := ⟨W.heap.size + 1, 0, none⟩) (by show W.heap.size + 1 < _; omega)).trans (t1.cellN h3 (by omega))
    hB2 := by omega
    ck := hck
    cr := Cells.later (Cells.later HR0.out (t1.blk _ hb3 (by omega))) (hbb.block _ (by omega))
    tk := (T0.out.trans t1).trans (Tk.of_below hbb)
    pr := p1.tk (Tk.of_below (g := g + 1) hbb) (by omega) }
  clear p1 t1 hck hbb
  have C1 := Lib.hid (sReadSet_c HRD.out.pr HTK.out htl (HG.out.tk HRD.out.tk).errs HG.out.aw)
  have k2' := HRD.out.two
  clear k2 h2 h3
  go_wp2_with fail
  refine C1.out.mono ?_
  rintro e w3 ⟨⟨sp, cap, rfl, hps, hup⟩, p3, t3⟩
  rw [hz2] at hup
  have HPS := Lib.hid hps
  have HUP := Lib.hid hup
  clear hps hup
  have HRD3 := Lib.hid (HRD.out.tk' t3 p3)
  clear p3 t3
  have hc := HRD3.out.ck
  have hr := HRD3.out.cr
  have q0 := hc.cell (i := 0) rfl
  have q1 := hc.cell (i := 1) rfl
  have q2 := hc.cell (i := 2) rfl
  have q3 := hc.cell (i := 3) rfl
  have q4 := hc.cell (i := 4) rfl
  have q5 := hc.cell (i := 5) rfl
  have r0 := hr.cell (i := 0) rfl
  have r1 := hr.cell (i := 1) rfl
  have r2 := hr.cell (i := 2) rfl
  have r3 := hr.cell (i := 3) rfl
  have r4 := hr.cell (i := 4) rfl
  have r5 := hr.cell (i := 5) rfl
  have fq := fun i => hc.frozen i
  have fr := fun i => hr.frozen i
  have hcl := hc.lt
  have hrl := hr.lt
  have hne : ¬ w1.heap.size = W.heap.size + 1 + 1 := by omega
  clear hc hr
  go_wp2_with fail
  refine bodyPost_ret (results_k4 _ _ (W.heap.size + 1 + 1) _ _ _ _ _ _ (Cells.six (RD.cr (HRD3.out.set 2 (.slice sp (rsetV t).length cap))) _ _ _ _ _ _) rfl) rfl ?_
  exact RD.fin (HRD3.out.set 2 (.slice sp (rsetV t).length cap)) (KT.mk 3 0 (rsetV t) 0 [] [] sp cap none 0) rfl (w1.heap.size + 1) (by omega) (by unfold KeyC; exact ⟨by omega, by omega, ⟨by have := rsetV_len t; unfold maxLen; omega, by simp [maxLen], by simp [maxLen]⟩, HPS.out.keep HUP.out (KeepUp.set _ _ _ (Nat.lt_succ_self _)), by unfold KidsC; trivial⟩) (by unfold KeyIn; exact ⟨HUP.out, fun a e => by (cases e), by unfold KidsIn; trivial⟩) _ HR.out
set_option maxRecDepth 100000 in
set_option maxHeartbeats 4000000 in
theorem sRead_k4 {f : Nat} (ih : ReadAt f) (hf : f ≤ 15) (h : PR W g s) (hok : s.Ok) (hl : s.l.length ≤ 1100000) (hG : Gl W g) (hk : kindV s = 4) :
    Calls Tryz.prog 74 #[pt g, .int .i64 ((16 - f : Nat) : Int)] W (ReadDoes W g (readF (f + 1) s)) := by
  obtain ⟨w0, hw0, hb0, hs0, h2, h3, hr0⟩ := three_boxes W g ((16 - f : Nat) : Int)
  have hgl := Cells.lt h
  have T0 : Hid (Tk g W w0) := Tk.of_below hb0
  have p0 := h.tk (Tk.of_below (g := g + 1) hb0) (by omega)
  have C0 := sReadKind_c p0 hl (hG.tk T0.out)
  rw [hk] at C0
  have hfw := Fewer.kind hok
  obtain ⟨r, hr⟩ : ∃ r, readF (f + 1) s = r := ⟨_, rfl⟩
  rw [hr]
  unfold readF at hr
  dsimp only at hr
  rw [hk] at hr
  simp only [Nat.reduceEqDiff, or_true, true_or, or_false, false_or, if_true, if_false, reduceCtorEq, or_self] at hr
  obtain ⟨t, ht⟩ : ∃ t, kindS s = t := ⟨_, rfl⟩
  rw [ht] at C0 hfw hr
  have htl : t.l.length ≤ 1100000 := Nat.le_trans hfw.2 hl
  have HTK := Lib.hid hfw.1
  obtain ⟨d, hd⟩ : ∃ d, (16 - f : Nat) = d := ⟨_, rfl⟩
  have HD := Lib.hid hd
  rw [hd] at h3 hw0 ⊢
  have hd1 : 1 ≤ d := by omega
  have hd16 : ¬ (16 : Int) < d := by omega
  have C0 := Lib.hid C0
  have HR := Lib.hid hr
  have HG := Lib.hid hG
  have H2 := Lib.hid h2
  have H3 := Lib.hid h3
  have HR0 := Lib.hid hr0
  have hbl : W.heap.size < w0.heap.size ∧ W.heap.size + 1 < w0.heap.size ∧ W.heap.size + 1 + 1 < w0.heap.size := ⟨by omega, by omega, by omega⟩
  obtain ⟨hb1, hb2, hb3⟩ := hbl
  clear h hok hl hG hk hb0 h2 h3 hr0 hfw hr ht p0 hd
  have h2 := H2.out
  have h3 := H3.out
  go_enter Tryz.func74, Tryz.ntmps74
  go_wp2_with fail
  refine C0.out.mono ?_
  rintro e w1 ⟨rfl, p1, t1⟩
  have k2 := t1.cellN h2 (by omega)
  have hs1 := t1.size
  have hck : Cells (w1.alloc (.cells #[.int .i64 4, .int .u8 0, .slice none 0 0, .int .u32 0, .string ⟨#[]⟩, .slice none 0 0] 37)) w1.heap.size 37 #[.int .i64 4, .int .u8 0, .slice none 0 0, .int .u32 0, .string ⟨#[]⟩, .slice none 0 0] := heap_alloc_new w1 _
  have hbb : Below w1.heap.size w1 (w1.alloc (.cells #[.int .i64 4, .int .u8 0, .slice none 0 0, .int .u32 0, .string ⟨#[]⟩, .slice none 0 0] 37)) := by
    exact (Below.refl _ w1).alloc (Nat.le_refl _) _
  have hz2 : ((w1.alloc (.cells #[.int .i64 4, .int .u8 0, .slice none 0 0, .int .u32 0, .string ⟨#[]⟩, .slice none 0 0] 37))).heap.size = w1.heap.size + 1 := by simp
  have HRD : Hid (RD W g (W.heap.size + 1 + 1) w1.heap.size d t #[.int .i64 4, .int .u8 0, .slice none 0 0, .int .u32 0, .string ⟨#[]⟩, .slice none 0 0] (w1.alloc (.cells #[.int .i64 4, .int .u8 0, .slice none 0 0, .int .u32 0, .string ⟨#[]⟩, .slice none 0 0] 37))) := {
    hg := hgl
    hB := by omega
    hK := by omega
    two := (hbb.cell (p := ⟨W.heap.size, 0, none⟩) (by show W.heap.size < _; omega)).trans k2
    three := (hbb.cell (p := ⟨W.heap.size + 1, 0, none⟩) (by show W.heap.size + 1 < _; omega)).trans (t1.cellN h3 (by omega))
    hB2 := by omega
    ck := hck
    cr := Cells.later (Cells.later HR0.out (t1.blk _ hb3 (by omega))) (hbb.block _ (by omega))
    tk := (T0.out.trans t1).trans (Tk.of_below hbb)
    pr := p1.tk (Tk.of_below (g := g + 1) hbb) (by omega) }
  clear p1 t1 hck hbb
  have C1 := Lib.hid (sReadSet_c HRD.out.pr HTK.out htl (HG.out.tk HRD.out.tk).errs HG.out.aw)
  have k2' := HRD.out.two
  clear k2 h2 h3
  go_wp2_with fail
  refine C1.out.mono ?_
  rintro e w3 ⟨⟨sp, cap, rfl, hps, hup⟩, p3, t3⟩
  rw [hz2] at hup
  have HPS := Lib.hid hps
  have HUP := Lib.hid hup
  clear hps hup
  have HRD3 := Lib.hid (HRD.out.tk' t3 p3)
  clear p3 t3
  have hc := HRD3.out.ck
  have hr := HRD3.out.cr
  have q0 := hc.cell (i := 0) rfl
  have q1 := hc.cell (i := 1) rfl
  have q2 := hc.cell (i := 2) rfl
  have q3 := hc.cell (i := 3) rfl
  have q4 := hc.cell (i := 4) rfl
  have q5 := hc.cell (i := 5) rfl
  have r0 := hr.cell (i := 0) rfl
  have r1 := hr.cell (i := 1) rfl
  have r2 := hr.cell (i := 2) rfl
  have r3 := hr.cell (i := 3) rfl
  have r4 := hr.cell (i := 4) rfl
  have r5 := hr.cell (i := 5) rfl
  have fq := fun i => hc.frozen i
  have fr := fun i => hr.frozen i
  have hcl := hc.lt
  have hrl := hr.lt
  have hne : ¬ w1.heap.size = W.heap.size + 1 + 1 := by omega
  clear hc hr
  go_wp2_with fail
  refine bodyPost_ret (results_k4 _ _ (W.heap.size + 1 + 1) _ _ _ _ _ _ (Cells.six (RD.cr (HRD3.out.set 2 (.slice sp (rsetV t).length cap))) _ _ _ _ _ _) rfl) rfl ?_
  exact RD.fin (HRD3.out.set 2 (.slice sp (rsetV t).length cap)) (KT.mk 4 0 (rsetV t) 0 [] [] sp cap none 0) rfl (w1.heap.size + 1) (by omega) (by unfold KeyC; exact ⟨by omega, by omega, ⟨by have := rsetV_len t; unfold maxLen; omega, by simp [maxLen], by simp [maxLen]⟩, HPS.out.keep HUP.out (KeepUp.set _ _ _ (Nat.lt_succ_self _)), by unfold KidsC; trivial⟩) (by unfold KeyIn; exact ⟨HUP.out, fun a e => by (cases e), by unfold KidsIn; trivial⟩) _ HR.out
set_option maxRecDepth 100000 in
set_option maxHeartbeats 4000000 in
theorem sRead_k5 {f : Nat} (ih : ReadAt f) (hf : f ≤ 15) (h : PR W g s) (hok : s.Ok) (hl : s.l.length ≤ 1100000) (hG : Gl W g) (hk : kindV s = 5) :
    Calls Tryz.prog 74 #[pt g, .int .i64 ((16 - f : Nat) : Int)] W (ReadDoes W g (readF (f + 1) s)) := by
  obtain ⟨w0, hw0, hb0, hs0, h2, h3, hr0⟩ := three_boxes W g ((16 - f : Nat) : Int)
  have hgl := Cells.lt h
  have T0 : Hid (Tk g W w0) := Tk.of_below hb0
  have p0 := h.tk (Tk.of_below (g := g + 1) hb0) (by omega)
  have C0 := sReadKind_c p0 hl (hG.tk T0.out)
  rw [hk] at C0
  have hfw := Fewer.kind hok
  obtain ⟨r, hr⟩ : ∃ r, readF (f + 1) s = r := ⟨_, rfl⟩
  rw [hr]
  unfold readF at hr
  dsimp only at hr
  rw [hk] at hr
  simp only [Nat.reduceEqDiff, or_true, true_or, or_false, false_or, if_true, if_false, reduceCtorEq, or_self] at hr
  obtain ⟨t, ht⟩ : ∃ t, kindS s = t := ⟨_, rfl⟩
  rw [ht] at C0 hfw hr
  have htl : t.l.length ≤ 1100000 := Nat.le_trans hfw.2 hl
  have HTK := Lib.hid hfw.1
  obtain ⟨d, hd⟩ : ∃ d, (16 - f : Nat) = d := ⟨_, rfl⟩
  have HD := Lib.hid hd
  rw [hd] at h3 hw0 ⊢
  have hd1 : 1 ≤ d := by omega
  have hd16 : ¬ (16 : Int) < d := by omega
  have C0 := Lib.hid C0
  have HR := Lib.hid hr
  have HG := Lib.hid hG
  have H2 := Lib.hid h2
  have H3 := Lib.hid h3
  have HR0 := Lib.hid hr0
  have hbl : W.heap.size < w0.heap.size ∧ W.heap.size + 1 < w0.heap.size ∧ W.heap.size + 1 + 1 < w0.heap.size := ⟨by omega, by omega, by omega⟩
  obtain ⟨hb1, hb2, hb3⟩ := hbl
  clear h hok hl hG hk hb0 h2 h3 hr0 hfw hr ht p0 hd
  have h2 := H2.out
  have h3 := H3.out
  go_enter Tryz.func74, Tryz.ntmps74
  go_wp2_with fail
  refine C0.out.mono ?_
  rintro e w1 ⟨rfl, p1, t1⟩
  have k2 := t1.cellN h2 (by omega)
  have hs1 := t1.size
  have hck : Cells (w1.alloc (.cells #[.int .i64 5, .int .u8 0, .slice none 0 0, .int .u32 0, .string ⟨#[]⟩, .slice none 0 0] 37)) w1.heap.size 37 #[.int .i64 5, .int .u8 0, .slice none 0 0, .int .u32 0, .string ⟨#[]⟩, .slice none 0 0] := heap_alloc_new w1 _
  have hbb : Below w1.heap.size w1 (w1.alloc (.cells #[.int .i64 5, .int .u8 0, .slice none 0 0, .int .u32 0, .string ⟨#[]⟩, .slice none 0 0] 37)) := by
    exact (Below.refl _ w1).alloc (Nat.le_refl _) _
  have hz2 : ((w1.alloc (.cells #[.int .i64 5, .int .u8 0, .slice none 0 0, .int .u32 0, .string ⟨#[]⟩, .slice none 0 0] 37))).heap.size = w1.heap.size + 1 := by simp
  have HRD : Hid (RD W g (W.heap.size + 1 + 1) w1.heap.size d t #[.int .i64 5, .int .u8 0, .slice none 0 0, .int .u32 0, .string ⟨#[]⟩, .slice none 0 0] (w1.alloc (.cells #[.int .i64 5, .int .u8 0, .slice none 0 0, .int .u32 0, .string ⟨#[]⟩, .slice none 0 0] 37))) := {
    hg := hgl
    hB := by omega
    hK := by omega
    two := (hbb.cell (p := ⟨W.heap.size, 0, none⟩) (by show W.heap.size < _; omega)).trans k2
    three := (hbb.cell (p := ⟨W.heap.size + 1, 0, none⟩) (by show W.heap.size + 1 < _; omega)).trans (t1.cellN h3 (by omega))
    hB2 := by omega
    ck := hck
    cr := Cells.later (Cells.later HR0.out (t1.blk _ hb3 (by omega))) (hbb.block _ (by omega))
    tk := (T0.out.trans t1).trans (Tk.of_below hbb)
    pr := p1.tk (Tk.of_below (g := g + 1) hbb) (by omega) }
  clear p1 t1 hck hbb
  have C1 := Lib.hid (tkNumber_c HRD.out.pr HTK.out htl (HG.out.tk HRD.out.tk).errs HG.out.aw)
  have k2' := HRD.out.two
  clear k2 h2 h3
  go_wp2_with fail
  refine C1.out.mono ?_
  rintro e w3 ⟨rfl, p3, t3⟩
  have HRD3 := Lib.hid (HRD.out.tk' t3 p3)
  clear p3 t3
  have hc := HRD3.out.ck
  have hr := HRD3.out.cr
  have q0 := hc.cell (i := 0) rfl
  have q1 := hc.cell (i := 1) rfl
  have q2 := hc.cell (i := 2) rfl
  have q3 := hc.cell (i := 3) rfl
  have q4 := hc.cell (i := 4) rfl
  have q5 := hc.cell (i := 5) rfl
  have r0 := hr.cell (i := 0) rfl
  have r1 := hr.cell (i := 1) rfl
  have r2 := hr.cell (i := 2) rfl
  have r3 := hr.cell (i := 3) rfl
  have r4 := hr.cell (i := 4) rfl
  have r5 := hr.cell (i := 5) rfl
  have fq := fun i => hc.frozen i
  have fr := fun i => hr.frozen i
  have hcl := hc.lt
  have hrl := hr.lt
  have hne : ¬ w1.heap.size = W.heap.size + 1 + 1 := by omega
  clear hc hr
  go_wp2_with fail
  refine bodyPost_ret (results_k4 _ _ (W.heap.size + 1 + 1) _ _ _ _ _ _ (Cells.six (RD.cr (HRD3.out.set 3 (.int .u32 (numN t)))) _ _ _ _ _ _) rfl) rfl ?_
  exact RD.fin (HRD3.out.set 3 (.int .u32 (numN t))) (KT.mk 5 0 [] (numN t) [] [] none 0 none 0) rfl (w1.heap.size + 1) (by omega) (by first | (unfold KeyC; exact ⟨by omega, numN_le t, ⟨by simp [maxLen], by simp [maxLen], by simp [maxLen]⟩, fun i r hr => by simp at hr, by unfold KidsC; trivial⟩) | (unfold KeyIn; exact ⟨fun a e => by (cases e), fun a e => by (cases e), by unfold KidsIn; trivial⟩)) (by first | (unfold KeyC; exact ⟨by omega, numN_le t, ⟨by simp [maxLen], by simp [maxLen], by simp [maxLen]⟩, fun i r hr => by simp at hr, by unfold KidsC; trivial⟩) | (unfold KeyIn; exact ⟨fun a e => by (cases e), fun a e => by (cases e), by unfold KidsIn; trivial⟩)) _ HR.out
set_option maxRecDepth 100000 in
set_option maxHeartbeats 4000000 in
theorem sRead_k6 {f : Nat} (ih : ReadAt f) (hf : f ≤ 15) (h : PR W g s) (hok : s.Ok) (hl : s.l.length ≤ 1100000) (hG : Gl W g) (hk : kindV s = 6) :
    Calls Tryz.prog 74 #[pt g, .int .i64 ((16 - f : Nat) : Int)] W (ReadDoes W g (readF (f + 1) s)) := by
  obtain ⟨w0, hw0, hb0, hs0, h2, h3, hr0⟩ := three_boxes W g ((16 - f : Nat) : Int)
  have hgl := Cells.lt h
  have T0 : Hid (Tk g W w0) := Tk.of_below hb0
  have p0 := h.tk (Tk.of_below (g := g + 1) hb0) (by omega)
  have C0 := sReadKind_c p0 hl (hG.tk T0.out)
  rw [hk] at C0
  have hfw := Fewer.kind hok
  obtain ⟨r, hr⟩ : ∃ r, readF (f + 1) s = r := ⟨_, rfl⟩
  rw [hr]
  unfold readF at hr
  dsimp only at hr
  rw [hk] at hr
  simp only [Nat.reduceEqDiff, or_true, true_or, or_false, false_or, if_true, if_false, reduceCtorEq, or_self] at hr
  obtain ⟨t, ht⟩ : ∃ t, kindS s = t := ⟨_, rfl⟩
  rw [ht] at C0 hfw hr
  have htl : t.l.length ≤ 1100000 := Nat.le_trans hfw.2 hl
  have HTK := Lib.hid hfw.1
  obtain ⟨d, hd⟩ : ∃ d, (16 - f : Nat) = d := ⟨_, rfl⟩
  have HD := Lib.hid hd
  rw [hd] at h3 hw0 ⊢
  have hd1 : 1 ≤ d := by omega
  have hd16 : ¬ (16 : Int) < d := by omega
  have C0 := Lib.hid C0
  have HR := Lib.hid hr
  have HG := Lib.hid hG
  have H2 := Lib.hid h2
  have H3 := Lib.hid h3
  have HR0 := Lib.hid hr0
  have hbl : W.heap.size < w0.heap.size ∧ W.heap.size + 1 < w0.heap.size ∧ W.heap.size + 1 + 1 < w0.heap.size := ⟨by omega, by omega, by omega⟩
  obtain ⟨hb1, hb2, hb3⟩ := hbl
  clear h hok hl hG hk hb0 h2 h3 hr0 hfw hr ht p0 hd
  have h2 := H2.out
  have h3 := H3.out
  go_enter Tryz.func74, Tryz.ntmps74
  go_wp2_with fail
  refine C0.out.mono ?_
  rintro e w1 ⟨rfl, p1, t1⟩
  have k2 := t1.cellN h2 (by omega)
  have hs1 := t1.size
  have hck : Cells (w1.alloc (.cells #[.int .i64 6, .int .u8 0, .slice none 0 0, .int .u32 0, .string ⟨#[]⟩, .slice none 0 0] 37)) w1.heap.size 37 #[.int .i64 6, .int .u8 0, .slice none 0 0, .int .u32 0, .string ⟨#[]⟩, .slice none 0 0] := heap_alloc_new w1 _
  have hbb : Below w1.heap.size w1 (w1.alloc (.cells #[.int .i64 6, .int .u8 0, .slice none 0 0, .int .u32 0, .string ⟨#[]⟩, .slice none 0 0] 37)) := by
    exact (Below.refl _ w1).alloc (Nat.le_refl _) _
  have hz2 : ((w1.alloc (.cells #[.int .i64 6, .int .u8 0, .slice none 0 0, .int .u32 0, .string ⟨#[]⟩, .slice none 0 0] 37))).heap.size = w1.heap.size + 1 := by simp
  have HRD : Hid (RD W g (W.heap.size + 1 + 1) w1.heap.size d t #[.int .i64 6, .int .u8 0, .slice none 0 0, .int .u32 0, .string ⟨#[]⟩, .slice none 0 0] (w1.alloc (.cells #[.int .i64 6, .int .u8 0, .slice none 0 0, .int .u32 0, .string ⟨#[]⟩, .slice none 0 0] 37))) := {
    hg := hgl
    hB := by omega
    hK := by omega
    two := (hbb.cell (p := ⟨W.heap.size, 0, none⟩) (by show W.heap.size < _; omega)).trans k2
    three := (hbb.cell (p := ⟨W.heap.size + 1, 0, none⟩) (by show W.heap.size + 1 < _; omega)).trans (t1.cellN h3 (by omega))
    hB2 := by omega
    ck := hck
    cr := Cells.later (Cells.later HR0.out (t1.blk _ hb3 (by omega))) (hbb.block _ (by omega))
    tk := (T0.out.trans t1).trans (Tk.of_below hbb)
    pr := p1.tk (Tk.of_below (g := g + 1) hbb) (by omega) }
  clear p1 t1 hck hbb
  have C1 := Lib.hid (tkNumber_c HRD.out.pr HTK.out htl (HG.out.tk HRD.out.tk).errs HG.out.aw)
  have k2' := HRD.out.two
  clear k2 h2 h3
  go_wp2_with fail
  refine C1.out.mono ?_
  rintro e w3 ⟨rfl, p3, t3⟩
  have HRD3 := Lib.hid (HRD.out.tk' t3 p3)
  clear p3 t3
  have hc := HRD3.out.ck
  have hr := HRD3.out.cr
  have q0 := hc.cell (i := 0) rfl
  have q1 := hc.cell (i := 1) rfl
  have q2 := hc.cell (i := 2) rfl
  have q3 := hc.cell (i := 3) rfl
  have q4 := hc.cell (i := 4) rfl
  have q5 := hc.cell (i := 5) rfl
  have r0 := hr.cell (i := 0) rfl
  have r1 := hr.cell (i := 1) rfl
  have r2 := hr.cell (i := 2) rfl
  have r3 := hr.cell (i := 3) rfl
  have r4 := hr.cell (i := 4) rfl
  have r5 := hr.cell (i := 5) rfl
  have fq := fun i => hc.frozen i
  have fr := fun i => hr.frozen i
  have hcl := hc.lt
  have hrl := hr.lt
  have hne : ¬ w1.heap.size = W.heap.size + 1 + 1 := by omega
  clear hc hr
  go_wp2_with fail
  refine bodyPost_ret (results_k4 _ _ (W.heap.size + 1 + 1) _ _ _ _ _ _ (Cells.six (RD.cr (HRD3.out.set 3 (.int .u32 (numN t)))) _ _ _ _ _ _) rfl) rfl ?_
  exact RD.fin (HRD3.out.set 3 (.int .u32 (numN t))) (KT.mk 6 0 [] (numN t) [] [] none 0 none 0) rfl (w1.heap.size + 1) (by omega) (by first | (unfold KeyC; exact ⟨by omega, numN_le t, ⟨by simp [maxLen], by simp [maxLen], by simp [maxLen]⟩, fun i r hr => by simp at hr, by unfold KidsC; trivial⟩) | (unfold KeyIn; exact ⟨fun a e => by (cases e), fun a e => by (cases e), by unfold KidsIn; trivial⟩)) (by first | (unfold KeyC; exact ⟨by omega, numN_le t, ⟨by simp [maxLen], by simp [maxLen], by simp [maxLen]⟩, fun i r hr => by simp at hr, by unfold KidsC; trivial⟩) | (unfold KeyIn; exact ⟨fun a e => by (cases e), fun a e => by (cases e), by unfold KidsIn; trivial⟩)) _ HR.out
set_option maxRecDepth 100000 in
set_option maxHeartbeats 4000000 in
theorem sRead_k7 {f : Nat} (ih : ReadAt f) (hf : f ≤ 15) (h : PR W g s) (hok : s.Ok) (hl : s.l.length ≤ 1100000) (hG : Gl W g) (hk : kindV s = 7) :
    Calls Tryz.prog 74 #[pt g, .int .i64 ((16 - f : Nat) : Int)] W (ReadDoes W g (readF (f + 1) s)) := by
  obtain ⟨w0, hw0, hb0, hs0, h2, h3, hr0⟩ := three_boxes W g ((16 - f : Nat) : Int)
  have hgl := Cells.lt h
  have T0 : Hid (Tk g W w0) := Tk.of_below hb0
  have p0 := h.tk (Tk.of_below (g := g + 1) hb0) (by omega)
  have C0 := sReadKind_c p0 hl (hG.tk T0.out)
  rw [hk] at C0
  have hfw := Fewer.kind hok
  obtain ⟨r, hr⟩ : ∃ r, readF (f + 1) s = r := ⟨_, rfl⟩
  rw [hr]
  unfold readF at hr
  dsimp only at hr
  rw [hk] at hr
  simp only [Nat.reduceEqDiff, or_true, true_or, or_false, false_or, if_true, if_false, reduceCtorEq, or_self] at hr
  obtain ⟨t, ht⟩ : ∃ t, kindS s = t := ⟨_, rfl⟩
  rw [ht] at C0 hfw hr
  have htl : t.l.length ≤ 1100000 := Nat.le_trans hfw.2 hl
  have HTK := Lib.hid hfw.1
  obtain ⟨d, hd⟩ : ∃ d, (16 - f : Nat) = d := ⟨_, rfl⟩
  have HD := Lib.hid hd
  rw [hd] at h3 hw0 ⊢
  have hd1 : 1 ≤ d := by omega
  have hd16 : ¬ (16 : Int) < d := by omega
  have C0 := Lib.hid C0
  have HR := Lib.hid hr
  have HG := Lib.hid hG
  have H2 := Lib.hid h2
  have H3 := Lib.hid h3
  have HR0 := Lib.hid hr0
  have hbl : W.heap.size < w0.heap.size ∧ W.heap.size + 1 < w0.heap.size ∧ W.heap.size + 1 + 1 < w0.heap.size := ⟨by omega, by omega, by omega⟩
  obtain ⟨hb1, hb2, hb3⟩ := hbl
  clear h hok hl hG hk hb0 h2 h3 hr0 hfw hr ht p0 hd
  have h2 := H2.out
  have h3 := H3.out
  go_enter Tryz.func74, Tryz.ntmps74
  go_wp2_with fail
  refine C0.out.mono ?_
  rintro e w1 ⟨rfl, p1, t1⟩
  have k2 := t1.cellN h2 (by omega)
  have hs1 := t1.size
  have hck : Cells (w1.alloc (.cells #[.int .i64 7, .int .u8 0, .slice none 0 0, .int .u32 0, .string ⟨#[]⟩, .slice none 0 0] 37)) w1.heap.size 37 #[.int .i64 7, .int .u8 0, .slice none 0 0, .int .u32 0, .string ⟨#[]⟩, .slice none 0 0] := heap_alloc_new w1 _
  have hbb : Below w1.heap.size w1 (w1.alloc (.cells #[.int .i64 7, .int .u8 0, .slice none 0 0, .int .u32 0, .string ⟨#[]⟩, .slice none 0 0] 37)) := by
    exact (Below.refl _ w1).alloc (Nat.le_refl _) _
  have hz2 : ((w1.alloc (.cells #[.int .i64 7, .int .u8 0, .slice none 0 0, .int .u32 0, .string ⟨#[]⟩, .slice none 0 0] 37))).heap.size = w1.heap.size + 1 := by simp
  have HRD : Hid (RD W g (W.heap.size + 1 + 1) w1.heap.size d t #[.int .i64 7, .int .u8 0, .slice none 0 0, .int .u32 0, .string ⟨#[]⟩, .slice none 0 0] (w1.alloc (.cells #[.int .i64 7, .int .u8 0, .slice none 0 0, .int .u32 0, .string ⟨#[]⟩, .slice none 0 0] 37))) := {
    hg := hgl
    hB := by omega
    hK := by omega
    two := (hbb.cell (p := ⟨W.heap.size, 0, none⟩) (by show W.heap.size < _; omega)).trans k2
    three := (hbb.cell (p := ⟨W.heap.size + 1, 0, none⟩) (by show W.heap.size + 1 < _; omega)).trans (t1.cellN h3 (by omega))
    hB2 := by omega
    ck := hck
    cr := Cells.later (Cells.later HR0.out (t1.blk _ hb3 (by omega))) (hbb.block _ (by omega))
    tk := (T0.out.trans t1).trans (Tk.of_below hbb)
    pr := p1.tk (Tk.of_below (g := g + 1) hbb) (by omega) }
  clear p1 t1 hck hbb
  have C1 := Lib.hid (tkString_c HRD.out.pr HTK.out htl (HG.out.tk HRD.out.tk).errs HG.out.aw)
  have k2' := HRD.out.two
  clear k2 h2 h3
  go_wp2_with fail
  refine C1.out.mono ?_
  rintro e w3 ⟨rfl, p3, t3⟩
  have HRD3 := Lib.hid (HRD.out.tk' t3 p3)
  clear p3 t3
  have hc := HRD3.out.ck
  have hr := HRD3.out.cr
  have q0 := hc.cell (i := 0) rfl
  have q1 := hc.cell (i := 1) rfl
  have q2 := hc.cell (i := 2) rfl
  have q3 := hc.cell (i := 3) rfl
  have q4 := hc.cell (i := 4) rfl
  have q5 := hc.cell (i := 5) rfl
  have r0 := hr.cell (i := 0) rfl
  have r1 := hr.cell (i := 1) rfl
  have r2 := hr.cell (i := 2) rfl
  have r3 := hr.cell (i := 3) rfl
  have r4 := hr.cell (i := 4) rfl
  have r5 := hr.cell (i := 5) rfl
  have fq := fun i => hc.frozen i
  have fr := fun i => hr.frozen i
  have hcl := hc.lt
  have hrl := hr.lt
  have hne : ¬ w1.heap.size = W.heap.size + 1 + 1 := by omega
  clear hc hr
  go_wp2_with fail
  refine bodyPost_ret (results_k4 _ _ (W.heap.size + 1 + 1) _ _ _ _ _ _ (Cells.six (RD.cr (HRD3.out.set 4 (.string (txt (strV t))))) _ _ _ _ _ _) rfl) rfl ?_
  exact RD.fin (HRD3.out.set 4 (.string (txt (strV t)))) (KT.mk 7 0 [] 0 (strV t) [] none 0 none 0) rfl (w1.heap.size + 1) (by omega) (by first | (unfold KeyC; exact ⟨by omega, by omega, ⟨by simp [maxLen], by simp [maxLen], (by have := strV_le t; unfold maxLen; omega)⟩, fun i r hr => by simp at hr, by unfold KidsC; trivial⟩) | (unfold KeyIn; exact ⟨fun a e => by (cases e), fun a e => by (cases e), by unfold KidsIn; trivial⟩)) (by first | (unfold KeyC; exact ⟨by omega, by omega, ⟨by simp [maxLen], by simp [maxLen], (by have := strV_le t; unfold maxLen; omega)⟩, fun i r hr => by simp at hr, by unfold KidsC; trivial⟩) | (unfold KeyIn; exact ⟨fun a e => by (cases e), fun a e => by (cases e), by unfold KidsIn; trivial⟩)) _ HR.out
end Go.Proofs.YtpnnchpaaopdcaaGreatDoor

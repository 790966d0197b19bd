/-
  strings.Replacer: sync.Once's Do, whatever the building does: contract.
-/
import Derived.Test.YtiiijmplcagaiaaGreatDoorRp1
set_option linter.unusedVariables false
set_option linter.unusedSimpArgs false
namespace Go.Proofs.YtiiijmplcagaiaaGreatDoor
open Go Go.RowKit
abbrev pt0 (g : Nat) : Value := .pointer (some ⟨g, 0, none⟩)
/-- A Replacer, as it lies. -/
def RepAt (W : World) (g : Nat) (d st : Int) (r o : Value) : Prop := Cells W g 59 #[.int .u32 d, .int .i32 st, .int .u32 0, r, o]
theorem RepAt.facts {W : World} {g : Nat} {d st : Int} {r o : Value} (h : RepAt W g d st r o) : W.cell? ⟨g, 0, none⟩ = some (.int .u32 d) ∧ W.cell? ⟨g, 1, none⟩ = some (.int .i32 st) ∧ W.cell? ⟨g, 3, none⟩ = some r ∧ W.cell? ⟨g, 4, none⟩ = some o ∧
    g < W.heap.size ∧ (∀ i, W.frozen? ⟨g, i, none⟩ = false) := ⟨Cells.cell h rfl, Cells.cell h rfl, Cells.cell h rfl, Cells.cell h rfl, Cells.lt h, fun i => Cells.frozen h i⟩
theorem RepAt.set0 {W : World} {g : Nat} {d st : Int} {r o : Value} (h : RepAt W g d st r o) (x : Int) : RepAt (W.setCell ⟨g, 0, none⟩ (.int .u32 x)) g x st r o := Cells.set h 0 _
theorem RepAt.set1 {W : World} {g : Nat} {d st : Int} {r o : Value} (h : RepAt W g d st r o) (x : Int) : RepAt (W.setCell ⟨g, 1, none⟩ (.int .i32 x)) g d x r o := Cells.set h 1 _
theorem RepAt.set3 {W : World} {g : Nat} {d st : Int} {r o : Value} (h : RepAt W g d st r o) (x : Value) : RepAt (W.setCell ⟨g, 3, none⟩ x) g d st x o := Cells.set h 3 _
theorem RepAt.set4 {W : World} {g : Nat} {d st : Int} {r o : Value} (h : RepAt W g d st r o) (x : Value) : RepAt (W.setCell ⟨g, 4, none⟩ x) g d st r x := Cells.set h 4 _
def OnceP (g : Nat) (W : World) (E : Value → World → Prop) (d st : Int) (e : Ending) (w' : World) : Prop := e = .returned (.tuple #[]) ∧ ∃ r, RepAt w' g d st r (.slice none 0 0) ∧ E r w' ∧ Tk g W w'
variable {g : Nat} {sv : Value} {G : World → Prop} {E : Value → World → Prop}

theorem bload_c (a : Addr) (d : Int) (b : Bool) (hd : (d != 0) = b) (w : World) (h : w.cell? a = some (.int .u32 d)) : Calls Tryz.prog 42 #[.pointer (some a)] w fun e w' => e = .returned (.bool b) ∧ w' = w := by
  have hl := run_call_load (P := Tryz.prog) Tryz.func52 (by kernel_rfl) (by kernel_rfl) (by kernel_rfl) .u32 (by kernel_rfl) h
  go_enter Tryz.func42, Tryz.ntmps42
  go_wp2_with fail
  go_ret
  exact ⟨by simp [hd], rfl⟩
theorem cells5 : Tryz.prog.cellsOf 59 = 5 := by kernel_rfl
set_option maxRecDepth 100000 in
set_option maxHeartbeats 1600000 in
theorem onceSlow_c (HG : ∀ w w', G w → Tk g w w' → G w') (HE : ∀ r w w', E r w → Tk g w w' → E r w')
    (HB : ∀ w, RepAt w g 0 1 .nilIface sv → G w → Calls Tryz.prog 30 #[pt0 g] w (OnceP g w E 0 1)) (w : World) (h : RepAt w g 0 0 .nilIface sv) (hG : G w) :
    Calls Tryz.prog 43 #[pt0 g, .func (.func 30) #[pt0 g] #[]] w (OnceP g w E 1 0) := by
  obtain ⟨c0, c1, c3, c4, hb, hf⟩ := h.facts
  have f0 := hf 0
  have f1 := hf 1
  have h1 := h.set1 1
  have hk1 : Tk g w (w.setCell ⟨g, 1, none⟩ (.int .i32 1)) := Tk.set _ _ _
  obtain ⟨w1, hw1⟩ : ∃ w1, w.setCell ⟨g, 1, none⟩ (.int .i32 1) = w1 := ⟨_, rfl⟩
  have CL := lock_free ⟨g, 1, none⟩ w c1 f1
  rw [hw1] at h1 hk1 CL
  obtain ⟨d0, d1, d3, d4, hb1, hf1⟩ := h1.facts
  have hl := Lib.hid (bload_c ⟨g, 0, none⟩ 0 false rfl w1 d0)
  have CB := Lib.hid (HB w1 h1 (HG _ _ hG hk1))
  have hnot : ∀ (x : Bool) (w : World), (Op.unary .not (.bool x)).run Tryz.prog w = .ok (.bool (!x)) w := fun _ _ => rfl
  have CL := Lib.hid CL
  have HK1 := Lib.hid hk1
  have HHE := Lib.hid HE
  clear HB HG HE h hG c0 c1 c3 c4 hf f0 f1 h1 hk1 hw1 d1 d3 d4 hf1
  go_enter_defers Tryz.func43, Tryz.ntmps43
  go_wp2_with (go_at_call 53; refine CL.out.mono ?_; rintro e w' ⟨rfl, rfl⟩)
  go_wp2_with (go_at_call 42; refine hl.out.mono ?_; rintro e w'' ⟨rfl, rfl⟩)
  go_wp2_with (go_at_call 30; refine CB.out.mono ?_; rintro e w2 ⟨rfl, r, h2, e2, k2⟩)
  have H2 := Lib.hid h2
  have E2 := Lib.hid e2
  have K2 := Lib.hid k2
  clear h2 e2 k2
  go_wp2
  have h3 : RepAt w2.drew g 0 1 r (.slice none 0 0) := H2.out
  refine leaves_cons (f := 55) (args := #[.pointer (some ⟨g, 0, none⟩), .bool true]) (by simp) (by simp [go_sem]) ?_
  refine (store_deferred ⟨g, 0, none⟩ (.int .u32 0) .returning _ H2.out.facts.1 (H2.out.facts.2.2.2.2.2 0)).mono ?_
  rintro e u' w3 ⟨rfl, rfl, rfl⟩
  have h4 := h3.set0 1
  refine leaves_cons (f := 54) (args := #[.pointer (some ⟨g, 1, none⟩)]) (by simp [settle]) (by simp [go_sem]) ?_
  refine (unlock_deferred ⟨g, 1, none⟩ _ _ h4.facts.2.1 (h4.facts.2.2.2.2.2 1)).mono ?_
  rintro e u' w4 ⟨rfl, rfl, rfl⟩
  have h5 := h4.set1 0
  have k5 : Tk g w2 ((w2.drew.setCell ⟨g, 0, none⟩ (.int .u32 1)).setCell ⟨g, 1, none⟩ (.int .i32 0)) := ((Tk.drewN (Tk.refl g w2) 1).trans (Tk.set _ _ _)).trans (Tk.set _ _ _)
  have hfin : OnceP g w E 1 0 (.returned (.tuple #[])) ((w2.drew.setCell ⟨g, 0, none⟩ (.int .u32 1)).setCell ⟨g, 1, none⟩ (.int .i32 0)) := ⟨rfl, r, h5, HHE.out _ _ _ E2.out k5, (HK1.out.trans K2.out).trans k5⟩
  simp [Leaves, settle, results, Tryz.results43]
  exact hfin
theorem onceDo_c (HG : ∀ w w', G w → Tk g w w' → G w') (HE : ∀ r w w', E r w → Tk g w w' → E r w')
    (HB : ∀ w, RepAt w g 0 1 .nilIface sv → G w → Calls Tryz.prog 30 #[pt0 g] w (OnceP g w E 0 1)) (w : World) (h : RepAt w g 0 0 .nilIface sv) (hG : G w) :
    Calls Tryz.prog 29 #[pt0 g, .func (.func 30) #[pt0 g] #[]] w (OnceP g w E 1 0) := by
  have hl := Lib.hid (bload_c ⟨g, 0, none⟩ 0 false rfl w h.facts.1)
  have CS := Lib.hid (onceSlow_c HG HE HB w h hG)
  have hb := h.facts.2.2.2.2.1
  clear HG HE HB h hG
  go_enter Tryz.func29, Tryz.ntmps29
  go_wp2_with (go_at_call 42; refine hl.out.mono ?_; rintro e w'' ⟨rfl, rfl⟩)
  go_wp2_with (go_at_call 43; refine CS.out.mono ?_; rintro e w2 ⟨rfl, r, h2, e2, k2⟩)
  have HF : Hid (OnceP g w'' E 1 0 (.returned (.tuple #[])) w2) := ⟨rfl, r, h2, e2, k2⟩
  clear h2 e2 k2
  go_wp2_with fail
  go_end0
  exact HF.out
end Go.Proofs.YtiiijmplcagaiaaGreatDoor

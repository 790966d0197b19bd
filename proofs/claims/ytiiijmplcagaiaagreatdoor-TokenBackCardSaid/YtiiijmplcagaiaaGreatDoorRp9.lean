/-
  strings.Replacer.Replace: contract.
-/
import Derived.Test.YtiiijmplcagaiaaGreatDoorRp8
import Derived.Deep.OwnRows
set_option linter.unusedVariables false
set_option linter.unusedSimpArgs false
namespace Go.Proofs.YtiiijmplcagaiaaGreatDoor
open Go Go.RowKit
variable {W : World} {g q cp : Nat}
theorem at_repl (v : Value) (w : World) : (method (Tryz.prog.types.size + Made.depth) 94 v "Replace").run Tryz.prog w = .ok (135, v) w := by kernel_rfl
theorem OldAt.tk {w w' : World} (h : OldAt w q) (hq : q ≠ g) (hk : Tk g w w') : OldAt w' q := by
  have hc : ∀ i, w'.cell? ⟨q, i, none⟩ = w.cell? ⟨q, i, none⟩ := fun i => cell_same9 (hk.blk q h.lt hq)
  exact ⟨(hc _).trans h.c0, (hc _).trans h.c1, (hc _).trans h.c2, (hc _).trans h.c3, Nat.lt_of_lt_of_le h.lt hk.size⟩
theorem RepE.tk {r : Value} {w w' : World} (h : RepE g r w) (hk : Tk g w w') : RepE g r w' := by
  obtain ⟨rb, e, hd⟩ := h
  exact ⟨rb, e, hd.tk hk⟩
set_option maxRecDepth 100000 in
set_option maxHeartbeats 1600000 in
theorem repReplace_c (hr : RepAt W g 0 0 .nilIface (.slice (some ⟨q, 0, none⟩) 4 cp)) (ho : OldAt W q) (hq : q ≠ g) (l : List UInt8) (hl : l.length ≤ 1000) :
    Calls Tryz.prog 17 #[pt0 g, .string (txt l)] W fun e w' => e = .returned (.string (txt (escL l))) ∧ Tk g W w' := by
  have C := Lib.hid (onceDo_c (g := g) (sv := .slice (some ⟨q, 0, none⟩) 4 cp) (G := fun w => OldAt w q) (E := RepE g) (fun w w' h hk => h.tk hq hk) (fun r w w' h hk => h.tk hk) (fun w h1 h2 => buildOnce_c h1 h2) W hr ho)
  have hm := fun (v : Value) (w : World) => at_repl v w
  simp [go_sem] at hm
  have hlt := hr.facts.2.2.2.2.1
  clear hr ho
  go_enter Tryz.func17, Tryz.ntmps17
  go_wp2_with (first | (go_at_call 29; refine C.out.mono ?_; rintro e w1 ⟨rfl, r, h1, ⟨rb, rfl, hd⟩, k1⟩; obtain ⟨_, _, c3, _, _, _⟩ := h1.facts; obtain ⟨b1, b2, t, tc, hv, k256, kt0, kt1, ktl⟩ := hd.view; have C2 := Lib.hid (bsRepl_c hv k256 kt0 kt1 ktl l hl); have K1 := Lib.hid k1; have hsz := k1.size; clear h1 hd hv k256 kt0 kt1 ktl k1) | (refine C2.out.mono ?_; rintro e w2 ⟨rfl, hb⟩))
  go_ret
  exact ⟨rfl, K1.out.trans (Tk.of_below hb)⟩
end Go.Proofs.YtiiijmplcagaiaaGreatDoor

/-
  strings.Replacer: made of four texts; built, once: contracts.
-/
import Derived.Test.YtiiijmplcagaiaaGreatDoorRp5
set_option linter.unusedVariables false
set_option linter.unusedSimpArgs false
namespace Go.Proofs.YtiiijmplcagaiaaGreatDoor
open Go Go.RowKit
variable {W : World} {g q cp : Nat}

theorem own_lower {w : World} {B B' e size n : Nat} {v : Value} {xs : List Value} (h : w.ownsRow B e size v n xs) (hB : B' ≤ B) : w.ownsRow B' e size v n xs := by
  refine ⟨h.1, ?_⟩
  rcases h.2 with hn | ⟨g, cap, cur, rfl, hg, rest⟩
  · exact .inl hn
  · exact .inr ⟨g, cap, cur, rfl, by omega, rest⟩
theorem BsDone.tk {w w' : World} {rb : Nat} (h : BsDone (g + 1) rb w) (hk : Tk g w w') : BsDone (g + 1) rb w' := by
  obtain ⟨hr, tr, b1, c1, b2, c2, ⟨hc, ho⟩, h1, h2, hb1, hb2⟩ := h
  refine ⟨hr, tr, b1, c1, b2, c2, ⟨hc.later (hk.blk rb hc.lt (by omega)), own_keep ho fun k hk' => ?_⟩, bytes_keep h1 (hk.blk b1 h1.lt (by omega)), bytes_keep h2 (hk.blk b2 h2.lt (by omega)), hb1, hb2⟩
  have := ho.lt k hk'
  exact hk.blk k this.2 (by omega)
theorem BsDone.lower {w : World} {B B' rb : Nat} (h : BsDone B rb w) (hB : B' ≤ B) : BsDone B' rb w := by
  obtain ⟨hr, tr, b1, c1, b2, c2, ⟨hc, ho⟩, h1, h2, hb1, hb2⟩ := h
  exact ⟨by omega, tr, b1, c1, b2, c2, ⟨hc, own_lower ho hB⟩, h1, h2, by omega, by omega⟩
def RepE (g : Nat) (r : Value) (w : World) : Prop := ∃ rb, r = .iface 94 (pt0 rb) ∧ BsDone (g + 1) rb w

set_option maxRecDepth 100000 in
set_option maxHeartbeats 1000000 in
theorem buildOnce_c (hr : RepAt W g 0 1 .nilIface (.slice (some ⟨q, 0, none⟩) 4 cp)) (ho : OldAt W q) : Calls Tryz.prog 30 #[pt0 g] W (OnceP g W (RepE g) 0 1) := by
  have C := Lib.hid (repBuild_c hr ho)
  have HR := Lib.hid hr
  have hlt := hr.facts.2.2.2.2.1
  clear hr ho
  go_enter Tryz.func30, Tryz.ntmps30
  go_wp2_with fail
  refine C.out.mono ?_
  rintro e w1 ⟨rb, rfl, hd, hb⟩
  have h1 : RepAt w1 g 0 1 .nilIface (.slice (some ⟨q, 0, none⟩) 4 cp) := Cells.later HR.out (hb.block g hlt)
  obtain ⟨c0, c1, c3, c4, hb1, hf⟩ := h1.facts
  have f3 := hf 3
  have f4 := hf 4
  have h2 := (h1.set3 (.iface 94 (pt0 rb))).set4 (.slice none 0 0)
  have k2 : Tk g w1 ((w1.setCell ⟨g, 3, none⟩ (.iface 94 (pt0 rb))).setCell ⟨g, 4, none⟩ (.slice none 0 0)) := (Tk.set _ _ _).trans (Tk.set _ _ _)
  have HF : Hid (OnceP g W (RepE g) 0 1 (.returned (.tuple #[])) ((w1.setCell ⟨g, 3, none⟩ (.iface 94 (pt0 rb))).setCell ⟨g, 4, none⟩ (.slice none 0 0))) :=
    ⟨rfl, _, h2, ⟨rb, rfl, (hd.lower (by omega)).tk k2⟩, (Tk.of_below hb).trans k2⟩
  clear h1 h2 k2 hd hb c0 c1 hf
  go_wp2_with fail
  go_end0
  exact HF.out

/-- Four texts that a caller hands in. -/
theorem repNew_c {p c : Nat} (h : OldAt W p) : Calls Tryz.prog 16 #[.slice (some ⟨p, 0, none⟩) 4 c] W fun e w' => ∃ g q cp, e = .returned (pt0 g) ∧ RepAt w' g 0 0 .nilIface (.slice (some ⟨q, 0, none⟩) 4 cp) ∧ OldAt w' q ∧ q ≠ g ∧ W.heap.size ≤ g ∧ W.heap.size ≤ q ∧ Below W.heap.size W w' := by
  obtain ⟨iS, hiS, hS0, hS1, hS2⟩ := info_parts Tryz.infoStr
  have hcs : ∀ j u, ([.string sO1, .string sN1, .string sO2, .string sN2] : List Value)[j]? = some u → W.cell? ((⟨p, 0, none⟩ : Addr).add j) = some u := by
    intro j u hj
    rw [Addr.add_lit, Nat.zero_add]
    match j, hj with
    | 0, hj => cases hj; exact h.c0
    | 1, hj => cases hj; exact h.c1
    | 2, hj => cases hj; exact h.c2
    | 3, hj => cases hj; exact h.c3
    | j + 4, hj => simp at hj
  have HCS := Lib.hid hcs
  clear hcs h
  go_enter Tryz.func16, Tryz.ntmps16
  go_wp2_with (at_builtin; refine wpList_append_own _ rfl (.const (.slice none 0 0)) (.tmp 8) 25 rfl W.heap.size 9 iS (.string ⟨#[]⟩) 1 16 Tryz.underlying25 hiS hS0 hS1 hS2 rfl (by decide) _ _ _ rfl (World.ownsRow_nil _ _ _ _) ⟨p, 0, none⟩ 4 c [.string sO1, .string sN1, .string sO2, .string sN2] rfl rfl HCS.out (fun x hx => by simp at hx; rcases hx with rfl | rfl | rfl | rfl <;> rfl) (by unfold maxLen; simp) (by simp) (by simp) ?_)
  intro v' w1 hown hgrow _
  have hb : Below W.heap.size W w1 := Below.grown (Below.refl _ W) hgrow (Nat.le_refl _) (fun j hj => by cases hj)
  have hown2 := hown
  rcases hown.2 with ⟨_, h0⟩ | ⟨q, cap, cur, rfl, hg, hgg, h4, hm, hcs, htk⟩
  · cases h0
  have hq : OldAt (w1.alloc (.cells #[.int .u32 0, .int .i32 0, .int .u32 0, .nilIface, .slice (some ⟨q, 0, none⟩) 4 cap] 59)) q := by
    have ho := (hown2.alloc (.cells #[.int .u32 0, .int .i32 0, .int .u32 0, .nilIface, .slice (some ⟨q, 0, none⟩) 4 cap] 59))
    have hc := ho.cells (g := q) rfl
    have e : ∀ o, (⟨q, 0, none⟩ : Addr).add o = ⟨q, o, none⟩ := fun o => by rw [Addr.add_lit, Nat.zero_add]
    exact ⟨by rw [← e]; exact hc 0 _ rfl, by rw [← e]; exact hc 1 _ rfl, by rw [← e]; exact hc 2 _ rfl, by rw [← e]; exact hc 3 _ rfl, (ho.lt q rfl).2⟩
  have hqlt : q < w1.heap.size := (hown2.lt q rfl).2
  have HF : Hid (∃ g q' cp', (pt0 w1.heap.size) = pt0 g ∧ RepAt (w1.alloc (.cells #[.int .u32 0, .int .i32 0, .int .u32 0, .nilIface, .slice (some ⟨q, 0, none⟩) 4 cap] 59)) g 0 0 .nilIface (.slice (some ⟨q', 0, none⟩) 4 cp') ∧
      OldAt (w1.alloc (.cells #[.int .u32 0, .int .i32 0, .int .u32 0, .nilIface, .slice (some ⟨q, 0, none⟩) 4 cap] 59)) q' ∧ q' ≠ g ∧ W.heap.size ≤ g ∧ W.heap.size ≤ q' ∧ Below W.heap.size W (w1.alloc (.cells #[.int .u32 0, .int .i32 0, .int .u32 0, .nilIface, .slice (some ⟨q, 0, none⟩) 4 cap] 59))) :=
    ⟨w1.heap.size, q, cap, rfl, heap_alloc_new w1 _, hq, by omega, hb.size, hg, hb.alloc hb.size _⟩
  clear hown hown2 hgrow hgg htk hcs hq hb
  go_wp2_with fail
  go_ret
  obtain ⟨g, q', cp', e1, rest⟩ := HF.out
  exact ⟨g, q', cp', by rw [← e1]; rfl, rest⟩
end Go.Proofs.YtiiijmplcagaiaaGreatDoor

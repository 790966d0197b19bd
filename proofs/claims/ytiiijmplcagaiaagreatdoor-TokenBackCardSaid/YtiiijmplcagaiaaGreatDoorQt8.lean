/-
  The law TokenQuotes: its walk.
-/
import Derived.Test.YtiiijmplcagaiaaGreatDoorQt7
import Derived.Test.YtiiijmplcagaiaaGreatDoorCa4
import Derived.Test.YtiiijmplcagaiaaGreatDoorTkA
set_option linter.unusedVariables false
set_option linter.unusedSimpArgs false
namespace Go.Proofs.YtiiijmplcagaiaaGreatDoor
open Go Go.RowKit
theorem PowTab.below {W w : World} (h : PowTab W) (hb : Below W.heap.size W w) : PowTab w := Lib.tabBelow_of_tabIs h w hb
theorem quoteL_len (l : List UInt8) : (quoteL l).length ≤ 2 * l.length + 300 ∨ 4294967295 < l.length := by
  by_cases h : l.length ≤ 4294967295
  · left
    unfold quoteL
    split
    · omega
    · split
      · rw [List.length_cons, List.length_append, escL_len]
        have := List.countP_le_length (p := isE) (l := l)
        simp; omega
      · have := dec_len9 9 l.length (by omega)
        simp; omega
  · right; omega
set_option maxRecDepth 100000 in
set_option maxHeartbeats 2000000 in
theorem tquotes_walk (A : ByteArray) (W : World) (hE : Errs W) (hT : PowTab W) : Calls Tryz.prog 3 #[.string A] W fun e w' => e = .returned (.bool true) ∧ Below W.heap.size W w' := by
  by_cases hA : 3000 < A.size
  · have q : (3000 : Int) < A.size := by omega
    go_enter Tryz.func3, Tryz.ntmps3
    go_wp2_with fail
    go_ret
    exact ⟨rfl, Below.refl _ _⟩
  · have q : ¬ (3000 : Int) < A.size := by omega
    have hl : A.data.toList.length ≤ 3000 := by rw [ba_len]; omega
    have C1 := tkQuote_c A.data.toList (by omega) W (fun _ => cany_c _ (by omega)) (itoa_at hT (by omega))
    have C2 := fun w => rtQuote_c A.data.toList (by omega) w
    have C3 := fun w => tkUpper_c A.data.toList (by omega) w
    have C4 := fun w => rtUpper_c A.data.toList (by omega) w
    have C5 := fun w (h : Below W.heap.size W w) => awake12_c w (hE.below h)
    obtain ⟨Q, hQ⟩ : ∃ Q, txt (quoteL A.data.toList) = Q := ⟨_, rfl⟩
    obtain ⟨U, hU⟩ : ∃ U, txt (A.data.toList.map upB) = U := ⟨_, rfl⟩
    rw [txt_data, hQ] at C1
    simp only [txt_data, hQ, hU] at C2 C3 C4
    have C1 := Lib.hid C1
    have C2 := Lib.hid C2
    have C3 := Lib.hid C3
    have C4 := Lib.hid C4
    have C5 := Lib.hid C5
    clear hQ hU hl hE hT
    go_enter Tryz.func3, Tryz.ntmps3
    go_wp2_with fail
    refine C1.out.mono ?_
    rintro e w1 ⟨rfl, hb⟩
    have H1 := Lib.hid hb
    clear hb
    go_wp2_with fail
    refine (C2.out w1).mono ?_
    rintro e w2 ⟨rfl, hb⟩
    have H2 : Hid (Below W.heap.size W w2) := H1.out.trans (hb.mono H1.out.size)
    clear hb
    go_wp2_with fail
    refine (C3.out w2).mono ?_
    rintro e w3 ⟨rfl, hb⟩
    have H3 : Hid (Below W.heap.size W w3) := H2.out.trans (hb.mono H2.out.size)
    clear hb
    go_wp2_with fail
    refine (C4.out w3).mono ?_
    rintro e w4 ⟨rfl, hb⟩
    have H4 : Hid (Below W.heap.size W w4) := H3.out.trans (hb.mono H3.out.size)
    clear hb
    go_wp2_with fail
    refine (C5.out w4 H4.out).mono ?_
    rintro e w5 ⟨rfl, hb⟩
    have H5 : Hid (Below W.heap.size W w5) := H4.out.trans (hb.mono H4.out.size)
    clear hb
    go_wp2_with fail
    go_ret
    exact ⟨rfl, H5.out⟩
end Go.Proofs.YtiiijmplcagaiaaGreatDoor

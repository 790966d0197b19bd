/-
  Orders' texts; a message of the document as the program's; the chapter's example: contracts.
-/
import Derived.Test.YtaomekmfgjgpmaaDoorIt4
set_option linter.unusedVariables false
set_option linter.unusedSimpArgs false
namespace Go.Proofs.YtaomekmfgjgpmaaDoor
open Go Go.RowKit
def silT (s : Bool) : List UInt8 := if s then [46, 83, 73, 76, 69, 78, 84] else []
def ordT (how : Int) (s : Bool) : List UInt8 := (if how = 1 then ordN 1 else if how = 2 then ordN 2 else ordN 0) ++ silT s
set_option maxRecDepth 20000 in
theorem riOrder_c (how : Int) (s : Bool) (w : World) : Calls Tryd.prog 10 #[.int .i64 how, .bool s] w fun e w' => e = .returned (.string (txt (ordT how s))) ∧ Below w.heap.size w w' := by
  by_cases h1 : how = 1
  · subst h1
    cases s
    all_goals
      go_enter Tryd.func10, Tryd.ntmps10
      go_wp2_with fail
      go_ret
      exact ⟨by rfl, Below.refl _ _⟩
  · by_cases h2 : how = 2
    · subst h2
      cases s
      all_goals
        go_enter Tryd.func10, Tryd.ntmps10
        go_wp2_with fail
        go_ret
        exact ⟨by rfl, Below.refl _ _⟩
    · have b1 : (how == 1) = false := by rw [beq_eq_false_iff_ne]; exact h1
      have b2 : (how == 2) = false := by rw [beq_eq_false_iff_ne]; exact h2
      have hO : ordT how s = ordN 0 ++ silT s := by unfold ordT; rw [if_neg h1, if_neg h2]
      rw [hO]
      clear hO h1 h2
      cases s
      all_goals
        go_enter Tryd.func10, Tryd.ntmps10
        go_wp2_with fail
        go_ret
        exact ⟨by rfl, Below.refl _ _⟩
theorem ordT_k (how : Int) (s : Bool) : ∃ k : Nat, k < 3 ∧ ordT how s = ordN k ++ silT s ∧ ((how = k ∧ 0 ≤ how ∧ how < 3) ∨ (k = 0 ∧ (how < 0 ∨ 3 ≤ how))) := by
  unfold ordT
  by_cases h1 : how = 1
  · exact ⟨1, by omega, by rw [if_pos h1], .inl (by omega)⟩
  · by_cases h2 : how = 2
    · exact ⟨2, by omega, by rw [if_neg h1, if_pos h2], .inl (by omega)⟩
    · exact ⟨0, by omega, by rw [if_neg h1, if_neg h2], by omega⟩
set_option maxRecDepth 20000 in
theorem iOrderS_c {w : World} (h : IG w) (how : Int) (s : Bool) : Calls Tryd.prog 9 #[.agg #[.int .i64 how, .bool s]] w fun e w' => e = .returned (.string (txt (ordT how s))) ∧ Below w.heap.size w w' := by
  obtain ⟨k, hk, hO, hc⟩ := ordT_k how s
  rw [hO]
  have kc := (h.ord.below ((Below.refl w.heap.size w).alloc (Nat.le_refl _) (.cells #[.int .i64 how, .bool s] 26))).2 k hk
  have hl : (ordN k).length ≤ 6 := by unfold ordN; split <;> simp
  have e1 := txt_size (ordN k)
  have HA : Hid (txt (ordN k) ++ ⟨#[46, 83, 73, 76, 69, 78, 84]⟩ = txt (ordN k ++ [46, 83, 73, 76, 69, 78, 84])) := by
    show _ = _
    apply ByteArray.ext; simp [txt]
  have HA2 : Hid (txt (ordN k) = txt (ordN k ++ [])) := by show _ = _; rw [List.append_nil]
  obtain ⟨X, hX⟩ : ∃ X, txt (ordN k) = X := ⟨_, rfl⟩
  rw [hX] at kc e1 HA HA2
  have hXs : X.size ≤ 6 := by omega
  have HB : Hid (Below w.heap.size w (w.alloc (.cells #[.int .i64 how, .bool s] 26))) := (Below.refl _ _).alloc (Nat.le_refl _) _
  clear h hO hX e1 hl
  rcases hc with ⟨rfl, h0, h3⟩ | ⟨rfl, h0 | h3⟩
  · have q1 : ¬ ((k : Int) < 0) := by omega
    have q2 : ¬ ((3 : Int) ≤ k) := by omega
    cases s
    · go_enter Tryd.func9, Tryd.ntmps9
      go_wp2_with fail
      go_ret
      exact ⟨by rw [show silT false = [] from rfl, ← HA2.out]; rfl, HB.out⟩
    · go_enter Tryd.func9, Tryd.ntmps9
      go_wp2_with fail
      go_ret
      exact ⟨by rw [show silT true = [46, 83, 73, 76, 69, 78, 84] from rfl, ← HA.out]; rfl, HB.out⟩
  · cases s
    · go_enter Tryd.func9, Tryd.ntmps9
      go_wp2_with fail
      go_ret
      exact ⟨by rw [show silT false = [] from rfl, ← HA2.out]; rfl, HB.out⟩
    · go_enter Tryd.func9, Tryd.ntmps9
      go_wp2_with fail
      go_ret
      exact ⟨by rw [show silT true = [46, 83, 73, 76, 69, 78, 84] from rfl, ← HA.out]; rfl, HB.out⟩
  · have q1 : ¬ (how < 0) := by omega
    cases s
    · go_enter Tryd.func9, Tryd.ntmps9
      go_wp2_with fail
      go_ret
      exact ⟨by rw [show silT false = [] from rfl, ← HA2.out]; rfl, HB.out⟩
    · go_enter Tryd.func9, Tryd.ntmps9
      go_wp2_with fail
      go_ret
      exact ⟨by rw [show silT true = [46, 83, 73, 76, 69, 78, 84] from rfl, ← HA.out]; rfl, HB.out⟩
theorem results_own7I (tmps : Array Value) (w : World) (B : Nat) (a b c : Value) (h : Tri w B 33 a b c) (h2 : tmps.getD 2 undef = .pointer (some ⟨B, 0, none⟩)) : (results Tryd.f7 tmps).run Tryd.prog w = .ok (.agg #[a, b, c]) w := by
  obtain ⟨c0, c1, c2, _⟩ := h.cell
  have h2' : tmps[2]?.getD undef = .pointer (some ⟨B, 0, none⟩) := by simpa using h2
  simp [results, Tryd.f7, go_sem, h2', c0, c1, c2]
theorem own7I_c (u f : Nat) (x : List UInt8) (W : World) : Calls Tryd.prog 7 #[recV u f x] W fun e w' => e = .returned (recV u f x) ∧ Below W.heap.size W w' := by
  unfold recV
  obtain ⟨X, hX⟩ : ∃ X, txt x = X := ⟨_, rfl⟩
  rw [hX]
  clear hX
  have hT := Tri.new (W.alloc (.cells #[.int .u32 u, .int .u8 f, .string X] 24)) 33 (.int .u32 u) (.int .u8 f) (.string X)
  rw [World.size_alloc] at hT
  have HT := Lib.hid hT
  have HB : Hid (Below W.heap.size W ((W.alloc (.cells #[.int .u32 u, .int .u8 f, .string X] 24)).alloc (.cells #[.int .u32 u, .int .u8 f, .string X] 33))) := ((Below.refl _ _).alloc (Nat.le_refl _) _).alloc (by simp) _
  clear hT
  go_enter Tryd.func7, Tryd.ntmps7
  go_wp2_with fail
  exact bodyPost_ret (results_own7I _ _ _ _ _ _ HT.out rfl) rfl ⟨rfl, HB.out⟩
theorem exI : itemT (telT 5 8 []) 3 = [40, 85, 73, 68, 32, 53, 32, 70, 76, 65, 71, 83, 32, 40, 92, 83, 101, 101, 110, 41, 41] := by
  have h : seqOf 3 4 = [0, 1] := by decide +kernel
  unfold itemT joinF
  rw [h]
  show 40 :: (Lib.join [tolN 0 ++ 32 :: Lib.decDigits 5, tolN 1 ++ 32 :: textOf 8] [32] ++ [41]) = _
  rw [dec_small9 (by omega)]
  decide +kernel
theorem awake13_c {w : World} (h : IG w) : Calls Tryd.prog 11 #[] w fun e w' => e = .returned (.bool true) ∧ Below w.heap.size w w' := by
  have C0 := iTell_c (W := w) (u := 5) (f := 8) (x := []) h (by omega) (by omega) (by simp) 3 (by omega)
  rw [exI] at C0
  have C : Hid (Calls Tryd.prog 6 #[.int .u8 3, .agg #[.int .u32 5, .int .u8 8, .string ⟨#[]⟩]] w fun e w' => e = .returned (.string ⟨#[40, 85, 73, 68, 32, 53, 32, 70, 76, 65, 71, 83, 32, 40, 92, 83, 101, 101, 110, 41, 41]⟩) ∧ Below w.heap.size w w') := C0
  clear C0 h
  go_enter Tryd.func11, Tryd.ntmps11
  go_wp2_with (first | (go_at_call 6; refine C.out.mono ?_; rintro e w' ⟨rfl, hb⟩; have H := Lib.hid hb; clear hb) | fail)
  go_ret
  exact ⟨rfl, H.out⟩
end Go.Proofs.YtaomekmfgjgpmaaDoor

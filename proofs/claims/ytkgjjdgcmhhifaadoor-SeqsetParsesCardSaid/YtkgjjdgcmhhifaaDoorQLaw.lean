/-
  The law SeqsetParses: its walk.
-/
import Derived.Test.YtkgjjdgcmhhifaaDoorAwake2
set_option linter.unusedVariables false
set_option linter.unusedSimpArgs false
namespace Go.Proofs.YtkgjjdgcmhhifaaDoor
open Go Go.RowKit

def setL : Option (List (Nat × Nat)) → List (Nat × Nat)
  | none => []
  | some l => if 64 < l.length then [] else l
def setK : Option (List (Nat × Nat)) → Int
  | none => 2
  | some l => if 64 < l.length then 9 else 0
theorem SetIs.one {B : Nat} {t : TypeId} {R : Option (List (Nat × Nat))} {e : Ending} {w' : World} (h : SetIs B t R e w') : ∃ v, e = .returned (.tuple #[v, .int .i64 (setK R)]) ∧ w'.ownsRow B t 2 v (setL R).length (cellsP (setL R)) := by
  unfold SetIs at h
  cases R with
  | none => exact ⟨_, h, World.ownsRow_nil _ _ _ _⟩
  | some l =>
    by_cases hl : 64 < l.length
    · simp only [hl, if_true] at h
      simp only [setL, setK, hl, if_true]
      exact ⟨_, h, World.ownsRow_nil _ _ _ _⟩
    · simp only [hl, if_false] at h
      simp only [setL, setK, hl, if_false]
      exact h
theorem setL_len (R : Option (List (Nat × Nat))) : (setL R).length ≤ 64 := by
  unfold setL
  split
  · simp
  · split
    · simp
    · omega
theorem endB_le {l : List UInt8} {v : Nat} (h : endB l = some v) : v ≤ 4294967295 := by
  by_cases h1 : l = [42]
  · unfold endB at h; rw [if_pos h1] at h; cases h; omega
  · by_cases h2 : l.head? = some 48
    · unfold endB at h; rw [if_neg h1, if_pos h2] at h; cases h
    · exact ((endB_ok h1 h2 v).1 h).2.2
theorem pair2_some {a b : Option Nat} {x : Nat × Nat} (h : pair2 a b = some x) : a = some x.1 ∧ b = some x.2 := by
  cases a with
  | none => cases h
  | some p => cases b with
    | none => cases h
    | some q => cases h; exact ⟨rfl, rfl⟩
theorem rangeOf_le {l : List UInt8} {x : Nat × Nat} (h : rangeOf l = some x) : x.1 ≤ 4294967295 ∧ x.2 ≤ 4294967295 := by
  rcases rangeOf_parts l with ⟨a, _, hr⟩ | ⟨a, b, _, hr⟩ | ⟨_, hr⟩
  · rw [hr] at h; exact ⟨endB_le (pair2_some h).1, endB_le (pair2_some h).2⟩
  · rw [hr] at h; exact ⟨endB_le (pair2_some h).1, endB_le (pair2_some h).2⟩
  · rw [hr] at h; cases h
theorem mapR_small : ∀ (ls : List (List UInt8)) (l : List (Nat × Nat)), mapR ls = some l → Small l
  | [], l, h => by cases h; intro x hx; simp at hx
  | a :: r, l, h => by
    rw [mapR_cons] at h
    cases hr : rangeOf a with
    | none => rw [hr] at h; cases h
    | some x =>
      rw [hr] at h
      cases hm : mapR r with
      | none => rw [hm] at h; cases h
      | some t =>
        rw [hm] at h
        cases h
        intro y hy
        rcases List.mem_cons.1 hy with rfl | hy
        · exact rangeOf_le hr
        · exact mapR_small r t hm y hy
theorem setL_small (l : List UInt8) : Small (setL (setOf l)) := by
  unfold setOf
  cases h : mapR (splitB 44 l) with
  | none => intro x hx; simp [setL] at hx
  | some t =>
    unfold setL
    show Small (if _ then _ else _)
    split
    · intro x hx; simp at hx
    · exact mapR_small _ _ h

set_option maxRecDepth 100000 in
set_option maxHeartbeats 2000000 in
theorem seqparses_walk (A : ByteArray) (hA : A.size ≤ maxLen) (w : World) (hE : Errs w) (hT : Tab w) : Calls Tryd.prog 6 #[.string A] w fun e w' => e = .returned (.bool true) ∧ Below w.heap.size w w' := by
  unfold maxLen at hA
  have HE := Lib.hid hE
  have HT := Lib.hid hT
  clear hE hT
  by_cases h600 : 600 < A.size
  · have hi : (600 : Int) < A.size := by omega
    go_enter Tryd.func6, Tryd.ntmps6
    go_wp2_with fail
    go_ret
    exact ⟨rfl, Below.refl _ _⟩
  · have hi : (A.size : Int) ≤ 600 := by omega
    have C1 := Lib.hid (qparse_c A (by omega) w HE.out)
    have C2 := Lib.hid (fun w => rqparse_c A (by omega) w)
    have HSM := Lib.hid (setL_small A.data.toList)
    obtain ⟨R, hR⟩ : ∃ R, setOf A.data.toList = R := ⟨_, rfl⟩
    rw [hR] at C1 C2 HSM
    obtain ⟨L, hL⟩ : ∃ L, setL R = L := ⟨_, rfl⟩
    obtain ⟨K, hK⟩ : ∃ K, setK R = K := ⟨_, rfl⟩
    have hlen : L.length ≤ 64 := by rw [← hL]; exact setL_len R
    rw [hL] at HSM
    have HL := Lib.hid hL
    have HK := Lib.hid hK
    clear hR hL hK
    go_enter Tryd.func6, Tryd.ntmps6
    go_wp2_with fail
    refine C1.out.mono ?_
    rintro e w1 ⟨h, hb1⟩
    obtain ⟨v, rfl, ho1⟩ := h.one
    rw [HL.out] at ho1
    rw [HK.out]
    have HO1 := Lib.hid ho1
    have HB1 := Lib.hid hb1
    clear h ho1 hb1
    go_wp2_with fail
    refine (C2.out w1).mono ?_
    rintro e w2 ⟨h, hb2⟩
    obtain ⟨u, rfl, ho2⟩ := h.one
    rw [HL.out] at ho2
    rw [HK.out]
    have HV2 := Lib.hid (own_below HO1.out hb2)
    have HU2 := Lib.hid ho2
    have HB2 : Hid (Below w.heap.size w w2) := HB1.out.trans (hb2.mono HB1.out.size)
    clear h ho2 hb2
    go_wp2_with fail
    refine (same_c _ _ v u L (by omega) w2 HV2.out HU2.out).mono ?_
    rintro e w3 ⟨rfl, n, hw⟩
    have HB3 : Hid (Below w.heap.size w w3) := by rw [hw]; exact below_drewN HB2.out n
    have HV3 : Hid (w3.ownsRow w.heap.size 83 2 v L.length (cellsP L)) := by rw [hw]; exact HV2.out
    have HU3 : Hid (w3.ownsRow w1.heap.size 89 2 u L.length (cellsP L)) := by rw [hw]; exact HU2.out
    clear hw
    go_wp2_with fail
    refine (qstring_c _ v L (by omega) HSM.out w3 (HT.out.later HB3.out HT.out.lt) HV3.out).mono ?_
    rintro e w4 ⟨rfl, hb4⟩
    have HB4 : Hid (Below w.heap.size w w4) := HB3.out.trans (hb4.mono HB3.out.size)
    have HU4 := Lib.hid (own_below HU3.out hb4)
    clear hb4
    go_wp2_with fail
    refine (rqtext_c _ u L (by omega) HSM.out w4 HU4.out).mono ?_
    rintro e w5 ⟨rfl, hb5⟩
    have HB5 : Hid (Below w.heap.size w w5) := HB4.out.trans (hb5.mono HB4.out.size)
    clear hb5
    go_wp2_with fail
    refine (awake2_c _ (HE.out.later HB5.out HE.out.lt) (HT.out.later HB5.out HT.out.lt)).mono ?_
    rintro e w6 ⟨rfl, hb6⟩
    have HB6 : Hid (Below w.heap.size w w6) := HB5.out.trans (hb6.mono HB5.out.size)
    clear hb6
    go_wp2_with fail
    go_ret
    exact ⟨rfl, HB6.out⟩
end Go.Proofs.YtkgjjdgcmhhifaaDoor

/-
  What the chapter's example says holds: contract.
-/
import Derived.Test.YtebkpejiloabnaaLsH
set_option linter.unusedVariables false
set_option linter.unusedSimpArgs false
namespace Go.Proofs.Ytebkpejiloabnaa
open Go Go.RowKit
variable {W W' : World} {v va vb : Value} {l now : List EL}

def exA : List EL := [⟨1, 0⟩, ⟨3, 0⟩, ⟨5, 0⟩]
def exB : List EL := [⟨3, 0⟩, ⟨5, 8⟩, ⟨8, 0⟩]
theorem exMay : MayE exA exB := ⟨by decide, by decide, by decide⟩
theorem exDiff : diffL exA exB = [⟨0, 1, noE⟩, ⟨1, 3, noE⟩, ⟨2, 2, ⟨5, 8⟩⟩, ⟨2, 3, ⟨8, 0⟩⟩] := by rfl
def exRecs (l : List EL) : List RL := l.map fun e => ⟨e, ⟨#[]⟩⟩
theorem exOf (W : World) (l : List EL) (cs : Array Value) (t : TypeId) (n : Nat) (hn : l.length = n) (hl : n ≤ 1000) (hcs : cs.toList = cellsK encR11 (exRecs l)) (hm : n * 3 = cs.size) :
    Calls Try.prog 22 #[.slice (some ⟨W.heap.size, 0, none⟩) n n] (W.alloc (.cells cs t)) fun e w' => ∃ u, e = .returned u ∧ w'.ownsRow (W.heap.size + 1) 35 2 u n (cellsK encE l) ∧ Below W.heap.size W w' := by
  have ho := World.ownsRow_lit (w := W) (base := W.heap.size) (e := t) (size := 3) cs n (Nat.le_refl _) (by unfold maxLen; omega) hm.symm
  rw [hcs] at ho
  have hrow := RowK.of_own (enc := encR11) (l := exRecs l) (fun _ => rfl) (by unfold exRecs; rw [List.length_map, hn]; exact ho)
  have h := lOf_c hrow (by unfold exRecs; rw [List.length_map]; omega)
  rw [World.size_alloc] at h
  refine h.mono ?_
  rintro e w' ⟨u, rfl, h1, h2⟩
  refine ⟨u, rfl, ?_, ((Below.refl _ W).alloc (Nat.le_refl _) _).trans (h2.mono (by omega))⟩
  have e1 : (exRecs l).map (·.e) = l := by unfold exRecs; rw [List.map_map]; exact List.map_id _
  rw [e1] at h1
  have e2 : (exRecs l).length = n := by unfold exRecs; rw [List.length_map, hn]
  rw [e2] at h1
  exact h1

set_option maxRecDepth 100000 in
set_option maxHeartbeats 4000000 in
theorem awake11_c (W : World) : Calls Try.prog 11 #[] W fun e w' => e = .returned (.bool true) ∧ Below W.heap.size W w' := by
  have CA := Lib.hid (exOf W exA #[.int .u32 1, .int .u8 0, .string ⟨#[]⟩, .int .u32 3, .int .u8 0, .string ⟨#[]⟩, .int .u32 5, .int .u8 0, .string ⟨#[]⟩] 61 3 rfl (by omega) rfl rfl)
  go_enter Try.func11, Try.ntmps11
  go_wp2_with fail
  refine CA.out.mono ?_
  rintro e w1 ⟨u, rfl, ho1, hb1⟩
  have HO1 := Lib.hid ho1
  have HB1 := Lib.hid hb1
  have CB := Lib.hid (exOf w1 exB #[.int .u32 3, .int .u8 0, .string ⟨#[]⟩, .int .u32 5, .int .u8 8, .string ⟨#[]⟩, .int .u32 8, .int .u8 0, .string ⟨#[]⟩] 61 3 rfl (by omega) rfl rfl)
  clear ho1 hb1 CA
  go_wp2_with fail
  refine CB.out.mono ?_
  rintro e w2 ⟨v, rfl, ho2, hb2⟩
  have HB2 := Lib.hid (HB1.out.trans (hb2.mono HB1.out.size))
  have hu : EntRow w2 u exA := RowK.of_own encE_len (own_below HO1.out hb2)
  have hv : EntRow w2 v exB := RowK.of_own encE_len ho2
  have CD := Lib.hid (lDiff_c hu hv exMay (by decide) (by decide))
  have HU := Lib.hid hu
  clear ho2 hb2 hu hv CB HB1 HO1
  go_wp2_with fail
  refine CD.out.mono ?_
  rintro e w3 ⟨n, rfl, ho3, hb3⟩
  rw [exDiff] at ho3
  have hu3 := HU.out.below hb3
  have hn3 : NoteRow w3 n [⟨0, 1, noE⟩, ⟨1, 3, noE⟩, ⟨2, 2, ⟨5, 8⟩⟩, ⟨2, 3, ⟨8, 0⟩⟩] := RowK.of_own encN_len ho3
  have CP := lPlay_c hu3 hn3 (by intro x hx; simp at hx; rcases hx with rfl | rfl | rfl | rfl <;> exact ⟨by decide, by decide⟩) (by decide)
  rw [show playL exA [⟨0, 1, noE⟩, ⟨1, 3, noE⟩, ⟨2, 2, ⟨5, 8⟩⟩, ⟨2, 3, ⟨8, 0⟩⟩] = some exB by rfl] at CP
  have CP := Lib.hid CP
  have HB3 := Lib.hid (HB2.out.trans (hb3.mono HB2.out.size))
  have HN3 := Lib.hid hn3
  have HO3 := Lib.hid ho3
  clear ho3 hb3 hu3 hn3 HU CD HB2
  go_wp2_with fail
  refine CP.out.mono ?_
  rintro e w4 ⟨hb4, m, rfl, ho4⟩
  have HB4 := Lib.hid (HB3.out.trans (hb4.mono HB3.out.size))
  have hm4 : EntRow w4 m exB := RowK.of_own encE_len ho4
  have hn4 := HN3.out.below hb4
  have hof := own_form HO3.out
  obtain ⟨na, nc, rfl⟩ : ∃ a c, n = .slice a 4 c := hof
  obtain ⟨ma, mc, rfl⟩ : ∃ a c, m = .slice a 3 c := own_form ho4
  obtain ⟨b, off, rfl, hbb, a0, a1, a2, a3⟩ := NoteRow.at (j := 0) hn4 rfl
  obtain ⟨_, _, he1, _, b0, b1, b2, b3⟩ := NoteRow.at (j := 1) hn4 rfl
  cases he1
  obtain ⟨_, _, he1, _, _, d1, _, _⟩ := NoteRow.at (j := 2) hn4 rfl
  cases he1
  obtain ⟨_, _, he1, _, _, g1, _, _⟩ := NoteRow.at (j := 3) hn4 rfl
  cases he1
  rw [Nat.zero_mul, Nat.add_zero] at a0
  have CL := lLast_c hm4 (by decide)
  rw [show lastE exB = 8 by rfl] at CL
  have CS := lSeq_c hm4 5 (by decide)
  rw [show findI exB 5 = 1 by rfl] at CS
  have CL := Lib.hid CL
  have CS := Lib.hid CS
  simp only [noE, Nat.zero_mul, Nat.one_mul, Nat.zero_add, Nat.reduceMul, Nat.add_assoc, Nat.reduceAdd] at a0 a1 a2 a3 b0 b1 b2 b3 d1 g1
  clear hb4 ho4 hn4 hm4 CP HN3 HO3 HB3
  go_wp2_with fail
  refine CL.out.mono ?_
  rintro e w5 ⟨rfl, hw⟩
  rw [hw]; clear hw w5
  go_wp2_with fail
  refine CS.out.mono ?_
  rintro e w6 ⟨rfl, hb6⟩
  have HB6 := Lib.hid (HB4.out.trans (hb6.mono HB4.out.size))
  clear hb6 CS CL
  go_wp2_with fail
  go_ret
  exact ⟨rfl, HB6.out⟩
end Go.Proofs.Ytebkpejiloabnaa

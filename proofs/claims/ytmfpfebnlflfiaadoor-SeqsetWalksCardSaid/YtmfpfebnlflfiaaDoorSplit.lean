/-
  The document's Split: contract.
-/
import Derived.Test.YtmfpfebnlflfiaaDoorSet
import Derived.Laws.OwnMore
import Derived.BigRegion
set_option linter.unusedVariables false
set_option linter.unusedSimpArgs false
namespace Go.Proofs.YtmfpfebnlflfiaaDoor
open Go Go.RowKit

theorem splitB_snoc {c x : UInt8} : ∀ {l : List UInt8} {ini : List (List UInt8)} {last : List UInt8}, splitB c l = ini ++ [last] → splitB c (l ++ [x]) = if x = c then ini ++ [last] ++ [[]] else ini ++ [last ++ [x]]
  | [], ini, last, h => by
    have h1 : ini = [] ∧ last = [] := by
      cases ini with
      | nil => simp [splitB] at h; exact ⟨rfl, h⟩
      | cons a b => simp [splitB] at h
    obtain ⟨rfl, rfl⟩ := h1
    by_cases hx : x = c
    · rw [if_pos hx]; simp [splitB, hx]
    · rw [if_neg hx]; simp [splitB, hx]
  | y :: r, ini, last, h => by
    show splitB c (y :: (r ++ [x])) = _
    by_cases hy : y = c
    · have e1 : splitB c (y :: r) = [] :: splitB c r := by rw [splitB, if_pos hy]
      have e2 : splitB c (y :: (r ++ [x])) = [] :: splitB c (r ++ [x]) := by rw [splitB, if_pos hy]
      rw [e1] at h
      rw [e2]
      cases ini with
      | nil => exact absurd (List.cons.inj h).2 (splitB_ne c r)
      | cons a b =>
        obtain ⟨rfl, h2⟩ := List.cons.inj h
        rw [splitB_snoc h2]
        split <;> rfl
    · obtain ⟨a, t, hat⟩ : ∃ a t, splitB c r = a :: t := by
        cases hh : splitB c r with
        | nil => exact absurd hh (splitB_ne c r)
        | cons a t => exact ⟨a, t, rfl⟩
      have e1 : splitB c (y :: r) = (y :: a) :: t := by rw [splitB, if_neg hy, hat]
      rw [e1] at h
      have e2 : ∀ {a' : List UInt8} {t' : List (List UInt8)}, splitB c (r ++ [x]) = a' :: t' → splitB c (y :: (r ++ [x])) = (y :: a') :: t' := by
        intro a' t' hh; rw [splitB, if_neg hy, hh]
      cases ini with
      | nil =>
        obtain ⟨rfl, rfl⟩ := List.cons.inj h
        have := splitB_snoc (x := x) (show splitB c r = [] ++ [a] from hat)
        split
        · rename_i hx; rw [if_pos hx] at this; exact e2 this
        · rename_i hx; rw [if_neg hx] at this; exact e2 this
      | cons b ini' =>
        obtain ⟨rfl, h2⟩ := List.cons.inj h
        have := splitB_snoc (x := x) (show splitB c r = (a :: ini') ++ [last] by rw [hat, h2]; rfl)
        split
        · rename_i hx; rw [if_pos hx] at this; exact e2 this
        · rename_i hx; rw [if_neg hx] at this; exact e2 this

def cellsS (l : List (List UInt8)) : List Value := l.map fun x => .string (txt x)
theorem Tryd.infoString : (Tryd.prog.info? 9).map (fun i => (i.zero, i.size, i.bytes)) = some (some (.string ⟨#[]⟩), 1, 16) := by kernel_rfl

set_option maxRecDepth 100000 in
set_option maxHeartbeats 2000000 in
theorem rsplit_c (A : ByteArray) (hA : A.size ≤ 100000) (c : UInt8) (w : World) : Calls Tryd.prog 42 #[.string A, .int .u8 c.toNat] w fun e w' => (∃ v, e = .returned v ∧ w'.ownsRow w.heap.size 9 1 v (splitB c A.data.toList).length (cellsS (splitB c A.data.toList))) ∧ Below w.heap.size w w' := by
  obtain ⟨i0, hi, hz0, hz1, hz2⟩ := info_parts Tryd.infoString
  go_enter Tryd.func42, Tryd.ntmps42
  go_wp2_with fail
  go_loopw [5, 6] (fun t5 t6 wr => ∃ (k : Nat) (g cp : Nat) (ini : List (List UInt8)) (last : ByteArray), k ≤ A.size ∧ t6 = .int .i64 k ∧ t5 = .slice (some ⟨g, 0, none⟩) (ini.length + 1) cp ∧ ini.length ≤ k ∧ last.size ≤ k ∧
      Hid (splitB c (A.data.toList.take k) = ini ++ [last.data.toList]) ∧ Hid (wr.ownsRow w.heap.size 9 1 (.slice (some ⟨g, 0, none⟩) (ini.length + 1) cp) (ini.length + 1) (cellsS (ini ++ [last.data.toList]))) ∧ Hid (Below w.heap.size w wr)) (fun _ i _ => A.size - (intOf i).toNat)
  case atStart =>
    exact ⟨0, w.heap.size, 1, [], ⟨#[]⟩, by omega, rfl, rfl, by simp, by show (0 : Nat) ≤ 0; omega, rfl, ⟨rfl, .inr ⟨_, _, _, rfl, Nat.le_refl _, World.alloc_heap_new w _, Nat.le_refl _, by unfold maxLen; omega, rfl, rfl⟩⟩, (Below.refl _ w).alloc (Nat.le_refl _) _⟩
  case round =>
    obtain ⟨k, g, cp, ini, last, hk, rfl, rfl, hik, hlk, HM, HO, HB⟩ := hrel
    by_cases hlt : k < A.size
    · have hq1 : ((k : Int)) < A.size := by omega
      have hc1 : (A[k].toNat) < 256 := A[k].toNat_lt
      by_cases hx : A[k] = c
      · have ex : ((A[k].toNat : Int) == (c.toNat : Int)) = true := by rw [hx]; simp
        have hls := HB.out.size
        have HX := Lib.hid hx
        clear hx
        go_wp2_with (at_builtin; refine wpList_append_own _ rfl (.tmp 19) (.tmp 20) 27 rfl w.heap.size 9 i0 (.string ⟨#[]⟩) 1 16 Tryd.underlying27 hi hz0 hz1 hz2 rfl (by decide) _ _ _ rfl (HO.out.alloc _) ⟨wr.heap.size, 0, none⟩ 1 1 [.string ⟨#[]⟩] rfl rfl (cell_one_new _ _ _) (fun x hx => by simp at hx; subst hx; rfl) (by unfold maxLen; omega) (by omega) (by simp; omega) ?_)
        intro v' w4 hown4 hgrow4 _
        have hb4 : Below w.heap.size w w4 := Below.grown (HB.out.alloc hls _) hgrow4 (by simp; omega) (fun j hj => (HO.out.lt _ hj).1)
        obtain ⟨g4, cp4, rfl⟩ := ownsRow_succ hown4
        have HO4 := Lib.hid hown4
        have HB4 := Lib.hid hb4
        clear hown4 hgrow4 hb4
        go_wp2_with fail
        go_roundw
        case rel =>
          refine ⟨k + 1, g4, cp4, ini ++ [last.data.toList], ⟨#[]⟩, by omega, by go_num, by simp, by simpa using hik, by show (0 : Nat) ≤ _; exact Nat.zero_le _, ?_, ?_, HB4.out⟩
          · show splitB c _ = _
            rw [List.take_succ_eq_append_getElem (by rw [ba_len]; exact hlt), splitB_snoc HM.out, if_pos (by exact HX.out)]
          · show World.ownsRow _ _ _ _ _ _ _
            have := HO4.out
            simpa [cellsS, txt] using this
        case measure => simp [intOf]; omega
      · have ex : ((A[k].toNat : Int) == (c.toNat : Int)) = false := by
          rw [beq_eq_false_iff_ne]; intro e; exact hx (UInt8.toNat_inj.1 (by omega))
        have HX := Lib.hid hx
        have k0 : wr.cell? ⟨g, ini.length, none⟩ = some (.string last) := by
          rw [HO.out.cellAt _ (by omega)]; simp [cellsS, txt_data]
        have f0 : wr.frozen? ⟨g, ini.length, none⟩ = false := HO.out.frozenAt _
        clear hx
        go_wp2_with fail
        go_region
        go_wp2_with fail
        go_roundw
        case rel =>
          have hex : A.extract k (k + 1) = txt [A[k]] := extract_txt (by
            rw [List.take_succ_eq_append_getElem (by rw [ba_len]; exact hlt), List.drop_left' (by rw [List.length_take, ba_len]; omega)]; rfl)
          have hda : (last ++ A.extract k (k + 1)).data.toList = last.data.toList ++ [A[k]] := by rw [hex]; simp [txt]
          refine ⟨k + 1, g, cp, ini, last ++ A.extract k (k + 1), by omega, by go_num, rfl, by omega, by rw [← ba_len, hda, List.length_append, ba_len]; simp; omega, ?_, ?_, (HB.out.setCell (p := ⟨g, ini.length, none⟩) (HO.out.lt _ rfl).1 _).drew⟩
          · show splitB c _ = _
            rw [List.take_succ_eq_append_getElem (by rw [ba_len]; exact hlt), splitB_snoc HM.out, if_neg (by exact HX.out), hda]; rfl
          · show World.ownsRow _ _ _ _ _ _ _
            have := (HO.out.stored ini.length (.string (last ++ A.extract k (k + 1)))).1.drew
            rw [hda, hex] at *
            have e : (cellsS (ini ++ [last.data.toList])).set ini.length (.string (last ++ txt [A[k]])) = cellsS (ini ++ [last.data.toList ++ [A[k]]]) := by
              have el : last ++ txt [A[k]] = txt (last.data.toList ++ [A[k]]) := by conv => lhs; rw [← txt_data last]
                                                                                    exact txt_append _ _
              rw [el]
              unfold cellsS
              rw [List.map_append, List.map_append, List.set_append_right _ _ (by simp)]
              simp
            rw [e] at this
            exact this
        case measure => simp [intOf]; omega
    · obtain rfl : k = A.size := by omega
      go_wp2_with fail
      go_ret
      have hd : A.data.toList.take A.size = A.data.toList := List.take_of_length_le (by rw [ba_len]; exact Nat.le_refl _)
      have hm := HM.out
      rw [hd] at hm
      refine ⟨⟨_, rfl, ?_⟩, HB.out⟩
      rw [hm]
      have := HO.out
      simpa using this
end Go.Proofs.YtmfpfebnlflfiaaDoor

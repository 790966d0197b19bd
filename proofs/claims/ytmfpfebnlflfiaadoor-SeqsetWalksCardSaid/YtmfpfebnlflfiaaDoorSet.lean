/-
  A set of a text: the program's seqset.Parse: contract.
-/
import Derived.Test.YtmfpfebnlflfiaaDoorRange
import Derived.Test.YtmfpfebnlflfiaaDoorParse
import Derived.WalkKit
import Derived.WalkMore
import Derived.ScopeJumps
import Derived.Deep.LoopGhost
import Derived.WalkSmall
set_option linter.unusedVariables false
set_option linter.unusedSimpArgs false
namespace Go.Proofs.YtmfpfebnlflfiaaDoor
open Go Go.RowKit

def mapR : List (List UInt8) → Option (List (Nat × Nat))
  | [] => some []
  | l :: r => match rangeOf l with | none => none | some x => (mapR r).map (x :: ·)
/-- The ranges of a text, however many. -/
def setOf (l : List UInt8) : Option (List (Nat × Nat)) := mapR (splitB 44 l)
def cellsP (l : List (Nat × Nat)) : List Value := l.flatMap fun x => [.int .u32 x.1, .int .u32 x.2]
theorem cellsP_len (l : List (Nat × Nat)) : (cellsP l).length = l.length * 2 := by
  induction l with
  | nil => rfl
  | cons x r ih =>
    show (_ :: _ :: cellsP r).length = _
    simp only [List.length_cons, ih]; omega
theorem cellsP_snoc (l : List (Nat × Nat)) (x y : Nat) : cellsP (l ++ [(x, y)]) = cellsP l ++ [.int .u32 x, .int .u32 y] := by
  unfold cellsP; rw [List.flatMap_append]; rfl
theorem splitB_len (c : UInt8) (l : List UInt8) : (splitB c l).length ≤ l.length + 1 := by
  rcases at_byte c l with h | ⟨p, r, rfl, hp⟩
  · rw [splitB_none h]; simp
  · rw [splitB_some hp]
    have := splitB_len c r
    simp; omega
termination_by l.length
decreasing_by subst_vars; simp; omega

/-- strings.Cut at one byte, in one piece. -/
theorem cut_any (B : ByteArray) (c : UInt8) (hB : B.size ≤ 9223372036854775806) : ∃ (P S : ByteArray) (m : Bool), splitB c B.data.toList = P.data.toList :: (if m then splitB c S.data.toList else []) ∧ P.size ≤ B.size ∧ S.size ≤ B.size ∧ S.size + boolV (.bool m) < B.size + 1 ∧
    ∀ w, Calls Tryd.prog 38 #[.string B, .string ⟨#[c]⟩] w fun e w' => e = .returned (.tuple #[.string P, .string S, .bool m]) ∧ ∃ n, w' = w.drewN n := by
  rcases at_byte c B.data.toList with hno | ⟨p, r, hpr, hp⟩
  · exact ⟨B, ⟨#[]⟩, false, by rw [splitB_none hno]; rfl, Nat.le_refl _, by show (0 : Nat) ≤ _; omega, by show 0 + 0 < _; omega, cut_none B c hno⟩
  · have hl : p.length + 1 + r.length = B.size := by rw [← ba_len, hpr]; simp; omega
    refine ⟨txt p, txt r, true, ?_, by rw [txt_size]; omega, by rw [txt_size]; omega, by show (txt r).size + 1 < _; rw [txt_size]; omega, cut_some B c p r hB hpr hp⟩
    rw [hpr, splitB_some hp]; simp [txt]

theorem mapR_cons (l : List UInt8) (r : List (List UInt8)) : mapR (l :: r) = match rangeOf l with | none => none | some x => (mapR r).map (x :: ·) := rfl
/-- One round, in lists. -/
theorem setStep {R : Option (List (Nat × Nat))} {done : List (Nat × Nat)} {l : List UInt8} {rest : List (List UInt8)} {x : Nat × Nat} (h : R = (mapR (l :: rest)).map (done ++ ·)) (hx : rangeOf l = some x) :
    R = (mapR rest).map ((done ++ [x]) ++ ·) := by
  rw [h, mapR_cons, hx]
  cases mapR rest with
  | none => rfl
  | some v => simp
theorem setFail {R : Option (List (Nat × Nat))} {done : List (Nat × Nat)} {l : List UInt8} {rest : List (List UInt8)} (h : R = (mapR (l :: rest)).map (done ++ ·)) (hx : rangeOf l = none) : R = none := by
  rw [h, mapR_cons, hx]; rfl

theorem mapR_if (m : Bool) (l : List (List UInt8)) : mapR (if m then l else []) = if m then mapR l else some [] := by cases m <;> rfl

def SetIs (B : Nat) (t : TypeId) (R : Option (List (Nat × Nat))) (e : Ending) (w' : World) : Prop := match R with
  | none => e = .returned (.tuple #[.slice none 0 0, .int .i64 2])
  | some l => if 64 < l.length then e = .returned (.tuple #[.slice none 0 0, .int .i64 9]) else ∃ v, e = .returned (.tuple #[v, .int .i64 0]) ∧ w'.ownsRow B t 2 v l.length (cellsP l)
theorem SetIs.bad {B : Nat} {t : TypeId} {R : Option (List (Nat × Nat))} {w' : World} (h : R = none) : SetIs B t R (.returned (.tuple #[.slice none 0 0, .int .i64 2])) w' := by subst h; rfl
theorem SetIs.long {B : Nat} {t : TypeId} {R : Option (List (Nat × Nat))} {l : List (Nat × Nat)} {w' : World} (h : R = some l) (hl : 64 < l.length) : SetIs B t R (.returned (.tuple #[.slice none 0 0, .int .i64 9])) w' := by subst h; show (if _ then _ else _); rw [if_pos hl]
theorem SetIs.good {B : Nat} {t : TypeId} {R : Option (List (Nat × Nat))} {l : List (Nat × Nat)} {w' : World} {v : Value} (h : R = some l) (hl : ¬ 64 < l.length) (ho : w'.ownsRow B t 2 v l.length (cellsP l)) : SetIs B t R (.returned (.tuple #[v, .int .i64 0])) w' := by subst h; show (if _ then _ else _); rw [if_neg hl]; exact ⟨_, rfl, ho⟩

theorem take_snoc {l : List (Nat × Nat)} {x : Nat × Nat} (h : l.length < 64) : (l ++ [x]).take 64 = l.take 64 ++ [x] := by
  rw [List.take_of_length_le (by simp; omega), List.take_of_length_le (by omega)]
theorem take_same {l : List (Nat × Nat)} {x : Nat × Nat} (h : 64 ≤ l.length) : (l ++ [x]).take 64 = l.take 64 := by
  rw [List.take_append_of_le_length h]

theorem Tryd.infoRange : (Tryd.prog.info? 83).map (fun i => (i.zero, i.size, i.bytes)) = some (some (.agg #[.int .u32 0, .int .u32 0]), 2, 8) := by kernel_rfl

set_option maxRecDepth 100000 in
set_option maxHeartbeats 2000000 in
theorem qparse_c (A : ByteArray) (hA : A.size ≤ 100000) (w : World) (hE : Errs w) : Calls Tryd.prog 20 #[.string A] w fun e w' => SetIs w.heap.size 83 (setOf A.data.toList) e w' ∧ Below w.heap.size w w' := by
  obtain ⟨i0, hi, hz0, hz1, hz2⟩ := info_parts Tryd.infoRange
  obtain ⟨R, hR⟩ : ∃ R, R = setOf A.data.toList := ⟨_, rfl⟩
  rw [← hR]
  have HR := Lib.hid hR
  have HE := Lib.hid hE
  clear hR hE
  go_enter Tryd.func20, Tryd.ntmps20
  go_wp2_with fail
  go_step3
  go_wp2_with fail
  go_step3
  go_wp2_with fail
  go_loopw [0, 4, 5, 6, 7, 8, 9] (fun t0 t4 t5 t6 _ _ _ wr => ∃ (S : ByteArray) (done : List (Nat × Nat)) (ad : Option Addr) (n cp : Nat) (m : Bool), t0 = .string S ∧ t4 = .slice ad n cp ∧ t5 = .bool (decide (64 < done.length)) ∧ t6 = .bool m ∧ S.size ≤ 100000 ∧ n ≤ 64 ∧
      Hid (R = (if m then mapR (splitB 44 S.data.toList) else some []).map (done ++ ·)) ∧ Hid (n = min 64 done.length) ∧ Hid (wr.ownsRow w.heap.size 83 2 (.slice ad n cp) n (cellsP (done.take 64))) ∧ Hid (Below w.heap.size w wr)) (fun t0 _ _ t6 _ _ _ _ => strLenV t0 + boolV t6)
  case atStart =>
    refine ⟨A, [], none, 0, 0, true, rfl, rfl, rfl, rfl, hA, by omega, ?_, rfl, World.ownsRow_nil _ _ _ _, Below.refl _ _⟩
    show R = _
    rw [HR.out]; unfold setOf; cases mapR (splitB 44 A.data.toList) <;> simp
  case round =>
    obtain ⟨S, done, ad, n, cp, m, rfl, rfl, rfl, rfl, hsS, hn, HM, HN, HO, HB⟩ := hrel
    cases m with
    | false =>
      have hRR : R = some done := by rw [HM.out]; simp
      have HRR := Lib.hid hRR
      clear hRR HM
      by_cases hl : 64 < done.length
      · go_wp2_with fail
        rw [Exit.noGoto_ret]
        go_ret2
        exact ⟨SetIs.long HRR.out hl, HB.out⟩
      · go_wp2_with fail
        rw [Exit.noGoto_ret]
        go_ret2
        refine ⟨SetIs.good HRR.out hl ?_, HB.out⟩
        have h1 := HO.out
        have h2 := HN.out
        have hd : done.take 64 = done := List.take_of_length_le (by omega)
        rw [hd] at h1
        have hn2 : n = done.length := by omega
        rw [← hn2]; exact h1
    | true =>
      obtain ⟨P, S2, m2, hsp, hP, hS2, hme, hcut⟩ := cut_any S 44 (by omega)
      have hRR : R = (mapR (P.data.toList :: (if m2 then splitB 44 S2.data.toList else []))).map (done ++ ·) := by rw [← hsp]; exact HM.out
      have HRR := Lib.hid hRR
      have HC := Lib.hid hcut
      have HME := Lib.hid hme
      clear hRR hcut hsp hme HM
      go_wp2_with fail
      refine (HC.out _).mono ?_
      rintro e w2 ⟨rfl, k, hw⟩
      have HB2 : Hid (Below w.heap.size w w2) := by rw [hw]; exact below_drewN HB.out k
      have HO2 : Hid (w2.ownsRow w.heap.size 83 2 (.slice ad n cp) n (cellsP (done.take 64))) := own_below HO.out (by rw [hw]; exact below_drewN (Below.refl _ wr) k)
      have HE2 := Lib.hid (HE.out.later HB2.out HE.out.lt)
      clear hw
      go_wp2_with fail
      refine (prange_c P (by omega) _ HE2.out).mono ?_
      rintro e w3 ⟨h, hb3⟩
      have HB3 : Hid (Below w.heap.size w w3) := HB2.out.trans (hb3.mono HB2.out.size)
      have HO3 : Hid (w3.ownsRow w.heap.size 83 2 (.slice ad n cp) n (cellsP (done.take 64))) := own_below HO2.out hb3
      clear hb3
      rcases h with ⟨x, y, hr, hx, hy, rfl⟩ | ⟨hr, rfl⟩
      · have hrn := setStep HRR.out hr
        rw [mapR_if] at hrn
        have HRN := Lib.hid hrn
        clear hrn
        clear hr
        unfold rng
        by_cases h64 : n = 64
        · subst h64
          go_wp2_with fail
          go_roundw
          case rel =>
            have hl : 64 ≤ done.length := by have := HN.out; omega
            refine ⟨S2, done ++ [(x, y)], ad, 64, cp, m2, rfl, rfl, ?_, rfl, by omega, by omega, HRN.out, ?_, ?_, HB3.out.alloc HB3.out.size _⟩
            · rw [show decide (64 < (done ++ [(x, y)]).length) = true by simp; omega]
            · show 64 = min 64 (done ++ [(x, y)]).length
              simp; omega
            · show World.ownsRow _ _ _ _ _ _ _
              rw [take_same hl]; exact HO3.out.alloc _
          case measure => exact HME.out
        · have e64 : ((n : Int) == 64) = false := by rw [beq_eq_false_iff_ne]; omega
          have hc2 : ∀ j u, [Value.int .u32 x, Value.int .u32 y][j]? = some u → ((w3.alloc (.cells #[.int .u32 x, .int .u32 y] 83)).alloc (.cells #[.int .u32 x, .int .u32 y] 83)).cell? ((⟨w3.heap.size + 1, 0, none⟩ : Addr).add j) = some u := by
            have := cell_two_new (w3.alloc (.cells #[.int .u32 x, .int .u32 y] 83)) (.int .u32 x) (.int .u32 y) 83
            rw [World.size_alloc] at this; exact this
          have HC2 := Lib.hid hc2
          have hls := HB3.out.size
          clear hc2
          go_wp2_with (at_builtin; refine wpList_append_own _ rfl (.tmp 27) (.tmp 29) 44 rfl w.heap.size 83 i0 (.agg #[.int .u32 0, .int .u32 0]) 2 8 Tryd.underlying44 hi hz0 hz1 hz2 rfl (by decide) _ _ _ rfl ((HO3.out.alloc _).alloc _) ⟨w3.heap.size + 1, 0, none⟩ 1 1 [.int .u32 x, .int .u32 y] rfl rfl HC2.out (fun x hx => by simp at hx; rcases hx with rfl | rfl <;> rfl) (by unfold maxLen; omega) (by omega) (by simp; omega) ?_)
          intro v' w4 hown4 hgrow4 _
          have hb4 : Below w.heap.size w w4 := Below.grown ((HB3.out.alloc hls _).alloc (by simp; omega) _) hgrow4 (by simp; omega) (fun j hj => (HO3.out.lt _ hj).1)
          obtain ⟨ad4, cp4, rfl⟩ := own_form hown4
          have HO4 := Lib.hid hown4
          have HB4 := Lib.hid hb4
          clear hown4 hgrow4 hb4
          go_wp2_with fail
          go_roundw
          case rel =>
            have hl : done.length < 64 := by have := HN.out; omega
            refine ⟨S2, done ++ [(x, y)], ad4, n + 1, cp4, m2, rfl, rfl, ?_, rfl, by omega, by omega, HRN.out, ?_, ?_, HB4.out⟩
            · rw [show decide (64 < (done ++ [(x, y)]).length) = false by simp; omega, show decide (64 < done.length) = false by simp; omega]
            · show n + 1 = min 64 (done ++ [(x, y)]).length
              have := HN.out; simp; omega
            · show World.ownsRow _ _ _ _ _ _ _
              rw [take_snoc hl, cellsP_snoc]; exact HO4.out
          case measure => exact HME.out
      · have HRN := Lib.hid (setFail HRR.out hr)
        clear hr
        unfold rng
        go_wp2_with fail
        rw [Exit.noGoto_ret]
        go_ret2
        exact ⟨SetIs.bad HRN.out, (HB3.out.alloc HB3.out.size _)⟩
end Go.Proofs.YtmfpfebnlflfiaaDoor

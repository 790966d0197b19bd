/-
  strings.Join of a row of one's own; item's join, once for each closure: contracts. MADE by wip/tools/mkIt2.py.
-/
import Derived.Test.YtaomekmfgjgpmaaDoorIt1
import Derived.Test.YtaomekmfgjgpmaaDoorBase
import Derived.Laws.OwnMore
set_option linter.unusedVariables false
set_option linter.unusedSimpArgs false
namespace Go.Proofs.YtaomekmfgjgpmaaDoor
open Go Go.RowKit
theorem Tryd.infoString : (Tryd.prog.info? 9).map (fun i => (i.zero, i.size, i.bytes)) = some (some (.string ⟨#[]⟩), 1, 16) := by kernel_rfl
def cellsT (T : Nat → List UInt8) (l : List Nat) : List Value := l.map fun k => .string (txt (T k))
theorem sjoin_c {w : World} {B : Nat} {v : Value} {T : Nat → List UInt8} {l : List Nat} (hO : w.ownsRow B 9 1 v l.length (cellsT T l)) (hl : l.length ≤ 4) (hlen : (joinF T l).length ≤ 100000) :
    Calls Tryd.prog 27 #[v, .string ⟨#[32]⟩] w fun e w' => e = .returned (.string (txt (joinF T l))) ∧ Below w.heap.size w w' := by
  have hO2 := hO
  obtain ⟨hle, ⟨rfl, h0⟩ | ⟨g, cap, cur, rfl, hB, hh, hcap, hmx, hcs, hct⟩⟩ := hO2
  · have hn : l = [] := List.length_eq_zero_iff.1 h0
    subst hn
    refine (Tryd.strings_Join_none none 0 ⟨#[32]⟩ w).mono fun e w' ⟨h1, h2⟩ => ⟨?_, h2 ▸ Below.refl _ _⟩
    rw [h1]; rfl
  · have hx : (l.map fun k => txt (T k)).length = l.length := by simp
    have hm : (l.map fun k => txt (T k)).map (·.data.toList) = l.map T := by
      rw [List.map_map]
      exact List.map_congr_left fun k _ => by simp [txt]
    have C := Tryd.strings_Join g 0 cap (l.map fun k => txt (T k)) ⟨#[32]⟩ w (fun j x hj => by
        rw [List.getElem?_map, Option.map_eq_some_iff] at hj
        obtain ⟨i, hi, rfl⟩ := hj
        rw [Nat.zero_add, hO.cellAt j (by have := (List.getElem?_eq_some_iff.1 hi).1; simp [cellsT]; omega)]
        unfold cellsT
        rw [List.getElem?_map, hi]; rfl) (Array.getElem?_eq_some_iff.1 hh).1 (by rw [hx]; omega) (by rw [hx]; omega) (by rw [hm]; show (joinF T l).length ≤ _; omega)
    rw [hm, hx] at C
    exact C
set_option maxRecDepth 100000 in
set_option maxHeartbeats 4000000 in
theorem join1_c {T : Nat → List UInt8} (hT : ∀ k : Nat, k < 4 → (T k).length ≤ 4000) (t : Nat) (ht : t < 256) (w : World) (hC : ∀ k : Nat, k < 4 → ∀ w1, Below w.heap.size w w1 → Calls Tryd.prog 13 #[.int .i64 k] w1 fun e w' => e = .returned (.string (txt (T k))) ∧ Below w1.heap.size w1 w') :
    Calls Tryd.prog 12 #[.int .u8 t, .func (.func 13) #[] #[]] w fun e w' => e = .returned (.string (txt (itemT T t))) ∧ Below w.heap.size w w' := by
  obtain ⟨i0, hi, hz0, hz1, hz2⟩ := info_parts Tryd.infoString
  have HC := Lib.hid hC
  have HT := Lib.hid hT
  have HS := Lib.hid ht
  have HAT := Lib.hid (fun (k : Nat) (hk : k < 4) (w : World) => iat_c k hk w)
  clear hC hT ht
  go_enter Tryd.func12, Tryd.ntmps12
  go_wp2_with fail
  go_loopw [5, 7] (fun t5 t7 wr => ∃ k : Nat, k ≤ 4 ∧ t7 = .int .i64 k ∧ Hid (wr.ownsRow w.heap.size 9 1 t5 (seqOf t k).length (cellsT T (seqOf t k))) ∧ Hid (Below w.heap.size w wr)) (fun _ t7 _ => 4 - (intOf t7).toNat)
  case atStart => exact ⟨0, Nat.zero_le _, rfl, World.ownsRow_nil _ _ _ _, Below.refl _ _⟩
  case round =>
    obtain ⟨k, hk, rfl, HO, HB⟩ := hrel
    rename_i t5 t6
    obtain ⟨ad3, cp3, hv⟩ := own_form HO.out
    by_cases hlt : k < 4
    · have hq : (k : Int) < 4 := by omega
      have CA := Lib.hid (HAT.out k hlt wr)
      have hand := and_bit t k HS.out hlt
      obtain ⟨P, hP⟩ : ∃ P, ((2 ^ k : Nat) : Int) = P := ⟨_, rfl⟩
      rw [hP] at CA hand
      clear hP
      have hseq := seqOf_succ t k
      cases hbit : bit t k with
      | false =>
        rw [hbit] at hand
        have HSEQ : Hid (seqOf t (k + 1) = seqOf t k) := by show _ = _; rw [hseq, hbit]; rfl
        clear hseq hbit
        subst hv
        go_wp2_with (first | (go_at_call 26; refine CA.out.mono ?_; rintro e w1 ⟨rfl, hww⟩; have hww := hww.symm; subst hww) | fail)
        go_roundw
        case rel => exact ⟨k + 1, by omega, by go_num, by rw [HSEQ.out]; exact HO, HB.out⟩
        case measure => simp [intOf]; omega
      | true =>
        rw [hbit] at hand
        have HSEQ : Hid (seqOf t (k + 1) = seqOf t k ++ [k]) := by show _ = _; rw [hseq, hbit]; rfl
        clear hseq hbit
        have hsl := seqOf_len t k
        obtain ⟨n, hn⟩ : ∃ n, (seqOf t k).length = n := ⟨_, rfl⟩
        rw [hn] at hv hsl HO
        subst hv
        have C1 := Lib.hid (HC.out k hlt wr HB.out)
        obtain ⟨X, hX⟩ : ∃ X, txt (T k) = X := ⟨_, rfl⟩
        rw [hX] at C1
        have HX := Lib.hid hX
        have HN := Lib.hid hn
        clear hX hn
        go_wp2_with (first | (go_at_call 26; refine CA.out.mono ?_; rintro e w1 ⟨rfl, hww⟩; have hww := hww.symm; subst hww) | (go_at_call 13; refine C1.out.mono ?_; rintro e w2 ⟨rfl, hb2⟩; have H2 := Lib.hid hb2; have HO2 := Lib.hid (own_below HO.out hb2); have hls : w.heap.size ≤ w2.heap.size := Nat.le_trans HB.out.size hb2.size; clear hb2) | (at_builtin; refine wpList_append_own _ rfl (.tmp 15) (.tmp 19) 42 rfl w.heap.size 9 i0 (.string ⟨#[]⟩) 1 16 Tryd.underlying42 hi hz0 hz1 hz2 rfl (by decide) _ _ _ rfl (HO2.out.alloc _) ⟨w2.heap.size, 0, none⟩ 1 1 [.string X] rfl rfl (cell_one_new _ _ _) (fun x hx => by simp at hx; subst hx; rfl) (by unfold maxLen; omega) (by omega) (by simp; omega) ?_))
        intro v' w4 hown4 hgrow4 _
        have hb4 : Below w.heap.size w w4 := Below.grown ((HB.out.trans (H2.out.mono HB.out.size)).alloc hls _) hgrow4 (by simp; omega) (fun j hj => (HO2.out.lt _ hj).1)
        have HO4 := Lib.hid hown4
        have HB4 := Lib.hid hb4
        clear hown4 hgrow4 hb4
        go_wp2_with fail
        go_roundw
        case rel =>
          refine ⟨k + 1, by omega, by go_num, ?_, HB4.out⟩
          show World.ownsRow _ _ _ _ _ _ _
          have h := HO4.out
          rw [← HN.out] at h
          rw [HSEQ.out]
          have e : cellsT T (seqOf t k ++ [k]) = cellsT T (seqOf t k) ++ [.string X] := by unfold cellsT; rw [List.map_append, ← HX.out]; rfl
          rw [e, List.length_append]
          exact h
        case measure => simp [intOf]; omega
    · obtain rfl : k = 4 := by omega
      have hlen := joinF_len T (l := seqOf t 4) (fun k hk => HT.out k (mem_seqOf hk).1) (seqOf_len t 4)
      have CJ := Lib.hid (sjoin_c HO.out (seqOf_len t 4) (by omega))
      have e1 := txt_size (joinF T (seqOf t 4))
      have HQ : Hid ((⟨#[40]⟩ : ByteArray) ++ txt (joinF T (seqOf t 4)) ++ ⟨#[41]⟩ = txt (itemT T t)) := by
        show _ = _
        apply ByteArray.ext; simp [txt, itemT]
      obtain ⟨J, hJ⟩ : ∃ J, txt (joinF T (seqOf t 4)) = J := ⟨_, rfl⟩
      rw [hJ] at CJ e1 HQ
      have hJs : J.size ≤ 20000 := by omega
      clear hJ e1 hlen
      subst hv
      go_wp2_with (first | (go_at_call 27; refine CJ.out.mono ?_; rintro e w2 ⟨rfl, hb2⟩; have H2 := Lib.hid hb2; clear hb2) | fail)
      go_ret
      exact ⟨by rw [← HQ.out]; rfl, HB.out.trans (H2.out.mono HB.out.size)⟩
set_option maxRecDepth 100000 in
set_option maxHeartbeats 4000000 in
theorem join5_c {T : Nat → List UInt8} {V : Nat} (hT : ∀ k : Nat, k < 4 → (T k).length ≤ 4000) (t : Nat) (ht : t < 256) (w : World) (hC : ∀ k : Nat, k < 4 → ∀ w1, Below w.heap.size w w1 → Calls Tryd.prog 23 #[.int .i64 k, .pointer (some ⟨V, 0, none⟩)] w1 fun e w' => e = .returned (.string (txt (T k))) ∧ Below w1.heap.size w1 w') :
    Calls Tryd.prog 12 #[.int .u8 t, .func (.func 23) #[] #[.pointer (some ⟨V, 0, none⟩)]] w fun e w' => e = .returned (.string (txt (itemT T t))) ∧ Below w.heap.size w w' := by
  obtain ⟨i0, hi, hz0, hz1, hz2⟩ := info_parts Tryd.infoString
  have HC := Lib.hid hC
  have HT := Lib.hid hT
  have HS := Lib.hid ht
  have HAT := Lib.hid (fun (k : Nat) (hk : k < 4) (w : World) => iat_c k hk w)
  clear hC hT ht
  go_enter Tryd.func12, Tryd.ntmps12
  go_wp2_with fail
  go_loopw [5, 7] (fun t5 t7 wr => ∃ k : Nat, k ≤ 4 ∧ t7 = .int .i64 k ∧ Hid (wr.ownsRow w.heap.size 9 1 t5 (seqOf t k).length (cellsT T (seqOf t k))) ∧ Hid (Below w.heap.size w wr)) (fun _ t7 _ => 4 - (intOf t7).toNat)
  case atStart => exact ⟨0, Nat.zero_le _, rfl, World.ownsRow_nil _ _ _ _, Below.refl _ _⟩
  case round =>
    obtain ⟨k, hk, rfl, HO, HB⟩ := hrel
    rename_i t5 t6
    obtain ⟨ad3, cp3, hv⟩ := own_form HO.out
    by_cases hlt : k < 4
    · have hq : (k : Int) < 4 := by omega
      have CA := Lib.hid (HAT.out k hlt wr)
      have hand := and_bit t k HS.out hlt
      obtain ⟨P, hP⟩ : ∃ P, ((2 ^ k : Nat) : Int) = P := ⟨_, rfl⟩
      rw [hP] at CA hand
      clear hP
      have hseq := seqOf_succ t k
      cases hbit : bit t k with
      | false =>
        rw [hbit] at hand
        have HSEQ : Hid (seqOf t (k + 1) = seqOf t k) := by show _ = _; rw [hseq, hbit]; rfl
        clear hseq hbit
        subst hv
        go_wp2_with (first | (go_at_call 26; refine CA.out.mono ?_; rintro e w1 ⟨rfl, hww⟩; have hww := hww.symm; subst hww) | fail)
        go_roundw
        case rel => exact ⟨k + 1, by omega, by go_num, by rw [HSEQ.out]; exact HO, HB.out⟩
        case measure => simp [intOf]; omega
      | true =>
        rw [hbit] at hand
        have HSEQ : Hid (seqOf t (k + 1) = seqOf t k ++ [k]) := by show _ = _; rw [hseq, hbit]; rfl
        clear hseq hbit
        have hsl := seqOf_len t k
        obtain ⟨n, hn⟩ : ∃ n, (seqOf t k).length = n := ⟨_, rfl⟩
        rw [hn] at hv hsl HO
        subst hv
        have C1 := Lib.hid (HC.out k hlt wr HB.out)
        obtain ⟨X, hX⟩ : ∃ X, txt (T k) = X := ⟨_, rfl⟩
        rw [hX] at C1
        have HX := Lib.hid hX
        have HN := Lib.hid hn
        clear hX hn
        go_wp2_with (first | (go_at_call 26; refine CA.out.mono ?_; rintro e w1 ⟨rfl, hww⟩; have hww := hww.symm; subst hww) | (go_at_call 23; refine C1.out.mono ?_; rintro e w2 ⟨rfl, hb2⟩; have H2 := Lib.hid hb2; have HO2 := Lib.hid (own_below HO.out hb2); have hls : w.heap.size ≤ w2.heap.size := Nat.le_trans HB.out.size hb2.size; clear hb2) | (at_builtin; refine wpList_append_own _ rfl (.tmp 15) (.tmp 19) 42 rfl w.heap.size 9 i0 (.string ⟨#[]⟩) 1 16 Tryd.underlying42 hi hz0 hz1 hz2 rfl (by decide) _ _ _ rfl (HO2.out.alloc _) ⟨w2.heap.size, 0, none⟩ 1 1 [.string X] rfl rfl (cell_one_new _ _ _) (fun x hx => by simp at hx; subst hx; rfl) (by unfold maxLen; omega) (by omega) (by simp; omega) ?_))
        intro v' w4 hown4 hgrow4 _
        have hb4 : Below w.heap.size w w4 := Below.grown ((HB.out.trans (H2.out.mono HB.out.size)).alloc hls _) hgrow4 (by simp; omega) (fun j hj => (HO2.out.lt _ hj).1)
        have HO4 := Lib.hid hown4
        have HB4 := Lib.hid hb4
        clear hown4 hgrow4 hb4
        go_wp2_with fail
        go_roundw
        case rel =>
          refine ⟨k + 1, by omega, by go_num, ?_, HB4.out⟩
          show World.ownsRow _ _ _ _ _ _ _
          have h := HO4.out
          rw [← HN.out] at h
          rw [HSEQ.out]
          have e : cellsT T (seqOf t k ++ [k]) = cellsT T (seqOf t k) ++ [.string X] := by unfold cellsT; rw [List.map_append, ← HX.out]; rfl
          rw [e, List.length_append]
          exact h
        case measure => simp [intOf]; omega
    · obtain rfl : k = 4 := by omega
      have hlen := joinF_len T (l := seqOf t 4) (fun k hk => HT.out k (mem_seqOf hk).1) (seqOf_len t 4)
      have CJ := Lib.hid (sjoin_c HO.out (seqOf_len t 4) (by omega))
      have e1 := txt_size (joinF T (seqOf t 4))
      have HQ : Hid ((⟨#[40]⟩ : ByteArray) ++ txt (joinF T (seqOf t 4)) ++ ⟨#[41]⟩ = txt (itemT T t)) := by
        show _ = _
        apply ByteArray.ext; simp [txt, itemT]
      obtain ⟨J, hJ⟩ : ∃ J, txt (joinF T (seqOf t 4)) = J := ⟨_, rfl⟩
      rw [hJ] at CJ e1 HQ
      have hJs : J.size ≤ 20000 := by omega
      clear hJ e1 hlen
      subst hv
      go_wp2_with (first | (go_at_call 27; refine CJ.out.mono ?_; rintro e w2 ⟨rfl, hb2⟩; have H2 := Lib.hid hb2; clear hb2) | fail)
      go_ret
      exact ⟨by rw [← HQ.out]; rfl, HB.out.trans (H2.out.mono HB.out.size)⟩
end Go.Proofs.YtaomekmfgjgpmaaDoor

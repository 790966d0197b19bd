/-
  The program's messages and the document's; the one of a number.
-/
import Derived.Test.YtdelhpogacccjaaTr3
import Derived.Test.YtdelhpogacccjaaTri
set_option linter.unusedVariables false
set_option linter.unusedSimpArgs false
namespace Go.Proofs.Ytdelhpogacccjaa
open Go Go.RowKit

variable {W W' : World} {v : Value} {l : List R7}
def rV (r : R7) : Value := .agg #[.int .u32 r.uid, .int .u8 r.fl, .string r.tx]
def noR : R7 := ⟨0, 0, ⟨#[]⟩⟩
theorem results_own7 (tmps : Array Value) (w : World) (B : Nat) (a b c : Value) (h : Tri w B 40 a b c) (h2 : tmps.getD 2 undef = .pointer (some ⟨B, 0, none⟩)) : (results Try.f27 tmps).run Try.prog w = .ok (.agg #[a, b, c]) w := by
  obtain ⟨c0, c1, c2, _⟩ := h.cell
  have h2' : tmps[2]?.getD undef = .pointer (some ⟨B, 0, none⟩) := by simpa using h2
  simp [results, Try.f27, go_sem, h2', c0, c1, c2]
theorem results_back7 (tmps : Array Value) (w : World) (B : Nat) (a b c : Value) (h : Tri w B 50 a b c) (h2 : tmps.getD 2 undef = .pointer (some ⟨B, 0, none⟩)) : (results Try.f13 tmps).run Try.prog w = .ok (.agg #[a, b, c]) w := by
  obtain ⟨c0, c1, c2, _⟩ := h.cell
  have h2' : tmps[2]?.getD undef = .pointer (some ⟨B, 0, none⟩) := by simpa using h2
  simp [results, Try.f13, go_sem, h2', c0, c1, c2]
theorem results_rget7 (tmps : Array Value) (w : World) (B : Nat) (a b c d : Value) (h : Tri w B 50 a b c) (h2 : tmps.getD 4 undef = .pointer (some ⟨B, 0, none⟩)) (h3 : tmps.getD 5 undef = d) : (results Try.f40 tmps).run Try.prog w = .ok (.tuple #[.agg #[a, b, c], d]) w := by
  obtain ⟨c0, c1, c2, _⟩ := h.cell
  have h2' : tmps[4]?.getD undef = .pointer (some ⟨B, 0, none⟩) := by simpa using h2
  have h3' : tmps[5]?.getD undef = d := by simpa using h3
  simp [results, Try.f40, go_sem, h2', h3', c0, c1, c2]
theorem own7_c (r : R7) (W : World) : Calls Try.prog 27 #[rV r] W fun e w' => e = .returned (rV r) ∧ Below W.heap.size W w' := by
  have hT := Tri.new (W.alloc (.cells #[.int .u32 r.uid, .int .u8 r.fl, .string r.tx] 50)) 40 (.int .u32 r.uid) (.int .u8 r.fl) (.string r.tx)
  rw [World.size_alloc] at hT
  have HT := Lib.hid hT
  have HB : Hid (Below W.heap.size W ((W.alloc (.cells #[.int .u32 r.uid, .int .u8 r.fl, .string r.tx] 50)).alloc (.cells #[.int .u32 r.uid, .int .u8 r.fl, .string r.tx] 40))) := ((Below.refl _ _).alloc (Nat.le_refl _) _).alloc (by simp) _
  clear hT
  unfold rV
  go_enter Try.func27, Try.ntmps27
  go_wp2_with fail
  exact bodyPost_ret (results_own7 _ _ _ _ _ _ HT.out rfl) rfl ⟨rfl, HB.out⟩
theorem back7_c (r : R7) (W : World) : Calls Try.prog 13 #[rV r] W fun e w' => e = .returned (rV r) ∧ Below W.heap.size W w' := by
  have hT := Tri.new (W.alloc (.cells #[.int .u32 r.uid, .int .u8 r.fl, .string r.tx] 40)) 50 (.int .u32 r.uid) (.int .u8 r.fl) (.string r.tx)
  rw [World.size_alloc] at hT
  have HT := Lib.hid hT
  have HB : Hid (Below W.heap.size W ((W.alloc (.cells #[.int .u32 r.uid, .int .u8 r.fl, .string r.tx] 40)).alloc (.cells #[.int .u32 r.uid, .int .u8 r.fl, .string r.tx] 50))) := ((Below.refl _ _).alloc (Nat.le_refl _) _).alloc (by simp) _
  clear hT
  unfold rV
  go_enter Try.func13, Try.ntmps13
  go_wp2_with fail
  exact bodyPost_ret (results_back7 _ _ _ _ _ _ HT.out rfl) rfl ⟨rfl, HB.out⟩
/-- The message of a number, in a row. -/
def getOf (l : List R7) (u : Nat) : R7 × Bool := match l.find? (fun r => decide (r.uid = u)) with | none => (noR, false) | some r => (r, true)
theorem find_take (l : List R7) (u k : Nat) (r : R7) (h : l[k]? = some r) (hn : (l.take k).find? (fun r => decide (r.uid = u)) = none) : (l.take (k + 1)).find? (fun r => decide (r.uid = u)) = if r.uid = u then some r else none := by
  obtain ⟨hk, hr⟩ := List.getElem?_eq_some_iff.1 h
  rw [List.take_succ_eq_append_getElem hk, hr, List.find?_append, hn]
  by_cases hu : r.uid = u <;> simp [hu]
theorem find_of_take (l : List R7) (u k : Nat) (r : R7) (h : (l.take k).find? (fun r => decide (r.uid = u)) = some r) : l.find? (fun r => decide (r.uid = u)) = some r := by
  have e : l = l.take k ++ l.drop k := (List.take_append_drop k l).symm
  rw [e, List.find?_append, h]
  rfl
set_option maxRecDepth 20000 in
set_option maxHeartbeats 1000000 in
theorem rGet7_c (hl : RecRow W v l) (u : Nat) (hm : l.length ≤ 1000000) : Calls Try.prog 40 #[v, .int .u32 u] W fun e w' => e = .returned (.tuple #[rV (getOf l u).1, .bool (getOf l u).2]) ∧ Below W.heap.size W w' := by
  obtain ⟨ad, cp, rfl⟩ := hl.form
  obtain ⟨N, hN⟩ : ∃ N, l.length = N := ⟨_, rfl⟩
  rw [hN] at hl ⊢
  have HL := Lib.hid hl
  have HN := Lib.hid hN
  have hNN : N ≤ 1000000 := by omega
  have hT := Tri.new W 50 (.int .u32 0) (.int .u8 0) (.string ⟨#[]⟩)
  have HT0 := Lib.hid hT
  have hB := (Below.refl W.heap.size W).alloc (Nat.le_refl _) (.cells #[.int .u32 0, .int .u8 0, .string ⟨#[]⟩] 50)
  have HB := Lib.hid hB
  clear hl hN hm hT hB
  go_enter Try.func40, Try.ntmps40
  go_wp2_with fail
  obtain ⟨D, hD⟩ : ∃ D, W.heap.size = D := ⟨_, rfl⟩
  obtain ⟨W1, hW1⟩ : ∃ W1, W.alloc (.cells #[.int .u32 0, .int .u8 0, .string ⟨#[]⟩] 50) = W1 := ⟨_, rfl⟩
  rw [hW1] at HT0 HB ⊢
  rw [hD] at HT0 ⊢
  have HDD : Hid (W.heap.size ≤ D) := by show _ ≤ _; omega
  clear hW1 hD
  go_loopw [6] (fun i wr => ∃ (k : Nat), k ≤ N ∧ i = .int .i64 k ∧ Hid ((l.take k).find? (fun r => decide (r.uid = u)) = none) ∧ wr = W1) (fun i _ => N - (intOf i).toNat)
  case atStart => exact ⟨0, Nat.zero_le _, rfl, by show _ = _; rfl, rfl⟩
  case round =>
    obtain ⟨k, hk, rfl, HF, hwr⟩ := hrel
    rw [hwr]
    clear hwr wr
    by_cases hlt : k < N
    · have hq : (k : Int) < N := by omega
      have hq0 : (0 : Int) ≤ k := by omega
      obtain ⟨r, hr⟩ : ∃ r, l[k]? = some r := ⟨_, List.getElem?_eq_getElem (by have := HN.out; omega)⟩
      obtain ⟨b, off, rfl, hb, c0, c1, c2⟩ := (HL.out.below HB.out).at hr
      have hS := find_take l u k r hr HF.out
      by_cases hu : r.uid = u
      · have g : ((r.uid : Int) == (u : Int)) = true := by rw [beq_iff_eq]; omega
        rw [if_pos hu] at hS
        have hG : getOf l u = (r, true) := by unfold getOf; rw [find_of_take l u (k + 1) r hS]
        have HG := Lib.hid hG
        obtain ⟨d0, d1, d2, f0, f1, f2⟩ := HT0.out.cell
        have d3 := HT0.out.lt
        have HT3 := Lib.hid (((HT0.out.set0 (.int .u32 r.uid)).set1 (.int .u8 r.fl)).set2 (.string r.tx))
        have HB3 := Lib.hid (((HB.out.setCell (p := ⟨D, 0, none⟩) HDD.out (.int .u32 r.uid)).setCell (p := ⟨D, 1, none⟩) HDD.out (.int .u8 r.fl)).setCell (p := ⟨D, 2, none⟩) HDD.out (.string r.tx))
        clear hS hr hG hu
        go_wp2_with fail
        refine bodyPost_ret (results_rget7 _ _ _ _ _ _ _ HT3.out rfl rfl) rfl ⟨by rw [HG.out]; rfl, HB3.out⟩
      · have g : ((r.uid : Int) == (u : Int)) = false := by rw [beq_eq_false_iff_ne]; omega
        rw [if_neg hu] at hS
        have HS := Lib.hid hS
        clear hS hr hu c1 c2
        go_wp2_with fail
        go_roundw
        case rel => exact ⟨k + 1, by omega, by go_num, HS.out, by first | rfl | trivial⟩
        case measure => simp [intOf]; omega
    · obtain rfl : k = N := by omega
      have hq : ¬ (k : Int) < k := by omega
      have hG : getOf l u = (noR, false) := by
        unfold getOf
        have := HF.out
        rw [List.take_of_length_le (by rw [HN.out]; exact Nat.le_refl _)] at this
        rw [this]
      have HG := Lib.hid hG
      obtain ⟨d0, d1, d2, f0, f1, f2⟩ := HT0.out.cell
      have d3 := HT0.out.lt
      have HT3 := Lib.hid (((HT0.out.set0 (.int .u32 0)).set1 (.int .u8 0)).set2 (.string ⟨#[]⟩))
      have HB3 := Lib.hid (((HB.out.setCell (p := ⟨D, 0, none⟩) HDD.out (.int .u32 0)).setCell (p := ⟨D, 1, none⟩) HDD.out (.int .u8 0)).setCell (p := ⟨D, 2, none⟩) HDD.out (.string ⟨#[]⟩))
      clear hG
      go_wp2_with fail
      refine bodyPost_ret (results_rget7 _ _ _ _ _ _ _ HT3.out rfl rfl) rfl ⟨by rw [HG.out]; rfl, HB3.out⟩
end Go.Proofs.Ytdelhpogacccjaa

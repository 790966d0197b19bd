/-
  Messages in a row: whether they are right, how high, how many are lesser.
-/
import Derived.Test.YtdelhpogacccjaaTr1
import Derived.BigQuiet
set_option linter.unusedVariables false
set_option linter.unusedSimpArgs false
namespace Go.Proofs.Ytdelhpogacccjaa
open Go Go.RowKit

/-- A message. -/
structure R7 where
  uid : Nat
  fl : Nat
  tx : ByteArray
def RecRow (W : World) (v : Value) (l : List R7) : Prop :=
  (v = .slice none 0 0 ∧ l = []) ∨ ∃ ad cap, v = .slice (some ad) l.length cap ∧ ∀ j r, l[j]? = some r → ∃ b off, ad = ⟨b, off, none⟩ ∧ b < W.heap.size ∧
    W.cell? ⟨b, off + j * 3, none⟩ = some (.int .u32 r.uid) ∧ W.cell? ⟨b, off + j * 3 + 1, none⟩ = some (.int .u8 r.fl) ∧ W.cell? ⟨b, off + j * 3 + 2, none⟩ = some (.string r.tx)
variable {W W' : World} {v : Value} {l : List R7}
theorem RecRow.below (h : RecRow W v l) (hb : Below W.heap.size W W') : RecRow W' v l := by
  rcases h with h | ⟨ad, cap, rfl, h⟩
  · exact .inl h
  · refine .inr ⟨ad, cap, rfl, fun j r hj => ?_⟩
    obtain ⟨b, off, rfl, hlt, h0, h1, h2⟩ := h j r hj
    exact ⟨b, off, rfl, Nat.lt_of_lt_of_le hlt hb.size, by rw [hb.cell (p := ⟨b, _, none⟩) hlt]; exact h0, by rw [hb.cell (p := ⟨b, _, none⟩) hlt]; exact h1, by rw [hb.cell (p := ⟨b, _, none⟩) hlt]; exact h2⟩
theorem RecRow.form (h : RecRow W v l) : ∃ ad cp, v = .slice ad l.length cp := by
  rcases h with ⟨rfl, rfl⟩ | ⟨ad, cap, rfl, _⟩
  · exact ⟨none, 0, rfl⟩
  · exact ⟨_, _, rfl⟩
theorem RecRow.at {ad : Option Addr} {n cp : Nat} (h : RecRow W (.slice ad n cp) l) {j : Nat} {r : R7} (hj : l[j]? = some r) :
    ∃ b off, ad = some ⟨b, off, none⟩ ∧ b < W.heap.size ∧ W.cell? ⟨b, off + j * 3, none⟩ = some (.int .u32 r.uid) ∧ W.cell? ⟨b, off + j * 3 + 1, none⟩ = some (.int .u8 r.fl) ∧ W.cell? ⟨b, off + j * 3 + 2, none⟩ = some (.string r.tx) := by
  rcases h with ⟨_, rfl⟩ | ⟨a, cap, he, h⟩
  · simp at hj
  · obtain ⟨b, off, rfl, h2⟩ := h j r hj
    cases he
    exact ⟨b, off, rfl, h2⟩
def heightOf (l : List R7) : Nat := match l.getLast? with | none => 0 | some r => nd r.uid
set_option maxRecDepth 20000 in
theorem rHeight7_c (hl : RecRow W v l) (hu : ∀ r, r ∈ l → r.uid < 4294967296) (hm : l.length ≤ 1000000) : Calls Try.prog 21 #[v] W fun e w' => e = .returned (.int .i64 (heightOf l : Nat)) ∧ w' = W := by
  obtain ⟨ad, cp, rfl⟩ := hl.form
  obtain ⟨N, hN⟩ : ∃ N, l.length = N := ⟨_, rfl⟩
  rw [hN] at hl ⊢
  by_cases h0 : N = 0
  · have hl0 : l = [] := List.length_eq_zero_iff.1 (by omega)
    subst hl0
    have q : ((N : Int) == 0) = true := by rw [beq_iff_eq]; omega
    clear hN h0
    go_enter Try.func21, Try.ntmps21
    go_wp2_with fail
    go_ret
    exact ⟨rfl, rfl⟩
  · have q : ((N : Int) == 0) = false := by rw [beq_eq_false_iff_ne]; omega
    have hNN : N ≤ 1000000 := by omega
    obtain ⟨M, rfl⟩ : ∃ M, N = M + 1 := ⟨N - 1, by omega⟩
    obtain ⟨r, hr⟩ : ∃ r, l[M]? = some r := ⟨_, List.getElem?_eq_getElem (by omega)⟩
    obtain ⟨b, off, rfl, hb, c0, c1, c2⟩ := hl.at hr
    have hh : heightOf l = nd r.uid := by
      unfold heightOf
      rw [List.getLast?_eq_getElem?, hN, Nat.add_sub_cancel, hr]
    have CN := Lib.hid (rNeed7_c r.uid (hu r (List.mem_of_getElem? hr)) W)
    have HH := Lib.hid hh
    have q1 : (0 : Int) ≤ M := by omega
    have q2 : (M : Int) < (M : Int) + 1 := by omega
    clear hr hl hN hh c1 c2 h0 hm hu
    go_enter Try.func21, Try.ntmps21
    go_wp2_with (go_at_call 52; refine CN.out.mono ?_; rintro e w' ⟨rfl, hw⟩; rw [hw]; clear hw w')
    go_ret
    exact ⟨by rw [HH.out]; rfl, rfl⟩
def rankOf (l : List R7) (u : Nat) : Nat := (l.filter fun r => decide (r.uid < u)).length
theorem rank_take (l : List R7) (u k : Nat) (r : R7) (h : l[k]? = some r) : rankOf (l.take (k + 1)) u = rankOf (l.take k) u + if r.uid < u then 1 else 0 := by
  obtain ⟨hk, hr⟩ := List.getElem?_eq_some_iff.1 h
  rw [List.take_succ_eq_append_getElem hk, hr]
  unfold rankOf
  rw [List.filter_append, List.length_append]
  congr 1
  by_cases hu : r.uid < u
  · simp [hu]
  · simp [hu]
/-- Are messages by their numbers, from 1 on? -/
def rightB (l : List R7) : Bool := (List.range l.length).all fun i => match l[i]? with
  | none => true
  | some r => decide (r.uid ≠ 0) && (match i with | 0 => true | j + 1 => match l[j]? with | none => true | some q => decide (q.uid < r.uid))
def rightTo (l : List R7) (k : Nat) : Bool := (List.range k).all fun i => match l[i]? with
  | none => true
  | some r => decide (r.uid ≠ 0) && (match i with | 0 => true | j + 1 => match l[j]? with | none => true | some q => decide (q.uid < r.uid))
theorem rightTo_succ (l : List R7) (k : Nat) : rightTo l (k + 1) = (rightTo l k && (match l[k]? with
  | none => true
  | some r => decide (r.uid ≠ 0) && (match k with | 0 => true | j + 1 => match l[j]? with | none => true | some q => decide (q.uid < r.uid)))) := by
  unfold rightTo; rw [List.range_succ, List.all_append]; simp
theorem rightTo_false (l : List R7) (k : Nat) (h : rightTo l k = false) (hk : k ≤ l.length) : rightB l = false := by
  unfold rightB
  rw [List.all_eq_false]
  unfold rightTo at h
  rw [List.all_eq_false] at h
  obtain ⟨i, hi, h2⟩ := h
  exact ⟨i, by rw [List.mem_range] at hi ⊢; omega, h2⟩
set_option maxRecDepth 20000 in
set_option maxHeartbeats 1000000 in
theorem rRight7_c (hl : RecRow W v l) (hm : l.length ≤ 1000000) : Calls Try.prog 25 #[v] W fun e w' => e = .returned (.bool (rightB l)) ∧ Below W.heap.size W w' := by
  obtain ⟨ad, cp, rfl⟩ := hl.form
  obtain ⟨N, hN⟩ : ∃ N, l.length = N := ⟨_, rfl⟩
  rw [hN] at hl ⊢
  have HL := Lib.hid hl
  have HN := Lib.hid hN
  have hNN : N ≤ 1000000 := by omega
  clear hl hN hm
  go_enter Try.func25, Try.ntmps25
  go_wp2_with fail
  go_loopw [3] (fun i wr => ∃ (k : Nat), k ≤ N ∧ i = .int .i64 k ∧ Hid (rightTo l k = true) ∧ Hid (Below W.heap.size W wr)) (fun i _ => N - (intOf i).toNat)
  case atStart => exact ⟨0, Nat.zero_le _, rfl, rfl, Below.refl _ _⟩
  case round =>
    obtain ⟨k, hk, rfl, HT, HB⟩ := hrel
    by_cases hlt : k < N
    · have hq : (k : Int) < N := by omega
      have hq0 : (0 : Int) ≤ k := by omega
      obtain ⟨r, hr⟩ : ∃ r, l[k]? = some r := ⟨_, List.getElem?_eq_getElem (by have := HN.out; omega)⟩
      obtain ⟨b, off, rfl, hb, c0, c1, c2⟩ := (HL.out.below HB.out).at hr
      have hS := rightTo_succ l k
      rw [HT.out, Bool.true_and, hr] at hS
      dsimp only at hS
      obtain ⟨x, hx⟩ : ∃ x, r.uid = x := ⟨_, rfl⟩
      rw [hx] at c0 hS
      by_cases hx0 : x = 0
      · have e0 : ((x : Int) == 0) = true := by rw [beq_iff_eq]; omega
        have hF : rightB l = false := rightTo_false l (k + 1) (by rw [hS]; simp [hx0]) (by have := HN.out; omega)
        have HF := Lib.hid hF
        clear hS hr hx hx0 c1 c2 hF
        go_wp2_with fail
        go_quiet (fail)
        go_wp2_with fail
        go_ret
        exact ⟨by rw [HF.out]; rfl, below_drewN HB.out _⟩
      · have e0 : ((x : Int) == 0) = false := by rw [beq_eq_false_iff_ne]; omega
        by_cases hk0 : k = 0
        · have HS : Hid (rightTo l (k + 1) = true) := by show _ = _; rw [hS]; subst hk0; simp [hx0]
          have g0 : decide (0 < k) = false := decide_eq_false (by omega)
          clear hS hr hx c1 c2 hx0 hk0
          go_wp2_with fail
          go_quiet (fail)
          have HB2 := Lib.hid (below_drewN HB.out nq)
          obtain ⟨W4, hW4⟩ : ∃ W4, wr.drewN nq = W4 := ⟨_, rfl⟩
          rw [hW4] at HB2 ⊢
          clear hW4
          go_wp2_with fail
          go_roundw
          case rel => exact ⟨k + 1, by omega, by go_num, HS.out, HB2.out⟩
          case measure => simp [intOf]; omega
        · have g0 : decide (0 < k) = true := decide_eq_true (by omega)
          have hk2 : (0 : Int) ≤ (k : Int) - 1 := by omega
          have hk3 : (k : Int) - 1 < N := by omega
          obtain ⟨j, hj⟩ : ∃ j, k = j + 1 := ⟨k - 1, by omega⟩
          obtain ⟨y, hy⟩ : ∃ y, l[j]? = some y := ⟨_, List.getElem?_eq_getElem (by have := HN.out; omega)⟩
          obtain ⟨b2, off2, he, _, d0, _, _⟩ := (HL.out.below HB.out).at hy
          cases he
          have kd : wr.cell? ⟨b, off + (k - 1) * 3, none⟩ = some (.int .u32 y.uid) := by rw [hj]; exact d0
          rw [hj] at hS
          dsimp only at hS
          rw [hy] at hS
          dsimp only at hS
          rw [← hj] at hS
          obtain ⟨z, hz⟩ : ∃ z, y.uid = z := ⟨_, rfl⟩
          rw [hz] at kd hS
          by_cases hle : x ≤ z
          · have g1 : (x : Int) ≤ z := by omega
            have hF : rightB l = false := rightTo_false l (k + 1) (by rw [hS]; simp; omega) (by have := HN.out; omega)
            have HF := Lib.hid hF
            clear hS hr hx c1 c2 hF hy hz hj d0 hx0 hk0 hle
            go_wp2_with fail
            go_quiet (fail)
            go_wp2_with fail
            go_ret
            exact ⟨by rw [HF.out]; rfl, below_drewN HB.out _⟩
          · have g1 : ¬ (x : Int) ≤ z := by omega
            have HS : Hid (rightTo l (k + 1) = true) := by show _ = _; rw [hS]; simp; omega
            clear hS hr hx c1 c2 hy hz hj d0 hx0 hk0 hle
            go_wp2_with fail
            go_quiet (fail)
            have HB2 := Lib.hid (below_drewN HB.out nq)
            obtain ⟨W4, hW4⟩ : ∃ W4, wr.drewN nq = W4 := ⟨_, rfl⟩
            rw [hW4] at HB2 ⊢
            clear hW4
            go_wp2_with fail
            go_roundw
            case rel => exact ⟨k + 1, by omega, by go_num, HS.out, HB2.out⟩
            case measure => simp [intOf]; omega
    · obtain rfl : k = N := by omega
      have hq : ¬ (k : Int) < k := by omega
      have h9 : rightB l = true := by have := HT.out; unfold rightTo at this; unfold rightB; rw [HN.out]; exact this
      have H9 := Lib.hid h9
      clear h9
      go_wp2_with fail
      go_ret
      exact ⟨by rw [H9.out]; rfl, HB.out⟩
end Go.Proofs.Ytdelhpogacccjaa

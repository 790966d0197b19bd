/-
  The document's May; the program's find, by a search in halves: contracts.
-/
import Derived.Test.YtebkpejiloabnaaLs3
import Derived.IntWalk
set_option linter.unusedVariables false
set_option linter.unusedSimpArgs false
namespace Go.Proofs.Ytebkpejiloabnaa
open Go Go.RowKit
variable {W W' : World} {v va vb : Value} {l now : List EL}

def cmpI (a b : Nat) : Int := if a < b then -1 else if b < a then 1 else 0
theorem isNaN_c (a : Nat) (W : World) : Calls Try.prog 32 #[.int .u32 a] W fun e w' => e = .returned (.bool false) ∧ w' = W := by
  have q : ((a : Int) == a) = true := by rw [beq_iff_eq]
  go_enter Try.func32, Try.ntmps32
  go_wp2_with fail
  go_ret
  exact ⟨by simp, rfl⟩
theorem compare_c (a b : Nat) (W : World) : Calls Try.prog 31 #[.int .u32 a, .int .u32 b] W fun e w' => e = .returned (.int .i64 (cmpI a b)) ∧ w' = W := by
  have C1 := Lib.hid (isNaN_c a W)
  have C2 := Lib.hid (isNaN_c b W)
  by_cases h1 : a < b
  · have g1 : (a : Int) < b := by omega
    have HG : Hid (cmpI a b = -1) := if_pos h1
    clear h1
    go_enter Try.func31, Try.ntmps31
    go_wp2_with fail
    refine C1.out.mono ?_
    rintro e w' ⟨rfl, hw⟩
    rw [hw]; clear hw w'
    go_wp2_with fail
    refine C2.out.mono ?_
    rintro e w' ⟨rfl, hw⟩
    rw [hw]; clear hw w'
    go_wp2_with fail
    go_ret
    exact ⟨by rw [HG.out]; rfl, rfl⟩
  · have g1 : ¬ (a : Int) < b := by omega
    by_cases h2 : b < a
    · have g2 : (b : Int) < a := by omega
      have HG : Hid (cmpI a b = 1) := by show (if _ then _ else _) = _; rw [if_neg h1, if_pos h2]
      clear h1 h2
      go_enter Try.func31, Try.ntmps31
      go_wp2_with fail
      refine C1.out.mono ?_
      rintro e w' ⟨rfl, hw⟩
      rw [hw]; clear hw w'
      go_wp2_with fail
      refine C2.out.mono ?_
      rintro e w' ⟨rfl, hw⟩
      rw [hw]; clear hw w'
      go_wp2_with fail
      go_ret
      exact ⟨by rw [HG.out]; rfl, rfl⟩
    · have g2 : ¬ (b : Int) < a := by omega
      have HG : Hid (cmpI a b = 0) := by show (if _ then _ else _) = _; rw [if_neg h1, if_neg h2]
      clear h1 h2
      go_enter Try.func31, Try.ntmps31
      go_wp2_with fail
      refine C1.out.mono ?_
      rintro e w' ⟨rfl, hw⟩
      rw [hw]; clear hw w'
      go_wp2_with fail
      refine C2.out.mono ?_
      rintro e w' ⟨rfl, hw⟩
      rw [hw]; clear hw w'
      go_wp2_with fail
      go_ret
      exact ⟨by rw [HG.out]; rfl, rfl⟩
theorem find1_c (e : EL) (u : Nat) (W : World) : Calls Try.prog 30 #[.agg #[.int .u32 e.uid, .int .u8 e.fl], .int .u32 u] W fun r w' => r = .returned (.int .i64 (cmpI e.uid u)) ∧ Below W.heap.size W w' := by
  have HB := Lib.hid ((Below.refl W.heap.size W).alloc (Nat.le_refl _) (.cells #[.int .u32 e.uid, .int .u8 e.fl] 35))
  have CC := Lib.hid (fun W => compare_c e.uid u W)
  go_enter Try.func30, Try.ntmps30
  go_wp2_with fail
  refine (CC.out _).mono ?_
  rintro e w' ⟨rfl, hw⟩
  rw [hw]; clear hw w'
  go_wp2_with fail
  go_ret
  exact ⟨rfl, HB.out⟩

/-- How many entries are below a number, in a list whose numbers rise. -/
def lowC (l : List EL) (u : Nat) : Nat := (l.filter fun e => decide (e.uid < u)).length
theorem low_take {l : List EL} {u k : Nat} (hk : k ≤ l.length) (h1 : ∀ j q, j < k → l[j]? = some q → q.uid < u) (h2 : ∀ j q, k ≤ j → l[j]? = some q → u ≤ q.uid) : lowC l u = k := by
  unfold lowC
  conv => lhs; rw [← List.take_append_drop k l]
  rw [List.filter_append, List.filter_eq_self.2, List.filter_eq_nil_iff.2, List.append_nil, List.length_take, Nat.min_eq_left hk]
  · intro q hq
    obtain ⟨j, hj, rfl⟩ := List.mem_iff_getElem.1 hq
    rw [List.length_drop] at hj
    have := h2 (k + j) ((l.drop k)[j]) (by omega) (by rw [List.getElem?_eq_getElem (by omega)]; simp)
    simpa using this
  · intro q hq
    obtain ⟨j, hj, rfl⟩ := List.mem_iff_getElem.1 hq
    rw [List.length_take] at hj
    have := h1 j ((l.take k)[j]) (by omega) (by rw [List.getElem?_eq_getElem (by omega)]; simp)
    simpa using this
theorem up_at {l : List EL} (h : UpE l) {i j : Nat} {a b : EL} (ha : l[i]? = some a) (hb : l[j]? = some b) (hij : i < j) : a.uid < b.uid := by
  obtain ⟨hi, rfl⟩ := List.getElem?_eq_some_iff.1 ha
  obtain ⟨hj, rfl⟩ := List.getElem?_eq_some_iff.1 hb
  exact List.pairwise_iff_getElem.1 h.1 i j hi hj hij
theorem up_le {l : List EL} (h : UpE l) {i j : Nat} {a b : EL} (ha : l[i]? = some a) (hb : l[j]? = some b) (hij : i ≤ j) : a.uid ≤ b.uid := by
  by_cases e : i = j
  · subst e; rw [ha] at hb; cases hb; exact Nat.le_refl _
  · exact Nat.le_of_lt (up_at h ha hb (by omega))
theorem getE_at {l : List EL} (h : UpE l) {k u : Nat} {e : EL} (hk : l[k]? = some e) (hu : e.uid = u) : getE l u = (e, true) := by
  obtain ⟨hlt, rfl⟩ := List.getElem?_eq_some_iff.1 hk
  unfold getE
  have : l.find? (fun e => decide (e.uid = u)) = some l[k] := by
    rw [List.find?_eq_some_iff_getElem]
    refine ⟨by simpa using hu, k, hlt, rfl, fun j hj => ?_⟩
    have := up_at h (List.getElem?_eq_getElem (by omega : j < l.length)) hk hj
    simp; omega
  rw [this]
theorem getE_none {l : List EL} {u : Nat} (h : ∀ e ∈ l, e.uid ≠ u) : getE l u = (noE, false) := by
  unfold getE
  rw [List.find?_eq_none.2 (fun x hx => by simpa using h x hx)]
theorem getE_low {l : List EL} {u k : Nat} (h : UpE l) (hk : k ≤ l.length) (h1 : ∀ j q, j < k → l[j]? = some q → q.uid < u) (h2 : ∀ j q, k ≤ j → l[j]? = some q → u ≤ q.uid) (h3 : ∀ q, l[k]? = some q → q.uid ≠ u) : getE l u = (noE, false) := by
  refine getE_none fun e he => ?_
  obtain ⟨j, hj, rfl⟩ := List.mem_iff_getElem.1 he
  have hj' := List.getElem?_eq_getElem hj
  by_cases e1 : j < k
  · have := h1 j _ e1 hj'; omega
  · by_cases e2 : j = k
    · subst e2; exact h3 _ hj'
    · have := h2 k _ (Nat.le_refl _) (List.getElem?_eq_getElem (by omega : k < l.length))
      have := up_at h (List.getElem?_eq_getElem (by omega : k < l.length)) hj' (by omega)
      omega
def SearchP (W : World) (l : List EL) (u : Nat) (e : Ending) (w' : World) : Prop :=
  ∃ k : Nat, k ≤ l.length ∧ Below W.heap.size W w' ∧ ((∃ q, l[k]? = some q ∧ q.uid = u ∧ e = .returned (.tuple #[.int .i64 k, .bool true])) ∨ (getE l u = (noE, false) ∧ e = .returned (.tuple #[.int .i64 k, .bool false])))

set_option maxRecDepth 20000 in
set_option maxHeartbeats 4000000 in
theorem bsearchL_c (hl : EntRow W v l) (hu : UpE l) (u : Nat) (hm : l.length ≤ 10000000) : Calls Try.prog 29 #[v, .int .u32 u, .func (.func 30) #[] #[]] W (SearchP W l u) := by
  obtain ⟨ad, cp, rfl⟩ := hl.form
  obtain ⟨N, hN⟩ : ∃ N, l.length = N := ⟨_, rfl⟩
  rw [hN] at hl hm ⊢
  have HL := Lib.hid hl
  have HN := Lib.hid hN
  have HU := Lib.hid hu
  clear hl hN hu
  go_enter Try.func29, Try.ntmps29
  go_wp2_with fail
  go_loopw [9, 10] (fun s9 s10 wr => ∃ lo hi : Nat, s9 = .int .i64 lo ∧ s10 = .int .i64 hi ∧ lo ≤ hi ∧ hi ≤ N ∧ Hid (Below W.heap.size W wr) ∧
    Hid ((∀ j q, j < lo → l[j]? = some q → q.uid < u) ∧ (∀ j q, hi ≤ j → l[j]? = some q → u ≤ q.uid))) (fun s9 s10 _ => (intOf s10).toNat - (intOf s9).toNat)
  case atStart => exact ⟨0, N, rfl, rfl, Nat.zero_le _, Nat.le_refl _, Below.refl _ _, ⟨fun j q h => by omega, fun j q h hq => by have := (List.getElem?_eq_some_iff.1 hq).1; have := HN.out; omega⟩⟩
  case round =>
    obtain ⟨lo, hi, rfl, rfl, hlh, hin, HB, HI⟩ := hrel
    by_cases hlt : lo < hi
    · obtain ⟨m, hm2⟩ : ∃ m, (lo + hi) / 2 = m := ⟨_, rfl⟩
      have hml : lo ≤ m := by omega
      have hmh : m < hi := by omega
      obtain ⟨r, hr⟩ : ∃ r, l[m]? = some r := ⟨_, List.getElem?_eq_getElem (by have := HN.out; omega)⟩
      obtain ⟨b, off, rfl, hb, c0, c1⟩ := EntRow.at (RowK.below HL.out HB.out) hr
      have CC := Lib.hid (fun W => find1_c r u W)
      rw [← hm2] at c0 c1
      by_cases hru : r.uid < u
      · have hG : cmpI r.uid u = -1 := if_pos hru
        have HI2 : Hid ((∀ j q, j < m + 1 → l[j]? = some q → q.uid < u) ∧ (∀ j q, hi ≤ j → l[j]? = some q → u ≤ q.uid)) := by
          refine ⟨fun j q hj hq => ?_, HI.out.2⟩
          exact Nat.lt_of_le_of_lt (up_le HU.out hq hr (by omega)) hru
        have HM := Lib.hid hm2
        clear hr hru hm2
        go_wp2_with fail
        refine (CC.out _).mono ?_
        rintro e w5 ⟨rfl, hb5⟩
        rw [hG]
        have HB5 := Lib.hid (HB.out.trans (hb5.mono HB.out.size))
        clear hb5 c0 c1 hG
        go_wp2_with fail
        go_roundw
        case rel => exact ⟨m + 1, hi, by have := HM.out; first | (rw [show ((lo : Int) + (hi : Int)) / 2 + 1 = ((m + 1 : Nat) : Int) by omega]) | (congr 1; omega), rfl, by omega, hin, HB5.out, HI2.out⟩
        case measure => have := HM.out; simp [intOf]; omega
      · have hG : cmpI r.uid u = if u < r.uid then 1 else 0 := if_neg hru
        obtain ⟨z, hz, hz0⟩ : ∃ z : Int, cmpI r.uid u = z ∧ ¬ z < 0 := ⟨_, rfl, by rw [hG]; split <;> omega⟩
        have HI2 : Hid ((∀ j q, j < lo → l[j]? = some q → q.uid < u) ∧ (∀ j q, m ≤ j → l[j]? = some q → u ≤ q.uid)) := by
          refine ⟨HI.out.1, fun j q hj hq => ?_⟩
          exact Nat.le_trans (by omega) (up_le HU.out hr hq hj)
        have HM := Lib.hid hm2
        clear hr hru hm2 hG
        go_wp2_with fail
        refine (CC.out _).mono ?_
        rintro e w5 ⟨rfl, hb5⟩
        rw [hz]
        have HB5 := Lib.hid (HB.out.trans (hb5.mono HB.out.size))
        clear hb5 c0 c1 hz
        go_wp2_with fail
        go_roundw
        case rel => exact ⟨lo, m, rfl, by have := HM.out; first | (rw [show ((lo : Int) + (hi : Int)) / 2 = ((m : Nat) : Int) by omega]) | (congr 1; omega), by omega, by omega, HB5.out, HI2.out⟩
        case measure => have := HM.out; simp [intOf]; omega
    · obtain rfl : hi = lo := by omega
      by_cases hn : hi < N
      · obtain ⟨r, hr⟩ : ∃ r, l[hi]? = some r := ⟨_, List.getElem?_eq_getElem (by have := HN.out; omega)⟩
        obtain ⟨b, off, rfl, hb, c0, c1⟩ := EntRow.at (RowK.below HL.out HB.out) hr
        have CC := Lib.hid (fun W => find1_c r u W)
        by_cases hru : r.uid = u
        · have hG : cmpI r.uid u = 0 := by unfold cmpI; rw [if_neg (by omega), if_neg (by omega)]
          have HR := Lib.hid (show ∃ q, l[hi]? = some q ∧ q.uid = u from ⟨r, hr, hru⟩)
          clear hr hru
          go_wp2_with fail
          refine (CC.out _).mono ?_
          rintro e w5 ⟨rfl, hb5⟩
          rw [hG]
          have HB5 := Lib.hid (HB.out.trans (hb5.mono HB.out.size))
          clear hb5 c0 c1 hG
          go_wp2_with fail
          go_ret2
          obtain ⟨q, hq1, hq2⟩ := HR.out
          exact ⟨hi, by have := HN.out; omega, HB5.out, .inl ⟨q, hq1, hq2, rfl⟩⟩
        · obtain ⟨z, hz, hz0⟩ : ∃ z : Int, cmpI r.uid u = z ∧ (z == 0) = false := ⟨_, rfl, by unfold cmpI; rw [beq_eq_false_iff_ne]; split <;> (try split) <;> omega⟩
          have HR := Lib.hid (getE_low HU.out (by have := HN.out; omega) HI.out.1 HI.out.2 (fun q hq => by rw [hr] at hq; cases hq; exact hru))
          clear hr hru
          go_wp2_with fail
          refine (CC.out _).mono ?_
          rintro e w5 ⟨rfl, hb5⟩
          rw [hz]
          have HB5 := Lib.hid (HB.out.trans (hb5.mono HB.out.size))
          clear hb5 c0 c1 hz
          go_wp2_with fail
          go_ret2
          exact ⟨hi, by have := HN.out; omega, HB5.out, .inr ⟨HR.out, rfl⟩⟩
      · obtain rfl : hi = N := by omega
        have HR := Lib.hid (getE_low HU.out (by have := HN.out; omega) HI.out.1 HI.out.2 (fun q hq => by have := (List.getElem?_eq_some_iff.1 hq).1; have := HN.out; omega))
        go_wp2_with fail
        go_ret2
        exact ⟨hi, by have := HN.out; omega, HB.out, .inr ⟨HR.out, rfl⟩⟩
end Go.Proofs.Ytebkpejiloabnaa

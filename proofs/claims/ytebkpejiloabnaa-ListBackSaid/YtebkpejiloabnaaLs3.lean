/-
  The document's Find, Rises, May, Same; the program's Last: contracts.
-/
import Derived.Test.YtebkpejiloabnaaLs1
import Derived.BigQuiet
set_option linter.unusedVariables false
set_option linter.unusedSimpArgs false
namespace Go.Proofs.Ytebkpejiloabnaa
open Go Go.RowKit
variable {W W' : World} {v va vb : Value} {l now : List EL}

theorem findI_ge (l : List EL) (u : Nat) : -1 ≤ findI l u ∧ findI l u < l.length := by
  unfold findI
  cases h : l.findIdx? (fun e => decide (e.uid = u)) with
  | none => exact ⟨Int.le_refl _, by show (-1 : Int) < _; omega⟩
  | some i =>
    have := (List.findIdx?_eq_some_iff_getElem.1 h).1
    exact ⟨by show (-1 : Int) ≤ (i : Int); omega, by show (i : Int) < _; omega⟩
theorem findI_none {l : List EL} {u : Nat} (h : ∀ e ∈ l, e.uid ≠ u) : findI l u = -1 := by
  unfold findI
  rw [List.findIdx?_eq_none_iff.2 (fun x hx => by simpa using h x hx)]
theorem findI_at {l : List EL} {u k : Nat} {e : EL} (h : l[k]? = some e) (hu : e.uid = u) (hn : ∀ j q, j < k → l[j]? = some q → q.uid ≠ u) : findI l u = k := by
  obtain ⟨hk, rfl⟩ := List.getElem?_eq_some_iff.1 h
  unfold findI
  rw [List.findIdx?_eq_some_iff_getElem.2 ⟨hk, by simpa using hu, fun j hj => by simpa using hn j _ hj (List.getElem?_eq_getElem (by omega))⟩]

set_option maxRecDepth 20000 in
set_option maxHeartbeats 1000000 in
theorem rFind11_c (hl : EntRow W v l) (u : Nat) (hm : l.length ≤ 10000000) : Calls Try.prog 17 #[v, .int .u32 u] W fun e w' => e = .returned (.int .i64 (findI l u)) ∧ w' = W := by
  obtain ⟨ad, cp, rfl⟩ := hl.form
  obtain ⟨N, hN⟩ : ∃ N, l.length = N := ⟨_, rfl⟩
  rw [hN] at hl hm ⊢
  have HL := Lib.hid hl
  have HN := Lib.hid hN
  clear hl hN
  go_enter Try.func17, Try.ntmps17
  go_wp2_with fail
  go_loopw [5] (fun i wr => ∃ (k : Nat), k ≤ N ∧ i = .int .i64 k ∧ Hid (∀ j q, j < k → l[j]? = some q → q.uid ≠ u) ∧ wr = W) (fun i _ => N - (intOf i).toNat)
  case atStart => exact ⟨0, Nat.zero_le _, rfl, fun j q h => by omega, rfl⟩
  case round =>
    obtain ⟨k, hk, rfl, HF, hwr⟩ := hrel
    rw [hwr]
    clear hwr wr
    by_cases hlt : k < N
    · have hq : (k : Int) < N := by omega
      have hq0 : (0 : Int) ≤ k := by omega
      obtain ⟨r, hr⟩ : ∃ r, l[k]? = some r := ⟨_, List.getElem?_eq_getElem (by have := HN.out; omega)⟩
      obtain ⟨b, off, rfl, hb, c0, c1⟩ := EntRow.at HL.out hr
      by_cases hu : r.uid = u
      · have g : ((r.uid : Int) == (u : Int)) = true := by rw [beq_iff_eq]; omega
        have HG := Lib.hid (findI_at hr hu HF.out)
        clear hr hu c1
        go_wp2_with fail
        go_ret
        exact ⟨by rw [HG.out]; rfl, rfl⟩
      · have g : ((r.uid : Int) == (u : Int)) = false := by rw [beq_eq_false_iff_ne]; omega
        have HS : Hid (∀ j q, j < k + 1 → l[j]? = some q → q.uid ≠ u) := by
          intro j q hj hq2
          by_cases e : j = k
          · subst e; rw [hr] at hq2; cases hq2; exact hu
          · exact HF.out j q (by omega) hq2
        clear hr hu c1
        go_wp2_with fail
        go_roundw
        case rel => exact ⟨k + 1, by omega, by go_num, HS.out, by first | rfl | trivial⟩
        case measure => simp [intOf]; omega
    · obtain rfl : k = N := by omega
      have hq : ¬ (k : Int) < k := by omega
      have HG : Hid (findI l u = -1) := findI_none fun e he => by
        obtain ⟨j, hj, hje⟩ := List.mem_iff_getElem.1 he
        exact HF.out j e (by have := HN.out; omega) (by rw [← hje]; exact List.getElem?_eq_getElem hj)
      go_wp2_with fail
      go_ret
      exact ⟨by rw [HG.out]; rfl, rfl⟩

instance (l : List EL) : Decidable (UpE l) := by unfold UpE; infer_instance
def upB (l : List EL) : Bool := decide (UpE l)
theorem upE_take_one {e : EL} (h : l[0]? = some e) : UpE (l.take 1) ↔ 0 < e.uid := by
  rw [take_at' (k := 0) h]; simp [UpE]
theorem upE_take_succ {k : Nat} {a b : EL} (ha : l[k]? = some a) (hb : l[k + 1]? = some b) (h : UpE (l.take (k + 1))) : UpE (l.take (k + 1 + 1)) ↔ a.uid < b.uid := by
  rw [take_at' hb]
  have e1 := take_at' ha
  constructor
  · intro h2
    refine (List.pairwise_append.1 h2.1).2.2 a ?_ b (by simp)
    rw [e1]; simp
  · intro hlt
    refine ⟨List.pairwise_append.2 ⟨h.1, by simp, fun x hx y hy => ?_⟩, fun x hx => ?_⟩
    · obtain rfl : y = b := by simpa using hy
      rw [e1] at hx h
      rcases List.mem_append.1 hx with hx | hx
      · exact Nat.lt_trans ((List.pairwise_append.1 h.1).2.2 x hx a (by simp)) hlt
      · obtain rfl : x = a := by simpa using hx
        exact hlt
    · rcases List.mem_append.1 hx with hx | hx
      · exact h.2 x hx
      · obtain rfl : x = b := by simpa using hx
        omega
theorem UpE.take (h : UpE l) (k : Nat) : UpE (l.take k) := ⟨List.Pairwise.sublist (List.take_sublist k l) h.1, fun e he => h.2 e (List.mem_of_mem_take he)⟩

set_option maxRecDepth 20000 in
set_option maxHeartbeats 1000000 in
theorem rRises11_c (hl : EntRow W v l) (hm : l.length ≤ 10000000) : Calls Try.prog 19 #[v] W fun e w' => e = .returned (.bool (upB l)) ∧ Below W.heap.size W w' := by
  obtain ⟨ad, cp, rfl⟩ := hl.form
  obtain ⟨N, hN⟩ : ∃ N, l.length = N := ⟨_, rfl⟩
  rw [hN] at hl hm ⊢
  have HL := Lib.hid hl
  have HN := Lib.hid hN
  clear hl hN
  by_cases h0 : N = 0
  · have hl0 : l = [] := List.length_eq_zero_iff.1 (by have := HN.out; omega)
    have HG : Hid (upB l = true) := by show _ = _; rw [hl0]; decide
    have q : decide ((0 : Int) < (N : Int)) = false := by simpa using (by omega : ¬ (0 : Int) < N)
    have q1 : ¬ (1 : Int) < (N : Int) := by omega
    have q2 : ¬ 0 < N := by omega
    clear hl0 h0
    go_enter Try.func19, Try.ntmps19
    go_wp2_with fail
    go_loopw [3] (fun i wr => i = .int .i64 1 ∧ wr = W) (fun i _ => 0)
    case atStart => exact ⟨rfl, rfl⟩
    case round =>
      obtain ⟨rfl, hwr⟩ := hrel
      rw [hwr]
      clear hwr wr
      go_wp2_with fail
      go_ret
      exact ⟨by rw [HG.out]; rfl, Below.refl _ _⟩
  · obtain ⟨r0, hr0⟩ : ∃ r, l[0]? = some r := ⟨_, List.getElem?_eq_getElem (by have := HN.out; omega)⟩
    obtain ⟨b, off, rfl, hb, c0, _⟩ := EntRow.at HL.out hr0
    rw [Nat.zero_mul, Nat.add_zero] at c0
    have q : decide ((0 : Int) < (N : Int)) = true := by simpa using (by omega : (0 : Int) < N)
    have q1 : (0 : Int) < (N : Int) := by omega
    have q2 : 0 < N := by omega
    have HT1 := Lib.hid (upE_take_one hr0)
    by_cases hz : r0.uid = 0
    · have e0 : ((r0.uid : Int) == 0) = true := by rw [beq_iff_eq]; omega
      have HG : Hid (upB l = false) := decide_eq_false fun h => by
        have := HT1.out.1 (h.take 1); omega
      clear hr0 hz h0
      go_enter Try.func19, Try.ntmps19
      go_wp2_with fail
      go_ret
      exact ⟨by rw [HG.out]; rfl, Below.refl _ _⟩
    · have e0 : ((r0.uid : Int) == 0) = false := by rw [beq_eq_false_iff_ne]; omega
      have H1 : Hid (UpE (l.take 1)) := HT1.out.2 (by omega)
      clear hr0 hz h0
      go_enter Try.func19, Try.ntmps19
      go_wp2_with fail
      clear c0 e0
      go_loopw [3] (fun i wr => ∃ (k : Nat), k + 1 ≤ N ∧ i = .int .i64 ((k + 1 : Nat) : Int) ∧ Hid (UpE (l.take (k + 1))) ∧ Hid (Below W.heap.size W wr)) (fun i _ => N - (intOf i).toNat)
      case atStart => exact ⟨0, by omega, rfl, H1.out, Below.refl _ _⟩
      case round =>
        obtain ⟨k, hk, rfl, HU, HB⟩ := hrel
        by_cases hlt : k + 1 < N
        · have hq : ((k + 1 : Nat) : Int) < N := by omega
          have hq0 : (0 : Int) ≤ ((k + 1 : Nat) : Int) := by omega
          have hq1 : (0 : Int) ≤ ((k + 1 : Nat) : Int) - 1 := by omega
          have hq2 : ((k + 1 : Nat) : Int) - 1 < N := by omega
          obtain ⟨a, ha⟩ : ∃ r, l[k]? = some r := ⟨_, List.getElem?_eq_getElem (by have := HN.out; omega)⟩
          obtain ⟨c, hc⟩ : ∃ r, l[k + 1]? = some r := ⟨_, List.getElem?_eq_getElem (by have := HN.out; omega)⟩
          obtain ⟨b1, o1, he1, _, d0, _⟩ := EntRow.at (RowK.below HL.out HB.out) ha
          obtain ⟨b2, o2, he2, _, d1, _⟩ := EntRow.at (RowK.below HL.out HB.out) hc
          cases he1
          cases he2
          obtain ⟨x, hx⟩ : ∃ x, a.uid = x := ⟨_, rfl⟩
          obtain ⟨y, hy⟩ : ∃ x, c.uid = x := ⟨_, rfl⟩
          have HS := Lib.hid (upE_take_succ ha hc HU.out)
          rw [hx] at d0
          rw [hy] at d1
          have kd : wr.cell? ⟨b, off + (k + 1 - 1) * 2, none⟩ = some (.int .u32 x) := d0
          obtain ⟨K, hK⟩ : ∃ K, k + 1 = K := ⟨_, rfl⟩
          have hS2 := HS.out
          rw [hx, hy, hK] at hS2
          rw [hK] at hq hq0 hq1 hq2 d1 kd ⊢
          have HS2 := Lib.hid hS2
          have hKN : K < N := by omega
          have HK := Lib.hid hK
          clear ha hc hx hy HS hS2 d0 hK hlt hk
          by_cases hle : y ≤ x
          · have g1 : (y : Int) ≤ x := by omega
            have HG : Hid (upB l = false) := decide_eq_false fun h => by
              have := HS2.out.1 (h.take _); omega
            clear hle
            go_wp2_with fail
            go_quiet (fail)
            go_wp2_with fail
            go_ret
            exact ⟨by rw [HG.out]; rfl, below_drewN HB.out _⟩
          · have g1 : ¬ (y : Int) ≤ x := by omega
            have HN2 : Hid (UpE (l.take (K + 1))) := HS2.out.2 (by omega)
            clear hle
            go_wp2_with fail
            go_quiet (fail)
            have HB2 := Lib.hid (below_drewN HB.out nq)
            obtain ⟨W4, hW4⟩ : ∃ W4, wr.drewN nq = W4 := ⟨_, rfl⟩
            rw [hW4] at HB2 ⊢
            clear hW4
            go_wp2_with fail
            go_roundw
            case rel => exact ⟨K, by omega, by go_num, HN2.out, HB2.out⟩
            case measure => simp [intOf]; omega
        · obtain ⟨K, hK⟩ : ∃ K, k + 1 = K := ⟨_, rfl⟩
          rw [hK] at hk hlt HU ⊢
          obtain rfl : K = N := by omega
          have hq : ¬ (K : Int) < K := by omega
          have HG : Hid (upB l = true) := by
            refine decide_eq_true ?_
            have h := HU.out
            rw [List.take_of_length_le (by rw [HN.out]; exact Nat.le_refl _)] at h
            exact h
          clear hK
          go_wp2_with fail
          go_ret
          exact ⟨by rw [HG.out]; rfl, HB.out⟩

set_option maxRecDepth 20000 in
set_option maxHeartbeats 1000000 in
theorem rSame11_c (ha : EntRow W va l) (hb : EntRow W vb l) (hm : l.length ≤ 10000000) :
    Calls Try.prog 14 #[va, vb] W fun e w' => e = .returned (.bool true) ∧ Below W.heap.size W w' := by
  obtain ⟨ad, cp, hva⟩ := ha.form
  obtain ⟨bd, cq, hvb⟩ := hb.form
  subst hva
  subst hvb
  obtain ⟨N, hN⟩ : ∃ N, l.length = N := ⟨_, rfl⟩
  rw [hN] at ha hb hm ⊢
  have HA := Lib.hid ha
  have HB := Lib.hid hb
  have HN := Lib.hid hN
  have q0 : ((N : Int) == N) = true := by rw [beq_iff_eq]
  clear ha hb hN
  go_enter Try.func14, Try.ntmps14
  go_wp2_with fail
  go_loopw [5] (fun i wr => ∃ (k : Nat), k ≤ N ∧ i = .int .i64 k ∧ Below W.heap.size W wr) (fun i _ => N - (intOf i).toNat)
  case atStart => exact ⟨0, Nat.zero_le _, rfl, Below.refl _ _⟩
  case round =>
    obtain ⟨k, hkN, rfl, hwr⟩ := hrel
    have HWR := Lib.hid hwr
    by_cases hlt : k < N
    · have hq : (k : Int) < N := by omega
      have hq0 : (0 : Int) ≤ k := by omega
      obtain ⟨r, hr⟩ : ∃ r, l[k]? = some r := ⟨_, List.getElem?_eq_getElem (by have := HN.out; omega)⟩
      obtain ⟨b, off, rfl, hbb, c0, c1⟩ := EntRow.at (RowK.below HA.out (hwr.mono (Nat.le_refl _))) hr
      obtain ⟨d, og, rfl, hdd, d0, d1⟩ := EntRow.at (RowK.below HB.out (hwr.mono (Nat.le_refl _))) hr
      obtain ⟨⟨u, f⟩, rfl⟩ : ∃ q : EL, q = r := ⟨_, rfl⟩
      dsimp only at c0 c1 d0 d1
      clear hr hwr
      go_wp2_with fail
      go_quiet (fail)
      go_wp2_with fail
      go_roundw
      case rel => exact ⟨k + 1, by omega, by go_num, by first | exact HWR.out | exact HWR.out.drew | exact below_drewN HWR.out _⟩
      case measure => simp [intOf]; omega
    · obtain rfl : k = N := by omega
      have hq : ¬ (k : Int) < k := by omega
      go_wp2_with fail
      go_ret
      exact ⟨rfl, HWR.out⟩

set_option maxRecDepth 20000 in
theorem lLast_c (hl : EntRow W v l) (hm : l.length ≤ 10000000) : Calls Try.prog 18 #[v] W fun e w' => e = .returned (.int .u32 (lastE l : Nat)) ∧ w' = W := by
  obtain ⟨ad, cp, rfl⟩ := hl.form
  obtain ⟨N, hN⟩ : ∃ N, l.length = N := ⟨_, rfl⟩
  rw [hN] at hl hm ⊢
  by_cases h0 : N = 0
  · have hl0 : l = [] := List.length_eq_zero_iff.1 (by omega)
    subst hl0
    have q : ((N : Int) == 0) = true := by rw [beq_iff_eq]; omega
    clear hN h0
    go_enter Try.func18, Try.ntmps18
    go_wp2_with fail
    go_ret
    exact ⟨rfl, rfl⟩
  · have q : ((N : Int) == 0) = false := by rw [beq_eq_false_iff_ne]; omega
    obtain ⟨M, rfl⟩ : ∃ M, N = M + 1 := ⟨N - 1, by omega⟩
    obtain ⟨r, hr⟩ : ∃ r, l[M]? = some r := ⟨_, List.getElem?_eq_getElem (by omega)⟩
    obtain ⟨b, off, rfl, hb, c0, c1⟩ := EntRow.at hl hr
    have hh : lastE l = r.uid := by
      unfold lastE
      rw [List.getLast?_eq_getElem?, hN, Nat.add_sub_cancel, hr]
    have HH := Lib.hid hh
    have q1 : (0 : Int) ≤ M := by omega
    have q2 : (M : Int) < (M : Int) + 1 := by omega
    clear hr hl hN hh c1 h0
    go_enter Try.func18, Try.ntmps18
    go_wp2_with fail
    go_ret
    exact ⟨by rw [HH.out]; rfl, rfl⟩
end Go.Proofs.Ytebkpejiloabnaa

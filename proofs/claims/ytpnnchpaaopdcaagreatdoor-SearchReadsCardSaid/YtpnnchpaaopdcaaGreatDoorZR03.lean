/-
  The document's Number and end: contracts.
-/
import Derived.Test.YtpnnchpaaopdcaaGreatDoorZR02
set_option linter.unusedVariables false
set_option linter.unusedSimpArgs false
namespace Go.Proofs.YtpnnchpaaopdcaaGreatDoor
open Go Go.RowKit
def NumIs (l : List UInt8) (most : Nat) (e : Ending) : Prop := (∃ v : Nat, numR l most = some v ∧ v ≤ most ∧ e = .returned (.tuple #[.int .u64 v, .bool true])) ∨ (numR l most = none ∧ ∃ v : Nat, v ≤ 9999999999 ∧ e = .returned (.tuple #[.int .u64 v, .bool false]))
theorem head_eq {s : ByteArray} (h : 0 < s.size) : s.data.toList.head? = some s[0] := by
  rw [List.head?_eq_getElem?]
  show s.data.toList[0]? = some (s.data[0]'h)
  rw [Array.getElem?_toList]; exact Array.getElem?_eq_getElem h
theorem drop_eq {s : ByteArray} {k : Nat} (h : k < s.size) : s.data.toList.drop k = s[k] :: s.data.toList.drop (k + 1) := by
  rw [List.drop_eq_getElem_cons (by rw [ba_len]; exact h)]; rfl
theorem numV_cons (a : Nat) (c : UInt8) (r : List UInt8) : numV a (c :: r) = if dig c then numV (10 * a + (c.toNat - 48)) r else none := rfl
set_option maxRecDepth 100000 in
set_option maxHeartbeats 1000000 in
theorem rnumber_c (s : ByteArray) (hs : s.size ≤ 100000) (most : Nat) (hm : most ≤ 4294967295) (w : World) : Calls Tryz.prog 185 #[.string s, .int .u64 most] w fun e w' => NumIs s.data.toList most e ∧ w = w' := by
  have HL := Lib.hid (ba_len s)
  by_cases h0 : s.size < 1
  · have q0 : (s.size : Int) < 1 := by omega
    go_enter Tryz.func185, Tryz.ntmps185
    go_wp2_with fail
    go_ret2
    exact ⟨.inr ⟨by unfold numR; rw [if_pos (.inl (by rw [HL.out]; exact h0))], 0, by omega, rfl⟩, rfl⟩
  have q0 : ¬ (s.size : Int) < 1 := by omega
  have d0 : decide ((s.size : Int) < 1) = false := by simpa using q0
  by_cases h10 : 10 < s.size
  · have q1 : (10 : Int) < s.size := by omega
    go_enter Tryz.func185, Tryz.ntmps185
    go_wp2_with fail
    go_ret2
    exact ⟨.inr ⟨by unfold numR; rw [if_pos (.inr (.inl (by rw [HL.out]; exact h10)))], 0, by omega, rfl⟩, rfl⟩
  have q1 : ¬ (10 : Int) < s.size := by omega
  have hsz : 0 < s.size := by omega
  have hq1 : (0 : Int) < s.size := by omega
  have hc1 : s[0].toNat < 256 := s[0].toNat_lt
  have HH := Lib.hid (head_eq hsz)
  by_cases hz : 1 < s.size ∧ s[0].toNat = 48
  · have q2 : (1 : Int) < s.size := by omega
    have e48 : ((s[0].toNat : Int) == 48) = true := by simpa using (by omega : (s[0].toNat : Int) = 48)
    have HZ := Lib.hid hz
    clear hz
    go_enter Tryz.func185, Tryz.ntmps185
    go_wp2_with fail
    go_ret2
    exact ⟨.inr ⟨by unfold numR; rw [if_pos (.inr (.inr ⟨by rw [HL.out]; exact HZ.out.1, by rw [HH.out, UInt8.toNat_inj.1 (show s[0].toNat = (48 : UInt8).toNat from HZ.out.2)]⟩))], 0, by omega, rfl⟩, rfl⟩
  have hR : numR s.data.toList most = match numV 0 s.data.toList with | some n => if n ≤ most then some n else none | none => none := by
    unfold numR
    rw [if_neg]; rfl
    rw [HL.out, HH.out]
    rintro (h | h | ⟨h, h'⟩)
    · exact h0 h
    · exact h10 h
    · exact hz ⟨h, by rw [Option.some.inj h']; rfl⟩
  have HR := Lib.hid hR
  have HS := Lib.hid h10
  have hg : decide ((1 : Int) < s.size) = false ∨ (decide ((1 : Int) < s.size) = true ∧ ((s[0].toNat : Int) == 48) = false) := by
    by_cases h1 : 1 < s.size
    · refine .inr ⟨decide_eq_true (by omega), ?_⟩
      simpa using fun h : (s[0].toNat : Int) = 48 => hz ⟨h1, by omega⟩
    · exact .inl (decide_eq_false (by omega))
  clear hz hR h10
  rcases hg with hg | ⟨hg, hg2⟩
  all_goals
    go_enter Tryz.func185, Tryz.ntmps185
    go_wp2_with fail
    go_loop [6, 7] (fun n i => ∃ (k a : Nat), k ≤ s.size ∧ i = .int .i64 k ∧ n = .int .u64 a ∧ a < 10 ^ k ∧ Hid (numV 0 s.data.toList = numV a (s.data.toList.drop k))) (fun _ i => s.size - (intOf i).toNat)
    case atStart => exact ⟨0, 0, by omega, rfl, rfl, by simp, rfl⟩
    case round =>
      obtain ⟨k, a, hk, rfl, rfl, ha, HV⟩ := hrel
      clear hg
      by_cases hlt : k < s.size
      · have hq1 : ((k : Int)) < s.size := by omega
        have hc1 : (s[k].toNat) < 256 := s[k].toNat_lt
        have hv := HV.out
        rw [drop_eq hlt] at hv
        rw [numV_cons] at hv
        have ha2 : a < 10 ^ 9 := Nat.lt_of_lt_of_le ha (Nat.pow_le_pow_right (by omega) (by have := HS.out; omega))
        have HA := Lib.hid ha
        clear ha
        by_cases h48 : 48 ≤ s[k].toNat
        · have u1 : ¬ (s[k].toNat : Int) < 48 := by omega
          by_cases h57 : s[k].toNat ≤ 57
          · have u2 : ¬ (57 : Int) < (s[k].toNat : Int) := by omega
            rw [if_pos (show dig s[k] from ⟨h48, h57⟩)] at hv
            have HV2 := Lib.hid hv
            clear hv
            go_wp2_with fail
            go_round
            case rel => 
              refine ⟨k + 1, 10 * a + (s[k].toNat - 48), by omega, by go_num, ?_, ?_, HV2.out⟩
              · go_num
              · have := HA.out; rw [Nat.pow_succ]; omega
            case measure => simp [intOf]; omega
          · have u2 : (57 : Int) < (s[k].toNat : Int) := by omega
            rw [if_neg (show ¬ dig s[k] from fun h => h57 h.2)] at hv
            have HV2 := Lib.hid hv
            clear hv
            go_wp2_with fail
            go_ret2
            exact ⟨.inr ⟨by rw [HR.out, HV2.out], 0, by omega, rfl⟩, rfl⟩
        · have u1 : (s[k].toNat : Int) < 48 := by omega
          rw [if_neg (show ¬ dig s[k] from fun h => h48 h.1)] at hv
          have HV2 := Lib.hid hv
          clear hv
          go_wp2_with fail
          go_ret2
          exact ⟨.inr ⟨by rw [HR.out, HV2.out], 0, by omega, rfl⟩, rfl⟩
      · obtain rfl : k = s.size := by omega
        have hv := HV.out
        rw [List.drop_of_length_le (by rw [ba_len]; exact Nat.le_refl _)] at hv
        have ha2 : a < 10 ^ 10 := Nat.lt_of_lt_of_le ha (Nat.pow_le_pow_right (by omega) (by have := HS.out; omega))
        have HV2 := Lib.hid hv
        clear hv HV ha
        by_cases hle : a ≤ most
        · have u3 : (a : Int) ≤ most := by omega
          go_wp2_with fail
          go_ret2
          exact ⟨.inl ⟨a, by rw [HR.out, HV2.out]; exact if_pos hle, hle, rfl⟩, rfl⟩
        · have u3 : ¬ (a : Int) ≤ most := by omega
          go_wp2_with fail
          go_ret2
          exact ⟨.inr ⟨by rw [HR.out, HV2.out]; exact if_neg hle, a, by omega, rfl⟩, rfl⟩
set_option maxRecDepth 100000 in
set_option maxHeartbeats 1000000 in
theorem rend_c (s : ByteArray) (hs : s.size ≤ 100000) (w : World) : Calls Tryz.prog 144 #[.string s] w fun e w' => EndIs s.data.toList e ∧ w = w' := by
  by_cases h1 : s.data.toList = [42]
  · obtain rfl := ba_star h1
    go_enter Tryz.func144, Tryz.ntmps144
    go_wp2_with fail
    go_ret2
    exact ⟨.inl ⟨0, rfl, by omega, rfl⟩, rfl⟩
  have n1 : (s.toList == [42]) = false := by
    rw [ByteArray.toList_eq]; simpa using h1
  have HP := Lib.hid (rnumber_c s hs 4294967295 (by omega) w)
  have HB : Hid (endB s.data.toList = match numR s.data.toList 4294967295 with | some n => if 0 < n then some n else none | none => none) := by
    rw [← endR_endB]; unfold endR; rw [if_neg h1]; rfl
  clear h1
  go_enter Tryz.func144, Tryz.ntmps144
  go_wp2_with fail
  refine HP.out.mono ?_
  rintro e w' ⟨h | h, rfl⟩
  · obtain ⟨v, hv, hle, rfl⟩ := h
    have HV := Lib.hid hv
    have hmod : ((v : Int) % 4294967296) = v := by omega
    clear hv
    by_cases h0 : 0 < v
    · have q0 : (0 : Int) < v := by omega
      go_wp2_with fail
      go_ret2
      refine ⟨.inl ⟨v, by rw [HB.out, HV.out]; exact if_pos h0, hle, ?_⟩, rfl⟩
      simp [hmod]
    · obtain rfl : v = 0 := by omega
      go_wp2_with fail
      go_ret2
      exact ⟨.inr ⟨by rw [HB.out, HV.out]; rfl, 0, by omega, rfl⟩, rfl⟩
  · obtain ⟨hn, v, hle, rfl⟩ := h
    have HV := Lib.hid hn
    clear hn
    go_wp2_with fail
    go_ret2
    refine ⟨.inr ⟨by rw [HB.out, HV.out], v % 4294967296, by omega, ?_⟩, rfl⟩
    simp
end Go.Proofs.YtpnnchpaaopdcaaGreatDoor

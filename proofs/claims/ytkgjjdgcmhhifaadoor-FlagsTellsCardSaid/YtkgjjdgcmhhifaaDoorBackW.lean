/-
  The law FlagsBack, walked; what the chapter's examples say.
-/
import Derived.Test.YtkgjjdgcmhhifaaDoorParse
import Derived.Test.YtkgjjdgcmhhifaaDoorString
set_option linter.unusedVariables false
set_option linter.unusedSimpArgs false
namespace Go.Proofs.YtkgjjdgcmhhifaaDoor
open Go Go.RowKit

theorem has_i (n1 n2 : Int) (x y : Nat) (h1 : n1 = x) (h2 : n2 = y) (hx : x < 256) (hy : y < 256) (r : Bool) (hr : sHas x y = r) (w : World) :
    Calls Tryd.prog 14 #[.int .u8 n1, .int .u8 n2] w fun e w' => e = .returned (.bool r) ∧ w = w' := by
  subst h1; subst h2; subst hr; exact has_c x y hx hy w
theorem change_i (n1 how n2 m : Int) (x y : Nat) (h1 : n1 = x) (h2 : n2 = y) (hx : x < 256) (hy : y < 256) (hm : ((sChange x how y : Nat) : Int) = m) (w : World) :
    Calls Tryd.prog 15 #[.int .u8 n1, .int .i64 how, .int .u8 n2] w fun e w' => e = .returned (.int .u8 m) ∧ w = w' := by
  subst h1; subst h2; subst hm; exact change_c x how y hx hy w
theorem string_i (n : Int) (a : Nat) (h : n = a) (ha : a < 256) (w : World) (hN : Names w) (l : List UInt8) (hl : textOf a = l) :
    Calls Tryd.prog 12 #[.int .u8 n] w fun e w' => e = .returned (.string ⟨l.toArray⟩) ∧ Below w.heap.size w w' := by
  subst h; subst hl; exact string_c a ha w hN
theorem parse_i (A : ByteArray) (l : List UInt8) (hA : A = ⟨l.toArray⟩) (hl : l.length ≤ 1000) (w : World) (hN : Names w) (n e : Int) (hn : ((pV (parseOf l) : Nat) : Int) = n) (he : pE (parseOf l) = e) :
    Calls Tryd.prog 18 #[.string A] w fun x w' => x = .returned (.tuple #[.int .u8 n, .int .i64 e]) ∧ Below w.heap.size w w' := by
  subst hA; subst hn; subst he
  have := parse_c ⟨l.toArray⟩ (by show l.toArray.size ≤ _; simp; omega) w hN
  simpa using this

set_option maxRecDepth 100000 in
set_option maxHeartbeats 1000000 in
theorem awake1_c (w : World) (hN : Names w) : Calls Tryd.prog 17 #[] w fun e w' => e = .returned (.bool true) ∧ Below w.heap.size w w' := by
  have HN := Lib.hid hN
  clear hN
  go_enter Tryd.func17, Tryd.ntmps17
  go_wp2_with fail
  refine (parse_i _ [40, 92, 115, 101, 101, 110, 41] rfl (by decide) _ HN.out 8 0 (by decide +kernel) (by decide +kernel)).mono ?_
  rintro e w2 ⟨rfl, hb2⟩
  have HB2 := Lib.hid hb2
  have HN2 := Lib.hid (HN.out.later (hb2.mono HN.out.lt))
  clear hb2
  go_wp2_with fail
  refine (parse_i _ [40, 32, 92, 83, 101, 101, 110, 41] rfl (by decide) _ HN2.out 0 2 (by decide +kernel) (by decide +kernel)).mono ?_
  rintro e w3 ⟨rfl, hb3⟩
  have HB3 := Lib.hid (HB2.out.trans (hb3.mono HB2.out.size))
  have HN3 := Lib.hid (HN2.out.later (hb3.mono HN2.out.lt))
  clear hb3
  go_wp2_with fail
  refine (string_i 12 12 rfl (by decide) _ HN3.out [40, 92, 68, 101, 108, 101, 116, 101, 100, 32, 92, 83, 101, 101, 110, 41] (by decide +kernel)).mono ?_
  rintro e w4 ⟨rfl, hb4⟩
  have HB4 := Lib.hid (HB3.out.trans (hb4.mono HB3.out.size))
  clear hb4
  go_wp2_with fail
  go_ret
  exact ⟨rfl, HB4.out⟩

theorem back_facts : ∀ a < 32, ∀ b < 32, sHas (sChange a 1 b) a = true ∧ sHas (sChange a 1 b) b = true ∧ sChange (sChange a 1 b) 2 b = sChange a 2 b ∧ (b = 0 ∨ sHas (sChange a 2 b) b = false) ∧ sChange a 0 b = b := by
  decide +kernel
theorem textOf_len (s : Nat) : (textOf s).length ≤ 1000 := by
  have h1 := joined_le (seqOf s 5)
  have h3 := seqOf_len s 5
  unfold textOf; simp; omega

set_option maxRecDepth 100000 in
set_option maxHeartbeats 4000000 in
theorem back_c (s o : Nat) (hs : s < 256) (ho : o < 256) (w : World) (hN : Names w) : Calls Tryd.prog 5 #[.int .u8 s, .int .u8 o] w fun e w' => e = .returned (.bool true) ∧ Below w.heap.size w w' := by
  obtain ⟨a, ha⟩ : ∃ a, a = s % 32 := ⟨_, rfl⟩
  obtain ⟨b, hb⟩ : ∃ b, b = o % 32 := ⟨_, rfl⟩
  have ha2 : a < 32 := by omega
  have hb2 : b < 32 := by omega
  obtain ⟨f1, f2, f3, f4, f5⟩ := back_facts a ha2 b hb2
  have HA := Lib.hid (show (s : Int) % 32 = a by omega)
  have HB := Lib.hid (show (o : Int) % 32 = b by omega)
  have HN := Lib.hid hN
  have F1 := Lib.hid f1
  have F2 := Lib.hid f2
  have F3 := Lib.hid f3
  have F4 := Lib.hid f4
  have F5 := Lib.hid f5
  clear ha hb hN f1 f2 f3 f4 f5
  have hl1 : sChange a 1 b < 32 := sChange_lt _ _ _
  have hl2 : sChange a 2 b < 32 := sChange_lt _ _ _
  have A256 : a < 256 := by omega
  have B256 : b < 256 := by omega
  have M256 : sChange a 1 b < 256 := by omega
  have L256 : sChange a 2 b < 256 := by omega
  go_enter Tryd.func5, Tryd.ntmps5
  go_wp2_with fail
  refine (string_i _ a HA.out A256 _ HN.out _ rfl).mono ?_
  rintro e w2 ⟨rfl, hq2⟩
  have HB2 := Lib.hid hq2
  have HN2 := Lib.hid (HN.out.later (hq2.mono HN.out.lt))
  clear hq2
  have hv : ((pV (parseOf (textOf a)) : Nat) : Int) = (s : Int) % 32 := by rw [parse_text a ha2, HA.out]; rfl
  have hev : pE (parseOf (textOf a)) = 0 := by rw [parse_text a ha2]; rfl
  have HV := Lib.hid hv
  have HEV := Lib.hid hev
  clear hv hev
  go_wp2_with fail
  refine (parse_i _ (textOf a) rfl (textOf_len a) _ HN2.out _ _ HV.out HEV.out).mono ?_
  rintro e w3 ⟨rfl, hq3⟩
  have HB3 := Lib.hid (HB2.out.trans (hq3.mono HB2.out.size))
  have HN3 := Lib.hid (HN2.out.later (hq3.mono HN2.out.lt))
  clear hq3
  go_wp2_with fail
  refine (change_i _ 1 _ _ a b HA.out HB.out A256 B256 rfl _).mono ?_
  rintro e w' ⟨rfl, rfl⟩
  go_wp2_with fail
  refine (change_i _ 2 _ _ (sChange a 1 b) b rfl HB.out M256 B256 (by rw [F3.out]) _).mono ?_
  rintro e w' ⟨rfl, rfl⟩
  go_wp2_with fail
  refine (has_i _ _ (sChange a 1 b) a rfl HA.out M256 A256 true F1.out _).mono ?_
  rintro e w' ⟨rfl, rfl⟩
  go_wp2_with fail
  refine (has_i _ _ (sChange a 1 b) b rfl HB.out M256 B256 true F2.out _).mono ?_
  rintro e w' ⟨rfl, rfl⟩
  go_wp2_with fail
  refine (change_i _ 2 _ _ a b HA.out HB.out A256 B256 rfl _).mono ?_
  rintro e w' ⟨rfl, rfl⟩
  by_cases hbz : b = 0
  · have ez : ((o : Int) % 32 == 0) = true := by rw [HB.out, hbz]; rfl
    have HZ := Lib.hid hbz
    clear hbz
    go_wp2_with fail
    refine (change_i _ 0 _ _ a b HA.out HB.out A256 B256 (show _ = (o : Int) % 32 by rw [F5.out, HB.out]) _).mono ?_
    rintro e w' ⟨rfl, rfl⟩
    go_wp2_with fail
    refine (awake1_c _ HN3.out).mono ?_
    rintro e w4 ⟨rfl, hq4⟩
    have HB4 := Lib.hid (HB3.out.trans (hq4.mono HB3.out.size))
    clear hq4
    go_wp2_with fail
    go_ret
    exact ⟨rfl, HB4.out⟩
  · have ez : ((o : Int) % 32 == 0) = false := by rw [HB.out, beq_eq_false_iff_ne]; omega
    have HF := Lib.hid (F4.out.resolve_left hbz)
    clear hbz
    go_wp2_with fail
    refine (has_i _ _ (sChange a 2 b) b rfl HB.out L256 B256 false HF.out _).mono ?_
    rintro e w' ⟨rfl, rfl⟩
    go_wp2_with fail
    refine (change_i _ 0 _ _ a b HA.out HB.out A256 B256 (show _ = (o : Int) % 32 by rw [F5.out, HB.out]) _).mono ?_
    rintro e w' ⟨rfl, rfl⟩
    go_wp2_with fail
    refine (awake1_c _ HN3.out).mono ?_
    rintro e w4 ⟨rfl, hq4⟩
    have HB4 := Lib.hid (HB3.out.trans (hq4.mono HB3.out.size))
    clear hq4
    go_wp2_with fail
    go_ret
    exact ⟨rfl, HB4.out⟩
end Go.Proofs.YtkgjjdgcmhhifaaDoor

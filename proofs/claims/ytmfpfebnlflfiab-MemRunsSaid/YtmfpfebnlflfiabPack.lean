/-
  Tagged places: the program's and the document's: contracts. The chapter's examples. The law MemPacks: its walk.
-/
import Derived.Test.YtmfpfebnlflfiabMem3
import Derived.Laws.Bits64b
set_option linter.unusedVariables false
set_option linter.unusedSimpArgs false
namespace Go.Proofs.Ytmfpfebnlflfiab
open Go Go.RowKit

/-- A tagged place. -/
def pk (i : Int) (g : Nat) : Nat := g * 4294967296 + (i + 1).toNat
theorem pk_place {i : Int} {g : Nat} (h1 : -1 ≤ i) (h2 : i ≤ 2147483646) : ((pk i g : Nat) : Int) % 4294967296 - 1 = i := by unfold pk; omega
theorem pk_tag {i : Int} {g : Nat} (h1 : -1 ≤ i) (h2 : i ≤ 2147483646) : ((pk i g : Nat) : Int) / 4294967296 = g := by unfold pk; omega
theorem pk_lt {i : Int} {g : Nat} (h2 : i ≤ 2147483646) (hg : g < 4294967296) : pk i g < 18446744073709551616 := by unfold pk; omega
theorem pk_int {i : Int} {g : Nat} (h1 : -1 ≤ i) : ((g : Int) * 4294967296 + (i + 1)) = (pk i g : Nat) := by unfold pk; omega
theorem or_pack {i : Int} {g : Nat} (h1 : -1 ≤ i) (h2 : i ≤ 2147483646) (hg : g < 4294967296) : bits .or .u64 ((g : Int) * 4294967296) (i + 1) = (pk i g : Nat) := by
  obtain ⟨p, hp⟩ : ∃ p : Nat, i + 1 = p := ⟨(i + 1).toNat, by omega⟩
  have e1 : (g : Int) * 4294967296 = ((g * 4294967296 : Nat) : Int) := by omega
  rw [hp, e1, bits_or_u64_nat _ _ (by omega) (by omega)]
  have h := Nat.two_pow_add_eq_or_of_lt (i := 32) (b := p) (by omega) g
  have e2 : (2 : Nat) ^ 32 * g = g * 4294967296 := by omega
  rw [e2] at h
  rw [← h]
  unfold pk
  omega

theorem ret_u64 {a b : Int} (h : a = b) : Ending.returned (.int .u64 a) = .returned (.int .u64 b) := by rw [h]

set_option maxHeartbeats 1000000 in
theorem pack_yes (i : Int) (g : Nat) (h1 : -1 ≤ i) (h2 : i ≤ 2147483646) (hg : g < 4294967296) (w : World) :
    Calls Try.prog 21 #[.int .i64 i, .int .u32 g] w fun e w' => e = .returned (.int .u64 (pk i g : Nat)) ∧ w = w' := by
  have H := Lib.hid (or_pack h1 h2 hg)
  go_enter Try.func21, Try.ntmps21
  go_wp2_with fail
  go_ret
  exact ⟨ret_u64 H.out, rfl⟩

set_option maxHeartbeats 1000000 in
theorem pack_no (i : Int) (g : Nat) (h : i < -1 ∨ 2147483646 < i) (w : World) :
    Calls Try.prog 21 #[.int .i64 i, .int .u32 g] w fun e w' => e = .returned (.int .u64 0) ∧ w = w' := by
  rcases h with h | h
  · go_enter Try.func21, Try.ntmps21
    go_wp2_with fail
    go_ret
    exact ⟨rfl, rfl⟩
  · have h0 : ¬ i < -1 := by omega
    go_enter Try.func21, Try.ntmps21
    go_wp2_with fail
    go_ret
    exact ⟨rfl, rfl⟩

set_option maxHeartbeats 1000000 in
theorem rPack_yes (i : Int) (g : Nat) (h1 : -1 ≤ i) (h2 : i ≤ 2147483646) (hg : g < 4294967296) (w : World) :
    Calls Try.prog 22 #[.int .i64 i, .int .u32 g] w fun e w' => e = .returned (.int .u64 (pk i g : Nat)) ∧ w = w' := by
  have H := Lib.hid (pk_int (g := g) h1)
  go_enter Try.func22, Try.ntmps22
  go_wp2_with fail
  go_ret
  exact ⟨ret_u64 H.out, rfl⟩

set_option maxHeartbeats 1000000 in
theorem rPack_no (i : Int) (g : Nat) (h : i < -1 ∨ 2147483646 < i) (w : World) :
    Calls Try.prog 22 #[.int .i64 i, .int .u32 g] w fun e w' => e = .returned (.int .u64 0) ∧ w = w' := by
  rcases h with h | h
  · go_enter Try.func22, Try.ntmps22
    go_wp2_with fail
    go_ret
    exact ⟨rfl, rfl⟩
  · have h0 : ¬ i < -1 := by omega
    go_enter Try.func22, Try.ntmps22
    go_wp2_with fail
    go_ret
    exact ⟨rfl, rfl⟩

set_option maxHeartbeats 1000000 in
theorem place_c (v : Nat) (hv : v < 18446744073709551616) (w : World) :
    Calls Try.prog 23 #[.int .u64 v] w fun e w' => e = .returned (.int .i64 ((v : Int) % 4294967296 - 1)) ∧ w = w' := by
  go_enter Try.func23, Try.ntmps23
  go_wp2_with fail
  go_ret
  exact ⟨rfl, rfl⟩

set_option maxHeartbeats 1000000 in
theorem tag_c (v : Nat) (hv : v < 18446744073709551616) (w : World) :
    Calls Try.prog 24 #[.int .u64 v] w fun e w' => e = .returned (.int .u32 ((v : Int) / 4294967296)) ∧ w = w' := by
  go_enter Try.func24, Try.ntmps24
  go_wp2_with fail
  go_ret
  exact ⟨rfl, rfl⟩

set_option maxHeartbeats 1000000 in
theorem awake3_c (w : World) : Calls Try.prog 10 #[] w fun e w' => e = .returned (.bool true) ∧ Below w.heap.size w w' := by
  obtain ⟨D, hD⟩ : ∃ D, w.heap.size = D := ⟨_, rfl⟩
  have C0 := Lib.hid (mNew_yes 1 (by omega) (by omega) w)
  rw [hD] at C0 ⊢
  have HD := Lib.hid hD
  clear hD
  go_enter Try.func10, Try.ntmps10
  go_wp2_with fail
  refine C0.out.mono ?_
  rintro e w1 ⟨rfl, hb, hm⟩
  have C1 := Lib.hid (mStore_yes D 1 0 _ _ 0 5 (by omega) (by omega) (by omega) w1 hm)
  have HB1 := Lib.hid hb
  have HS : Hid (D ≤ w1.heap.size) := by have := hb.size; rw [HD.out] at this; exact this
  clear hb hm
  unfold pm at *
  go_wp2_with fail
  refine C1.out.mono ?_
  rintro e w2 ⟨⟨u, rfl⟩, ho, hm⟩
  have C2 := Lib.hid (mCas_yes D 1 1 _ _ 0 5 7 (by omega) (by omega) (by omega) w2 hm rfl)
  have HB2 : Hid (Below D w w2) := HB1.out.trans (ho.below (Nat.le_refl _) HS.out)
  have HS2 : Hid (D ≤ w2.heap.size) := Nat.le_trans HS.out ho.size
  clear ho hm
  unfold pm at *
  go_wp2_with fail
  refine C2.out.mono ?_
  rintro e w3 ⟨rfl, ho, hm⟩
  have C3 := Lib.hid (mTime_c D 1 2 _ _ w3 hm)
  have C4 := Lib.hid (mLoad_yes D 1 2 _ _ 0 (by omega) (by omega) (by omega) w3 hm)
  have HB3 : Hid (Below D w w3) := HB2.out.trans (ho.below (Nat.le_refl _) HS2.out)
  have HS3 : Hid (D ≤ w3.heap.size) := Nat.le_trans HS2.out ho.size
  rw [upd_same] at C4
  clear ho hm
  unfold pm at *
  go_wp2_with fail
  refine C3.out.mono ?_
  rintro e w4 ⟨rfl, rfl⟩
  go_wp2_with fail
  refine C4.out.mono ?_
  rintro e w4 ⟨rfl, ho, hm⟩
  have HB4 : Hid (Below D w w4) := HB3.out.trans (ho.below (Nat.le_refl _) HS3.out)
  have C5 := Lib.hid (pack_yes (-1) 0 (by omega) (by omega) (by omega) w4)
  rw [show pk (-1) 0 = 0 from rfl] at C5
  clear ho hm
  go_wp2_with fail
  refine C5.out.mono ?_
  rintro e w5 ⟨rfl, rfl⟩
  go_wp2_with fail
  refine (place_c 0 (by omega) _).mono ?_
  rintro e w5 ⟨rfl, rfl⟩
  go_wp2_with fail
  go_ret
  exact ⟨rfl, HB4.out⟩

set_option maxHeartbeats 2000000 in
theorem mempacks_yes (i : Int) (g v : Nat) (h1 : -1 ≤ i) (h2 : i ≤ 2147483646) (hg : g < 4294967296) (hv : v < 18446744073709551616) (w : World) :
    Calls Try.prog 4 #[.int .i64 i, .int .u32 g, .int .u64 v] w fun e w' => e = .returned (.bool true) ∧ Below w.heap.size w w' := by
  have C1 := Lib.hid (pack_yes i g h1 h2 hg)
  have C2 := Lib.hid (rPack_yes i g h1 h2 hg)
  have hp := pk_lt (g := g) h2 hg
  have E1 := Lib.hid (pk_place (g := g) h1 h2)
  have E2 := Lib.hid (pk_tag (g := g) h1 h2)
  obtain ⟨p, hpe⟩ : ∃ p, pk i g = p := ⟨_, rfl⟩
  rw [hpe] at C1 C2 hp E1 E2
  clear hpe
  have C3 := Lib.hid (place_c p hp)
  have C4 := Lib.hid (tag_c p hp)
  rw [E1.out] at C3
  rw [E2.out] at C4
  clear E1 E2
  go_enter Try.func4, Try.ntmps4
  go_wp2_with fail
  refine (C1.out _).mono ?_
  rintro e w' ⟨rfl, rfl⟩
  go_wp2_with fail
  refine (C2.out _).mono ?_
  rintro e w' ⟨rfl, rfl⟩
  go_wp2_with fail
  refine (place_c v hv _).mono ?_
  rintro e w' ⟨rfl, rfl⟩
  go_wp2_with fail
  refine (tag_c v hv _).mono ?_
  rintro e w' ⟨rfl, rfl⟩
  go_wp2_with fail
  refine (C3.out _).mono ?_
  rintro e w' ⟨rfl, rfl⟩
  go_wp2_with fail
  refine (C4.out _).mono ?_
  rintro e w' ⟨rfl, rfl⟩
  go_wp2_with fail
  refine (awake3_c _).mono ?_
  rintro e w' ⟨rfl, hb⟩
  go_wp2_with fail
  go_ret
  exact ⟨rfl, hb⟩

set_option maxHeartbeats 2000000 in
theorem mempacks_no (i : Int) (g v : Nat) (h : i < -1 ∨ 2147483646 < i) (hv : v < 18446744073709551616) (w : World) :
    Calls Try.prog 4 #[.int .i64 i, .int .u32 g, .int .u64 v] w fun e w' => e = .returned (.bool true) ∧ Below w.heap.size w w' := by
  have C1 := Lib.hid (pack_no i g h)
  have C2 := Lib.hid (rPack_no i g h)
  rcases h with h | h
  · have h' : ¬ -1 ≤ i := by omega
    go_enter Try.func4, Try.ntmps4
    go_wp2_with fail
    refine (C1.out _).mono ?_
    rintro e w' ⟨rfl, rfl⟩
    go_wp2_with fail
    refine (C2.out _).mono ?_
    rintro e w' ⟨rfl, rfl⟩
    go_wp2_with fail
    refine (place_c v hv _).mono ?_
    rintro e w' ⟨rfl, rfl⟩
    go_wp2_with fail
    refine (tag_c v hv _).mono ?_
    rintro e w' ⟨rfl, rfl⟩
    go_wp2_with fail
    refine (awake3_c _).mono ?_
    rintro e w' ⟨rfl, hb⟩
    go_wp2_with fail
    go_ret
    exact ⟨rfl, hb⟩
  · have h1 : -1 ≤ i := by omega
    have h' : ¬ i ≤ 2147483646 := by omega
    go_enter Try.func4, Try.ntmps4
    go_wp2_with fail
    refine (C1.out _).mono ?_
    rintro e w' ⟨rfl, rfl⟩
    go_wp2_with fail
    refine (C2.out _).mono ?_
    rintro e w' ⟨rfl, rfl⟩
    go_wp2_with fail
    refine (place_c v hv _).mono ?_
    rintro e w' ⟨rfl, rfl⟩
    go_wp2_with fail
    refine (tag_c v hv _).mono ?_
    rintro e w' ⟨rfl, rfl⟩
    go_wp2_with fail
    refine (awake3_c _).mono ?_
    rintro e w' ⟨rfl, hb⟩
    go_wp2_with fail
    go_ret
    exact ⟨rfl, hb⟩
end Go.Proofs.Ytmfpfebnlflfiab

/-
  An end of a range: the program's parseEnd, the document's Number and end: contracts.
-/
import Derived.Test.YtpnnchpaaopdcaaGreatDoorZB01
import Derived.Lib.SmallJoins
import Derived.Lib.ParseIntBCases
import Derived.LoopTactic
import Derived.MapKept
set_option linter.unusedVariables false
set_option linter.unusedSimpArgs false
namespace Go.Proofs.YtpnnchpaaopdcaaGreatDoor
open Go Go.RowKit
def Errs (w : World) : Prop := (∃ t p, w.cell? ⟨8, 0, none⟩ = some (.iface t p)) ∧ (∃ t p, w.cell? ⟨9, 0, none⟩ = some (.iface t p))
theorem pu_c (s : ByteArray) (hs : s.size ≤ 1100000) (w : World) (hE : Errs w) : Calls Tryz.prog 182 #[.string s, .int .i64 10, .int .i64 32] w fun e w' =>
    ((∃ u : Nat, Lib.parseUintB 32 s.data.toList = .ok u ∧ u ≤ 4294967295 ∧ e = .returned (.tuple #[.int .u64 u, .nilIface])) ∨ ((∀ u, Lib.parseUintB 32 s.data.toList ≠ .ok u) ∧ ∃ x t p, e = .returned (.tuple #[.int .u64 x, .iface t p]))) ∧ Below w.heap.size w w' := by
  obtain ⟨⟨t1, p1, h1⟩, t2, p2, h2⟩ := hE
  cases hp : Lib.parseUintB 32 s.data.toList with
  | ok u =>
    refine (Tryz.strconv_ParseUint_10_at32_ok s (by omega) u hp w).mono ?_
    rintro e w' ⟨rfl, hw⟩
    refine ⟨.inl ⟨u, rfl, ?_, rfl⟩, ?_⟩
    · unfold Lib.parseUintB at hp
      split at hp
      · cases hp
      · exact Lib.parseUintM_le _ _ _ _ (by omega) hp
    · rcases hw with rfl | rfl
      · exact Below.refl _ _
      · exact Lib.bytesWorld_below _ _ _
  | range =>
    refine (Tryz.strconv_ParseUint_10_at32_range s (by omega) hp _ w h2 (.inr ⟨_, _, rfl⟩)).mono ?_
    rintro e w' ⟨N, rfl, _, _, hb⟩
    exact ⟨.inr ⟨fun u h => by (cases h), _, _, _, rfl⟩, hb⟩
  | _ =>
    refine (Any.strconv_ParseUint_10_at32_syntax Tryz.laysPu14 s (by omega) hp _ w h1 (.inr ⟨_, _, rfl⟩)).mono ?_
    rintro e w' ⟨N, rfl, _, _, hb⟩
    exact ⟨.inr ⟨fun u h => by (cases h), _, _, _, rfl⟩, hb⟩
def EndIs (l : List UInt8) (e : Ending) : Prop := (∃ v : Nat, endB l = some v ∧ v ≤ 4294967295 ∧ e = .returned (.tuple #[.int .u32 v, .bool true])) ∨ (endB l = none ∧ ∃ v : Nat, v ≤ 4294967295 ∧ e = .returned (.tuple #[.int .u32 v, .bool false]))
theorem ba_star {s : ByteArray} (h : s.data.toList = [42]) : s = ⟨#[42]⟩ := by
  apply ByteArray.ext; apply Array.ext'; exact h
set_option maxRecDepth 100000 in
set_option maxHeartbeats 1000000 in
theorem pend_c (s : ByteArray) (hs : s.size ≤ 1100000) (w : World) (hE : Errs w) : Calls Tryz.prog 188 #[.string s] w fun e w' => EndIs s.data.toList e ∧ Below w.heap.size w w' := by
  by_cases h1 : s.data.toList = [42]
  · obtain rfl := ba_star h1
    go_enter Tryz.func188, Tryz.ntmps188
    go_wp2_with fail
    go_ret2
    exact ⟨.inl ⟨0, rfl, by omega, rfl⟩, Below.refl _ _⟩
  have n1 : (s.toList == [42]) = false := by
    rw [ByteArray.toList_eq]; simpa using h1
  by_cases h0 : s.data.toList = []
  · obtain rfl : s = ⟨#[]⟩ := by apply ByteArray.ext; apply Array.ext'; exact h0
    go_enter Tryz.func188, Tryz.ntmps188
    go_wp2_with fail
    go_ret2
    exact ⟨.inr ⟨rfl, 0, by omega, rfl⟩, Below.refl _ _⟩
  have n0 : s.toList.isEmpty = false := by
    rw [ByteArray.toList_eq]; simpa using h0
  have hsz : 0 < s.size := by
    rw [← ba_len]; cases h : s.data.toList with
    | nil => exact absurd h h0
    | cons _ _ => simp
  have hhd : s.data.toList.head? = some s[0] := by
    rw [List.head?_eq_getElem?]
    show s.data.toList[0]? = some (s.data[0]'hsz)
    rw [Array.getElem?_toList]; exact Array.getElem?_eq_getElem hsz
  have hq1 : (0 : Int) < s.size := by omega
  have hc1 : s[0].toNat < 256 := s[0].toNat_lt
  have HH := Lib.hid hhd
  have HP := Lib.hid (pu_c s hs w hE)
  have H1 := Lib.hid h1
  have H0 := Lib.hid h0
  clear h1 h0 hhd hE
  by_cases h48 : s[0].toNat = 48
  · have e48 : ((s[0].toNat : Int) == 48) = true := by simpa using (by omega : (s[0].toNat : Int) = 48)
    have H48 := Lib.hid h48
    clear h48
    go_enter Tryz.func188, Tryz.ntmps188
    go_wp2_with fail
    go_ret2
    refine ⟨.inr ⟨?_, 0, by omega, rfl⟩, Below.refl _ _⟩
    unfold endB
    rw [if_neg H1.out, if_pos (by rw [HH.out, UInt8.toNat_inj.1 (show s[0].toNat = (48 : UInt8).toNat from H48.out)])]
  · have e48 : ((s[0].toNat : Int) == 48) = false := by simpa using (by omega : ¬ (s[0].toNat : Int) = 48)
    have H48 := Lib.hid h48
    clear h48
    have hB : endB s.data.toList = match Lib.parseUintB 32 s.data.toList with | .ok u => some u | _ => none := by
      unfold endB
      rw [if_neg H1.out, if_neg (by rw [HH.out]; intro h; exact H48.out (by rw [Option.some.inj h]; rfl))]; rfl
    have HB := Lib.hid hB
    clear hB
    go_enter Tryz.func188, Tryz.ntmps188
    go_wp2_with fail
    refine HP.out.mono ?_
    rintro e w' ⟨h | h, hb⟩
    · obtain ⟨u, hu, hle, rfl⟩ := h
      have HU := Lib.hid hu
      have HW := Lib.hid hb
      clear hu hb
      go_wp2_with fail
      go_ret2
      have hm : ((u : Int) % 4294967296) = u := by omega
      refine ⟨.inl ⟨u, by rw [HB.out, HU.out], hle, ?_⟩, HW.out⟩
      simp [hm]
    · obtain ⟨hu, x, t, p, rfl⟩ := h
      have HU := Lib.hid hu
      have HW := Lib.hid hb
      clear hu hb
      go_wp2_with fail
      go_ret2
      refine ⟨.inr ⟨?_, 0, by omega, rfl⟩, HW.out⟩
      rw [HB.out]
      cases hp : Lib.parseUintB 32 s.data.toList with
      | ok u => exact absurd hp (HU.out u)
      | range => rfl
      | _ => rfl
end Go.Proofs.YtpnnchpaaopdcaaGreatDoor

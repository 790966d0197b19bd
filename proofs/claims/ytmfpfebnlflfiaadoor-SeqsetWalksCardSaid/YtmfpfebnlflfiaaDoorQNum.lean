/-
  An end's text, by the document and by the program: contracts.
-/
import Derived.Test.YtmfpfebnlflfiaaDoorSetR
import Derived.Lib.ItoaNum
import Derived.Lib.OthersKept
import Derived.Lib.UnsafeStr
set_option linter.unusedVariables false
set_option linter.unusedSimpArgs false
namespace Go.Proofs.YtmfpfebnlflfiaaDoor
open Go Go.RowKit

def endT (n : Nat) : List UInt8 := if n = 0 then [42] else Lib.decDigits n
def rangeT (x : Nat × Nat) : List UInt8 := endT x.1 ++ if x.1 = x.2 then [] else 58 :: endT x.2
def u64V : Value → Nat | .int _ n => n.toNat | _ => 0

theorem dec_small {u : Nat} (h : u < 10) : Lib.decDigits u = [UInt8.ofNat (48 + u)] := by rw [Lib.decDigits, dif_pos h]
theorem dec_big {u : Nat} (h : ¬ u < 10) : Lib.decDigits u = Lib.decDigits (u / 10) ++ [UInt8.ofNat (48 + u % 10)] := by rw [Lib.decDigits, dif_neg h]
theorem dec_len : ∀ (k u : Nat), u < 10 ^ (k + 1) → (Lib.decDigits u).length ≤ k + 1
  | 0, u, h => by rw [dec_small (by simpa using h)]; simp
  | k + 1, u, h => by
    by_cases hu : u < 10
    · rw [dec_small hu]; simp
    · rw [dec_big hu, List.length_append]
      have := dec_len k (u / 10) (by rw [Nat.pow_succ] at h; omega)
      simp; omega
theorem endT_len {n : Nat} (h : n ≤ 4294967295) : (endT n).length ≤ 10 := by
  unfold endT; split
  · simp
  · exact dec_len 9 n (by omega)

theorem ret_s {a b : ByteArray} (h : a = b) : Ending.returned (.string a) = .returned (.string b) := by rw [h]
theorem digit_slice {d : Nat} (h : d < 10) : (⟨#[48, 49, 50, 51, 52, 53, 54, 55, 56, 57]⟩ : ByteArray).extract d (d + 1) = txt [UInt8.ofNat (48 + d)] := by
  have : ∀ d < 10, ((⟨#[48, 49, 50, 51, 52, 53, 54, 55, 56, 57]⟩ : ByteArray).extract d (d + 1)).data.toList = [UInt8.ofNat (48 + d)] := by decide +kernel
  have h2 := this d h
  rw [← txt_data (ByteArray.extract _ _ _), h2]

set_option maxRecDepth 100000 in
set_option maxHeartbeats 1000000 in
theorem rnum_c (n : Nat) (hn : n ≤ 4294967295) (w : World) : Calls Tryd.prog 56 #[.int .u64 n] w fun e w' => e = .returned (.string (txt (Lib.decDigits n))) ∧ Below w.heap.size w w' := by
  go_enter Tryd.func56, Tryd.ntmps56
  go_wp2_with fail
  go_loopw [0, 3] (fun t0 t3 wr => ∃ (m : Nat) (S : ByteArray), t0 = .int .u64 m ∧ t3 = .string S ∧ m ≤ 4294967295 ∧ Hid (Lib.decDigits n = Lib.decDigits m ++ S.data.toList) ∧ S.size ≤ 1000 ∧ Hid (Below w.heap.size w wr)) (fun t0 _ _ => u64V t0)
  case atStart => exact ⟨n, _, rfl, rfl, hn, (List.append_nil _).symm, by show (0 : Nat) ≤ _; omega, Below.refl _ _⟩
  case round =>
    obtain ⟨m, S, rfl, rfl, hm, HD, hS, HB⟩ := hrel
    by_cases h9 : m < 10
    · have q9 : ¬ (9 : Int) < m := by omega
      go_wp2_with fail
      go_ret
      refine ⟨ret_s ?_, HB.out⟩
      have h1 := HD.out
      rw [dec_small h9] at h1
      rw [digit_slice h9, h1]
      conv => lhs; rw [← txt_data S]
      exact txt_append _ _
    · have q9 : (9 : Int) < m := by omega
      go_wp2_with fail
      go_roundw
      case rel =>
        have hd : m % 10 < 10 := Nat.mod_lt _ (by omega)
        have hS' : ((⟨#[48, 49, 50, 51, 52, 53, 54, 55, 56, 57]⟩ : ByteArray).extract (m % 10) (m % 10 + 1) ++ S).data.toList = UInt8.ofNat (48 + m % 10) :: S.data.toList := by rw [digit_slice hd]; simp [txt]
        have h1 := HD.out
        rw [dec_big h9, List.append_assoc] at h1
        have h2 : Lib.decDigits n = Lib.decDigits (m / 10) ++ ((⟨#[48, 49, 50, 51, 52, 53, 54, 55, 56, 57]⟩ : ByteArray).extract (m % 10) (m % 10 + 1) ++ S).data.toList := by rw [hS', h1]; rfl
        have h3 : (Lib.decDigits n).length ≤ 10 := dec_len 9 n (by omega)
        refine ⟨m / 10, _, by go_num, rfl, by omega, h2, ?_, HB.out⟩
        have h4 := congrArg List.length h2
        rw [List.length_append, ba_len] at h4
        omega
      case measure => show ((m : Int) / 10).toNat < ((m : Int)).toNat; omega

set_option maxRecDepth 100000 in
set_option maxHeartbeats 1000000 in
theorem rone_c (n : Nat) (hn : n ≤ 4294967295) (w : World) : Calls Tryd.prog 45 #[.int .u32 n] w fun e w' => e = .returned (.string (txt (endT n))) ∧ Below w.heap.size w w' := by
  by_cases h0 : n = 0
  · subst h0
    go_enter Tryd.func45, Tryd.ntmps45
    go_wp2_with fail
    go_ret
    exact ⟨rfl, Below.refl _ _⟩
  · have e0 : ((n : Int) == 0) = false := by rw [beq_eq_false_iff_ne]; omega
    have he : endT n = Lib.decDigits n := if_neg h0
    rw [he]
    have HC := Lib.hid (rnum_c n hn w)
    clear he h0
    go_enter Tryd.func45, Tryd.ntmps45
    go_wp2_with fail
    refine HC.out.mono ?_
    rintro e w' ⟨rfl, hb⟩
    have HB := Lib.hid hb
    clear hb
    go_wp2_with fail
    go_ret
    exact ⟨rfl, HB.out⟩

/-- The library's table of powers, as it lies. -/
def Tab (w : World) : Prop := Lib.TabIs Tryd.prog w "internal/strconv.uint64pow10" .u64 Lib.pow10Tab

theorem iappend_c (B n u : Nat) (hu : u ≤ 4294967295) (sv : Value) (xs : List Value) (w : World) (hown : w.ownsRow B 5 1 sv n xs) (hBw : B ≤ w.heap.size) (hlim : n ≤ 1000000) (hT : Tab w) :
    Calls Tryd.prog 64 #[sv, .int .u64 u, .int .i64 10] w fun e w' => ∃ v', e = .returned v' ∧ w'.ownsRow B 5 1 v' (n + (Lib.decDigits u).length) (xs ++ Lib.byteCells (Lib.decDigits u)) ∧ Below B w w' ∧ Lib.OthersKept 5 none w w' := by
  by_cases h : u < 100
  · exact Tryd.internal_strconv_AppendUint_10_small B n u h sv xs w hown hBw (by omega)
  · exact Tryd.internal_strconv_AppendUint_10_big B n u (by omega) (by omega) sv xs w hown hBw (by omega) hT

set_option maxRecDepth 100000 in
theorem puappend_c (B n u : Nat) (hu : u ≤ 4294967295) (sv : Value) (xs : List Value) (w : World) (hown : w.ownsRow B 5 1 sv n xs) (hBw : B ≤ w.heap.size) (hlim : n ≤ 1000000) (hT : Tab w) :
    Calls Tryd.prog 55 #[sv, .int .u64 u, .int .i64 10] w fun e w' => ∃ v', e = .returned v' ∧ w'.ownsRow B 5 1 v' (n + (Lib.decDigits u).length) (xs ++ Lib.byteCells (Lib.decDigits u)) ∧ Below B w w' ∧ Lib.OthersKept 5 none w w' := by
    have HC := Lib.hid (iappend_c B n u hu sv xs w hown hBw hlim hT)
    clear hown hT
    go_enter Tryd.func55, Tryd.ntmps55
    go_wp2_with fail
    refine HC.out.mono ?_
    rintro e w' ⟨v', rfl, h1, h2, h3⟩
    have H1 := Lib.hid h1
    have H2 := Lib.hid h2
    have H3 := Lib.hid h3
    clear h1 h2 h3
    go_wp2_with fail
    go_ret
    exact ⟨v', rfl, H1.out, H2.out, H3.out⟩

theorem Tryd.infoByte : (Tryd.prog.info? 5).map (fun i => (i.zero, i.size, i.bytes)) = some (some (.int .u8 0), 1, 1) := by kernel_rfl

theorem own_row {w : World} {B e n size : Nat} {v : Value} {xs : List Value} (h : w.ownsRow B e size v n xs) : ∀ g, v.ownBlock = some g → ∃ c fz, w.heap[g]? = some (.cells c e fz) := by
  rcases h.2 with ⟨rfl, rfl⟩ | ⟨g', cap, cur, rfl, _, hg, _⟩
  · intro g h; cases h
  · intro g h; cases h; exact ⟨_, _, hg⟩

set_option maxRecDepth 100000 in
set_option maxHeartbeats 1000000 in
theorem append_end_c (B n u : Nat) (hu : u ≤ 4294967295) (sv : Value) (xs : List Value) (w : World) (hown : w.ownsRow B 5 1 sv n xs) (hBw : B ≤ w.heap.size) (hlim : n ≤ 1000000) (hT : Tab w) :
    Calls Tryd.prog 44 #[sv, .int .u32 u] w fun e w' => ∃ v', e = .returned v' ∧ w'.ownsRow B 5 1 v' (n + (endT u).length) (xs ++ Lib.byteCells (endT u)) ∧ Below B w w' ∧ Lib.OthersKept 5 none w w' := by
  by_cases h0 : u = 0
  · subst h0
    obtain ⟨i0, hi, hz0, hz1, hz2⟩ := info_parts Tryd.infoByte
    go_enter Tryd.func44, Tryd.ntmps44
    go_wp2_with (at_builtin; refine wpList_append_own _ rfl (.tmp 7) (.tmp 8) 69 rfl B 5 i0 (.int .u8 0) 1 1 Tryd.underlying69 hi hz0 hz1 hz2 rfl (by decide) _ _ _ rfl (hown.alloc _) ⟨w.heap.size, 0, none⟩ 1 1 [.int .u8 42] rfl rfl (cell_one_new _ _ _) (fun x hx => by simp at hx; subst hx; rfl) (by unfold maxLen; omega) (by omega) (by simp; omega) ?_)
    intro v' w4 hown4 hgrow4 _
    have hk : Lib.OthersKept 5 none w w4 := ((Lib.OthersKept.refl _ _ w).alloc _).grown hgrow4 (own_row (hown.alloc _))
    have hb4 : Below B w w4 := Below.grown ((Below.refl B w).alloc hBw _) hgrow4 (by simp; omega) (fun j hj => (hown.lt _ hj).1)
    have HO4 := Lib.hid hown4
    have HB4 := Lib.hid hb4
    have HK := Lib.hid hk
    clear hown4 hgrow4 hb4 hk hown
    go_wp2_with fail
    go_ret
    exact ⟨v', rfl, HO4.out, HB4.out, HK.out⟩
  · have e0 : ((u : Int) == 0) = false := by rw [beq_eq_false_iff_ne]; omega
    have he : endT u = Lib.decDigits u := if_neg h0
    rw [he]
    have HC := Lib.hid (puappend_c B n u hu sv xs w hown hBw hlim hT)
    clear he h0 hown hT
    go_enter Tryd.func44, Tryd.ntmps44
    go_wp2_with fail
    refine HC.out.mono ?_
    rintro e w' ⟨v', rfl, h1, h2, h3⟩
    have H1 := Lib.hid h1
    have H2 := Lib.hid h2
    have H3 := Lib.hid h3
    clear h1 h2 h3
    go_wp2_with fail
    go_ret
    exact ⟨v', rfl, H1.out, H2.out, H3.out⟩
end Go.Proofs.YtmfpfebnlflfiaaDoor

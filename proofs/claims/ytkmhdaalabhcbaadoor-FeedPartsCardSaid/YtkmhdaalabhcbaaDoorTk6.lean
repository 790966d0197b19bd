/-
  The program's reader: atoms, numbers, literals: contracts.
-/
import Derived.Test.YtkmhdaalabhcbaaDoorTk5
import Derived.Lib.ParseIntBCases
import Derived.Lib.AtoiErrMem
set_option linter.unusedVariables false
set_option linter.unusedSimpArgs false
namespace Go.Proofs.YtkmhdaalabhcbaaDoor
open Go Go.RowKit
variable {W : World} {g : Nat} {s : RS}

/-- The library's two errors, as they lie. -/
def Errs (w : World) : Prop := (∃ t p, w.cell? ⟨1, 0, none⟩ = some (.iface t p)) ∧ (∃ t p, w.cell? ⟨2, 0, none⟩ = some (.iface t p))
/-- A block that is no variable's. -/
def Away (g : Nat) : Prop := 1 ≠ g ∧ 2 ≠ g
theorem cell_ltA {w : World} {a : Addr} {v : Value} (h : w.cell? a = some v) : a.block < w.heap.size := by
  by_cases hb : a.block < w.heap.size
  · exact hb
  · have : w.heap[a.block]? = none := Array.getElem?_eq_none (by omega)
    unfold World.cell? at h
    rw [this] at h
    cases h
theorem cell_same {w w' : World} {a : Addr} (h : w'.heap[a.block]? = w.heap[a.block]?) : w'.cell? a = w.cell? a := by unfold World.cell?; rw [h]
theorem Errs.tk {w w' : World} (h : Errs w) (ht : Tk g w w') (hg : Away g) : Errs w' := by
  obtain ⟨⟨t1, p1, h1⟩, t2, p2, h2⟩ := h
  exact ⟨⟨t1, p1, (cell_same (ht.blk _ (cell_ltA h1) hg.1)).trans h1⟩, t2, p2, (cell_same (ht.blk _ (cell_ltA h2) hg.2)).trans h2⟩
theorem Errs.below {w w' : World} (h : Errs w) (hb : Below w.heap.size w w') : Errs w' := by
  obtain ⟨⟨t1, p1, h1⟩, t2, p2, h2⟩ := h
  exact ⟨⟨t1, p1, (cell_same (hb.block _ (cell_ltA h1))).trans h1⟩, t2, p2, (cell_same (hb.block _ (cell_ltA h2))).trans h2⟩

theorem pu_c (s : ByteArray) (hs : s.size ≤ 100000) (w : World) (hE : Errs w) : Calls Tryd.prog 34 #[.string s, .int .i64 10, .int .i64 32] w fun e w' =>
    ((∃ u : Nat, Lib.parseUintB 32 s.data.toList = .ok u ∧ u ≤ 4294967295 ∧ e = .returned (.tuple #[.int .u64 u, .nilIface])) ∨ ((∀ u, Lib.parseUintB 32 s.data.toList ≠ .ok u) ∧ ∃ x t p, e = .returned (.tuple #[.int .u64 x, .iface t p]))) ∧ Below w.heap.size w w' := by
  obtain ⟨⟨t1, p1, h1⟩, t2, p2, h2⟩ := hE
  cases hp : Lib.parseUintB 32 s.data.toList with
  | ok u =>
    refine (Tryd.strconv_ParseUint_10_at32_ok s (by omega) u hp w).mono ?_
    rintro e w' ⟨rfl, hw⟩
    refine ⟨.inl ⟨u, rfl, ?_, rfl⟩, ?_⟩
    · unfold Lib.parseUintB at hp
      split at hp
      · cases hp
      · exact Lib.parseUintM_le _ _ _ _ (by omega) hp
    · rcases hw with rfl | rfl
      · exact Below.refl _ _
      · exact Lib.bytesWorld_below _ _ _
  | range =>
    refine (Tryd.strconv_ParseUint_10_at32_range s (by omega) hp _ w h2 (.inr ⟨_, _, rfl⟩)).mono ?_
    rintro e w' ⟨N, rfl, _, _, hb⟩
    exact ⟨.inr ⟨fun u h => by (cases h), _, _, _, rfl⟩, hb⟩
  | _ =>
    refine (Any.strconv_ParseUint_10_at32_syntax Tryd.laysPu14 s (by omega) hp _ w h1 (.inr ⟨_, _, rfl⟩)).mono ?_
    rintro e w' ⟨N, rfl, _, _, hb⟩
    exact ⟨.inr ⟨fun u h => by (cases h), _, _, _, rfl⟩, hb⟩

theorem pB_ok (l : List UInt8) (v : Nat) : Lib.parseUintB 32 l = .ok v ↔ l ≠ [] ∧ numV 0 l = some v ∧ v ≤ 4294967295 := by
  unfold Lib.parseUintB
  by_cases hn : l = []
  · rw [if_pos hn]; simp [hn]
  · rw [if_neg hn, show (2 ^ 32 - 1 : Nat) = 4294967295 from rfl, parseM l 0 v (by omega)]
    exact ⟨fun h => ⟨hn, h⟩, fun h => h.2⟩
theorem numR_none {l : List UInt8} (h : ∀ u, Lib.parseUintB 32 l ≠ .ok u) : numR l 4294967295 = none := by
  cases hn : numR l 4294967295 with
  | none => rfl
  | some v =>
    exfalso
    unfold numR at hn
    split at hn
    · cases hn
    · rename_i hl
      cases hv : numV 0 l with
      | none => rw [hv] at hn; cases hn
      | some n =>
        rw [hv] at hn
        dsimp only at hn
        split at hn
        · exact h n ((pB_ok l n).2 ⟨fun e => hl (.inl (by rw [e]; decide)), hv, by assumption⟩)
        · cases hn
theorem numR_zero {l : List UInt8} (h0 : l.head? = some 48) (h : l ≠ [48]) : numR l 4294967295 = none := by
  unfold numR
  rw [if_pos]
  right; right
  refine ⟨?_, h0⟩
  match l, h0, h with
  | [c], h0, h => simp at h0; subst h0; exact absurd rfl h
  | c :: d :: r, _, _ => simp
theorem numR_some {l : List UInt8} {u : Nat} (h : Lib.parseUintB 32 l = .ok u) (h0 : ¬ (l.head? = some 48 ∧ l ≠ [48])) : numR l 4294967295 = some u := by
  obtain ⟨hn, hv, hu⟩ := (pB_ok l u).1 h
  unfold numR
  rw [if_neg, hv]
  · dsimp only; rw [if_pos hu]
  · rintro (h1 | h1 | ⟨h1, h2⟩)
    · exact hn (List.length_eq_zero_iff.1 (by omega))
    · match l, hn with
      | c :: r, _ =>
        have h48 : c ≠ 48 := fun e => h0 ⟨by rw [e]; rfl, fun e2 => by rw [e2] at h1; simp at h1⟩
        unfold numV at hv
        split at hv
        · rename_i hd
          have h3 := numV_ge r _ u hv
          have h4 : c.toNat ≠ 48 := fun e => h48 (UInt8.toNat_inj.1 e)
          have h5 : 1 ≤ 10 * 0 + (c.toNat - 48) := by have := hd.1; omega
          have h6 : 10 ^ r.length ≤ u := Nat.le_trans (by simpa using Nat.mul_le_mul_right (10 ^ r.length) h5) h3
          have h7 : 10 ^ 10 ≤ 10 ^ r.length := Nat.pow_le_pow_right (by omega) (by simp at h1; omega)
          omega
        · cases hv
    · exact h0 ⟨h2, fun e => by rw [e] at h1; simp at h1⟩

set_option maxRecDepth 100000 in
set_option maxHeartbeats 1000000 in
theorem tkNumber_c (h : PR W g s) (hok : s.Ok) (hl : s.l.length ≤ 100000) (hE : Errs W) (hg : Away g) : Calls Tryd.prog 25 #[pt g] W (Does W g (.int .u32 (numN s)) (numS s)) := by
  have C := Lib.hid (tkWhileN_c digB (fun n x hx => num1_c n x hx W) h hok hl)
  have hle : (s.l.takeWhile digB).length ≤ 100000 := Nat.le_trans (tw_le _) hl
  unfold numN numS
  rw [show RS.mk (s.l.dropWhile digB) s.f = skipS digB s from rfl]
  unfold numO
  obtain ⟨a, ha⟩ : ∃ a, s.l.takeWhile digB = a := ⟨_, rfl⟩
  obtain ⟨t, ht⟩ : ∃ t, skipS digB s = t := ⟨_, rfl⟩
  rw [ha] at C hle ⊢
  rw [ht] at C ⊢
  have e1 := txt_size a
  have P := fun w hE => pu_c (txt a) (by rw [e1]; exact hle) w hE
  rw [data_txt] at P
  have h48 := toList_txt a
  obtain ⟨B, hB⟩ : ∃ B, txt a = B := ⟨_, rfl⟩
  have hhd : ∀ h : 0 < B.size, a.head? = some B[0] := fun h => by
    rw [show a = B.data.toList by rw [← hB, data_txt]]; exact head_eq h
  rw [hB] at C P e1 h48
  have HP := Lib.hid P
  have HHD := Lib.hid hhd
  have HE := Lib.hid hE
  have HA0 : Hid (a = [] → B.size = 0) := fun h => by rw [e1, h]; rfl
  have HT := Lib.hid h48
  obtain ⟨n, hn⟩ : ∃ n, (numR a 4294967295).getD 0 = n := ⟨_, rfl⟩
  obtain ⟨z, hz⟩ : ∃ z, (if (numR a 4294967295).isSome = true then t else RS.gone) = z := ⟨_, rfl⟩
  rw [hn, hz]
  have HNN := Lib.hid hn
  have HZZ := Lib.hid hz
  clear h P hhd hE ha ht hB e1 h48 hn hz
  go_enter Tryd.func25, Tryd.ntmps25
  go_wp2_with fail
  refine C.out.mono ?_
  rintro e w1 ⟨rfl, h1, h2⟩
  have H1 := Lib.hid h1
  have H2 := Lib.hid h2
  have CP := Lib.hid (HP.out w1 (HE.out.tk h2 hg))
  clear h1 h2
  go_wp2_with fail
  refine CP.out.mono ?_
  rintro e w2 ⟨hr, hb2⟩
  have HK := Lib.hid (H2.out.trans (Tk.of_below (g := g) hb2))
  have H3 := Lib.hid (H1.out.tk (Tk.of_below (g := g + 1) hb2) (by omega))
  clear hb2 CP
  rcases hr with ⟨u, hu, hu9, rfl⟩ | ⟨hu, x, tt, pp, rfl⟩
  · have hne : a ≠ [] := ((pB_ok a u).1 hu).1
    have hsz : 0 < B.size := by
      rcases Nat.eq_zero_or_pos B.size with h | h
      · exfalso
        have h9 := HT.out
        have : B.toList = [] := by
          rw [ByteArray.toList_eq]; exact List.length_eq_zero_iff.1 (by rw [ba_len]; exact h)
        rw [this] at h9; exact hne h9.symm
      · exact h
    have hq1 : (0 : Int) < B.size := by omega
    have hc1 : B[0].toNat < 256 := B[0].toNat_lt
    have hh := HHD.out hsz
    by_cases hz : B[0].toNat = 48
    · have hz' : B[0] = 48 := UInt8.toNat_inj.1 hz
      rw [hz'] at hh
      have ez : ((B[0].toNat : Int) == 48) = true := by rw [beq_iff_eq]; omega
      by_cases h1 : a = [48]
      · have hv : numR a 4294967295 = some u := numR_some hu (fun h => h.2 h1)
        have HQ : Hid (u = n ∧ t = z) := ⟨by rw [← HNN.out, hv]; rfl, by rw [← HZZ.out, hv]; rfl⟩
        have ec : (B.toList == [48]) = true := by rw [HT.out, h1]; rfl
        have hm : (u : Int) % 4294967296 = u := by omega
        clear hv hu hh hz hz' h1 hne
        go_wp2_with fail
        go_ret
        exact ⟨by rw [← HQ.out.1]; simp [hm], HQ.out.2 ▸ H3.out, HK.out⟩
      · have hv : numR a 4294967295 = none := numR_zero hh h1
        have HQ : Hid (0 = n ∧ RS.gone = z) := ⟨by rw [← HNN.out, hv]; rfl, by rw [← HZZ.out, hv]; rfl⟩
        have ec : (B.toList == [48]) = false := by rw [HT.out, beq_eq_false_iff_ne]; exact h1
        have C4 := Lib.hid (tkFail_c H3.out)
        clear hv hu hh hz hz' h1 hne
        go_wp2_with fail
        refine C4.out.mono ?_
        rintro e w3 ⟨rfl, h5, h6⟩
        have H5 := Lib.hid h5
        have H6 := Lib.hid (HK.out.trans h6)
        clear h5 h6
        go_wp2_with fail
        go_ret
        exact ⟨by rw [← HQ.out.1]; rfl, HQ.out.2 ▸ H5.out, H6.out⟩
    · have ez : ((B[0].toNat : Int) == 48) = false := by rw [beq_eq_false_iff_ne]; omega
      have hv : numR a 4294967295 = some u := numR_some hu (fun h => hz (by
        have := h.1
        rw [hh] at this
        rw [Option.some.inj this]; rfl))
      have HQ : Hid (u = n ∧ t = z) := ⟨by rw [← HNN.out, hv]; rfl, by rw [← HZZ.out, hv]; rfl⟩
      have hm : (u : Int) % 4294967296 = u := by omega
      clear hv hu hh hz hne
      go_wp2_with fail
      go_ret
      exact ⟨by rw [← HQ.out.1]; simp [hm], HQ.out.2 ▸ H3.out, HK.out⟩
  · have hv : numR a 4294967295 = none := numR_none hu
    have HQ : Hid (0 = n ∧ RS.gone = z) := ⟨by rw [← HNN.out, hv]; rfl, by rw [← HZZ.out, hv]; rfl⟩
    have C4 := Lib.hid (tkFail_c H3.out)
    clear hv hu
    go_wp2_with fail
    refine C4.out.mono ?_
    rintro e w3 ⟨rfl, h5, h6⟩
    have H5 := Lib.hid h5
    have H6 := Lib.hid (HK.out.trans h6)
    clear h5 h6
    go_wp2_with fail
    go_ret
    exact ⟨by rw [← HQ.out.1]; rfl, HQ.out.2 ▸ H5.out, H6.out⟩
end Go.Proofs.YtkmhdaalabhcbaaDoor

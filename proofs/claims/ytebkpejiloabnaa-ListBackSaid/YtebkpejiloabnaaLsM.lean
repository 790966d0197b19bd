/-
  The law ListBack: its walk.
-/
import Derived.Test.YtebkpejiloabnaaLsI
set_option linter.unusedVariables false
set_option linter.unusedSimpArgs false
namespace Go.Proofs.Ytebkpejiloabnaa
open Go Go.RowKit
variable {W W' : World} {v va vb : Value} {l now : List EL}

theorem goneN_seq (l now : List EL) : ∀ n, ∀ x ∈ goneN l now n, 0 ≤ x.seq ∧ x.seq ≤ l.length := by
  intro n
  induction n with
  | zero => intro x hx; simp [goneN] at hx
  | succ n ih =>
    intro x hx
    rw [goneN] at hx
    rcases List.mem_append.1 hx with hx | hx
    · exact ih x hx
    · split at hx
      · simp at hx
      · split at hx
        · simp at hx
        · obtain rfl : x = _ := by simpa using hx
          dsimp only
          omega
theorem fetchN_seq (l now : List EL) : ∀ n, n ≤ now.length → ∀ x ∈ fetchN l now n, 0 ≤ x.seq ∧ x.seq ≤ now.length := by
  intro n
  induction n with
  | zero => intro _ x hx; simp [fetchN] at hx
  | succ n ih =>
    intro hn x hx
    rw [fetchN] at hx
    rcases List.mem_append.1 hx with hx | hx
    · exact ih (by omega) x hx
    · split at hx
      · simp at hx
      · split at hx
        · simp at hx
        · obtain rfl : x = _ := by simpa using hx
          dsimp only
          omega
theorem diffL_seq (l now : List EL) : ∀ x ∈ diffL l now, 0 ≤ x.seq ∧ x.seq ≤ (l.length : Int) + now.length := by
  intro x hx
  unfold diffL at hx
  rcases List.mem_append.1 hx with hx | hx
  · rcases List.mem_append.1 hx with hx | hx
    · have := goneN_seq l now _ x hx; omega
    · unfold existsN at hx
      split at hx
      · obtain rfl : x = _ := by simpa using hx
        dsimp only
        omega
      · simp at hx
  · have := fetchN_seq l now _ (Nat.le_refl _) x hx; omega
theorem play_front {l m : List EL} {D : List NL} (h : playL l D = some m) (k : Nat) : ∃ q, playL l (D.take k) = some q := by
  rw [← List.take_append_drop k D, playL_app] at h
  cases hq : playL l (D.take k) with
  | none => rw [hq] at h; cases h
  | some q => exact ⟨q, rfl⟩
theorem play_one (l : List EL) (n : NL) : playL l [n] = stepL l n := by
  simp only [playL]; cases stepL l n <;> rfl
theorem stepL_kind {l m : List EL} {n : NL} (h : stepL l n = some m) : (n.kind = 0 ∧ m.length < l.length) ∨ (n.kind = 1 ∧ l.length ≤ m.length ∧ (l.length : Int) ≤ n.seq) ∨ (n.kind = 2 ∧ m.length = l.length) := by
  unfold stepL at h
  split at h
  · rename_i h1
    split at h
    · cases h
    · cases h
      rw [List.length_append]
      exact .inr (.inl ⟨h1, by omega, by omega⟩)
  · split at h
    · cases h
    · rename_i h1 h2
      split at h
      · rename_i h3; cases h; exact .inr (.inr ⟨h3, by rw [List.length_set]⟩)
      · rename_i h3
        cases h
        refine .inl ⟨by omega, ?_⟩
        rw [List.length_eraseIdx, if_pos (by omega)]
        omega

theorem play_bound (B : Nat) (ns : List NL) : ∀ (l m : List EL), (∀ n ∈ ns, n.seq ≤ (B : Int)) → l.length ≤ B → playL l ns = some m → m.length ≤ B := by
  induction ns with
  | nil => intro l m _ hl h; cases h; exact hl
  | cons a t ih =>
    intro l m hs hl h
    simp only [playL] at h
    split at h
    · cases h
    · rename_i q hq
      refine ih q m (fun n hn => hs n (List.mem_cons_of_mem _ hn)) ?_ h
      have ha := hs a (by simp)
      unfold stepL at hq
      split at hq
      · split at hq
        · cases hq
        · cases hq; rw [List.length_append, List.length_replicate]; omega
      · split at hq
        · cases hq
        · split at hq
          · cases hq; rw [List.length_set]; exact hl
          · cases hq
            have := List.length_eraseIdx_le l (a.seq.toNat - 1)
            omega

set_option maxRecDepth 100000 in
set_option maxHeartbeats 16000000 in
theorem lback_walk (hl : EntRow W va l) (hn : EntRow W vb now) : Calls Try.prog 5 #[va, vb] W fun e w' => e = .returned (.bool true) ∧ Below W.heap.size W w' := by
  obtain ⟨la, lc, hva⟩ := hl.form
  obtain ⟨na, nc, hvb⟩ := hn.form
  obtain ⟨N, hN⟩ : ∃ N, l.length = N := ⟨_, rfl⟩
  obtain ⟨M, hM⟩ : ∃ M, now.length = M := ⟨_, rfl⟩
  rw [hN] at hva
  rw [hM] at hvb
  by_cases h1 : 80 < N
  · have d1 : decide ((80 : Int) < (N : Int)) = true := decide_eq_true (by omega)
    have d1' : (80 : Int) < N := by omega
    subst hva
    subst hvb
    clear hl hn hN hM h1
    go_enter Try.func5, Try.ntmps5
    go_wp2_with fail
    go_ret
    exact ⟨rfl, Below.refl _ _⟩
  · have d1 : decide ((80 : Int) < (N : Int)) = false := decide_eq_false (by omega)
    have d1' : ¬ (80 : Int) < N := by omega
    by_cases h2 : 80 < M
    · have d2 : decide ((80 : Int) < (M : Int)) = true := decide_eq_true (by omega)
      have d2' : (80 : Int) < M := by omega
      subst hva
      subst hvb
      clear hl hn hN hM h1 h2
      go_enter Try.func5, Try.ntmps5
      go_wp2_with fail
      go_ret
      exact ⟨rfl, Below.refl _ _⟩
    · have d2 : decide ((80 : Int) < (M : Int)) = false := decide_eq_false (by omega)
      have d2' : ¬ (80 : Int) < M := by omega
      have CM := rMay_c hl hn (by omega) (by omega)
      have HL := Lib.hid hl
      have HW := Lib.hid hn
      have HN := Lib.hid hN
      have HM := Lib.hid hM
      obtain ⟨mb, hmb⟩ : ∃ mb, mayB l now = mb := ⟨_, rfl⟩
      rw [hmb] at CM
      cases mb with
      | false =>
        rw [hva, hvb] at CM
        have CM := Lib.hid CM
        clear hl hn hN hM h1 h2 hmb
        subst hva
        subst hvb
        go_enter Try.func5, Try.ntmps5
        go_wp2_with fail
        refine CM.out.mono ?_
        rintro e w1 ⟨rfl, hb1⟩
        have HB1 := Lib.hid hb1
        clear hb1
        go_wp2_with fail
        go_ret
        exact ⟨rfl, HB1.out⟩
      | true =>
        have HMY : Hid (MayE l now) := by classical exact of_decide_eq_true hmb
        rw [hva, hvb] at CM
        have CM := Lib.hid CM
        have hN9 : N ≤ 80 := by omega
        have hM9 : M ≤ 80 := by omega
        clear hl hn hN hM h1 h2 hmb
        subst hva
        subst hvb
        go_enter Try.func5, Try.ntmps5
        go_wp2_with fail
        refine CM.out.mono ?_
        rintro e w1 ⟨rfl, hb1⟩
        have HB1 := Lib.hid hb1
        have C2 := Lib.hid (own11_c (by have := HN.out; omega) (HL.out.below hb1))
        clear hb1 CM d1 d1' d2 d2'
        go_wp2_with fail
        refine C2.out.mono ?_
        rintro e w2 ⟨xv, rfl, ho2, hb2⟩
        have HB2 := Lib.hid (HB1.out.trans (hb2.mono HB1.out.size))
        have hx2 : EntRow w2 xv l := RowK.of_own encE_len ho2
        have HX2 := Lib.hid hx2
        obtain ⟨xa, xc, hxv⟩ := own_form ho2
        have C3 := Lib.hid (own11_c (by have := HM.out; omega) (HW.out.below HB2.out))
        have HXV := Lib.hid hxv
        clear ho2 hb2 hx2 C2 HB1 hxv
        go_wp2_with fail
        refine C3.out.mono ?_
        rintro e w3 ⟨yv, rfl, ho3, hb3⟩
        have HB3 := Lib.hid (HB2.out.trans (hb3.mono HB2.out.size))
        have hy3 : EntRow w3 yv now := RowK.of_own encE_len ho3
        have HX3 := Lib.hid (HX2.out.below hb3)
        have C4 := Lib.hid (lDiff_c HX3.out hy3 HMY.out (by have := HN.out; omega) (by have := HM.out; omega))
        clear ho3 hb3 hy3 C3 HB2 HX2
        go_wp2_with fail
        refine C4.out.mono ?_
        rintro e w4 ⟨nv, rfl, ho4, hb4⟩
        have HB4 := Lib.hid (HB3.out.trans (hb4.mono HB3.out.size))
        have hn4 : NoteRow w4 nv (diffL l now) := RowK.of_own encN_len ho4
        have HN4 := Lib.hid hn4
        have HX4 := Lib.hid (HX3.out.below hb4)
        have hsq := diffL_seq l now
        have hdl : (diffL l now).length ≤ 161 := by have := diffL_len l now; have := HN.out; have := HM.out; omega
        have hplay := play_diff HMY.out (by have := HM.out; omega)
        obtain ⟨D, hD⟩ : ∃ D, diffL l now = D := ⟨_, rfl⟩
        rw [hD] at hsq hdl hplay HN4 hn4
        have HSQ : Hid (∀ n ∈ D, -9223372036854775808 ≤ n.seq ∧ n.seq ≤ 9223372036854775807) := fun n hn => by
          have := hsq n hn; have := HN.out; have := HM.out; omega
        have HSB : Hid (∀ n ∈ D, n.seq ≤ ((160 : Nat) : Int)) := fun n hn => by
          have := hsq n hn; have := HN.out; have := HM.out; omega
        have HDL := Lib.hid hdl
        have HPL := Lib.hid hplay
        have C5 := lPlay_c HX4.out HN4.out HSQ.out (by have := HN.out; omega)
        rw [hplay] at C5
        have C5 := Lib.hid C5
        obtain ⟨na2, nc2, hnv⟩ := hn4.form
        obtain ⟨Q, hQ⟩ : ∃ Q, D.length = Q := ⟨_, rfl⟩
        rw [hQ] at hnv hdl
        subst hnv
        have HQ := Lib.hid hQ
        have hQ9 : Q ≤ 161 := hdl
        clear ho4 hb4 hn4 C4 HB3 HX3 hsq hdl hplay hD hQ
        go_wp2_with fail
        refine C5.out.mono ?_
        rintro e w5 ⟨hb5, mv, rfl, ho5⟩
        have HB5 := Lib.hid (HB4.out.trans (hb5.mono HB4.out.size))
        have HX5 := Lib.hid (HX4.out.below hb5)
        have HN5 := Lib.hid (HN4.out.below hb5)
        have hm5 : EntRow w5 mv now := RowK.of_own encE_len ho5
        have C6 := Lib.hid (back11_c (by have := HM.out; omega) hm5)
        clear ho5 hb5 hm5 C5 HB4 HX4 HN4
        go_wp2_with fail
        refine C6.out.mono ?_
        rintro e w6 ⟨bv, rfl, ho6, hb6⟩
        have HB6 := Lib.hid (HB5.out.trans (hb6.mono HB5.out.size))
        have HX6 := Lib.hid (HX5.out.below hb6)
        have HN6 := Lib.hid (HN5.out.below hb6)
        have h6 : EntRow w6 bv now := RowK.of_own encE_len ho6
        have C7 := Lib.hid (rSame11_c h6 (HW.out.below HB6.out) (by have := HM.out; omega))
        clear ho6 hb6 h6 C6 HB5 HX5 HN5
        go_wp2_with fail
        refine C7.out.mono ?_
        rintro e w7 ⟨rfl, hb7⟩
        have HB7 := Lib.hid (HB6.out.trans (hb7.mono HB6.out.size))
        have hx7 := HX6.out.below hb7
        have HN7 := Lib.hid (HN6.out.below hb7)
        have hxv := HXV.out
        rw [HN.out] at hxv
        subst hxv
        have HX7 := Lib.hid hx7
        clear hb7 hx7 C7 HB6 HX6 HN6 HXV
        go_wp2_with fail
        go_loopw [9, 10] (fun av iv wr => ∃ (k : Nat) (m : List EL), k ≤ Q ∧ iv = .int .i64 k ∧ (∃ a c, av = .slice a m.length c) ∧ Hid (playL l (D.take k) = some m) ∧ Hid (EntRow wr av m) ∧ Hid (Below w7.heap.size w7 wr)) (fun _ iv _ => Q - (intOf iv).toNat)
        case atStart => exact ⟨0, l, Nat.zero_le _, rfl, ⟨xa, xc, by rw [HN.out]⟩, rfl, HX7.out, Below.refl _ _⟩
        case round =>
          obtain ⟨k, m, hk, rfl, ⟨ma, mc, rfl⟩, HP, HA, HB⟩ := hrel
          by_cases hlt : k < Q
          · have hq : (k : Int) < Q := by omega
            have hq0 : (0 : Int) ≤ k := by omega
            obtain ⟨r, hr⟩ : ∃ r, D[k]? = some r := ⟨_, List.getElem?_eq_getElem (by have := HQ.out; omega)⟩
            obtain ⟨b, off, rfl, hbb, c0, c1, c2, c3⟩ := NoteRow.at (HN7.out.below HB.out) hr
            obtain ⟨m2, hm2⟩ := play_front HPL.out (k + 1)
            have hst := playL_snoc (D.take k) r l
            rw [← take_at' hr, hm2, HP.out] at hst
            dsimp only at hst
            have hkind := stepL_kind hst.symm
            have hml : m.length ≤ 160 := by
              refine play_bound 160 (D.take k) l m (fun n hn => HSB.out n (List.mem_of_mem_take hn)) (by have := HN.out; omega) HP.out
            have hbd := HSQ.out r (List.mem_of_getElem? hr)
            obtain ⟨⟨kd, sq, ⟨x, y⟩⟩, rfl⟩ : ∃ q : NL, q = r := ⟨_, rfl⟩
            dsimp only at c0 c1 c2 c3 hbd hkind
            have HRR := Lib.hid hr
            have hrow1 := World.ownsRow_lit (w := wr) (base := wr.heap.size) (e := 37) (size := 4) #[.int .i64 kd, .int .i64 sq, .int .u32 x, .int .u8 y] 1 (Nat.le_refl _) (by decide) rfl
            have hn1 : NoteRow (wr.alloc (.cells #[.int .i64 kd, .int .i64 sq, .int .u32 x, .int .u8 y] 37)) (.slice (some ⟨wr.heap.size, 0, none⟩) 1 1) [⟨kd, sq, ⟨x, y⟩⟩] := RowK.of_own encN_len hrow1
            have hal := (Below.refl wr.heap.size wr).alloc (Nat.le_refl _) (.cells #[.int .i64 kd, .int .i64 sq, .int .u32 x, .int .u8 y] 37)
            have CP := lPlay_c (HA.out.below hal) hn1 (fun n hn => by rw [List.mem_singleton.1 hn]; exact hbd) (by rw [List.length_singleton]; omega)
            rw [play_one, ← hst] at CP
            obtain ⟨L, hL⟩ : ∃ L, m.length = L := ⟨_, rfl⟩
            rw [hL] at CP hkind ⊢
            have CP := Lib.hid CP
            have HM2 := Lib.hid hm2
            have HKD := Lib.hid hkind
            obtain ⟨L2, hL2⟩ : ∃ L2, m2.length = L2 := ⟨_, rfl⟩
            rw [hL2] at HKD
            have HL2 := Lib.hid hL2
            have HB7' := hal
            clear hr hst hbd hrow1 hn1 hkind hm2 hL hL2 hml
            rcases HKD.out with ⟨rfl, hk2⟩ | ⟨rfl, hk2, hk3⟩ | ⟨rfl, hk2⟩
            · have u1 : decide ((L2 : Int) < (L : Int)) = true := decide_eq_true (by omega)
              have u2 : decide (L2 < L) = true := decide_eq_true (by omega)
              have u3 : (L2 : Int) < L := by omega
              go_wp2_with fail
              refine CP.out.mono ?_
              rintro e w9 ⟨hb9, v9, rfl, ho9⟩
              obtain ⟨a9, c9, hv9⟩ := own_form ho9
              rw [HL2.out] at hv9
              subst hv9
              have HB9 : Hid (Below w7.heap.size w7 w9) := HB.out.trans ((HB7'.trans (hb9.mono (by rw [World.size_alloc]; omega))).mono HB.out.size)
              have HA9 : Hid (EntRow w9 (.slice a9 L2 c9) m2) := RowK.of_own encE_len ho9
              obtain ⟨_, _, he9, _, e0, e1, _, _⟩ := NoteRow.at (HN7.out.below HB9.out) HRR.out
              cases he9
              clear hb9 ho9 c0 c1
              go_wp2_with fail
              go_roundw
              case rel => exact ⟨k + 1, m2, by omega, by go_num, ⟨_, _, by rw [HL2.out]⟩, HM2.out, HA9.out, HB9.out⟩
              case measure => simp [intOf]; omega
            · have u1 : decide ((L2 : Int) < (L : Int)) = false := decide_eq_false (by omega)
              have u2 : decide (L2 < L) = false := decide_eq_false (by omega)
              have u3 : ¬ (L2 : Int) < L := by omega
              have u4 : decide (sq < (L : Int)) = false := decide_eq_false (by omega)
              have u5 : ¬ sq < (L : Int) := by omega
              go_wp2_with fail
              refine CP.out.mono ?_
              rintro e w9 ⟨hb9, v9, rfl, ho9⟩
              obtain ⟨a9, c9, hv9⟩ := own_form ho9
              rw [HL2.out] at hv9
              subst hv9
              have HB9 : Hid (Below w7.heap.size w7 w9) := HB.out.trans ((HB7'.trans (hb9.mono (by rw [World.size_alloc]; omega))).mono HB.out.size)
              have HA9 : Hid (EntRow w9 (.slice a9 L2 c9) m2) := RowK.of_own encE_len ho9
              obtain ⟨_, _, he9, _, e0, e1, _, _⟩ := NoteRow.at (HN7.out.below HB9.out) HRR.out
              cases he9
              clear hb9 ho9 c0 c1
              go_wp2_with fail
              go_roundw
              case rel => exact ⟨k + 1, m2, by omega, by go_num, ⟨_, _, by rw [HL2.out]⟩, HM2.out, HA9.out, HB9.out⟩
              case measure => simp [intOf]; omega
            · have u1 : decide ((L2 : Int) < (L : Int)) = false := decide_eq_false (by omega)
              have u2 : decide (L2 < L) = false := decide_eq_false (by omega)
              have u3 : ¬ (L2 : Int) < L := by omega
              go_wp2_with fail
              refine CP.out.mono ?_
              rintro e w9 ⟨hb9, v9, rfl, ho9⟩
              obtain ⟨a9, c9, hv9⟩ := own_form ho9
              rw [HL2.out] at hv9
              subst hv9
              have HB9 : Hid (Below w7.heap.size w7 w9) := HB.out.trans ((HB7'.trans (hb9.mono (by rw [World.size_alloc]; omega))).mono HB.out.size)
              have HA9 : Hid (EntRow w9 (.slice a9 L c9) m2) := by have := RowK.of_own encE_len ho9; rw [hk2] at this; exact this
              obtain ⟨_, _, he9, _, e0, e1, _, _⟩ := NoteRow.at (HN7.out.below HB9.out) HRR.out
              cases he9
              clear hb9 ho9 c0 c1
              go_wp2_with fail
              go_roundw
              case rel => exact ⟨k + 1, m2, by omega, by go_num, ⟨_, _, by rw [HL2.out, hk2]⟩, HM2.out, HA9.out, HB9.out⟩
              case measure => simp [intOf]; omega
          · obtain rfl : k = Q := by omega
            have hq : ¬ (k : Int) < k := by omega
            have hbW := HB7.out.trans (HB.out.mono HB7.out.size)
            have HBW := Lib.hid hbW
            have C8 := Lib.hid (own11_c (by have := HM.out; omega) (HW.out.below hbW))
            clear hbW
            go_wp2_with fail
            refine C8.out.mono ?_
            rintro e w8 ⟨pv, rfl, ho8, hb8⟩
            have HB8 := Lib.hid (HBW.out.trans (hb8.mono HBW.out.size))
            have HP8 : Hid (EntRow w8 pv now) := RowK.of_own encE_len ho8
            have C9 := Lib.hid (own11_c (by have := HM.out; omega) (HW.out.below HB8.out))
            clear ho8 hb8 C8
            go_wp2_with fail
            refine C9.out.mono ?_
            rintro e w9 ⟨qv, rfl, ho9, hb9⟩
            have HB9 := Lib.hid (HB8.out.trans (hb9.mono HB8.out.size))
            have hq9 : EntRow w9 qv now := RowK.of_own encE_len ho9
            have hmay : MayE now now := ⟨HMY.out.2.1, HMY.out.2.1, fun e he h _ => by
              have : isIn now e.uid = true := isIn_iff.2 ⟨e, he, rfl⟩
              rw [findI_neg.1 h] at this; cases this⟩
            have CA := lDiff_c (HP8.out.below hb9) hq9 hmay (by have := HM.out; omega) (by have := HM.out; omega)
            rw [diff_same HMY.out.2.1] at CA
            have CA := Lib.hid CA
            clear ho9 hb9 hq9 hmay C9 HP8
            go_wp2_with fail
            refine CA.out.mono ?_
            rintro e wA ⟨dv, rfl, hoA, hbA⟩
            have HBA := Lib.hid (HB9.out.trans (hbA.mono HB9.out.size))
            obtain ⟨da, dc, hdv⟩ := own_form hoA
            have hdv : dv = .slice da 0 dc := hdv
            subst hdv
            have CB := Lib.hid (awake11_c wA)
            clear hoA hbA CA
            go_wp2_with fail
            refine CB.out.mono ?_
            rintro e wB ⟨rfl, hbB⟩
            have HBB := Lib.hid (HBA.out.trans (hbB.mono HBA.out.size))
            clear hbB CB
            go_wp2_with fail
            go_ret
            exact ⟨rfl, HBB.out⟩
end Go.Proofs.Ytebkpejiloabnaa

/-
  The law MemRuns: its walk.
-/
import Derived.Test.YtmfpfebnlflfiabRunsS
set_option linter.unusedVariables false
set_option linter.unusedSimpArgs false
namespace Go.Proofs.Ytmfpfebnlflfiab
open Go Go.RowKit
attribute [local go_sem ↓] Go.wp_at_zero Go.wp_at_succ
attribute [local go_sem] field_v field_t

theorem alloc_below {w : World} (o : Obj) : Below w.heap.size w (w.alloc o) := (Below.refl _ _).alloc (Nat.le_refl _) _

set_option maxRecDepth 20000 in
set_option maxHeartbeats 4000000 in
theorem memruns_yes (n : Nat) (h1 : 1 ≤ n) (hn : n ≤ 8192) (p : Option Addr) (N cap : Nat) (hN : N ≤ 200) (kd : Nat → Nat) (at' : Nat → Int) (od vv : Nat → Nat) (w : World) (ho : OpsAt w p N kd at' od vv) :
    Calls Try.prog 3 #[.int .i64 n, .slice p N cap] w fun e w' => e = .returned (.bool true) ∧ Below w.heap.size w w' := by
  obtain ⟨D, hD⟩ : ∃ D, w.heap.size = D := ⟨_, rfl⟩
  have C0 := Lib.hid (mNew_yes n h1 hn w)
  rw [hD] at C0 ⊢
  have HD := Lib.hid hD
  have HOP := Lib.hid ho
  have q1 : (N : Int) ≤ 200 := by omega
  have q2 : (1 : Int) ≤ n := by omega
  have q3 : (n : Int) ≤ 8192 := by omega
  clear hD ho
  go_enter Try.func3, Try.ntmps3
  go_wp2_with fail
  refine C0.out.mono ?_
  rintro e w1 ⟨rfl, hb1, hm1⟩
  have hlt := hm1.lt
  have HST : Hid (St w D w1.heap.size n 0 (fun _ => 0) (fun _ => 0) (.slice none 0 0) [] (w1.alloc (.cells #[.int .i64 n, .int .u64 0, .slice none 0 0] 29))) :=
    ⟨hb1.alloc (Nat.le_of_lt hlt) _, hm1.below (alloc_below _) hlt, Tri.new _ _ _ _ _, ⟨World.ownsRow_nil _ _ _ _, fun _ => rfl⟩, agree_new n, hlt⟩
  clear hb1 hm1 C0 hlt
  unfold pm
  go_wp2_with fail
  generalize w1.heap.size = R at HST ⊢
  go_loopw [7] (fun i wr => ∃ (k T : Nat) (ws cs : Nat → Nat) (v : Value) (l : List Ch), k ≤ N ∧ i = .int .i64 k ∧ T ≤ k ∧ l.length ≤ k ∧ Hid (St w D R n T ws cs v l wr)) (fun i _ => N - (intOf i).toNat)
  case atStart => exact ⟨0, 0, _, _, _, _, by omega, rfl, Nat.le_refl _, Nat.le_refl _, HST⟩
  case round =>
    obtain ⟨k, T, ws, cs, v, l, hk, rfl, hT, hll, HS⟩ := hrel
    clear HST
    by_cases hlt : k < N
    · obtain ⟨b, off, rfl, hbw, kc0, kc1, kc2, kc3, hkd⟩ := HOP.out k hlt
      rw [HD.out] at hbw
      obtain ⟨K, hK⟩ : ∃ K, kd k = K := ⟨_, rfl⟩
      obtain ⟨A, hA⟩ : ∃ A, at' k = A := ⟨_, rfl⟩
      obtain ⟨Od, hOd⟩ : ∃ Od, od k = Od := ⟨_, rfl⟩
      obtain ⟨V, hV⟩ : ∃ V, vv k = V := ⟨_, rfl⟩
      rw [hK] at kc0 hkd
      rw [hA] at kc1
      rw [hOd] at kc2
      rw [hV] at kc3
      have hcell : ∀ j, wr.cell? ⟨b, j, none⟩ = w.cell? ⟨b, j, none⟩ := fun j => HS.out.below.cell (p := ⟨b, j, none⟩) hbw
      rw [← hcell] at kc0 kc1 kc2 kc3
      obtain ⟨ad, cp, hv⟩ := own_form HS.out.list.own
      obtain ⟨M, hM⟩ : ∃ M, M = l.length := ⟨_, rfl⟩
      rw [← hM] at hv
      subst hv
      have hq : (k : Int) < N := by omega
      have hq2 : (K : Int) ≤ 255 := by omega
      have hbr : b < wr.heap.size := Nat.lt_trans hbw HS.out.mem.lt
      have HF : Hid (Full w D R n T ws cs (.slice ad M cp) l wr.heap.size (.int .u8 K) (.int .i64 A) (.int .u64 Od) (.int .u64 V) (wr.alloc (.cells #[.int .u8 K, .int .i64 A, .int .u64 Od, .int .u64 V] 31))) :=
        ⟨HS.out.later (alloc_below _), Quad.new _ _ _ _ _ _⟩
      have hRO : R < wr.heap.size := HS.out.ref.lt
      obtain ⟨r0, r1, r2, _, _, _⟩ := HS.out.ref.cell
      clear hK hA hOd hV hcell hM
      have h3 : K % 3 = 0 ∨ K % 3 = 1 ∨ K % 3 = 2 := by omega
      rcases h3 with h3 | h3 | h3
      · have z0 : ((K : Int) % 3 == 0) = true := by rw [beq_iff_eq]; omega
        have C1 := Lib.hid (fun W h => rmLoad_any (R + 1) n T (.slice ad M cp) l ws cs (by omega) (by omega) A W h HS.out.agree)
        unfold memV at C1
        clear h3
        have C2 := Lib.hid (fun W h => mLoad_any D n T ws cs A hn (by omega) W h)
        have HAG1 := Lib.hid HS.out.agree
        have hT1 : tick n T A ≤ k + 1 := Nat.le_trans (tick_le n T A) (by omega)
        generalize tick n T A = T1 at C1 C2 hT1
        have HM : Hid (∀ W, Below wr.heap.size wr W → MemAt W D n T ws cs) := fun W h => HS.out.mem.below h HS.out.mem.lt
        have HDR : Hid (D < R) := HS.out.lt
        unfold pm at C2
        clear HS
        go_wp2_with fail
        clear kc0 kc1 kc2 kc3 r0 r1 r2
        refine (C1.out _ HF.out.st.list).mono ?_
        rintro e w2 ⟨rfl, hb2⟩
        have hF2 := HF.out.later hb2
        have HH : Hid (Half w D R n T1 (.slice ad M cp) l wr.heap.size w2.heap.size (.int .u8 K) (.int .i64 A) (.int .u64 Od) (.int .u64 V) (w2.alloc (.cells #[.int .i64 n, .int .u64 T1, .slice ad M cp] 29))) := by
          have h := hF2.later (alloc_below (.cells #[.int .i64 n, .int .u64 T1, .slice ad M cp] 29))
          exact ⟨h.st.below, ⟨_, _, _, h.st.ref⟩, h.st.list, h.op, Tri.new _ _ _ _ _, HDR.out, hRO, hF2.st.ref.lt⟩
        have HM2 : Hid (MemAt (w2.alloc (.cells #[.int .i64 n, .int .u64 T1, .slice ad M cp] 29)) D n T ws cs) :=
          hF2.st.mem.below (alloc_below _) hF2.st.mem.lt
        clear hF2 HF HM C1
        go_wp2_with fail
        generalize (w2.alloc (.cells #[.int .i64 n, .int .u64 T1, .slice ad M cp] 29)) = W at HH HM2 ⊢
        generalize w2.heap.size = X at HH ⊢
        have hh := HH.out
        go_region_held3 (fun w' => w'.cell? ⟨X, 0, none⟩ = some (.int .i64 n) ∧ w'.cell? ⟨X, 1, none⟩ = some (.int .u64 T1) ∧ w'.cell? ⟨X, 2, none⟩ = some (.slice ad M cp) ∧ w'.cell? ⟨wr.heap.size, 1, none⟩ = some (.int .i64 A) ∧ w'.cell? ⟨wr.heap.size, 2, none⟩ = some (.int .u64 Od) ∧ w'.cell? ⟨wr.heap.size, 3, none⟩ = some (.int .u64 V) ∧
            Half w D R n T1 (.slice ad M cp) l wr.heap.size X (.int .u8 K) (.int .i64 A) (.int .u64 Od) (.int .u64 V) w')
          (first | exact hh.drew.cells | assumption | (go_split_ands; exact Half.cells (by assumption)) | (go_split_ands; exact (Half.set (by assumption) _ _ _).cells))
          ((go_at_call 12; refine (C2.out _ HM2.out.drew).mono ?_; rintro e w3 ⟨rfl, ho3, hm3⟩; have hh3 := (Half.of (by assumption)).only ho3; obtain ⟨y0, y1, y2, hy⟩ := hh3.ref; obtain ⟨e0, e1, e2, d0, d1, d2⟩ := hy.cell))
        have HFu := Lib.hid (hh3.full hm3 HAG1.out)
        clear hh hh3 hm3 ho3 hy e0 e1 e2 d0 d1 d2 y0 y1 y2 C2 HM2 HH
        have D1 := Lib.hid (fun W (h : Full w D R n T1 ws cs (.slice ad M cp) l wr.heap.size (.int .u8 K) (.int .i64 A) (.int .u64 Od) (.int .u64 V) W) => mTime_c D n T1 ws cs W h.st.mem)
        have D2 := Lib.hid (fun W (h : Full w D R n T1 ws cs (.slice ad M cp) l wr.heap.size (.int .u8 K) (.int .i64 A) (.int .u64 Od) (.int .u64 V) W) => mChanged_any D n T1 ws cs A hn W h.st.mem)
        have D3 := Lib.hid (fun W (h : Full w D R n T1 ws cs (.slice ad M cp) l wr.heap.size (.int .u8 K) (.int .i64 A) (.int .u64 Od) (.int .u64 V) W) => rmLast_c (R + 1) n T1 (.slice ad M cp) l (by omega) A W h.st.list.own)
        have D4 := Lib.hid (fun W (h : Full w D R n T1 ws cs (.slice ad M cp) l wr.heap.size (.int .u8 K) (.int .i64 A) (.int .u64 Od) (.int .u64 V) W) => mLen_c D n T1 ws cs W h.st.mem)
        rw [HAG1.out.time A] at D2
        obtain ⟨Y, hY⟩ : ∃ Y, Y = lastC l A := ⟨_, rfl⟩
        rw [← hY] at D2 D3
        unfold pm at D1 D2 D4
        unfold memV chV at D3
        clear hY
        go_wp2_with fail
        generalize (((w3.setCell ⟨R, 0, none⟩ (.int .i64 n)).setCell ⟨R, 1, none⟩ (.int .u64 T1)).setCell ⟨R, 2, none⟩ (.slice ad M cp)) = W5 at HFu ⊢
        have hf := HFu.out
        go_region_held3 (fun w' => w'.cell? ⟨wr.heap.size, 1, none⟩ = some (.int .i64 A) ∧ w'.cell? ⟨R, 0, none⟩ = some (.int .i64 n) ∧ w'.cell? ⟨R, 1, none⟩ = some (.int .u64 T1) ∧ w'.cell? ⟨R, 2, none⟩ = some (.slice ad M cp) ∧
            Full w D R n T1 ws cs (.slice ad M cp) l wr.heap.size (.int .u8 K) (.int .i64 A) (.int .u64 Od) (.int .u64 V) w')
          (first | exact hf.drew.cells | assumption | (go_split_ands; exact Full.cells (by assumption)))
          ((first
            | (go_at_call 17; refine (D1.out _ (Full.of (by assumption))).mono ?_; rintro e w' ⟨rfl, rfl⟩)
            | (go_at_call 18; refine (D2.out _ (Full.of (by assumption))).mono ?_; rintro e w' ⟨rfl, rfl⟩)
            | (go_at_call 19; refine (D3.out _ (Full.of (by assumption))).mono ?_; rintro e w5 ⟨rfl, hb5⟩; have hf5 := (Full.of (by assumption)).later hb5)
            | (go_at_call 20; refine (D4.out _ (Full.of (by assumption))).mono ?_; rintro e w' ⟨rfl, rfl⟩)))
        have HF6 := Lib.hid hf5.st
        clear hf hf5 hb5 D1 D2 D3 D4
        go_wp2_with fail
        go_roundw
        case rel => exact ⟨k + 1, T1, ws, cs, _, l, by omega, by go_num, by omega, by omega, HF6.out⟩
        case measure => simp [intOf]; omega
      · have z0 : ((K : Int) % 3 == 0) = false := by rw [beq_eq_false_iff_ne]; omega
        have z1 : ((K : Int) % 3 == 1) = true := by rw [beq_iff_eq]; omega
        have C1 := Lib.hid (fun W h hB => rmStore_any (R + 1) n T (.slice ad M cp) l (by omega) (by omega) A V W h hB)
        have C2 := Lib.hid (fun W h => mStore_any D n T ws cs A V hn (by omega) W h)
        have HAG1 := Lib.hid (HS.out.agree.store T A V)
        have hT1 : tick n T A ≤ k + 1 := Nat.le_trans (tick_le n T A) (by omega)
        have hL1 := storeL_len n T l A V
        generalize tick n T A = T1 at C1 C2 hT1
        generalize storeL n T l A V = l1 at C1 HAG1 hL1
        generalize updI n ws A V = ws1 at C2 HAG1
        generalize updI n cs A (T + 1) = cs1 at C2 HAG1
        have HM : Hid (MemAt (wr.alloc (.cells #[.int .u8 K, .int .i64 A, .int .u64 Od, .int .u64 V] 31)) D n T ws cs) := HF.out.st.mem
        unfold pm at C2
        unfold memV at C1
        clear HS h3
        go_wp2_with fail
        clear kc0 kc1 kc2 kc3 r0 r1 r2
        refine (C2.out _ HM.out).mono ?_
        rintro e w2 ⟨⟨u, rfl⟩, ho2, hm2⟩
        have HP2 := Lib.hid (HF.out.only hRO ho2)
        have HM2 := Lib.hid hm2
        obtain ⟨p0, p1, p2, p3⟩ := HP2.out.op.cell
        obtain ⟨r0, r1, r2, _, _, _⟩ := HP2.out.ref.cell
        clear ho2 hm2 HF HM C2
        go_wp2_with fail
        clear p0 p1 p2 p3 r0 r1 r2
        refine (C1.out _ HP2.out.list HP2.out.ref.lt).mono ?_
        rintro e w3 ⟨⟨v1, rfl, hl3⟩, hb3⟩
        obtain ⟨ad1, cp1, hv1⟩ := own_form hl3.own
        obtain ⟨M1, hM1⟩ : ∃ M1, M1 = l1.length := ⟨_, rfl⟩
        rw [← hM1] at hv1
        subst hv1
        have HP3 := Lib.hid (HP2.out.later hb3)
        have HFu := Lib.hid (HP3.out.fin hl3 (HM2.out.below hb3 HM2.out.lt) HAG1.out)
        obtain ⟨e0, e1, e2, d0, d1, d2⟩ := HP3.out.ref.cell
        clear hb3 hl3 C1 HP2 HM2 hM1
        go_wp2_with fail
        clear e0 e1 e2 d0 d1 d2
        have D1 := Lib.hid (fun W (h : Full w D R n T1 ws1 cs1 (.slice ad1 M1 cp1) l1 wr.heap.size (.int .u8 K) (.int .i64 A) (.int .u64 Od) (.int .u64 V) W) => mTime_c D n T1 ws1 cs1 W h.st.mem)
        have D2 := Lib.hid (fun W (h : Full w D R n T1 ws1 cs1 (.slice ad1 M1 cp1) l1 wr.heap.size (.int .u8 K) (.int .i64 A) (.int .u64 Od) (.int .u64 V) W) => mChanged_any D n T1 ws1 cs1 A hn W h.st.mem)
        have D3 := Lib.hid (fun W (h : Full w D R n T1 ws1 cs1 (.slice ad1 M1 cp1) l1 wr.heap.size (.int .u8 K) (.int .i64 A) (.int .u64 Od) (.int .u64 V) W) => rmLast_c (R + 1) n T1 (.slice ad1 M1 cp1) l1 (by omega) A W h.st.list.own)
        have D4 := Lib.hid (fun W (h : Full w D R n T1 ws1 cs1 (.slice ad1 M1 cp1) l1 wr.heap.size (.int .u8 K) (.int .i64 A) (.int .u64 Od) (.int .u64 V) W) => mLen_c D n T1 ws1 cs1 W h.st.mem)
        rw [HAG1.out.time A] at D2
        obtain ⟨Y, hY⟩ : ∃ Y, Y = lastC l1 A := ⟨_, rfl⟩
        rw [← hY] at D2 D3
        unfold pm at D1 D2 D4
        unfold memV chV at D3
        clear hY
        generalize (((w3.setCell ⟨R, 0, none⟩ (.int .i64 n)).setCell ⟨R, 1, none⟩ (.int .u64 T1)).setCell ⟨R, 2, none⟩ (.slice ad1 M1 cp1)) = W5 at HFu ⊢
        have hf := HFu.out
        go_region_held3 (fun w' => w'.cell? ⟨wr.heap.size, 1, none⟩ = some (.int .i64 A) ∧ w'.cell? ⟨R, 0, none⟩ = some (.int .i64 n) ∧ w'.cell? ⟨R, 1, none⟩ = some (.int .u64 T1) ∧ w'.cell? ⟨R, 2, none⟩ = some (.slice ad1 M1 cp1) ∧
            Full w D R n T1 ws1 cs1 (.slice ad1 M1 cp1) l1 wr.heap.size (.int .u8 K) (.int .i64 A) (.int .u64 Od) (.int .u64 V) w')
          (first | exact hf.drew.cells | assumption | (go_split_ands; exact Full.cells (by assumption)))
          ((first
            | (go_at_call 17; refine (D1.out _ (Full.of (by assumption))).mono ?_; rintro e w' ⟨rfl, rfl⟩)
            | (go_at_call 18; refine (D2.out _ (Full.of (by assumption))).mono ?_; rintro e w' ⟨rfl, rfl⟩)
            | (go_at_call 19; refine (D3.out _ (Full.of (by assumption))).mono ?_; rintro e w5 ⟨rfl, hb5⟩; have hf5 := (Full.of (by assumption)).later hb5)
            | (go_at_call 20; refine (D4.out _ (Full.of (by assumption))).mono ?_; rintro e w' ⟨rfl, rfl⟩)))
        have HF6 := Lib.hid hf5.st
        clear hf hf5 hb5 D1 D2 D3 D4
        go_wp2_with fail
        go_roundw
        case rel => exact ⟨k + 1, T1, ws1, cs1, _, l1, by omega, by go_num, by omega, by omega, HF6.out⟩
        case measure => simp [intOf]; omega
      · have z0 : ((K : Int) % 3 == 0) = false := by rw [beq_eq_false_iff_ne]; omega
        have z1 : ((K : Int) % 3 == 1) = false := by rw [beq_eq_false_iff_ne]; omega
        have z2 : ((K : Int) % 3 == 2) = true := by rw [beq_iff_eq]; omega
        have C1 := Lib.hid (fun W h hB => rmCas_any (R + 1) n T (.slice ad M cp) l ws cs (by omega) (by omega) A Od V W h hB HS.out.agree)
        have C2 := Lib.hid (fun W h => mCas_any D n T ws cs A Od V hn (by omega) W h)
        have HAG1 := Lib.hid (HS.out.agree.cas T A Od V)
        have hT1 : tick n T A ≤ k + 1 := Nat.le_trans (tick_le n T A) (by omega)
        have hL1 := casL_len n T ws l A Od V
        generalize tick n T A = T1 at C1 C2 hT1
        generalize casL n T ws l A Od V = l1 at C1 HAG1 hL1
        generalize casW n ws A Od V = ws1 at C2 HAG1
        generalize casC n T ws cs A Od = cs1 at C2 HAG1
        generalize casB n ws A Od = cb at C1 C2
        have HM : Hid (∀ W, Below wr.heap.size wr W → MemAt W D n T ws cs) := fun W h => HS.out.mem.below h HS.out.mem.lt
        have HDR : Hid (D < R) := HS.out.lt
        unfold pm at C2
        unfold memV at C1
        clear HS h3
        go_wp2_with fail
        clear kc0 kc1 kc2 kc3 r0 r1 r2
        refine (C1.out _ HF.out.st.list (Nat.succ_le_of_lt HF.out.st.ref.lt)).mono ?_
        rintro e w2 ⟨⟨v1, rfl, hl2⟩, hb2⟩
        obtain ⟨ad1, cp1, hv1⟩ := own_form hl2.own
        obtain ⟨M1, hM1⟩ : ∃ M1, M1 = l1.length := ⟨_, rfl⟩
        rw [← hM1] at hv1
        subst hv1
        have hF2 := HF.out.later hb2
        have HH : Hid (Half w D R n T1 (.slice ad1 M1 cp1) l1 wr.heap.size w2.heap.size (.int .u8 K) (.int .i64 A) (.int .u64 Od) (.int .u64 V) (w2.alloc (.cells #[.int .i64 n, .int .u64 T1, .slice ad1 M1 cp1] 29))) := by
          have h := hF2.later (alloc_below (.cells #[.int .i64 n, .int .u64 T1, .slice ad1 M1 cp1] 29))
          exact ⟨h.st.below, ⟨_, _, _, h.st.ref⟩, hl2.below (alloc_below _), h.op, Tri.new _ _ _ _ _, HDR.out, hRO, hF2.st.ref.lt⟩
        have HM2 : Hid (MemAt (w2.alloc (.cells #[.int .i64 n, .int .u64 T1, .slice ad1 M1 cp1] 29)) D n T ws cs) :=
          hF2.st.mem.below (alloc_below _) hF2.st.mem.lt
        clear hF2 HF HM C1 hl2 hb2 hM1
        go_wp2_with fail
        generalize (w2.alloc (.cells #[.int .i64 n, .int .u64 T1, .slice ad1 M1 cp1] 29)) = W at HH HM2 ⊢
        generalize w2.heap.size = X at HH ⊢
        have hh := HH.out
        go_region_held3 (fun w' => w'.cell? ⟨X, 0, none⟩ = some (.int .i64 n) ∧ w'.cell? ⟨X, 1, none⟩ = some (.int .u64 T1) ∧ w'.cell? ⟨X, 2, none⟩ = some (.slice ad1 M1 cp1) ∧ w'.cell? ⟨wr.heap.size, 1, none⟩ = some (.int .i64 A) ∧ w'.cell? ⟨wr.heap.size, 2, none⟩ = some (.int .u64 Od) ∧ w'.cell? ⟨wr.heap.size, 3, none⟩ = some (.int .u64 V) ∧
            Half w D R n T1 (.slice ad1 M1 cp1) l1 wr.heap.size X (.int .u8 K) (.int .i64 A) (.int .u64 Od) (.int .u64 V) w')
          (first | exact hh.drew.cells | assumption | (go_split_ands; exact Half.cells (by assumption)) | (go_split_ands; exact (Half.set (by assumption) _ _ _).cells))
          ((go_at_call 16; refine (C2.out _ HM2.out.drew).mono ?_; rintro e w3 ⟨rfl, ho3, hm3⟩; have hh3 := (Half.of (by assumption)).only ho3; obtain ⟨y0, y1, y2, hy⟩ := hh3.ref; obtain ⟨e0, e1, e2, d0, d1, d2⟩ := hy.cell))
        have HFu := Lib.hid (hh3.full hm3 HAG1.out)
        clear hh hh3 hm3 ho3 hy e0 e1 e2 d0 d1 d2 y0 y1 y2 C2 HM2 HH
        have D1 := Lib.hid (fun W (h : Full w D R n T1 ws1 cs1 (.slice ad1 M1 cp1) l1 wr.heap.size (.int .u8 K) (.int .i64 A) (.int .u64 Od) (.int .u64 V) W) => mTime_c D n T1 ws1 cs1 W h.st.mem)
        have D2 := Lib.hid (fun W (h : Full w D R n T1 ws1 cs1 (.slice ad1 M1 cp1) l1 wr.heap.size (.int .u8 K) (.int .i64 A) (.int .u64 Od) (.int .u64 V) W) => mChanged_any D n T1 ws1 cs1 A hn W h.st.mem)
        have D3 := Lib.hid (fun W (h : Full w D R n T1 ws1 cs1 (.slice ad1 M1 cp1) l1 wr.heap.size (.int .u8 K) (.int .i64 A) (.int .u64 Od) (.int .u64 V) W) => rmLast_c (R + 1) n T1 (.slice ad1 M1 cp1) l1 (by omega) A W h.st.list.own)
        have D4 := Lib.hid (fun W (h : Full w D R n T1 ws1 cs1 (.slice ad1 M1 cp1) l1 wr.heap.size (.int .u8 K) (.int .i64 A) (.int .u64 Od) (.int .u64 V) W) => mLen_c D n T1 ws1 cs1 W h.st.mem)
        rw [HAG1.out.time A] at D2
        obtain ⟨Y, hY⟩ : ∃ Y, Y = lastC l1 A := ⟨_, rfl⟩
        rw [← hY] at D2 D3
        unfold pm at D1 D2 D4
        unfold memV chV at D3
        clear hY
        go_wp2_with fail
        generalize (((w3.setCell ⟨R, 0, none⟩ (.int .i64 n)).setCell ⟨R, 1, none⟩ (.int .u64 T1)).setCell ⟨R, 2, none⟩ (.slice ad1 M1 cp1)) = W5 at HFu ⊢
        have hf := HFu.out
        go_region_held3 (fun w' => w'.cell? ⟨wr.heap.size, 1, none⟩ = some (.int .i64 A) ∧ w'.cell? ⟨R, 0, none⟩ = some (.int .i64 n) ∧ w'.cell? ⟨R, 1, none⟩ = some (.int .u64 T1) ∧ w'.cell? ⟨R, 2, none⟩ = some (.slice ad1 M1 cp1) ∧
            Full w D R n T1 ws1 cs1 (.slice ad1 M1 cp1) l1 wr.heap.size (.int .u8 K) (.int .i64 A) (.int .u64 Od) (.int .u64 V) w')
          (first | exact hf.drew.cells | assumption | (go_split_ands; exact Full.cells (by assumption)))
          ((first
            | (go_at_call 17; refine (D1.out _ (Full.of (by assumption))).mono ?_; rintro e w' ⟨rfl, rfl⟩)
            | (go_at_call 18; refine (D2.out _ (Full.of (by assumption))).mono ?_; rintro e w' ⟨rfl, rfl⟩)
            | (go_at_call 19; refine (D3.out _ (Full.of (by assumption))).mono ?_; rintro e w5 ⟨rfl, hb5⟩; have hf5 := (Full.of (by assumption)).later hb5)
            | (go_at_call 20; refine (D4.out _ (Full.of (by assumption))).mono ?_; rintro e w' ⟨rfl, rfl⟩)))
        have HF6 := Lib.hid hf5.st
        clear hf hf5 hb5 D1 D2 D3 D4
        go_wp2_with fail
        go_roundw
        case rel => exact ⟨k + 1, T1, ws1, cs1, _, l1, by omega, by go_num, by omega, by omega, HF6.out⟩
        case measure => simp [intOf]; omega
    · obtain rfl : k = N := by omega
      have hS := HS.out.below
      go_wp2_with fail
      refine (awake3_c _).mono ?_
      rintro e w5 ⟨rfl, hb5⟩
      have HB : Hid (Below D w w5) := hS.trans (hb5.mono (Nat.le_of_lt HS.out.mem.lt))
      clear hS hb5
      go_wp2_with fail
      go_ret
      exact ⟨rfl, HB.out⟩
end Go.Proofs.Ytmfpfebnlflfiab

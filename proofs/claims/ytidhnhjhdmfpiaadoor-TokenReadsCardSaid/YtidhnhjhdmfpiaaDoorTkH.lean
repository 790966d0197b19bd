/-
  All bytes that are so, asked of both readers: contract; what no reader is asked.
-/
import Derived.Test.YtidhnhjhdmfpiaaDoorTkG
set_option linter.unusedVariables false
set_option linter.unusedSimpArgs false
namespace Go.Proofs.YtidhnhjhdmfpiaaDoor
open Go Go.RowKit
variable {W : World} {gr gd D : Nat} {s : RS} {S : List UInt8}

theorem tw_all {c : UInt8} (l : List UInt8) {k : Nat} (hk : k < (l.takeWhile (· == c)).length) : (l.takeWhile (· == c))[k] = c := by
  have h := List.all_takeWhile (p := (· == c)) (l := l)
  rw [List.all_eq_true] at h
  have := h _ (List.getElem_mem hk)
  simpa using this
theorem tw_get {c : UInt8} (l : List UInt8) {k : Nat} (hk : k < (l.takeWhile (· == c)).length) : (l.drop k).head? = some c := by
  have h1 := tw_all l hk
  have h2 := (List.takeWhile_prefix (l := l) (· == c)).getElem hk
  rw [List.head?_drop, List.getElem?_eq_getElem (Nat.lt_of_lt_of_le hk (tw_le l)), ← h2, h1]
theorem tw_stop {c : UInt8} : ∀ l : List UInt8, (l.drop (l.takeWhile (· == c)).length).head? ≠ some c
  | [] => by simp
  | x :: r => by
    rw [List.takeWhile_cons]
    split
    · rw [List.length_cons, List.drop_succ_cons]; exact tw_stop r
    · rename_i h
      intro e
      apply h
      simp at e
      simp [e]
theorem DRS.next {s : RS} {c : UInt8} (h : DRS W gd S s) (hh : s.l.head? = some c) : ∃ a, DR W gd S a false ∧ a + 1 ≤ S.length ∧ (⟨s.l.drop 1, s.f⟩ : RS) = dS S (a + 1) false := by
  have hf : s.f = false := by
    cases hf : s.f with
    | false => rfl
    | true => rw [h.ok hf] at hh; cases hh
  obtain ⟨a, h1, h2, h3⟩ := h.at hf
  refine ⟨a, h1, ?_, ?_⟩
  · rcases Nat.lt_or_ge a S.length with h | h
    · exact h
    · rw [h3, List.drop_of_length_le h] at hh; cases hh
  · rw [dS_drop, ← h3, hf]

set_option maxRecDepth 100000 in
set_option maxHeartbeats 4000000 in
theorem askN7_c (h : Two D S W W gr gd s) (hS : S.length ≤ 100000) (hDr : D ≤ gr) (hDd : D ≤ gd) (hDW : D ≤ W.heap.size) (hne : gr ≠ gd) (x : List UInt8) (hx : x.length ≤ 20) :
    Calls Tryd.prog 6 #[pt gr, pt gd, .agg #[.int .u8 7, .string (txt x)]] W (AskP D S W gr gd (skipS (fun y => y == x.headD 32) s)) := by
  have awr : Away gr := ⟨by have := h.e.1; omega, by have := h.e.2.1; omega⟩
  have hok := h.d.ok
  have hle := h.d.le
  have hx20 := Lib.hid hx
  have e1 := txt_size x
  have e0 := isEmpty_txt' x
  obtain ⟨X, hX⟩ : ∃ X, txt x = X := ⟨_, rfl⟩
  rw [hX] at e1 e0 ⊢
  obtain ⟨M, hM⟩ : ∃ M, x.length = M := ⟨_, rfl⟩
  rw [hM] at e1 hx
  cases hxe : x with
  | nil =>
    rw [hxe] at e0 hM
    have e0 : X.toList.isEmpty = true := e0
    rw [show ([] : List UInt8).headD 32 = 32 from rfl]
    obtain ⟨P1, D1, B1, A1, F1⟩ := ask_world h.p h.d #[.int .u8 7, .string X] #[.int .u8 32] 29 5
    obtain ⟨w1, hw1⟩ : ∃ w1, (W.alloc (.cells #[.int .u8 7, .string X] 29)).alloc (.cells #[.int .u8 32] 5) = w1 := ⟨_, rfl⟩
    rw [hw1] at P1 D1 B1 A1 F1
    have hT : Two D S W w1 gr gd s := ⟨P1, D1, B1.mono hDW, errs_belowD h.e (B1.mono hDW)⟩
    have HT := Lib.hid hT
    have HW1 := Lib.hid hw1
    have HA1 := Lib.hid A1
    have HF1 := Lib.hid F1
    have CP := tkWhile1_c (pt (W.heap.size + 1)) (fun x => x == 32) (fun n x hx => asked1_c (W.heap.size + 1) 32 32 rfl n x hx w1 F1) hT.p hok (by have := hle; omega)
    have CD : ∀ w t, DRS w gd S t → Calls Tryd.prog 26 #[pt gd, .int .u8 32] w fun e w' => e = .returned (.bool (nextB t 32)) ∧ ∃ m, w' = w.drewN m := fun w t hw => rtNext_c hw 32 32 rfl
    have htall := @tw_all 32 s.l
    have htget := @tw_get 32 s.l
    have htstop := tw_stop (c := 32) s.l
    have htd := (tw_take (p := fun x => x == 32) s.l).2
    have e9 := txt_size (s.l.takeWhile (fun x => x == 32))
    obtain ⟨TW, hTW⟩ : ∃ TW, s.l.takeWhile (fun x => x == 32) = TW := ⟨_, rfl⟩
    rw [hTW] at CP htall htget htstop htd e9
    obtain ⟨K, hK⟩ : ∃ K, TW.length = K := ⟨_, rfl⟩
    rw [hK] at htstop htd e9
    have hKS : K ≤ 100000 := by
      have h1 := tw_le (p := fun x => x == 32) s.l
      rw [hTW, hK] at h1
      omega
    obtain ⟨G, hG⟩ : ∃ G, txt TW = G := ⟨_, rfl⟩
    rw [hG] at CP e9
    have hall : ∀ k (hk : k < G.size), G[k] = 32 := fun k hk => by
      subst hG
      rw [at_txt (by rw [txt_size] at hk; exact hk)]
      exact htall (by rw [txt_size] at hk; exact hk)
    have CP := Lib.hid CP
    have CD := Lib.hid CD
    have HGET : Hid (∀ k, k < K → (s.l.drop k).head? = some 32) := fun k hk => htget (by rw [hK]; exact hk)
    have HSTOP := Lib.hid htstop
    have HTD := Lib.hid htd
    have HALL := Lib.hid hall
    have k1 := F1.cell (i := 0) rfl
    have k2 := F1.lt
    have hgr : W.heap.size + 1 ≠ gr := by have := Cells.lt h.p; omega
    have hgd : W.heap.size + 1 ≠ gd := by have := h.d.lt; omega
    clear h P1 D1 B1 hT hw1 hX hxe hM hok htall htget htstop htd hTW hK hG hall HA1
    go_enter Tryd.func6, Tryd.ntmps6
    go_wp2_with fail
    rw [HW1.out]
    refine CP.out.mono ?_
    rintro e w2 ⟨rfl, h2, k2'⟩
    have hps := HT.out.pstep h2 k2' hDr hDW hne
    have HPS := Lib.hid hps
    have H2 := Lib.hid h2
    have k3 : w2.cell? ⟨W.heap.size + 1, 0, none⟩ = some (.int .u8 32) := (cell_same (k2'.blk _ k2 hgr)).trans k1
    have k4 : W.heap.size + 1 < w2.heap.size := Nat.lt_of_lt_of_le k2 k2'.size
    clear h2 k2' hps k1 k2
    go_wp2_with fail
    go_loopw [9] (fun nv wr => ∃ j : Nat, nv = .int .i64 j ∧ j ≤ K ∧ Hid (DRS wr gd S ⟨s.l.drop j, s.f⟩) ∧ Hid (Tk gd w2 wr)) (fun nv _ => K + 1 - (intOf nv).toNat)
    case atStart => exact ⟨0, rfl, Nat.zero_le _, HPS.out.1, Tk.refl _ _⟩
    case round =>
      obtain ⟨j, rfl, hj, HD, HK⟩ := hrel
      have k5 : wr.cell? ⟨W.heap.size + 1, 0, none⟩ = some (.int .u8 32) := (cell_same (HK.out.blk _ k4 hgd)).trans k3
      have k6 : W.heap.size + 1 < wr.heap.size := Nat.lt_of_lt_of_le k4 HK.out.size
      have CN := CD.out wr _ HD.out
      unfold nextB at CN
      dsimp only at CN
      by_cases hlt : j < K
      · have hh := HGET.out j hlt
        rw [hh, show (some (32 : UInt8) == some 32) = true by simp] at CN
        have CN := Lib.hid CN
        have HH := Lib.hid hh
        clear hh
        go_wp2_with fail
        refine CN.out.mono ?_
        rintro e w3 ⟨rfl, m, hm⟩
        have hd3 : DRS w3 gd S ⟨s.l.drop j, s.f⟩ := by rw [hm]; exact HD.out
        have hk3 : Tk gd w2 w3 := by rw [hm]; exact HK.out.drewN _
        obtain ⟨a, hDa, ha, hst⟩ := hd3.next HH.out
        dsimp only at hst
        rw [List.drop_drop] at hst
        obtain ⟨c0', c1', c2', hb', f1', f2'⟩ := hDa.facts
        have HN : Hid (DRS (w3.setCell ⟨gd, 1, none⟩ (.int .i64 ((a : Int) + 1))) gd S ⟨s.l.drop (j + 1), s.f⟩) := ⟨a + 1, false, hDa.set1 _ _ (by omega), ha, hst.symm⟩
        have HKN : Hid (Tk gd w2 (w3.setCell ⟨gd, 1, none⟩ (.int .i64 ((a : Int) + 1)))) := hk3.trans (Tk.set _ _ _)
        have ha9 : (a : Int) + 1 ≤ 100000 := by omega
        clear hd3 hk3 hDa hst hm c0' c2' f2' k5 k6
        go_wp2_with fail
        go_roundw
        case rel => exact ⟨j + 1, by go_num, by omega, HN.out, HKN.out⟩
        case measure => simp [intOf]; omega
      · obtain rfl : j = K := by omega
        rw [show ((s.l.drop j).head? == some 32) = false by rw [beq_eq_false_iff_ne]; exact HSTOP.out] at CN
        have CN := Lib.hid CN
        go_wp2_with fail
        refine CN.out.mono ?_
        rintro e w3 ⟨rfl, m, hm⟩
        have hd3 : DRS w3 gd S (skipS (fun x => x == 32) s) := by
          rw [hm]
          have h9 := HD.out
          rw [HTD.out] at h9
          exact h9
        have hk3 : Tk gd w2 w3 := by rw [hm]; exact HK.out.drewN _
        have H3 := Lib.hid (Two.dstep (t := s) H2.out HPS.out.2.1 HPS.out.2.2 hd3 hk3 hDd hDW hne)
        have k7 : w3.cell? ⟨W.heap.size + 1, 0, none⟩ = some (.int .u8 32) := (cell_same (hk3.blk _ k4 hgd)).trans k3
        have k8 : W.heap.size + 1 < w3.heap.size := Nat.lt_of_lt_of_le k4 hk3.size
        clear hd3 hk3 hm k5 k6 CN HD HK
        go_wp2_with fail
        go_loopw [10] (fun iv w4 => ∃ i : Nat, iv = .int .i64 i ∧ i ≤ j ∧ Hid (∃ n, w4 = w3.drewN n)) (fun iv _ => j - (intOf iv).toNat)
        case atStart => exact ⟨0, rfl, Nat.zero_le _, 0, rfl⟩
        case round =>
          obtain ⟨i, rfl, hi, HW4⟩ := hrel
          obtain ⟨n4, rfl⟩ := HW4.out
          by_cases hlt2 : i < j
          · have hq : (i : Int) < j := by omega
            have hq0 : (0 : Int) ≤ i := by omega
            have hiG : i < G.size := by omega
            have hc9 : G[i].toNat < 256 := G[i].toNat_lt
            have hc8 : (G[i].toNat : Int) = 32 := by rw [HALL.out i hiG]; first | done | rfl
            have hc7 : ((G[i].toNat : Int) != 32) = false := by rw [hc8]; exact bne_self_eq_false _
            go_wp2_with fail
            go_quiet (fail)
            go_wp2_with fail
            go_roundw
            case rel => exact ⟨i + 1, by go_num, by omega, n4 + nq, by first | rfl | rw [World.drewN_drewN]⟩
            case measure => simp [intOf]; omega
          · obtain rfl : i = j := by omega
            have hq : ¬ (i : Int) < i := by omega
            go_wp2_with fail
            go_ret
            exact ⟨rfl, H3.out.p, H3.out.d, below_drewN H3.out.b _, H3.out.e⟩
  | cons c0 cr =>
    rw [hxe] at e0 hM
    have e0 : X.toList.isEmpty = false := e0
    have hsz : 0 < X.size := by rw [e1, ← hM]; simp
    have hq1 : (0 : Int) < X.size := by omega
    have hc1 : X[0].toNat < 256 := X[0].toNat_lt
    have hc0 : X[0] = c0 := by
      have h9 := hX
      rw [hxe] at h9
      subst h9
      exact at_txt (by simp)
    rw [show (c0 :: cr).headD 32 = X[0] from hc0.symm]
    clear hc0
    obtain ⟨P1, D1, B1, A1, F1⟩ := ask_world h.p h.d #[.int .u8 7, .string X] #[.int .u8 X[0].toNat] 29 5
    obtain ⟨w1, hw1⟩ : ∃ w1, (W.alloc (.cells #[.int .u8 7, .string X] 29)).alloc (.cells #[.int .u8 X[0].toNat] 5) = w1 := ⟨_, rfl⟩
    rw [hw1] at P1 D1 B1 A1 F1
    have hT : Two D S W w1 gr gd s := ⟨P1, D1, B1.mono hDW, errs_belowD h.e (B1.mono hDW)⟩
    have HT := Lib.hid hT
    have HW1 := Lib.hid hw1
    have HA1 := Lib.hid A1
    have HF1 := Lib.hid F1
    have CP := tkWhile1_c (pt (W.heap.size + 1)) (fun x => x == X[0]) (fun n x hx => asked1_c (W.heap.size + 1) X[0].toNat X[0] rfl n x hx w1 F1) hT.p hok (by have := hle; omega)
    have CD : ∀ w t, DRS w gd S t → Calls Tryd.prog 26 #[pt gd, .int .u8 X[0].toNat] w fun e w' => e = .returned (.bool (nextB t X[0])) ∧ ∃ m, w' = w.drewN m := fun w t hw => rtNext_c hw X[0].toNat X[0] rfl
    have htall := @tw_all X[0] s.l
    have htget := @tw_get X[0] s.l
    have htstop := tw_stop (c := X[0]) s.l
    have htd := (tw_take (p := fun x => x == X[0]) s.l).2
    have e9 := txt_size (s.l.takeWhile (fun x => x == X[0]))
    obtain ⟨TW, hTW⟩ : ∃ TW, s.l.takeWhile (fun x => x == X[0]) = TW := ⟨_, rfl⟩
    rw [hTW] at CP htall htget htstop htd e9
    obtain ⟨K, hK⟩ : ∃ K, TW.length = K := ⟨_, rfl⟩
    rw [hK] at htstop htd e9
    have hKS : K ≤ 100000 := by
      have h1 := tw_le (p := fun x => x == X[0]) s.l
      rw [hTW, hK] at h1
      omega
    obtain ⟨G, hG⟩ : ∃ G, txt TW = G := ⟨_, rfl⟩
    rw [hG] at CP e9
    have hall : ∀ k (hk : k < G.size), G[k] = X[0] := fun k hk => by
      subst hG
      rw [at_txt (by rw [txt_size] at hk; exact hk)]
      exact htall (by rw [txt_size] at hk; exact hk)
    have CP := Lib.hid CP
    have CD := Lib.hid CD
    have HGET : Hid (∀ k, k < K → (s.l.drop k).head? = some X[0]) := fun k hk => htget (by rw [hK]; exact hk)
    have HSTOP := Lib.hid htstop
    have HTD := Lib.hid htd
    have HALL := Lib.hid hall
    have k1 := F1.cell (i := 0) rfl
    have k2 := F1.lt
    have hgr : W.heap.size + 1 ≠ gr := by have := Cells.lt h.p; omega
    have hgd : W.heap.size + 1 ≠ gd := by have := h.d.lt; omega
    clear h P1 D1 B1 hT hw1 hX hxe hM hok htall htget htstop htd hTW hK hG hall HA1
    go_enter Tryd.func6, Tryd.ntmps6
    go_wp2_with fail
    rw [HW1.out]
    refine CP.out.mono ?_
    rintro e w2 ⟨rfl, h2, k2'⟩
    have hps := HT.out.pstep h2 k2' hDr hDW hne
    have HPS := Lib.hid hps
    have H2 := Lib.hid h2
    have k3 : w2.cell? ⟨W.heap.size + 1, 0, none⟩ = some (.int .u8 X[0].toNat) := (cell_same (k2'.blk _ k2 hgr)).trans k1
    have k4 : W.heap.size + 1 < w2.heap.size := Nat.lt_of_lt_of_le k2 k2'.size
    clear h2 k2' hps k1 k2
    go_wp2_with fail
    go_loopw [9] (fun nv wr => ∃ j : Nat, nv = .int .i64 j ∧ j ≤ K ∧ Hid (DRS wr gd S ⟨s.l.drop j, s.f⟩) ∧ Hid (Tk gd w2 wr)) (fun nv _ => K + 1 - (intOf nv).toNat)
    case atStart => exact ⟨0, rfl, Nat.zero_le _, HPS.out.1, Tk.refl _ _⟩
    case round =>
      obtain ⟨j, rfl, hj, HD, HK⟩ := hrel
      have k5 : wr.cell? ⟨W.heap.size + 1, 0, none⟩ = some (.int .u8 X[0].toNat) := (cell_same (HK.out.blk _ k4 hgd)).trans k3
      have k6 : W.heap.size + 1 < wr.heap.size := Nat.lt_of_lt_of_le k4 HK.out.size
      have CN := CD.out wr _ HD.out
      unfold nextB at CN
      dsimp only at CN
      by_cases hlt : j < K
      · have hh := HGET.out j hlt
        rw [hh, show (some (X[0] : UInt8) == some X[0]) = true by simp] at CN
        have CN := Lib.hid CN
        have HH := Lib.hid hh
        clear hh
        go_wp2_with fail
        refine CN.out.mono ?_
        rintro e w3 ⟨rfl, m, hm⟩
        have hd3 : DRS w3 gd S ⟨s.l.drop j, s.f⟩ := by rw [hm]; exact HD.out
        have hk3 : Tk gd w2 w3 := by rw [hm]; exact HK.out.drewN _
        obtain ⟨a, hDa, ha, hst⟩ := hd3.next HH.out
        dsimp only at hst
        rw [List.drop_drop] at hst
        obtain ⟨c0', c1', c2', hb', f1', f2'⟩ := hDa.facts
        have HN : Hid (DRS (w3.setCell ⟨gd, 1, none⟩ (.int .i64 ((a : Int) + 1))) gd S ⟨s.l.drop (j + 1), s.f⟩) := ⟨a + 1, false, hDa.set1 _ _ (by omega), ha, hst.symm⟩
        have HKN : Hid (Tk gd w2 (w3.setCell ⟨gd, 1, none⟩ (.int .i64 ((a : Int) + 1)))) := hk3.trans (Tk.set _ _ _)
        have ha9 : (a : Int) + 1 ≤ 100000 := by omega
        clear hd3 hk3 hDa hst hm c0' c2' f2' k5 k6
        go_wp2_with fail
        go_roundw
        case rel => exact ⟨j + 1, by go_num, by omega, HN.out, HKN.out⟩
        case measure => simp [intOf]; omega
      · obtain rfl : j = K := by omega
        rw [show ((s.l.drop j).head? == some X[0]) = false by rw [beq_eq_false_iff_ne]; exact HSTOP.out] at CN
        have CN := Lib.hid CN
        go_wp2_with fail
        refine CN.out.mono ?_
        rintro e w3 ⟨rfl, m, hm⟩
        have hd3 : DRS w3 gd S (skipS (fun x => x == X[0]) s) := by
          rw [hm]
          have h9 := HD.out
          rw [HTD.out] at h9
          exact h9
        have hk3 : Tk gd w2 w3 := by rw [hm]; exact HK.out.drewN _
        have H3 := Lib.hid (Two.dstep (t := s) H2.out HPS.out.2.1 HPS.out.2.2 hd3 hk3 hDd hDW hne)
        have k7 : w3.cell? ⟨W.heap.size + 1, 0, none⟩ = some (.int .u8 X[0].toNat) := (cell_same (hk3.blk _ k4 hgd)).trans k3
        have k8 : W.heap.size + 1 < w3.heap.size := Nat.lt_of_lt_of_le k4 hk3.size
        clear hd3 hk3 hm k5 k6 CN HD HK
        go_wp2_with fail
        go_loopw [10] (fun iv w4 => ∃ i : Nat, iv = .int .i64 i ∧ i ≤ j ∧ Hid (∃ n, w4 = w3.drewN n)) (fun iv _ => j - (intOf iv).toNat)
        case atStart => exact ⟨0, rfl, Nat.zero_le _, 0, rfl⟩
        case round =>
          obtain ⟨i, rfl, hi, HW4⟩ := hrel
          obtain ⟨n4, rfl⟩ := HW4.out
          by_cases hlt2 : i < j
          · have hq : (i : Int) < j := by omega
            have hq0 : (0 : Int) ≤ i := by omega
            have hiG : i < G.size := by omega
            have hc9 : G[i].toNat < 256 := G[i].toNat_lt
            have hc8 : (G[i].toNat : Int) = X[0].toNat := by rw [HALL.out i hiG]; first | done | rfl
            have hc7 : ((G[i].toNat : Int) != X[0].toNat) = false := by rw [hc8]; exact bne_self_eq_false _
            go_wp2_with fail
            go_quiet (fail)
            go_wp2_with fail
            go_roundw
            case rel => exact ⟨i + 1, by go_num, by omega, n4 + nq, by first | rfl | rw [World.drewN_drewN]⟩
            case measure => simp [intOf]; omega
          · obtain rfl : i = j := by omega
            have hq : ¬ (i : Int) < i := by omega
            go_wp2_with fail
            go_ret
            exact ⟨rfl, H3.out.p, H3.out.d, below_drewN H3.out.b _, H3.out.e⟩
set_option maxRecDepth 100000 in
set_option maxHeartbeats 4000000 in
theorem askNx_c (d : Nat) (hd8 : 8 < d) (hd9 : d < 256) (h : Two D S W W gr gd s) (hS : S.length ≤ 100000) (hDr : D ≤ gr) (hDd : D ≤ gd) (hDW : D ≤ W.heap.size) (hne : gr ≠ gd) (x : List UInt8) (hx : x.length ≤ 20) :
    Calls Tryd.prog 6 #[pt gr, pt gd, .agg #[.int .u8 d, .string (txt x)]] W (AskP D S W gr gd (s)) := by
  have awr : Away gr := ⟨by have := h.e.1; omega, by have := h.e.2.1; omega⟩
  have hok := h.d.ok
  have hle := h.d.le
  have hx20 := Lib.hid hx
  have e1 := txt_size x
  have e0 := isEmpty_txt' x
  have n0 : ((d : Int) == 0) = false := by rw [beq_eq_false_iff_ne]; omega
  have n1 : ((d : Int) == 1) = false := by rw [beq_eq_false_iff_ne]; omega
  have n2 : ((d : Int) == 2) = false := by rw [beq_eq_false_iff_ne]; omega
  have n3 : ((d : Int) == 3) = false := by rw [beq_eq_false_iff_ne]; omega
  have n4 : ((d : Int) == 4) = false := by rw [beq_eq_false_iff_ne]; omega
  have n5 : ((d : Int) == 5) = false := by rw [beq_eq_false_iff_ne]; omega
  have n6 : ((d : Int) == 6) = false := by rw [beq_eq_false_iff_ne]; omega
  have n7 : ((d : Int) == 7) = false := by rw [beq_eq_false_iff_ne]; omega
  have n8 : ((d : Int) == 8) = false := by rw [beq_eq_false_iff_ne]; omega
  obtain ⟨X, hX⟩ : ∃ X, txt x = X := ⟨_, rfl⟩
  rw [hX] at e1 e0 ⊢
  obtain ⟨M, hM⟩ : ∃ M, x.length = M := ⟨_, rfl⟩
  rw [hM] at e1 hx
  cases hxe : x with
  | nil =>
    rw [hxe] at e0 hM
    have e0 : X.toList.isEmpty = true := e0
    obtain ⟨P1, D1, B1, A1, F1⟩ := ask_world h.p h.d #[.int .u8 d, .string X] #[.int .u8 32] 29 5
    obtain ⟨w1, hw1⟩ : ∃ w1, (W.alloc (.cells #[.int .u8 d, .string X] 29)).alloc (.cells #[.int .u8 32] 5) = w1 := ⟨_, rfl⟩
    rw [hw1] at P1 D1 B1 A1 F1
    have hT : Two D S W w1 gr gd s := ⟨P1, D1, B1.mono hDW, errs_belowD h.e (B1.mono hDW)⟩
    have HT := Lib.hid hT
    have HW1 := Lib.hid hw1
    have HA1 := Lib.hid A1
    have HF1 := Lib.hid F1
    clear h P1 D1 B1 A1 F1 hT hw1 hX hxe hM hok
    go_enter Tryd.func6, Tryd.ntmps6
    go_wp2_with fail
    rw [HW1.out]
    go_ret
    exact ⟨rfl, HT.out⟩
  | cons c0 cr =>
    rw [hxe] at e0 hM
    have e0 : X.toList.isEmpty = false := e0
    have hsz : 0 < X.size := by rw [e1, ← hM]; simp
    have hq1 : (0 : Int) < X.size := by omega
    have hc1 : X[0].toNat < 256 := X[0].toNat_lt
    obtain ⟨P1, D1, B1, A1, F1⟩ := ask_world h.p h.d #[.int .u8 d, .string X] #[.int .u8 X[0].toNat] 29 5
    obtain ⟨w1, hw1⟩ : ∃ w1, (W.alloc (.cells #[.int .u8 d, .string X] 29)).alloc (.cells #[.int .u8 X[0].toNat] 5) = w1 := ⟨_, rfl⟩
    rw [hw1] at P1 D1 B1 A1 F1
    have hT : Two D S W w1 gr gd s := ⟨P1, D1, B1.mono hDW, errs_belowD h.e (B1.mono hDW)⟩
    have HT := Lib.hid hT
    have HW1 := Lib.hid hw1
    have HA1 := Lib.hid A1
    have HF1 := Lib.hid F1
    clear h P1 D1 B1 A1 F1 hT hw1 hX hxe hM hok
    go_enter Tryd.func6, Tryd.ntmps6
    go_wp2_with fail
    rw [HW1.out]
    go_ret
    exact ⟨rfl, HT.out⟩
end Go.Proofs.YtidhnhjhdmfpiaaDoor

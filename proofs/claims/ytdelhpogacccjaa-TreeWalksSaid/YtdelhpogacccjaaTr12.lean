/-
  Select of a tree.
-/
import Derived.Test.YtdelhpogacccjaaTr11
import Derived.WalkMore
set_option linter.unusedVariables false
set_option linter.unusedSimpArgs false
namespace Go.Proofs.Ytdelhpogacccjaa
open Go Go.RowKit

variable {W W' : World} {v : Value} {ns : List TN}
/-- The message in a place. -/
def selOf (l : List R7) (k : Int) : R7 × Bool := if k < 0 then (noR, false) else match l[k.toNat]? with | none => (noR, false) | some r => (r, true)
def kidsL (n : TN) : List Value := [.int .i64 (n.kids 0), .int .i64 (n.kids 1), .int .i64 (n.kids 2), .int .i64 (n.kids 3), .int .i64 (n.kids 4), .int .i64 (n.kids 5), .int .i64 (n.kids 6), .int .i64 (n.kids 7),
  .int .i64 (n.kids 8), .int .i64 (n.kids 9), .int .i64 (n.kids 10), .int .i64 (n.kids 11), .int .i64 (n.kids 12), .int .i64 (n.kids 13), .int .i64 (n.kids 14), .int .i64 (n.kids 15)]
theorem kids_index (n : TN) (d : Nat) (hd : d < 16) (w : World) : (Instr.index 36 (.agg (kidsL n).toArray) (.int .i64 d)).run Try.prog w = .ok (.int .i64 (n.kids d)) w := by
  have : d = 0 ∨ d = 1 ∨ d = 2 ∨ d = 3 ∨ d = 4 ∨ d = 5 ∨ d = 6 ∨ d = 7 ∨ d = 8 ∨ d = 9 ∨ d = 10 ∨ d = 11 ∨ d = 12 ∨ d = 13 ∨ d = 14 ∨ d = 15 := by omega
  rcases this with rfl | rfl | rfl | rfl | rfl | rfl | rfl | rfl | rfl | rfl | rfl | rfl | rfl | rfl | rfl | rfl <;> (show _ = _) <;> kernel_rfl
theorem sizeKids : (Try.prog.info? 36).map (·.size) = some 16 := by kernel_rfl
theorem kids_range {w : World} {B : Nat} {n : TN} (h : w.heap[B]? = some (.cells (nodeA n) 45 (0, 0))) : w.rangeAt B 2 (kidsL n) := fun j u hj => by
  have hl : j < 16 := by have := (List.getElem?_eq_some_iff.1 hj).1; simpa [kidsL] using this
  have h1 := kid_cell h j hl
  have : j = 0 ∨ j = 1 ∨ j = 2 ∨ j = 3 ∨ j = 4 ∨ j = 5 ∨ j = 6 ∨ j = 7 ∨ j = 8 ∨ j = 9 ∨ j = 10 ∨ j = 11 ∨ j = 12 ∨ j = 13 ∨ j = 14 ∨ j = 15 := by omega
  rw [h1]
  rcases this with rfl | rfl | rfl | rfl | rfl | rfl | rfl | rfl | rfl | rfl | rfl | rfl | rfl | rfl | rfl | rfl <;> exact hj
theorem results_tselect (tmps : Array Value) (w : World) (B : Nat) (a b c d : Value) (h : Tri w B 40 a b c) (h2 : tmps.getD 6 undef = .pointer (some ⟨B, 0, none⟩)) (h3 : tmps.getD 7 undef = d) : (results Try.f32 tmps).run Try.prog w = .ok (.tuple #[.agg #[a, b, c], d]) w := by
  obtain ⟨c0, c1, c2, _⟩ := h.cell
  have h2' : tmps[6]?.getD undef = .pointer (some ⟨B, 0, none⟩) := by simpa using h2
  have h3' : tmps[7]?.getD undef = d := by simpa using h3
  simp [results, Try.f32, go_sem, h2', h3', c0, c1, c2]
theorem part_at {A P S t : List R7} {k2 kk : Nat} (ht : S = (A ++ P) ++ t) (h : k2 < P.length) (e : kk = k2 + A.length) : P[k2]? = S[kk]? := by
  rw [ht, e, List.append_assoc, List.getElem?_append_right (by omega), List.getElem?_append_left (by omega), Nat.add_sub_cancel]
theorem selOf_nat (l : List R7) (K : Nat) : selOf l K = match l[K]? with | none => (noR, false) | some r => (r, true) := by
  unfold selOf
  rw [if_neg (by omega), Int.toNat_natCast]
theorem TreeOf.zero {r : Int} {H : Nat} {l : List R7} (h : TreeOf ns r H l) (h0 : H = 0) : l = [] := by
  rcases h with ⟨rfl, _⟩ | ⟨h, _⟩
  · rfl
  · omega
set_option maxRecDepth 20000 in
set_option maxHeartbeats 2000000 in
theorem tSelect_c (h : ShelfRow W v ns) {r : Int} {H : Nat} {l : List R7} (hT : TreeOf ns r H l) (hU : Up l) (hm : l.length ≤ 1000000) (K : Int) (hK : K ≤ 9223372036854775807) :
    Calls Try.prog 32 #[.agg #[.int .i64 r, .int .i64 H], iS v, .int .i64 K] W fun e w' => e = .returned (.tuple #[rV (selOf l K).1, .bool (selOf l K).2]) ∧ Below W.heap.size W w' := by
  obtain ⟨V, hV⟩ : ∃ V, iS v = V := ⟨_, rfl⟩
  have CO := Lib.hid (fun w (hb : Below W.heap.size W w) (s rk : Int) => tNode_c (h.below hb) s rk)
  have CC := Lib.hid (fun w (hb : Below W.heap.size W w) (s rk : Int) => tCount_c (h.below hb) s rk)
  rw [hV] at CO CC ⊢
  unfold NodeP at CO
  have CT := Lib.hid (fun w => tTop_c r H w)
  rw [hT.top] at CT
  have hb1 := TB.new W r H
  have hb2 := Tri.new (W.alloc (.cells #[.int .i64 r, .int .i64 H] 27)) 40 (.int .u32 0) (.int .u8 0) (.string ⟨#[]⟩)
  have hB := ((Below.refl W.heap.size W).alloc (Nat.le_refl _) (.cells #[.int .i64 r, .int .i64 H] 27)).alloc (by simp) (.cells #[.int .u32 0, .int .u8 0, .string ⟨#[]⟩] 40)
  have hb3 := hb1.below ((Below.refl (W.heap.size + 1) _).alloc (by simp) (.cells #[.int .u32 0, .int .u8 0, .string ⟨#[]⟩] 40)) (by omega)
  rw [World.size_alloc] at hb2
  have HB := Lib.hid hB
  have HTB := Lib.hid hb3
  have HTR := Lib.hid hb2
  have HT := Lib.hid hT
  have HU := Lib.hid hU
  have hH8 := hT.le
  obtain ⟨g, hg⟩ : ∃ g, selOf l K = g := ⟨_, rfl⟩
  rw [hg]
  have HG := Lib.hid hg
  clear h hV hb1 hb2 hB hb3 hT hU hg
  by_cases hneg : K < 0
  · have hg2 : g = (noR, false) := by rw [← HG.out]; unfold selOf; rw [if_pos hneg]
    subst hg2
    clear HG
    go_enter Try.func32, Try.ntmps32
    go_wp2_with fail
    go_step3
    go_wp2_with fail
    rw [Exit.noGoto_ret]
    exact bodyPost_ret (results_tselect _ _ _ _ _ _ _ HTR.out rfl rfl) rfl ⟨rfl, HB.out⟩
  · have q : ¬ K < 0 := hneg
    obtain ⟨K0, rfl⟩ : ∃ K0 : Nat, K = K0 := ⟨K.toNat, by omega⟩
    go_enter Try.func32, Try.ntmps32
    go_wp2_with fail
    obtain ⟨W1, hW1⟩ : ∃ W1, (W.alloc (.cells #[.int .i64 r, .int .i64 H] 27)).alloc (.cells #[.int .u32 0, .int .u8 0, .string ⟨#[]⟩] 40) = W1 := ⟨_, rfl⟩
    rw [hW1] at HTB HTR HB ⊢
    clear hW1
    obtain ⟨c0, c1⟩ := HTB.out.cell
    have hlt0 := HTB.out.lt
    have hlt1 := HTR.out.lt
    go_step3
    go_wp2_with ((go_at_call 30; refine (CT.out _).mono ?_; rintro e w3 ⟨rfl, hb3⟩; have e1 := (HTB.out.below hb3 hlt0).cell.2; have hlt3 : W.heap.size < w3.heap.size := Nat.lt_of_lt_of_le hlt0 hb3.size; have HB3 := Lib.hid hb3; clear hb3))
    have HTR3 := Lib.hid (HTR.out.below HB3.out hlt1)
    have HB4 := Lib.hid (HB.out.trans (HB3.out.mono (by omega)))
    obtain ⟨D, hD⟩ : ∃ D, W.heap.size + 1 = D := ⟨_, rfl⟩
    rw [hD] at HTR3 ⊢
    have hDlt := HTR3.out.lt
    have hDD : W.heap.size ≤ D := by omega
    go_step3
    go_wp2_with fail
    clear HTB HTR HB c0 c1 CT e1 HB3 hlt0 hlt1 hD
    go_loopw [2, 8, 9] (fun kv sv rk wr => ∃ (k : Nat) (s R : Int) (kk : Nat) (S : List R7), k ≤ H ∧ kv = .int .i64 kk ∧ sv = .int .i64 s ∧ rk = .int .i64 R ∧ kk ≤ K0 ∧ Hid (R = (k : Int) - 1) ∧ Hid (S[kk]? = l[K0]?) ∧ Hid (kk < S.length ∨ S = l ∧ k = H) ∧ Hid (Agree S k ∧ Up S) ∧ Hid (SubO ns k s S) ∧ Hid (Below (D + 1) w3 wr)) (fun _ _ rk _ => (intOf rk + 1).toNat)
    case atStart => exact ⟨H, r, (H : Int) - 1, K0, l, Nat.le_refl _, rfl, rfl, by go_num, Nat.le_refl _, rfl, rfl, .inr ⟨rfl, rfl⟩, ⟨⟨0, fun x hx => Nat.div_eq_of_lt (HT.out.small x hx)⟩, HU.out⟩, HT.out.subO, Below.refl _ _⟩
    case round =>
      obtain ⟨k, s, R, kk, S, hk, rfl, rfl, rfl, hkk, HR, HX, HLt, HAU, HS, HBr⟩ := hrel
      have HBw := Lib.hid (HB4.out.trans (HBr.out.mono (by omega)))
      have HTRr := Lib.hid (HTR3.out.below HBr.out (by omega))
      have hDr : D < wr.heap.size := HTRr.out.lt
      cases k with
      | zero =>
        obtain rfl : R = -1 := HR.out
        have C1 := Lib.hid (CO.out wr HBw.out s (-1))
        have hS : ∃ n b, nodeOf ns s (-1) = (n, b) ∧ g = (n.rc, b) := by
          rcases HS.out with ⟨h1, rfl⟩ | h1
          · refine ⟨noTN, false, nodeOf_no _ _, ?_⟩
            have h2 := HX.out
            rw [h1] at h2
            rw [← HG.out, selOf_nat, ← h2]
            rfl
          · obtain ⟨n, h2, h3, _⟩ := h1.leaf
            refine ⟨n, true, h2, ?_⟩
            have h4 := HX.out
            have h5 : kk = 0 := by
              rcases HLt.out with h5 | ⟨h5, h6⟩
              · rw [h3] at h5; simpa using h5
              · have h7 := HT.out.zero h6.symm; rw [h5, h7] at h3; cases h3
            rw [h3, h5] at h4
            rw [← HG.out, selOf_nat, ← h4]
            rfl
        obtain ⟨n1, n2, hn, hg⟩ := hS
        rw [hn] at C1
        dsimp only at C1
        subst hg
        clear hn HG CO CC HS HR HB4 HTR3 HX HLt HAU HU HT
        go_upto_region 20 with (first | (go_at_call 59; refine C1.out.mono ?_; rintro e w2 ⟨rfl, hb2⟩; obtain ⟨w4, hw4, h4a, h4b, h4c, h4d⟩ := node_box n1 hb2 hb2.size; have HW4 := Lib.hid hw4; have H4A := Lib.hid h4a; have H4B := Lib.hid h4b; have H4C := Lib.hid h4c; have hge : wr.heap.size ≤ w2.heap.size := hb2.size; clear hw4 h4a h4b h4c h4d hb2) | (refine wpList_store_row rfl 45 (.tmp 15) (.tmp 62) rfl w2.heap.size (nodeA n1) rfl rfl 45 (nodeA noTN) (heap_alloc_new _ _) sizeNode rfl (nodeA_one _) ?_))
        refine (show Code.wp _ _ _ _ ((w2.alloc (.cells (nodeA noTN) 45)).setRow w2.heap.size (nodeA n1)) from ?_)
        rw [HW4.out]
        have hs : w2.heap.size < w4.heap.size := by have h := H4B.out; omega
        have k0 : w4.cell? ⟨w2.heap.size, 18, none⟩ = some (.int .u32 n1.rc.uid) := by have h := H4A.out; simp [World.cell?, h, nodeA]
        have k1 : w4.cell? ⟨w2.heap.size, 19, none⟩ = some (.int .u8 n1.rc.fl) := by have h := H4A.out; simp [World.cell?, h, nodeA]
        have k2 : w4.cell? ⟨w2.heap.size, 20, none⟩ = some (.string n1.rc.tx) := by have h := H4A.out; simp [World.cell?, h, nodeA]
        clear H4A
        have HTR4 := Lib.hid (HTRr.out.below H4C.out hDr)
        have HB5 := Lib.hid (HBw.out.trans (H4C.out.mono HBw.out.size))
        clear C1 HW4
        obtain ⟨d0, d1, d2, f0, f1, f2⟩ := HTR4.out.cell
        have hlt := HTR4.out.lt
        have HD : Hid (W.heap.size ≤ D) := hDD
        have HTR5 := Lib.hid (((HTR4.out.set0 (.int .u32 n1.rc.uid)).set1 (.int .u8 n1.rc.fl)).set2 (.string n1.rc.tx))
        have HB6 := Lib.hid (((HB5.out.setCell (p := ⟨D, 0, none⟩) HD.out (.int .u32 n1.rc.uid)).setCell (p := ⟨D, 1, none⟩) HD.out (.int .u8 n1.rc.fl)).setCell (p := ⟨D, 2, none⟩) HD.out (.string n1.rc.tx))
        clear HTR4 HB5 HTRr HBr HBw
        go_wp2_with fail
        rw [Exit.noGoto_ret]
        exact bodyPost_ret (results_tselect _ _ _ _ _ _ _ HTR5.out rfl rfl) rfl ⟨rfl, HB6.out⟩
      | succ k =>
        obtain rfl : R = (k : Int) := by have := HR.out; omega
        have q1 : (-1 : Int) < (k : Int) := by omega
        have C1 := Lib.hid (CO.out wr HBw.out s k)
        rcases HS.out with ⟨h1, rfl⟩ | h1
        · rw [nodeOf_no] at C1
          dsimp only at C1
          have hg : g = (noR, false) := by
            have h2 := HX.out
            rw [h1] at h2
            rw [← HG.out, selOf_nat, ← h2]
            rfl
          subst hg
          clear HG CO CC HS HR HB4 HTR3 h1 HX HLt HAU HU HT
          go_upto_region 8 with (first | (go_at_call 59; refine C1.out.mono ?_; rintro e w2 ⟨rfl, hb2⟩; obtain ⟨w4, hw4, h4a, h4b, h4c, h4d⟩ := node_box noTN hb2 hb2.size; have HW4 := Lib.hid hw4; have H4A := Lib.hid h4a; have H4B := Lib.hid h4b; have H4C := Lib.hid h4c; have hge : wr.heap.size ≤ w2.heap.size := hb2.size; clear hw4 h4a h4b h4c h4d hb2) | (refine wpList_store_row rfl 45 (.tmp 10) (.tmp 34) rfl w2.heap.size (nodeA noTN) rfl rfl 45 (nodeA noTN) (heap_alloc_new _ _) sizeNode rfl (nodeA_one _) ?_))
          refine (show Code.wp _ _ _ _ ((w2.alloc (.cells (nodeA noTN) 45)).setRow w2.heap.size (nodeA noTN)) from ?_)
          rw [HW4.out]
          have HTR4 := Lib.hid (HTRr.out.below H4C.out hDr)
          have HB5 := Lib.hid (HBw.out.trans (H4C.out.mono HBw.out.size))
          clear C1 HW4
          obtain ⟨d0, d1, d2, f0, f1, f2⟩ := HTR4.out.cell
          have hlt := HTR4.out.lt
          have HD : Hid (W.heap.size ≤ D) := hDD
          have HTR5 := Lib.hid (((HTR4.out.set0 (.int .u32 0)).set1 (.int .u8 0)).set2 (.string ⟨#[]⟩))
          have HB6 := Lib.hid (((HB5.out.setCell (p := ⟨D, 0, none⟩) HD.out (.int .u32 0)).setCell (p := ⟨D, 1, none⟩) HD.out (.int .u8 0)).setCell (p := ⟨D, 2, none⟩) HD.out (.string ⟨#[]⟩))
          clear HTR4 HB5 HTRr HBr HBw
          go_wp2_with fail
          rw [Exit.noGoto_ret]
          exact bodyPost_ret (results_tselect _ _ _ _ _ _ _ HTR5.out rfl rfl) rfl ⟨rfl, HB6.out⟩
        · obtain ⟨n1, hn, _, hkids⟩ := h1.node
          rw [hn] at C1
          dsimp only at C1
          have HKC : Hid (∀ i, i < 16 → countOf ns (n1.kids i) ((k : Int) - 1) = (part k i S).length) := fun i hi => (hkids i hi).count
          have HKI := Lib.hid hkids
          clear hn hkids h1 HS HR CO HLt
          go_upto_region 8 with (first | (go_at_call 59; refine C1.out.mono ?_; rintro e w2 ⟨rfl, hb2⟩; obtain ⟨w4, hw4, h4a, h4b, h4c, h4d⟩ := node_box n1 hb2 hb2.size; have HW4 := Lib.hid hw4; have H4A := Lib.hid h4a; have H4B := Lib.hid h4b; have H4C := Lib.hid h4c; have hge : wr.heap.size ≤ w2.heap.size := hb2.size; clear hw4 h4a h4b h4c h4d hb2) | (refine wpList_store_row rfl 45 (.tmp 10) (.tmp 34) rfl w2.heap.size (nodeA n1) rfl rfl 45 (nodeA noTN) (heap_alloc_new _ _) sizeNode rfl (nodeA_one _) ?_))
          refine (show Code.wp _ _ _ _ ((w2.alloc (.cells (nodeA noTN) 45)).setRow w2.heap.size (nodeA n1)) from ?_)
          rw [HW4.out]
          have hs : w2.heap.size < w4.heap.size := by have h := H4B.out; omega
          have HKR := Lib.hid (kids_range H4A.out)
          have HTR4 := Lib.hid (HTRr.out.below H4C.out hDr)
          have HB5 := Lib.hid (HBw.out.trans (H4C.out.mono HBw.out.size))
          have HB7 := Lib.hid (HBr.out.trans (H4C.out.mono (by omega)))
          have hD4 := HTR4.out.lt
          clear C1 HW4 H4A HTRr HBw
          go_wp2_with (refine wpList_load_mid rfl 36 (.tmp 39) rfl w2.heap.size 2 rfl (kidsL n1) _ HKR.out Try.underlying36 rfl sizeKids ?_)
          clear HKR
          have HIX : Hid (∀ i, i < 16 → ∀ w, (Instr.index 36 (.agg (kidsL n1).toArray) (.int .i64 (i : Nat))).run Try.prog w = .ok (.int .i64 (n1.kids i)) w) := kids_index n1
          obtain ⟨KA, hKA⟩ : ∃ KA, (kidsL n1).toArray = KA := ⟨_, rfl⟩
          rw [hKA] at HIX ⊢
          clear hKA
          have HBD : Hid (Below w4.heap.size w4 w4) := Below.refl _ _
          have HKK := Lib.hid hkk
          clear hkk
          go_loopw [2, 41] (fun kv iv wr => ∃ (i k2 : Nat), i ≤ 16 ∧ kv = .int .i64 k2 ∧ iv = .int .i64 i ∧ k2 ≤ K0 ∧ Hid (kk = k2 + (upto k i S).length) ∧ Hid (Below w4.heap.size w4 wr)) (fun _ iv _ => 16 - (intOf iv).toNat)
          case atStart => exact ⟨0, kk, Nat.zero_le _, rfl, rfl, HKK.out, by show _ = _; rw [upto_zero]; rfl, HBD.out⟩
          case round =>
            obtain ⟨i, k2, hi, rfl, rfl, hk2, HKE, HBi⟩ := hrel
            have HB8 := Lib.hid (HB5.out.trans (HBi.out.mono (by have := HB5.out.size; omega)))
            have HTR8 := Lib.hid (HTR4.out.below HBi.out hD4)
            have HB10 := Lib.hid (HB7.out.trans (HBi.out.mono (by omega)))
            by_cases hlt : i < 16
            · have g1 : (i : Int) < 16 := by omega
              have g2 : (0 : Int) ≤ i := by omega
              have CC1 := Lib.hid (CC.out wr HB8.out (n1.kids i) ((k : Int) - 1))
              rw [HKC.out i hlt] at CC1
              have hix := HIX.out i hlt
              have hus := upto_succ HAU.out.1 HAU.out.2 i
              have HUS := Lib.hid hus
              have HKI1 := Lib.hid (HKI.out i hlt)
              obtain ⟨c, hc⟩ : ∃ c, (part k i S).length = c := ⟨_, rfl⟩
              rw [hc] at CC1
              have HCC := Lib.hid hc
              obtain ⟨kd, hkd⟩ : ∃ kd, n1.kids i = kd := ⟨_, rfl⟩
              rw [hkd] at hix CC1 HKI1
              clear hus hc hkd
              by_cases hkc : k2 < c
              · have g3 : (k2 : Int) < c := by omega
                have HX2 : Hid ((part k i S)[k2]? = l[K0]?) := by
                  obtain ⟨t, ht⟩ := upto_take HAU.out.1 HAU.out.2 (i + 1) (by omega)
                  rw [HUS.out] at ht
                  show _ = _
                  rw [← HX.out]
                  exact part_at ht (by rw [HCC.out]; exact hkc) HKE.out
                have HLt2 : Hid (k2 < (part k i S).length ∨ part k i S = l ∧ k = H) := .inl (by rw [HCC.out]; exact hkc)
                have HAU2 : Hid (Agree (part k i S) k ∧ Up (part k i S)) := ⟨HAU.out.1.part i, HAU.out.2.filter _⟩
                clear hkc HX HAU HUS HKC HIX HKI
                go_wp2_with ((go_at_call 51; refine CC1.out.mono ?_; rintro e w5 ⟨rfl, hb5⟩; have HB11 := Lib.hid (HB10.out.trans (hb5.mono (by have := HB10.out.size; omega))); clear hb5))
                go_roundw
                case rel => exact ⟨k, kd, (k : Int) - 1, k2, part k i S, by omega, by first | rfl | go_num, by first | rfl | go_num, by first | rfl | go_num, hk2, rfl, HX2, HLt2, HAU2, HKI1, HB11⟩
                case measure => first | (simp [intOf]; done) | (simp [intOf]; omega)
              · have g3 : ¬ (k2 : Int) < c := by omega
                have HKE2 : Hid (kk = (k2 - c) + (upto k (i + 1) S).length) := by
                  show _ = _
                  have h1 := HKE.out
                  have h2 := congrArg List.length HUS.out
                  rw [List.length_append, HCC.out] at h2
                  omega
                have hbk : (k2 : Int) - c = ((k2 - c : Nat) : Int) := by omega
                have HBK := Lib.hid hbk
                clear hkc HX HAU HUS HKC HIX HKI hbk
                go_wp2_with ((go_at_call 51; refine CC1.out.mono ?_; rintro e w5 ⟨rfl, hb5⟩; have HB11 := Lib.hid (HBi.out.trans (hb5.mono HBi.out.size)); clear hb5))
                go_roundw
                case rel => exact ⟨i + 1, k2 - c, by omega, by first | (rw [HBK.out]; done) | (rw [HBK.out]; rfl) | go_num, by go_num, by omega, HKE2.out, HB11⟩
                case measure => simp [intOf]; omega
            · obtain rfl : i = 16 := by omega
              have hg : g = (noR, false) := by
                have h2 := HX.out
                have h3 := HKE.out
                rw [upto_all] at h3
                rw [List.getElem?_eq_none (by omega)] at h2
                rw [← HG.out, selOf_nat, ← h2]
              subst hg
              clear HX HAU HKC HIX HKI HKE HG
              obtain ⟨d0, d1, d2, f0, f1, f2⟩ := HTR8.out.cell
              have hlt := HTR8.out.lt
              have HD : Hid (W.heap.size ≤ D) := hDD
              have HTR5 := Lib.hid (((HTR8.out.set0 (.int .u32 0)).set1 (.int .u8 0)).set2 (.string ⟨#[]⟩))
              have HB9 := Lib.hid (((HB8.out.setCell (p := ⟨D, 0, none⟩) HD.out (.int .u32 0)).setCell (p := ⟨D, 1, none⟩) HD.out (.int .u8 0)).setCell (p := ⟨D, 2, none⟩) HD.out (.string ⟨#[]⟩))
              go_wp2_with fail
              rw [Exit.noGoto_ret]
              exact bodyPost_ret (results_tselect _ _ _ _ _ _ _ HTR5.out rfl rfl) rfl ⟨rfl, HB9.out⟩
end Go.Proofs.Ytdelhpogacccjaa

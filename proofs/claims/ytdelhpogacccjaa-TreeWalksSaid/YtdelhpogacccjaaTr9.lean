/-
  Get and Len of a tree.
-/
import Derived.Test.YtdelhpogacccjaaTr8
set_option linter.unusedVariables false
set_option linter.unusedSimpArgs false
namespace Go.Proofs.Ytdelhpogacccjaa
open Go Go.RowKit

variable {W W' : World} {v : Value} {ns : List TN}
/-- A tree in a box. -/
def TB (W : World) (B : Nat) (r h : Int) : Prop := W.heap[B]? = some (.cells #[.int .i64 r, .int .i64 h] 27 (0, 0))
theorem TB.new (W : World) (r h : Int) : TB (W.alloc (.cells #[.int .i64 r, .int .i64 h] 27)) W.heap.size r h := heap_alloc_new W _
theorem TB.lt {B : Nat} {r h : Int} (H : TB W B r h) : B < W.heap.size := (Array.getElem?_eq_some_iff.1 H).1
theorem TB.cell {B : Nat} {r h : Int} (H : TB W B r h) : W.cell? ⟨B, 0, none⟩ = some (.int .i64 r) ∧ W.cell? ⟨B, 1, none⟩ = some (.int .i64 h) := by
  have h' : W.heap[B]? = _ := H
  constructor <;> simp [World.cell?, h']
theorem TB.below {B D : Nat} {r h : Int} (H : TB W B r h) (hb : Below D W W') (hB : B < D) : TB W' B r h := (hb.block B hB).trans H
theorem results_tget (tmps : Array Value) (w : World) (B : Nat) (a b c d : Value) (h : Tri w B 40 a b c) (h2 : tmps.getD 6 undef = .pointer (some ⟨B, 0, none⟩)) (h3 : tmps.getD 7 undef = d) : (results Try.f63 tmps).run Try.prog w = .ok (.tuple #[.agg #[a, b, c], d]) w := by
  obtain ⟨c0, c1, c2, _⟩ := h.cell
  have h2' : tmps[6]?.getD undef = .pointer (some ⟨B, 0, none⟩) := by simpa using h2
  have h3' : tmps[7]?.getD undef = d := by simpa using h3
  simp [results, Try.f63, go_sem, h2', h3', c0, c1, c2]
theorem kid_cell {w : World} {B : Nat} {n : TN} (h : w.heap[B]? = some (.cells (nodeA n) 45 (0, 0))) (d : Nat) (hd : d < 16) : w.cell? ⟨B, 2 + d, none⟩ = some (.int .i64 (n.kids d)) := by
  have h1 := nodeA_kid n d hd
  simp only [World.cell?, h]
  simpa using h1
set_option maxRecDepth 20000 in
set_option maxHeartbeats 2000000 in
theorem tGet_c (h : ShelfRow W v ns) {r : Int} {H : Nat} {l : List R7} (hT : TreeOf ns r H l) (u : Nat) (hu : u < 4294967296) :
    Calls Try.prog 63 #[.agg #[.int .i64 r, .int .i64 H], iS v, .int .u32 u] W fun e w' => e = .returned (.tuple #[rV (getOf l u).1, .bool (getOf l u).2]) ∧ Below W.heap.size W w' := by
  have CN := Lib.hid (fun w => tNeed_c u hu w)
  obtain ⟨V, hV⟩ : ∃ V, iS v = V := ⟨_, rfl⟩
  have CO := Lib.hid (fun w (hb : Below W.heap.size W w) (s rk : Int) => tNode_c (h.below hb) s rk)
  rw [hV] at CO ⊢
  unfold NodeP at CO
  have CT := Lib.hid (fun w => tTop_c r H w)
  have CD := Lib.hid (fun rk (hr : rk < 8) w => tDigit_c u rk hu hr w)
  have hb1 := TB.new W r H
  have hb2 := Tri.new (W.alloc (.cells #[.int .i64 r, .int .i64 H] 27)) 40 (.int .u32 0) (.int .u8 0) (.string ⟨#[]⟩)
  have hB := ((Below.refl W.heap.size W).alloc (Nat.le_refl _) (.cells #[.int .i64 r, .int .i64 H] 27)).alloc (by simp) (.cells #[.int .u32 0, .int .u8 0, .string ⟨#[]⟩] 40)
  have hb3 := hb1.below ((Below.refl (W.heap.size + 1) _).alloc (by simp) (.cells #[.int .u32 0, .int .u8 0, .string ⟨#[]⟩] 40)) (by omega)
  rw [World.size_alloc] at hb2
  have HB := Lib.hid hB
  have HTB := Lib.hid hb3
  have HTR := Lib.hid hb2
  have HT := Lib.hid hT
  have hd := nd_pos u
  have hd8 := nd_u32 hu
  have hH8 := hT.le
  obtain ⟨Nd, hNd⟩ : ∃ Nd, nd u = Nd := ⟨_, rfl⟩
  rw [hNd] at hd hd8 CN
  have HND := Lib.hid hNd
  obtain ⟨g, hg⟩ : ∃ g, getOf l u = g := ⟨_, rfl⟩
  rw [hg]
  have HG := Lib.hid hg
  clear h hV hb1 hb2 hB hb3 hT hNd hg
  by_cases hfar : H < Nd
  · have q : (H : Int) < Nd := by omega
    have hg2 : g = (noR, false) := by rw [← HG.out]; exact HT.out.far (by rw [HND.out]; exact hfar)
    subst hg2
    clear HG
    go_enter Try.func63, Try.ntmps63
    go_wp2_with fail
    obtain ⟨W1, hW1⟩ : ∃ W1, (W.alloc (.cells #[.int .i64 r, .int .i64 H] 27)).alloc (.cells #[.int .u32 0, .int .u8 0, .string ⟨#[]⟩] 40) = W1 := ⟨_, rfl⟩
    rw [hW1] at HTB HTR HB ⊢
    clear hW1
    obtain ⟨c0, c1⟩ := HTB.out.cell
    go_quiet ((go_at_call 60; exact Calls.quiet_of_same (CN.out _)))
    have HTR2 := Lib.hid (HTR.out.below (below_drewN (Below.refl W1.heap.size W1) nq) HTR.out.lt)
    have HB2 := Lib.hid (below_drewN HB.out nq)
    obtain ⟨W2, hW2⟩ : ∃ W2, W1.drewN nq = W2 := ⟨_, rfl⟩
    rw [hW2] at HTR2 HB2 ⊢
    clear hW2 HB HTB HTR c0 c1
    obtain ⟨d0, d1, d2, f0, f1, f2⟩ := HTR2.out.cell
    have hlt := HTR2.out.lt
    have HD : Hid (W.heap.size ≤ W.heap.size + 1) := Nat.le_succ _
    have HTR3 := Lib.hid (((HTR2.out.set0 (.int .u32 0)).set1 (.int .u8 0)).set2 (.string ⟨#[]⟩))
    have HB3 := Lib.hid (((HB2.out.setCell (p := ⟨W.heap.size + 1, 0, none⟩) HD.out (.int .u32 0)).setCell (p := ⟨W.heap.size + 1, 1, none⟩) HD.out (.int .u8 0)).setCell (p := ⟨W.heap.size + 1, 2, none⟩) HD.out (.string ⟨#[]⟩))
    go_wp2_with fail
    exact bodyPost_ret (results_tget _ _ _ _ _ _ _ HTR3.out rfl rfl) rfl ⟨rfl, HB3.out⟩
  · have q : ¬ (H : Int) < Nd := by omega
    go_enter Try.func63, Try.ntmps63
    go_wp2_with fail
    obtain ⟨W1, hW1⟩ : ∃ W1, (W.alloc (.cells #[.int .i64 r, .int .i64 H] 27)).alloc (.cells #[.int .u32 0, .int .u8 0, .string ⟨#[]⟩] 40) = W1 := ⟨_, rfl⟩
    rw [hW1] at HTB HTR HB ⊢
    clear hW1
    obtain ⟨c0, c1⟩ := HTB.out.cell
    go_quiet ((go_at_call 60; exact Calls.quiet_of_same (CN.out _)))
    have HTB2 := Lib.hid (HTB.out.below (below_drewN (Below.refl W1.heap.size W1) nq) HTB.out.lt)
    have HTR2 := Lib.hid (HTR.out.below (below_drewN (Below.refl W1.heap.size W1) nq) HTR.out.lt)
    have HB2 := Lib.hid (below_drewN HB.out nq)
    obtain ⟨W2, hW2⟩ : ∃ W2, W1.drewN nq = W2 := ⟨_, rfl⟩
    rw [hW2] at HTB2 HTR2 HB2 ⊢
    clear hW2 HB HTB HTR c0 c1
    obtain ⟨c0, c1⟩ := HTB2.out.cell
    have hlt0 := HTB2.out.lt
    have hlt1 := HTR2.out.lt
    have hif : (if (H : Int) < 1 ∨ 8 < (H : Int) then (-1 : Int) else r) = r := if_neg (by omega)
    rw [hif] at CT
    go_wp2_with ((go_at_call 30; refine (CT.out _).mono ?_; rintro e w3 ⟨rfl, hb3⟩; have e1 := (HTB2.out.below hb3 hlt0).cell.2; have hlt3 : W.heap.size < w3.heap.size := Nat.lt_of_lt_of_le hlt0 hb3.size; have HB3 := Lib.hid hb3; clear hb3))
    have HTR3 := Lib.hid (HTR2.out.below HB3.out hlt1)
    have HB4 := Lib.hid (HB2.out.trans (HB3.out.mono (by omega)))
    obtain ⟨D, hD⟩ : ∃ D, W.heap.size + 1 = D := ⟨_, rfl⟩
    rw [hD] at HTR3 ⊢
    have hDlt := HTR3.out.lt
    have hDD : W.heap.size ≤ D := by omega
    clear HTB2 HTR2 HB2 c0 c1 CT e1 HB3 hif hlt0 hlt1 hD
    go_loopw [8, 9] (fun sv rk wr => ∃ (k : Nat) (s R : Int), k ≤ H ∧ sv = .int .i64 s ∧ rk = .int .i64 R ∧ Hid (R = (k : Int) - 1) ∧ Hid (SubO ns k s (same l u k)) ∧ Hid (Below (D + 1) w3 wr)) (fun _ rk _ => (intOf rk + 1).toNat)
    case atStart => exact ⟨H, r, (H : Int) - 1, Nat.le_refl _, rfl, by go_num, rfl, HT.out.sub u (by rw [HND.out]; omega), Below.refl _ _⟩
    case round =>
      obtain ⟨k, s, R, hk, rfl, rfl, HR, HS, HBr⟩ := hrel
      have HBw := Lib.hid (HB4.out.trans (HBr.out.mono (by omega)))
      have HTRr := Lib.hid (HTR3.out.below HBr.out (by omega))
      have hDr : D < wr.heap.size := HTRr.out.lt
      cases k with
      | zero =>
        obtain rfl : R = -1 := HR.out
        have C1 := Lib.hid (CO.out wr HBw.out s (-1))
        have hS : ∃ n b, nodeOf ns s (-1) = (n, b) ∧ g = (n.rc, b) := by
          rcases HS.out with ⟨h1, rfl⟩ | h1
          · exact ⟨noTN, false, nodeOf_no _ _, by rw [← HG.out]; exact getOf_nil h1⟩
          · obtain ⟨n, h2, h3, _⟩ := h1.leaf
            refine ⟨n, true, h2, ?_⟩
            rw [← HG.out, getOf_same, h3]
            rfl
        obtain ⟨n1, n2, hn, hg⟩ := hS
        rw [hn] at C1
        dsimp only at C1
        subst hg
        clear hn HG CO HS HR HB4 HTR3 CD
        go_upto_region 12 with (first | (go_at_call 59; refine C1.out.mono ?_; rintro e w2 ⟨rfl, hb2⟩; obtain ⟨w4, hw4, h4a, h4b, h4c, h4d⟩ := node_box n1 hb2 hb2.size; have HW4 := Lib.hid hw4; have H4A := Lib.hid h4a; have H4B := Lib.hid h4b; have H4C := Lib.hid h4c; have hge : wr.heap.size ≤ w2.heap.size := hb2.size; clear hw4 h4a h4b h4c h4d hb2) | (refine wpList_store_row rfl 45 (.tmp 12) (.tmp 49) rfl w2.heap.size (nodeA n1) rfl rfl 45 (nodeA noTN) (heap_alloc_new _ _) sizeNode rfl (nodeA_one _) ?_))
        refine (show Code.wp _ _ _ _ ((w2.alloc (.cells (nodeA noTN) 45)).setRow w2.heap.size (nodeA n1)) from ?_)
        rw [HW4.out]
        have hs : w2.heap.size < w4.heap.size := by have h := H4B.out; omega
        have k0 : w4.cell? ⟨w2.heap.size, 18, none⟩ = some (.int .u32 n1.rc.uid) := by have h := H4A.out; simp [World.cell?, h, nodeA]
        have k1 : w4.cell? ⟨w2.heap.size, 19, none⟩ = some (.int .u8 n1.rc.fl) := by have h := H4A.out; simp [World.cell?, h, nodeA]
        have k2 : w4.cell? ⟨w2.heap.size, 20, none⟩ = some (.string n1.rc.tx) := by have h := H4A.out; simp [World.cell?, h, nodeA]
        have HTR4 := Lib.hid (HTRr.out.below H4C.out hDr)
        have HB5 := Lib.hid (HBw.out.trans (H4C.out.mono HBw.out.size))
        clear C1 HW4 H4A
        obtain ⟨d0, d1, d2, f0, f1, f2⟩ := HTR4.out.cell
        have hlt := HTR4.out.lt
        have HD : Hid (W.heap.size ≤ D) := hDD
        have HTR5 := Lib.hid (((HTR4.out.set0 (.int .u32 n1.rc.uid)).set1 (.int .u8 n1.rc.fl)).set2 (.string n1.rc.tx))
        have HB6 := Lib.hid (((HB5.out.setCell (p := ⟨D, 0, none⟩) HD.out (.int .u32 n1.rc.uid)).setCell (p := ⟨D, 1, none⟩) HD.out (.int .u8 n1.rc.fl)).setCell (p := ⟨D, 2, none⟩) HD.out (.string n1.rc.tx))
        clear HTR4 HB5 HTRr HBr HBw
        go_wp2_with fail
        exact bodyPost_ret (results_tget _ _ _ _ _ _ _ HTR5.out rfl rfl) rfl ⟨rfl, HB6.out⟩
      | succ k =>
        obtain rfl : R = (k : Int) := by have := HR.out; omega
        have q1 : (-1 : Int) < (k : Int) := by omega
        have C1 := Lib.hid (CO.out wr HBw.out s k)
        rcases HS.out with ⟨h1, rfl⟩ | h1
        · rw [nodeOf_no] at C1
          dsimp only at C1
          have hg : g = (noR, false) := by rw [← HG.out]; exact getOf_nil h1
          subst hg
          clear HG CO HS HR HB4 HTR3 CD h1
          go_upto_region 8 with (first | (go_at_call 59; refine C1.out.mono ?_; rintro e w2 ⟨rfl, hb2⟩; obtain ⟨w4, hw4, h4a, h4b, h4c, h4d⟩ := node_box noTN hb2 hb2.size; have HW4 := Lib.hid hw4; have H4B := Lib.hid h4b; have H4C := Lib.hid h4c; have hge : wr.heap.size ≤ w2.heap.size := hb2.size; clear hw4 h4a h4b h4c h4d hb2) | (refine wpList_store_row rfl 45 (.tmp 10) (.tmp 34) rfl w2.heap.size (nodeA noTN) rfl rfl 45 (nodeA noTN) (heap_alloc_new _ _) sizeNode rfl (nodeA_one _) ?_))
          refine (show Code.wp _ _ _ _ ((w2.alloc (.cells (nodeA noTN) 45)).setRow w2.heap.size (nodeA noTN)) from ?_)
          rw [HW4.out]
          have HTR4 := Lib.hid (HTRr.out.below H4C.out hDr)
          have HB5 := Lib.hid (HBw.out.trans (H4C.out.mono HBw.out.size))
          clear C1 HW4
          obtain ⟨d0, d1, d2, f0, f1, f2⟩ := HTR4.out.cell
          have hlt := HTR4.out.lt
          have HD : Hid (W.heap.size ≤ D) := hDD
          have HTR5 := Lib.hid (((HTR4.out.set0 (.int .u32 0)).set1 (.int .u8 0)).set2 (.string ⟨#[]⟩))
          have HB6 := Lib.hid (((HB5.out.setCell (p := ⟨D, 0, none⟩) HD.out (.int .u32 0)).setCell (p := ⟨D, 1, none⟩) HD.out (.int .u8 0)).setCell (p := ⟨D, 2, none⟩) HD.out (.string ⟨#[]⟩))
          clear HTR4 HB5 HTRr HBr HBw
          go_wp2_with fail
          exact bodyPost_ret (results_tget _ _ _ _ _ _ _ HTR5.out rfl rfl) rfl ⟨rfl, HB6.out⟩
        · obtain ⟨n1, hn, _, hkids⟩ := h1.node
          rw [hn] at C1
          dsimp only at C1
          have HS2 := Lib.hid (hkids (dig u k) (dig_lt u k))
          rw [part_same] at HS2
          have CD1 := Lib.hid (fun w => CD.out k (by omega) w)
          have hdl := dig_lt u k
          obtain ⟨d, hd2⟩ : ∃ d, dig u k = d := ⟨_, rfl⟩
          rw [hd2] at HS2 CD1 hdl
          clear hn hkids h1 HS HR CO CD hd2
          go_upto_region 8 with (first | (go_at_call 59; refine C1.out.mono ?_; rintro e w2 ⟨rfl, hb2⟩; obtain ⟨w4, hw4, h4a, h4b, h4c, h4d⟩ := node_box n1 hb2 hb2.size; have HW4 := Lib.hid hw4; have H4A := Lib.hid h4a; have H4B := Lib.hid h4b; have H4C := Lib.hid h4c; have hge : wr.heap.size ≤ w2.heap.size := hb2.size; clear hw4 h4a h4b h4c h4d hb2) | (refine wpList_store_row rfl 45 (.tmp 10) (.tmp 34) rfl w2.heap.size (nodeA n1) rfl rfl 45 (nodeA noTN) (heap_alloc_new _ _) sizeNode rfl (nodeA_one _) ?_))
          refine (show Code.wp _ _ _ _ ((w2.alloc (.cells (nodeA noTN) 45)).setRow w2.heap.size (nodeA n1)) from ?_)
          rw [HW4.out]
          have hs : w2.heap.size < w4.heap.size := by have h := H4B.out; omega
          have kc := kid_cell H4A.out d hdl
          have q2 : (d : Int) < 16 := by omega
          have q3 : (0 : Int) ≤ d := by omega
          have HB5 := Lib.hid (HBr.out.trans (H4C.out.mono (by omega)))
          obtain ⟨kd, hkd⟩ : ∃ kd, n1.kids d = kd := ⟨_, rfl⟩
          rw [hkd] at kc HS2
          clear C1 HW4 H4A hkd HTRr HBw
          go_wp2_with (go_at_call 61; refine (CD1.out _).mono ?_; rintro e w' ⟨rfl, hw⟩; rw [hw]; clear hw w')

          go_roundw
          case rel => exact ⟨k, kd, (k : Int) - 1, by omega, by first | rfl | trivial, by first | rfl | go_num, rfl, HS2, HB5⟩
          case measure => first | (simp [intOf]; done) | (simp [intOf]; omega)
end Go.Proofs.Ytdelhpogacccjaa

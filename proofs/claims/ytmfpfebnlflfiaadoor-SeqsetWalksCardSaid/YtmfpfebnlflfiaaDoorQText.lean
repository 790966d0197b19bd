/-
  A set's text, by the program: contract.
-/
import Derived.Test.YtmfpfebnlflfiaaDoorQTextR
set_option linter.unusedVariables false
set_option linter.unusedSimpArgs false
namespace Go.Proofs.YtmfpfebnlflfiaaDoor
open Go Go.RowKit

theorem pow10_named : Tryd.prog.globalNamed "internal/strconv.uint64pow10" = some 2 := by kernel_rfl
theorem Tab.later {w w' : World} {B : Nat} (h : Tab w) (hb : Below B w w') (hB : 2 < B) : Tab w' := by
  unfold Tab Lib.TabIs World.var? at *
  rw [pow10_named] at *
  simp only [Option.bind_some] at *
  rw [hb.block 2 hB]; exact h
theorem Tab.lt {w : World} (h : Tab w) : 2 < w.heap.size := by
  unfold Tab Lib.TabIs World.var? at h
  rw [pow10_named] at h
  simp only [Option.bind_some] at h
  apply Decidable.byContradiction
  intro hn
  rw [Array.getElem?_eq_none (by omega)] at h
  simp at h
theorem Pair.others {W W' : World} {B : Nat} {a b : Value} (h : Pair W B 83 a b) (hk : Lib.OthersKept 5 none W W') : Pair W' B 83 a b :=
  hk B _ h (by simp) (fun c fz e => by cases e)
theorem Pair.alloc {W : World} {B : Nat} {t : TypeId} {a b : Value} (h : Pair W B t a b) (o : Obj) : Pair (W.alloc o) B t a b := (Below.heap_alloc _ _ _ h.lt).trans h

theorem cell_new_at {w : World} {x : Value} {t : TypeId} (A : Nat) (hA : A = w.heap.size) : ∀ j u, [x][j]? = some u → (w.alloc (.cells #[x] t)).cell? ((⟨A, 0, none⟩ : Addr).add j) = some u := by subst hA; exact cell_one_new w x t

set_option maxRecDepth 100000 in
set_option maxHeartbeats 4000000 in
theorem qstring_c (B : Nat) (v : Value) (l : List (Nat × Nat)) (hl : l.length ≤ 1000) (hS : Small l) (w : World) (hT : Tab w) (ho : w.ownsRow B 83 2 v l.length (cellsP l)) :
    Calls Tryd.prog 23 #[v] w fun e w' => e = .returned (.string (txt (setT l))) ∧ Below w.heap.size w w' := by
  obtain ⟨i0, hi, hz0, hz1, hz2⟩ := info_parts Tryd.infoByte
  obtain ⟨ad, cp, rfl⟩ := own_form ho
  obtain ⟨N, hN⟩ : ∃ N, N = l.length := ⟨_, rfl⟩
  rw [← hN] at ho hl ⊢
  have HO := Lib.hid ho
  have HN := Lib.hid hN
  have HS := Lib.hid hS
  have HTAB := Lib.hid hT
  clear ho hN hS hT
  go_enter Tryd.func23, Tryd.ntmps23
  go_wp2_with fail
  go_loopw [3, 4, 5, 8] (fun t3 _ _ t8 wr => ∃ (k n cb : Nat) (ab : Option Addr), k ≤ N ∧ t8 = .int .i64 k ∧ t3 = .slice ab n cb ∧ n ≤ 22 * k ∧ Hid (n = (setT (l.take k)).length) ∧
      Hid (wr.ownsRow w.heap.size 5 1 (.slice ab n cb) n (Lib.byteCells (setT (l.take k)))) ∧ Hid (Below w.heap.size w wr)) (fun _ _ _ i _ => N - (intOf i).toNat)
  case atStart => exact ⟨0, 0, 0, none, by omega, rfl, rfl, by omega, rfl, World.ownsRow_nil _ _ _ _, Below.refl _ _⟩
  case round =>
    obtain ⟨k, n, cb, ab, hk, rfl, rfl, hn, HL, HR, HB⟩ := hrel
    have hls := HB.out.size
    by_cases hlt : k < N
    · have hkl : k < l.length := by rw [← HN.out]; exact hlt
      obtain ⟨x, y, hxy⟩ : ∃ x y, l[k] = (x, y) := ⟨_, _, rfl⟩
      have hb := HS.out _ (List.getElem_mem hkl)
      rw [hxy] at hb
      have hx : x ≤ 4294967295 := hb.1
      have hy : y ≤ 4294967295 := hb.2
      have how := own_below HO.out HB.out
      obtain ⟨g, rfl⟩ : ∃ g, ad = some ⟨g, 0, none⟩ := by
        rcases how.2 with ⟨h, h2⟩ | ⟨g, cap, cur, h, _⟩
        · omega
        · cases h; exact ⟨g, rfl⟩
      have hc := cellsP_at hkl
      rw [hxy] at hc
      have k0 : wr.cell? ⟨g, k * 2, none⟩ = some (.int .u32 x) := by rw [how.cellAt _ (by omega)]; exact hc.1
      have k1 : wr.cell? ⟨g, k * 2 + 1, none⟩ = some (.int .u32 y) := by rw [how.cellAt _ (by omega)]; exact hc.2
      have hT2 := setT_take hkl
      rw [hxy] at hT2
      have HT2 := Lib.hid hT2
      have hex := endT_len hx
      have hey := endT_len hy
      have hq1 : (k : Int) < N := by omega
      have hP := Pair.new wr 83 (.int .u32 x) (.int .u32 y)
      have HP := Lib.hid hP
      have HR1 : Hid ((wr.alloc (.cells #[.int .u32 x, .int .u32 y] 83)).ownsRow w.heap.size 5 1 (.slice ab n cb) n (Lib.byteCells (setT (l.take k)))) := HR.out.alloc _
      have HB1 : Hid (Below w.heap.size w (wr.alloc (.cells #[.int .u32 x, .int .u32 y] 83))) := HB.out.alloc hls _
      clear hb how hc hxy hkl hT2 hP
      by_cases hk0 : k = 0
      · subst hk0
        go_wp2_with fail
        refine (append_end_c w.heap.size n x hx _ _ _ HR1.out HB1.out.size (by omega) (HTAB.out.later HB1.out HTAB.out.lt)).mono ?_
        rintro e w5 ⟨vw5, rfl, ho, hbb, hkk⟩
        have Pw5 : Hid (Pair w5 wr.heap.size 83 (.int .u32 x) (.int .u32 y)) := HP.out.others hkk
        have Bw5 : Hid (Below w.heap.size w w5) := HB1.out.trans hbb
        rw [← Lib.byteCells_append] at ho
        obtain ⟨aw5, cw5, rfl⟩ := own_form ho
        obtain ⟨nw5, hnw5⟩ : ∃ m, m = n + (endT x).length := ⟨_, rfl⟩
        have lw5 : nw5 ≤ n + 10 := by omega
        rw [← hnw5] at ho ⊢
        have Ow5 := Lib.hid ho
        have Nw5 := Lib.hid hnw5
        clear hnw5
        clear ho hbb hkk
        have p0 := Pw5.out.c0
        have p1 := Pw5.out.c1
        by_cases hxy : x = y
        · have exy : ((x : Int) != (y : Int)) = false := by simp [hxy]
          have HXY := Lib.hid hxy
          clear hxy
          go_wp2_with fail
          go_roundw
          case rel =>
            have e1 : setT (l.take (0 + 1)) = setT (l.take 0) ++ [] ++ endT x := by rw [HT2.out]; simp [rangeT, HXY.out]
            refine ⟨0 + 1, nw5, cw5, aw5, by omega, by go_num, rfl, by omega, ?_, ?_, Bw5.out⟩
            · show nw5 = _
              rw [e1]; have h1 := HL.out; have h5 := Nw5.out; simp only [List.length_append, List.length_cons, List.length_nil]; omega
            · show World.ownsRow _ _ _ _ _ _ _
              rw [e1]; have := Ow5.out; simpa using this
          case measure => simp [intOf]; omega
        · have exy : ((x : Int) != (y : Int)) = true := by simp; omega
          have HXY := Lib.hid hxy
          clear hxy
          have hls5 := Bw5.out.size
          go_wp2_with (at_builtin; refine wpList_append_own _ rfl (.tmp 27) (.tmp 28) 69 rfl w.heap.size 5 i0 (.int .u8 0) 1 1 Tryd.underlying69 hi hz0 hz1 hz2 rfl (by decide) _ _ _ rfl (Ow5.out.alloc _) ⟨w5.heap.size, 0, none⟩ 1 1 [.int .u8 58] rfl rfl (cell_new_at _ (by simp)) (fun x hx => by simp at hx; subst hx; rfl) (by unfold maxLen; omega) (by omega) (by simp; omega) ?_)
          intro v6 w6 hown6 hgrow6 _
          have hk6 : Lib.OthersKept 5 none w5 w6 := ((Lib.OthersKept.refl _ _ w5).alloc _).grown hgrow6 (own_row (Ow5.out.alloc _))
          have B6 : Hid (Below w.heap.size w w6) := Below.grown (Bw5.out.alloc Bw5.out.size _) hgrow6 (by have := Bw5.out.size; simp; omega) (fun j hj => (Ow5.out.lt _ hj).1)
          have P6 : Hid (Pair w6 wr.heap.size 83 (.int .u32 x) (.int .u32 y)) := Pw5.out.others hk6
          rw [show [Value.int .u8 58] = Lib.byteCells [58] from rfl, ← Lib.byteCells_append] at hown6
          obtain ⟨a6, c6, rfl⟩ := own_form hown6
          have O6 := Lib.hid hown6
          clear hown6 hgrow6 hk6 p0 p1
          have p0 := P6.out.c0
          have p1 := P6.out.c1
          go_wp2_with fail
          refine (append_end_c w.heap.size (nw5 + 1) y hy _ _ _ O6.out B6.out.size (by omega) (HTAB.out.later B6.out HTAB.out.lt)).mono ?_
          rintro e w7 ⟨vw7, rfl, ho, hbb, hkk⟩
          have Pw7 : Hid (Pair w7 wr.heap.size 83 (.int .u32 x) (.int .u32 y)) := P6.out.others hkk
          have Bw7 : Hid (Below w.heap.size w w7) := B6.out.trans hbb
          rw [← Lib.byteCells_append] at ho
          obtain ⟨aw7, cw7, rfl⟩ := own_form ho
          obtain ⟨nw7, hnw7⟩ : ∃ m, m = (nw5 + 1) + (endT y).length := ⟨_, rfl⟩
          have lw7 : nw7 ≤ (nw5 + 1) + 10 := by omega
          rw [← hnw7] at ho ⊢
          have Ow7 := Lib.hid ho
          have Nw7 := Lib.hid hnw7
          clear hnw7
          clear ho hbb hkk
          go_wp2_with fail
          go_roundw
          case rel =>
            have e1 : setT (l.take (0 + 1)) = setT (l.take 0) ++ [] ++ endT x ++ [58] ++ endT y := by rw [HT2.out]; simp [rangeT, HXY.out]
            refine ⟨0 + 1, nw7, cw7, aw7, by omega, by go_num, rfl, by omega, ?_, ?_, Bw7.out⟩
            · show nw7 = _
              rw [e1]; have h1 := HL.out; have h5 := Nw5.out; have h7 := Nw7.out; simp only [List.length_append, List.length_cons, List.length_nil]; omega
            · show World.ownsRow _ _ _ _ _ _ _
              rw [e1]; have := Ow7.out; simpa using this
          case measure => simp [intOf]; omega
      · have qk : (0 : Int) < k := by omega
        go_wp2_with (at_builtin; refine wpList_append_own _ rfl (.tmp 15) (.tmp 16) 69 rfl w.heap.size 5 i0 (.int .u8 0) 1 1 Tryd.underlying69 hi hz0 hz1 hz2 rfl (by decide) _ _ _ rfl (HR1.out.alloc _) ⟨wr.heap.size + 1, 0, none⟩ 1 1 [.int .u8 44] rfl rfl (cell_new_at _ (by simp)) (fun x hx => by simp at hx; subst hx; rfl) (by unfold maxLen; omega) (by omega) (by simp; omega) ?_)
        intro v4 w4 hown4 hgrow4 _
        have hk4 : Lib.OthersKept 5 none (wr.alloc (.cells #[.int .u32 x, .int .u32 y] 83)) w4 := ((Lib.OthersKept.refl _ _ _).alloc _).grown hgrow4 (own_row (HR1.out.alloc _))
        have B4 : Hid (Below w.heap.size w w4) := Below.grown (HB1.out.alloc HB1.out.size _) hgrow4 (by have := HB1.out.size; simp; omega) (fun j hj => (HR1.out.lt _ hj).1)
        have P4 : Hid (Pair w4 wr.heap.size 83 (.int .u32 x) (.int .u32 y)) := HP.out.others hk4
        rw [show [Value.int .u8 44] = Lib.byteCells [44] from rfl, ← Lib.byteCells_append] at hown4
        obtain ⟨a4, c4, rfl⟩ := own_form hown4
        have O4 := Lib.hid hown4
        clear hown4 hgrow4 hk4
        have p0 := P4.out.c0
        have p1 := P4.out.c1
        go_wp2_with fail
        clear p0 p1
        refine (append_end_c w.heap.size (n + 1) x hx _ _ _ O4.out B4.out.size (by omega) (HTAB.out.later B4.out HTAB.out.lt)).mono ?_
        rintro e w5 ⟨vw5, rfl, ho, hbb, hkk⟩
        have Pw5 : Hid (Pair w5 wr.heap.size 83 (.int .u32 x) (.int .u32 y)) := P4.out.others hkk
        have Bw5 : Hid (Below w.heap.size w w5) := B4.out.trans hbb
        rw [← Lib.byteCells_append] at ho
        obtain ⟨aw5, cw5, rfl⟩ := own_form ho
        obtain ⟨nw5, hnw5⟩ : ∃ m, m = (n + 1) + (endT x).length := ⟨_, rfl⟩
        have lw5 : nw5 ≤ (n + 1) + 10 := by omega
        rw [← hnw5] at ho ⊢
        have Ow5 := Lib.hid ho
        have Nw5 := Lib.hid hnw5
        clear hnw5
        clear ho hbb hkk
        have p0 := Pw5.out.c0
        have p1 := Pw5.out.c1
        by_cases hxy : x = y
        · have exy : ((x : Int) != (y : Int)) = false := by simp [hxy]
          have HXY := Lib.hid hxy
          clear hxy
          go_wp2_with fail
          go_roundw
          case rel =>
            have e1 : setT (l.take (k + 1)) = setT (l.take k) ++ [44] ++ endT x := by rw [HT2.out, if_neg (by omega)]; simp [rangeT, HXY.out]
            refine ⟨k + 1, nw5, cw5, aw5, by omega, by go_num, rfl, by omega, ?_, ?_, Bw5.out⟩
            · show nw5 = _
              rw [e1]; have h1 := HL.out; have h5 := Nw5.out; simp only [List.length_append, List.length_cons, List.length_nil]; omega
            · show World.ownsRow _ _ _ _ _ _ _
              rw [e1]; have := Ow5.out; simpa using this
          case measure => simp [intOf]; omega
        · have exy : ((x : Int) != (y : Int)) = true := by simp; omega
          have HXY := Lib.hid hxy
          clear hxy
          have hls5 := Bw5.out.size
          go_wp2_with (at_builtin; refine wpList_append_own _ rfl (.tmp 27) (.tmp 28) 69 rfl w.heap.size 5 i0 (.int .u8 0) 1 1 Tryd.underlying69 hi hz0 hz1 hz2 rfl (by decide) _ _ _ rfl (Ow5.out.alloc _) ⟨w5.heap.size, 0, none⟩ 1 1 [.int .u8 58] rfl rfl (cell_new_at _ (by simp)) (fun x hx => by simp at hx; subst hx; rfl) (by unfold maxLen; omega) (by omega) (by simp; omega) ?_)
          intro v6 w6 hown6 hgrow6 _
          have hk6 : Lib.OthersKept 5 none w5 w6 := ((Lib.OthersKept.refl _ _ w5).alloc _).grown hgrow6 (own_row (Ow5.out.alloc _))
          have B6 : Hid (Below w.heap.size w w6) := Below.grown (Bw5.out.alloc Bw5.out.size _) hgrow6 (by have := Bw5.out.size; simp; omega) (fun j hj => (Ow5.out.lt _ hj).1)
          have P6 : Hid (Pair w6 wr.heap.size 83 (.int .u32 x) (.int .u32 y)) := Pw5.out.others hk6
          rw [show [Value.int .u8 58] = Lib.byteCells [58] from rfl, ← Lib.byteCells_append] at hown6
          obtain ⟨a6, c6, rfl⟩ := own_form hown6
          have O6 := Lib.hid hown6
          clear hown6 hgrow6 hk6 p0 p1
          have p0 := P6.out.c0
          have p1 := P6.out.c1
          go_wp2_with fail
          refine (append_end_c w.heap.size (nw5 + 1) y hy _ _ _ O6.out B6.out.size (by omega) (HTAB.out.later B6.out HTAB.out.lt)).mono ?_
          rintro e w7 ⟨vw7, rfl, ho, hbb, hkk⟩
          have Pw7 : Hid (Pair w7 wr.heap.size 83 (.int .u32 x) (.int .u32 y)) := P6.out.others hkk
          have Bw7 : Hid (Below w.heap.size w w7) := B6.out.trans hbb
          rw [← Lib.byteCells_append] at ho
          obtain ⟨aw7, cw7, rfl⟩ := own_form ho
          obtain ⟨nw7, hnw7⟩ : ∃ m, m = (nw5 + 1) + (endT y).length := ⟨_, rfl⟩
          have lw7 : nw7 ≤ (nw5 + 1) + 10 := by omega
          rw [← hnw7] at ho ⊢
          have Ow7 := Lib.hid ho
          have Nw7 := Lib.hid hnw7
          clear hnw7
          clear ho hbb hkk
          go_wp2_with fail
          go_roundw
          case rel =>
            have e1 : setT (l.take (k + 1)) = setT (l.take k) ++ [44] ++ endT x ++ [58] ++ endT y := by rw [HT2.out, if_neg (by omega)]; simp [rangeT, HXY.out]
            refine ⟨k + 1, nw7, cw7, aw7, by omega, by go_num, rfl, by omega, ?_, ?_, Bw7.out⟩
            · show nw7 = _
              rw [e1]; have h1 := HL.out; have h5 := Nw5.out; have h7 := Nw7.out; simp only [List.length_append, List.length_cons, List.length_nil]; omega
            · show World.ownsRow _ _ _ _ _ _ _
              rw [e1]; have := Ow7.out; simpa using this
          case measure => simp [intOf]; omega
    · obtain rfl : k = N := by omega
      have htk : l.take k = l := List.take_of_length_le (by rw [← HN.out]; exact Nat.le_refl _)
      have hR := HR.out
      have hL := HL.out
      rw [htk] at hR hL
      clear HR HL HTAB HS
      cases ab with
      | none =>
        have hn0 : setT l = [] ∧ n = 0 ∧ cb = 0 := by
          rcases hR.2 with ⟨h1, h2⟩ | ⟨g, cap, cur, h1, _⟩
          · cases h1; exact ⟨List.length_eq_zero_iff.1 (by omega), rfl, rfl⟩
          · cases h1
        obtain ⟨h1, rfl, rfl⟩ := hn0
        have HE := Lib.hid h1
        have kc : (convert 69 9 (.slice none 0 0)).run Tryd.prog wr = .ok (.string (txt [])) wr := by kernel_rfl
        clear hR hL htk h1
        go_wp2_with fail
        go_ret
        exact ⟨by rw [HE.out]; rfl, HB.out⟩
      | some a =>
        obtain ⟨g, rfl⟩ : ∃ g, a = ⟨g, 0, none⟩ := by
          rcases hR.2 with ⟨h1, h2⟩ | ⟨g, cap, cur, h1, _⟩
          · cases h1
          · cases h1; exact ⟨g, rfl⟩
        have kc : (convert 69 9 (.slice (some ⟨g, 0, none⟩) n cb)).run Tryd.prog wr = .ok (.string (txt (setT l))) wr := by
          rw [hL]
          refine run_convert_bytes_back (P := Tryd.prog) wr 69 9 5 ⟨g, 0, none⟩ cb (setT l) Tryd.underlying69 Tryd.underlying5 Tryd.underlying9 (fun j hj => ?_)
          rw [Addr.add_lit, Nat.zero_add, hR.cellAt j (by omega)]
          simp [Lib.byteCells, hj]
        clear hR hL htk
        go_wp2_with fail
        go_ret
        exact ⟨rfl, HB.out⟩
end Go.Proofs.YtmfpfebnlflfiaaDoor

/-
  A feed of the program: a byte of a literal; a command's end: contracts.
-/
import Derived.Test.YtkmhdaalabhcbaaDoorFd3
import Derived.OwnWalk
import Derived.BigQuiet
import Derived.Deep.RegionHeld
set_option linter.unusedVariables false
set_option linter.unusedSimpArgs false
namespace Go.Proofs.YtkmhdaalabhcbaaDoor
open Go Go.RowKit
variable {W W' : World} {g : Nat} {o : Option Nat} {s : FS}

theorem infoByteF : (Tryd.prog.info? 5).map (fun i => (i.zero, i.size, i.bytes)) = some (some (.int .u8 0), 1, 1) := by kernel_rfl
/-- A feed's row has grown by a byte. -/
theorem FA.grow {w2 : World} {a0 a2 a3 a4 tv tv' : Value} {l : List UInt8} {c : UInt8} {ob : Obj} (h1 : Cells W g 37 #[a0, tv, a2, a3, a4]) (hown : W.ownsRow (g + 1) 5 1 tv l.length (bV l))
    (h2 : (W.alloc ob).grownBy w2 tv.ownBlock) (h3 : tv'.ownBlock = tv.ownBlock ∨ tv'.ownBlock = some (W.heap.size + 1)) (ho : w2.ownsRow (g + 1) 5 1 tv' (l.length + 1) (bV l ++ [.int .u8 (c.toNat : Int)])) :
    Cells w2 g 37 #[a0, tv, a2, a3, a4] ∧ FMv g tv.ownBlock tv'.ownBlock W (w2.setCell ⟨g, 1, none⟩ tv') ∧ Cells (w2.setCell ⟨g, 1, none⟩ tv') g 37 #[a0, tv', a2, a3, a4] ∧
      (w2.setCell ⟨g, 1, none⟩ tv').ownsRow (g + 1) 5 1 tv' (l ++ [c]).length (bV (l ++ [c])) := by
  have hlt := h1.lt
  have k1 : Cells w2 g 37 #[a0, tv, a2, a3, a4] := by
    refine Cells.later (Cells.later h1 (((Below.refl _ W).alloc (Nat.le_refl _) ob).block g hlt)) (h2.block g (by simp; omega) fun e => ?_)
    have := (hown.lt g e.symm).1; omega
  refine ⟨k1, ?_, k1.set 1 _, ?_⟩
  · exact ((FMv.of_below ((Below.refl _ W).alloc (Nat.le_refl _) ob)).trans (FMv.of_grown h2 (by simpa using h3))).trans (FMv.of_tk (Tk.set _ _ _))
  · rw [bV_app, List.length_append]
    exact own_later ho fun k hk => Below.heap_setCell _ ⟨g, 1, none⟩ _ k (by have := ho.lt k hk; show k ≠ g; omega)

set_option maxRecDepth 100000 in
set_option maxHeartbeats 2000000 in
theorem feLiteral_c (h : FA W g o s) (hm : s.m = 1) (hl : s.t.length ≤ 60000) (n : Nat) (c : UInt8) (hn : n = c.toNat) : Calls Tryd.prog 18 #[pt g, .int .u8 n] W fun e w' =>
    e = .returned (.slice none 0 0) ∧ ∃ o', FA w' g o' (litS' (s.t ++ [c]) s.lits s.fr s.to) ∧ FMv g o o' W w' := by
  obtain ⟨i0, hi, hz0, hz1, hz2⟩ := info_parts infoByteF
  obtain ⟨tv, c0, c1, c2, c3, c4, ⟨f0, f1, f2, f3, f4⟩, h2, h3, h1⟩ := h.cells
  have hb := h1.lt
  have G := fun w2 tv' k1 k2 k3 => FA.grow (c := c) (w2 := w2) (tv' := tv') (ob := .cells #[.int .u8 n] 5) h1 h3 k1 k2 k3
  rw [← hn] at G
  have hlen : (s.t ++ [c]).length = s.t.length + 1 := by simp
  have HD : Hid (litS' (s.t ++ [c]) s.lits s.fr s.to = ⟨s.t ++ [c], s.lits, s.fr, s.to, if (s.t ++ [c]).length = s.to then 0 else 1⟩) := rfl
  obtain ⟨R, hR⟩ : ∃ R, litS' (s.t ++ [c]) s.lits s.fr s.to = R := ⟨_, rfl⟩
  rw [hR] at HD ⊢
  obtain ⟨t, lits, fr, to, m⟩ := s
  obtain ⟨t', ht'⟩ : ∃ t', t ++ [c] = t' := ⟨_, rfl⟩
  obtain ⟨N, hN⟩ : ∃ N, t.length = N := ⟨_, rfl⟩
  dsimp only at c0 c1 c2 c3 c4 h3 h1 hm hl hlen HD G
  rw [ht'] at G HD hlen
  rw [hN] at G h3 hl hlen
  rw [hm] at G c0
  subst h2
  have G := Lib.hid G
  have HO := Lib.hid h3
  have HLEN := Lib.hid hlen
  have HN := Lib.hid hN
  clear h h3 hR ht' hlen hm hn hN h1
  go_enter Tryd.func18, Tryd.ntmps18
  go_wp2_with (at_builtin; refine wpList_append_own_at _ rfl _ _ 22 rfl (g + 1) 5 i0 (.int .u8 0) 1 1 Tryd.underlying22 hi hz0 hz1 hz2 rfl (by decide) _ _ _ rfl (HO.out.alloc _) ⟨W.heap.size, 0, none⟩ 1 1 [.int .u8 n] rfl rfl ?c1 ?c2 ?c3 ?c4 ?c5 ?_)
  case c1 =>
    intro j u hj
    match j, hj with
    | 0, hj => simp at hj; subst hj; simp [Addr.add]
  case c2 => intro u hu; simp at hu; subst hu; rfl
  case c3 => unfold maxLen; omega
  case c4 => omega
  case c5 => simp; omega
  intro tv' w2 hown' hgrow _ hbl
  obtain ⟨k1, k2, k3, k4⟩ := G.out w2 tv' hgrow hbl hown'
  have H3 : FA (w2.setCell ⟨g, 1, none⟩ tv') g tv'.ownBlock ⟨t', lits, fr, to, 1⟩ := ⟨_, k3, rfl, k4⟩
  have C := Lib.hid fun n => feEndLit_c (H3.drewN n) (by show t'.length ≤ _; rw [HLEN.out]; omega)
  rw [HLEN.out] at k4
  have d0 := k1.cell (i := 0) rfl
  have d1 := k1.cell (i := 1) rfl
  have d4 := k1.cell (i := 4) rfl
  have e0 := k1.frozen 0
  have e1 := k1.frozen 1
  have e4 := k1.frozen 4
  have hb2 := k1.lt
  obtain ⟨ad, cp, rfl⟩ := own_form k4
  have K2 := Lib.hid k2
  have H3 := Lib.hid H3
  clear k1 k2 k3 k4 hown' hgrow hbl c0 c1 c2 c3 c4 f0 f1 f2 f3 f4
  by_cases hto : N + 1 = to
  · have HR : Hid (R = ⟨t', lits, fr, to, 0⟩) := by show _ = _; rw [HD.out, HLEN.out, if_pos hto]
    have u : (((N + 1 : Nat) : Int) == (to : Int)) = true := by rw [beq_iff_eq]; omega
    clear hto
    go_wp2_with fail
    go_quiet (fail)
    go_wp2_with fail
    refine (C.out _).mono ?_
    rintro e w3 ⟨rfl, h5, h6⟩
    have H5 := Lib.hid h5
    have H6 := Lib.hid (K2.out.trans (FMv.of_tk (((Tk.refl g _).drewN nq).trans h6)))
    clear h5 h6
    go_wp2_with fail
    go_ret
    refine ⟨rfl, _, ?_, H6.out⟩
    rw [HR.out]; exact H5.out
  · have HR : Hid (R = ⟨t', lits, fr, to, 1⟩) := by show _ = _; rw [HD.out, HLEN.out, if_neg hto]
    have u : (((N + 1 : Nat) : Int) == (to : Int)) = false := by rw [beq_eq_false_iff_ne]; omega
    clear hto
    go_wp2_with fail
    go_quiet (fail)
    go_wp2_with fail
    go_ret
    refine ⟨rfl, _, ?_, K2.out.trans (FMv.of_tk ((Tk.refl g _).drewN nq))⟩
    rw [HR.out]; exact H3.out.drewN nq

/-- What a byte's function answers: a piece at most, what the feed is then. -/
def PcAt (w : World) (pv : Value) (ps : List Pc) : Prop := (ps = [] ∧ pv = .slice none 0 0) ∨ ∃ p b, ps = [p] ∧ pv = .slice (some ⟨b, 0, none⟩) 1 1 ∧ w.heap[b]? = some (.cells #[.int .i64 (p.1 : Nat), .string (txt p.2)] 40 (0, 0))
def StepP (W : World) (g : Nat) (o : Option Nat) (r : FS × List Pc) (e : Ending) (w' : World) : Prop := ∃ o' pv, e = .returned pv ∧ PcAt w' pv r.2 ∧ FA w' g o' r.1 ∧ FMv g o o' W w'
theorem piece_at (w : World) (k : Nat) (l : List UInt8) : PcAt (w.alloc (.cells #[.int .i64 k, .string (txt l)] 40)) (.slice (some ⟨w.heap.size, 0, none⟩) 1 1) [(k, l)] := .inr ⟨(k, l), w.heap.size, rfl, rfl, heap_alloc_new w _⟩
theorem FMv.drewN {a b : World} {o' : Option Nat} (h : FMv g o o' a b) (n : Nat) : FMv g o o' a (b.drewN n) := h.trans (FMv.of_tk ((Tk.refl g b).drewN n))
theorem row_conv {ad : Option Addr} {n cap : Nat} {w : World} {B : Nat} {l : List UInt8} (ho : w.ownsRow B 5 1 (.slice ad n cap) n (bV l)) (hl : l.length = n) (h0 : 0 < n) (k : Nat) (hk : k ≤ n) :
    ∃ tb, ad = some ⟨tb, 0, none⟩ ∧ n ≤ cap ∧ (convert 22 9 (.slice ad k cap)).run Tryd.prog w = .ok (.string (txt (l.take k))) w := by
  rcases ho.2 with ⟨e1, e2⟩ | ⟨tb, cap', cur, e1, h2, h3, h4, h5, h6, h7⟩
  · omega
  · cases e1
    refine ⟨tb, rfl, h4, ?_⟩
    have hlen : (l.take k).length = k := by rw [List.length_take]; omega
    have := run_convert_bytes_back (P := Tryd.prog) w 22 9 5 ⟨tb, 0, none⟩ cap (l.take k) Tryd.underlying22 Tryd.underlying5 Tryd.underlying9 (fun j hj => by
      rw [hlen] at hj
      have hc := ho.cells (g := tb) rfl j _ (bV_at (List.getElem?_eq_getElem (l := l) (i := j) (by omega)))
      rw [hc, List.getElem_take])
    rw [hlen] at this
    exact this
set_option maxRecDepth 100000 in
set_option maxHeartbeats 2000000 in
theorem feEnd_c (h : FA W g o s) (k : Nat) (hk : k ≤ 3) (h2 : 2 ≤ s.t.length) (hl : s.t.length ≤ 70000) : Calls Tryd.prog 17 #[pt g, .int .i64 k] W (StepP W g o (FS.new, [(k, s.t.take (s.t.length - 2))])) := by
  obtain ⟨tv, c0, c1, c2, c3, c4, ⟨f0, f1, f2, f3, f4⟩, ho, h3, h1⟩ := h.cells
  have hb := h1.lt
  have C := Lib.hid fun n => feBegin_c (W := W.drewN n) h1
  obtain ⟨ad, cap, rfl⟩ := own_form h3
  obtain ⟨tb, rfl, hcap, HCV⟩ := row_conv (w := W.drew) h3 rfl (by omega) (s.t.length - 2) (by omega)
  have HP := fun w => piece_at w k (s.t.take (s.t.length - 2))
  obtain ⟨N, hN⟩ : ∃ N, s.t.length = N := ⟨_, rfl⟩
  rw [hN] at c1 HCV hcap h2 hl HP ⊢
  obtain ⟨M, rfl⟩ : ∃ M, N = M + 2 := ⟨N - 2, by omega⟩
  have eM : M + 2 - 2 = M := by omega
  rw [eM] at HCV HP ⊢
  obtain ⟨X, hX⟩ : ∃ X, s.t.take M = X := ⟨_, rfl⟩
  rw [hX] at HCV HP ⊢
  have em : (((M + 2 : Nat) : Int)) - 2 = M := by omega
  obtain ⟨B, hB⟩ : ∃ B, txt X = B := ⟨_, rfl⟩
  rw [hB] at HCV HP
  have HP := Lib.hid HP
  have hq1 : (0 : Int) ≤ M := by omega
  have hq2 : (M : Int) ≤ cap := by omega
  clear h h1 h3 ho hN hX hB c0 c2 c3 c4 f0 f1 f2 f3 f4 h2 eM
  go_enter Tryd.func17, Tryd.ntmps17
  go_wp2_with fail
  go_region
  go_wp2_with fail
  refine (C.out _).mono ?_
  rintro e w3 ⟨rfl, h5, h6⟩
  have H5 := Lib.hid h5
  have H6 := Lib.hid h6
  clear h5 h6
  go_wp2_with fail
  go_ret
  have hbl := (Below.refl _ w3).alloc (Nat.le_refl _) (.cells #[.int .i64 (k : Int), .string B] 40)
  exact ⟨none, _, rfl, HP.out w3, H5.out.below hbl, (((FMv.refl g o W).drewN 1).trans (FA.begun (o := o) H5.out H6.out)).trans (FMv.of_below hbl)⟩
set_option maxRecDepth 100000 in
set_option maxHeartbeats 2000000 in
theorem feEndLong_c (h : FA W g o s) (h2 : 0 < s.t.length) (hl : s.t.length ≤ 70000) (n : Nat) (c : UInt8) (hn : n = c.toNat) : Calls Tryd.prog 14 #[pt g, .int .u8 n] W (StepP W g o (FS.skips c, [(3, s.t)])) := by
  obtain ⟨tv, c0, c1, c2, c3, c4, ⟨f0, f1, f2, f3, f4⟩, ho, h3, h1⟩ := h.cells
  have hb := h1.lt
  have C := Lib.hid (feBegin_c h1)
  obtain ⟨ad, cap, rfl⟩ := own_form h3
  obtain ⟨tb, rfl, hcap, HCV⟩ := row_conv h3 rfl h2 s.t.length (Nat.le_refl _)
  rw [List.take_of_length_le (Nat.le_refl _)] at HCV
  have HP := Lib.hid fun w => piece_at w 3 s.t
  have HN := Lib.hid hn
  have hn9 : n < 256 := by rw [hn]; exact c.toNat_lt
  obtain ⟨N, hN⟩ : ∃ N, s.t.length = N := ⟨_, rfl⟩
  rw [hN] at c1 HCV hcap h2 hl
  obtain ⟨X, hX⟩ : ∃ X, s.t = X := ⟨_, rfl⟩
  rw [hX] at HCV HP ⊢
  obtain ⟨B, hB⟩ : ∃ B, txt X = B := ⟨_, rfl⟩
  rw [hB] at HCV HP
  clear h h1 h3 ho hN hX hB c0 c2 c3 c4 f0 f1 f2 f3 f4 h2 hn
  go_enter Tryd.func14, Tryd.ntmps14
  go_wp2_with fail
  refine C.out.mono ?_
  rintro e w3 ⟨rfl, h5, h6⟩
  have hc := h5.cells
  obtain ⟨tv3, d0, d1, d2, d3, d4, ⟨e0, e1, e2, e3, e4⟩, _, _, _⟩ := hc
  have hb3 := h5.lt
  have C2 := Lib.hid (feSkip_c (h5.to_m 2) rfl n c HN.out)
  have HM := Lib.hid ((FA.begun (o := o) h5 h6).trans (FMv.of_tk (Tk.set w3 0 (bnd (fnN 2) g))))
  clear h5 h6 d1 d2 d3 d4 e1 e2 e3 e4
  go_wp2_with fail
  refine C2.out.mono ?_
  rintro e w4 ⟨rfl, h7, h8⟩
  have H7 := Lib.hid h7
  have HM2 := Lib.hid (HM.out.trans (FMv.of_tk h8))
  clear h7 h8
  go_wp2_with fail
  go_ret
  have hbl := (Below.refl _ w4).alloc (Nat.le_refl _) (.cells #[.int .i64 (3 : Nat), .string B] 40)
  exact ⟨none, _, rfl, HP.out w4, H7.out.below hbl, HM2.out.trans (FMv.of_below hbl)⟩
/-- A feed's numbers, and its state, turn. -/
theorem FA.put4 (h : FA W g o s) (lits fr to m : Nat) : FA ((((W.setCell ⟨g, 2, none⟩ (.int .i64 lits)).setCell ⟨g, 3, none⟩ (.int .i64 fr)).setCell ⟨g, 4, none⟩ (.int .i64 to)).setCell ⟨g, 0, none⟩ (bnd (fnN m) g)) g o ⟨s.t, lits, fr, to, m⟩ ∧
    Tk g W ((((W.setCell ⟨g, 2, none⟩ (.int .i64 lits)).setCell ⟨g, 3, none⟩ (.int .i64 fr)).setCell ⟨g, 4, none⟩ (.int .i64 to)).setCell ⟨g, 0, none⟩ (bnd (fnN m) g)) := by
  obtain ⟨tv, h1, h2, h3⟩ := h
  have ht : Tk g W ((((W.setCell ⟨g, 2, none⟩ (.int .i64 lits)).setCell ⟨g, 3, none⟩ (.int .i64 fr)).setCell ⟨g, 4, none⟩ (.int .i64 to)).setCell ⟨g, 0, none⟩ (bnd (fnN m) g)) := (((Tk.set _ _ _).trans (Tk.set _ _ _)).trans (Tk.set _ _ _)).trans (Tk.set _ _ _)
  exact ⟨⟨tv, (((h1.set 2 _).set 3 _).set 4 _).set 0 _, h2, own_later h3 fun k hk => ht.blk k (h3.lt k hk).2 (by have := h3.lt k hk; omega)⟩, ht⟩
set_option maxRecDepth 100000 in
set_option maxHeartbeats 2000000 in
theorem feEndLine_c (h : FA W g o s) (hlit : s.lits ≤ 65536) (h2 : 2 ≤ s.t.length) (hl : s.t.length ≤ 60000) (hE : Errs W) (b off cap : Nat) (l : List UInt8) (hr : RBy W (some ⟨b, off, none⟩) l) (hll : l.length ≤ 100000) (hcap : l.length < cap) (hbg : b ≠ g) :
    Calls Tryd.prog 13 #[pt g, .slice (some ⟨b, off, none⟩) l.length cap] W (StepP W g o (if headB l then
       if 65536 - s.lits < headN l then (FS.new, [(2, s.t.take (s.t.length - 2))])
       else (⟨s.t, s.lits + headN l, s.t.length, s.t.length + headN l, if headN l = 0 then 0 else 1⟩, [(1, [])])
     else (FS.new, [(0, s.t.take (s.t.length - 2))]))) := by
  have C1 := Lib.hid (feHeadOf_c W b off cap l hr hll hcap hE)
  have hhn := headN_le l
  obtain ⟨N, hN⟩ : ∃ N, l.length = N := ⟨_, rfl⟩
  obtain ⟨hn, hhe⟩ : ∃ x, headN l = x := ⟨_, rfl⟩
  obtain ⟨hb, hbe⟩ : ∃ x, headB l = x := ⟨_, rfl⟩
  rw [hN, hhe, hbe] at C1
  rw [hhe] at hhn
  rw [hN, hhe, hbe]
  have H := Lib.hid h
  clear hr hll hcap hN hhe hbe h
  cases hb with
  | false =>
    rw [if_neg (by simp)]
    go_enter Tryd.func13, Tryd.ntmps13
    go_wp2_with fail
    refine C1.out.mono ?_
    rintro e w1 ⟨rfl, hb1⟩
    have C2 := Lib.hid (feEnd_c (H.out.below hb1) 0 (by omega) h2 (by omega))
    have HB1 := Lib.hid hb1
    clear hb1
    go_wp2_with fail
    refine C2.out.mono ?_
    rintro e w2 ⟨o', pv, rfl, k1, k2, k3⟩
    have K1 := Lib.hid k1
    have K2 := Lib.hid k2
    have K3 := Lib.hid ((FMv.of_below HB1.out).trans k3)
    clear k1 k2 k3
    go_wp2_with fail
    go_ret
    exact ⟨o', pv, rfl, K1.out, K2.out, K3.out⟩
  | true =>
    rw [if_pos rfl]
    obtain ⟨tv, c0, c1, c2, c3, c4, ⟨f0, f1, f2, f3, f4⟩, ho, h3, h1⟩ := H.out.cells
    obtain ⟨ad, cp, rfl⟩ := own_form h3
    clear c0 c1 c2 c3 c4 f0 f1 f2 f3 f4 ho h3 h1
    obtain ⟨t, lits, fr, to, m⟩ := s
    dsimp only at hlit h2 hl ⊢
    by_cases hbig : 65536 - lits < hn
    · rw [if_pos hbig]
      have q1 : (65536 : Int) - lits < hn := by omega
      have hm : ((65536 : Int) - lits) % 4294967296 = 65536 - lits := by omega
      go_enter Tryd.func13, Tryd.ntmps13
      go_wp2_with fail
      refine C1.out.mono ?_
      rintro e w1 ⟨rfl, hb1⟩
      obtain ⟨tv, c0, c1, c2, c3, c4, ⟨f0, f1, f2, f3, f4⟩, ho, h3, h1⟩ := (H.out.below hb1).cells
      have C2 := Lib.hid (feEnd_c (H.out.below hb1) 2 (by omega) h2 (by dsimp only; omega))
      have HB1 := Lib.hid hb1
      dsimp only at c0 c1 c2 c3 c4
      have hlt := h1.lt
      clear hb1 ho h3 h1
      go_wp2_with fail
      refine C2.out.mono ?_
      rintro e w2 ⟨o', pv, rfl, k1, k2, k3⟩
      have K1 := Lib.hid k1
      have K2 := Lib.hid k2
      have K3 := Lib.hid ((FMv.of_below HB1.out).trans k3)
      clear k1 k2 k3
      go_wp2_with fail
      go_ret
      exact ⟨o', pv, rfl, K1.out, K2.out, K3.out⟩
    · rw [if_neg hbig]
      have q1 : ¬ ((65536 : Int) - lits < hn) := by omega
      have hm : ((65536 : Int) - lits) % 4294967296 = 65536 - lits := by omega
      have HPC := Lib.hid fun w => piece_at w 1 []
      obtain ⟨N, hN⟩ : ∃ N, t.length = N := ⟨_, rfl⟩
      rw [hN] at h2 hl ⊢
      have HN := Lib.hid hN
      clear hN
      by_cases hz : hn = 0
      · subst hz
        rw [if_pos rfl]
        go_enter Tryd.func13, Tryd.ntmps13
        go_wp2_with fail
        refine C1.out.mono ?_
        rintro e w1 ⟨rfl, hb1⟩
        obtain ⟨tv, c0, c1, c2, c3, c4, ⟨f0, f1, f2, f3, f4⟩, ho, h3, h1⟩ := (H.out.below hb1).cells
        obtain ⟨ad, cp, rfl⟩ := own_form h3
        have P := (H.out.below hb1).put4 lits N N 1
        have C2 := Lib.hid (feEndLit_c P.1 (by dsimp only; rw [HN.out]; omega))
        have P := Lib.hid P
        have HB1 := Lib.hid hb1
        dsimp only at c0 c1 c2 c3 c4
        rw [HN.out] at c1
        have hlt := h1.lt
        clear hb1 ho h3 h1
        go_wp2_with fail
        refine C2.out.mono ?_
        rintro e w3 ⟨rfl, h5, h6⟩
        have H5 := Lib.hid h5
        have HM : Hid (FMv g o o W w3) := (FMv.of_below HB1.out).trans ((FMv.of_tk P.out.2).trans (FMv.of_tk h6))
        clear h5 h6
        go_wp2_with fail
        go_ret
        have hbl := (Below.refl _ w3).alloc (Nat.le_refl _) (.cells #[.int .i64 1, .string ⟨#[]⟩] 40)
        exact ⟨o, _, rfl, HPC.out w3, H5.out.below hbl, HM.out.trans (FMv.of_below hbl)⟩
      · rw [if_neg hz]
        go_enter Tryd.func13, Tryd.ntmps13
        go_wp2_with fail
        refine C1.out.mono ?_
        rintro e w1 ⟨rfl, hb1⟩
        obtain ⟨tv, c0, c1, c2, c3, c4, ⟨f0, f1, f2, f3, f4⟩, ho, h3, h1⟩ := (H.out.below hb1).cells
        obtain ⟨ad, cp, rfl⟩ := own_form h3
        have P := (H.out.below hb1).put4 (lits + hn) N (N + hn) 1
        simp only [Int.natCast_add] at P
        have P := Lib.hid P
        have HB1 := Lib.hid hb1
        dsimp only at c0 c1 c2 c3 c4
        rw [HN.out] at c1
        have hlt := h1.lt
        have u : ((hn : Int) == 0) = false := by rw [beq_eq_false_iff_ne]; omega
        clear hb1 ho h3 h1
        go_wp2_with fail
        go_ret
        have hbl := fun w : World => (Below.refl _ w).alloc (Nat.le_refl _) (.cells #[.int .i64 1, .string ⟨#[]⟩] 40)
        obtain ⟨p1, p2⟩ := P.out
        change FA _ _ _ _ at p1
        have k2 : FMv g o o W _ := (FMv.of_below HB1.out).trans (FMv.of_tk p2)
        have hh := hbl ((((w1.setCell ⟨g, 2, none⟩ (.int .i64 ((lits : Int) + hn))).setCell ⟨g, 3, none⟩ (.int .i64 N)).setCell ⟨g, 4, none⟩ (.int .i64 ((N : Int) + hn))).setCell ⟨g, 0, none⟩ (bnd (fnN 1) g))
        have hp := HPC.out ((((w1.setCell ⟨g, 2, none⟩ (.int .i64 ((lits : Int) + hn))).setCell ⟨g, 3, none⟩ (.int .i64 N)).setCell ⟨g, 4, none⟩ (.int .i64 ((N : Int) + hn))).setCell ⟨g, 0, none⟩ (bnd (fnN 1) g))
        have q1 := p1.below hh
        have q2 : FMv g o o W _ := k2.trans (FMv.of_below hh)
        clear C1 P HB1 H HPC hbl p1 p2 k2 hh
        obtain ⟨wz, hwz⟩ : ∃ wz, ((((w1.setCell ⟨g, 2, none⟩ (.int .i64 ((lits : Int) + hn))).setCell ⟨g, 3, none⟩ (.int .i64 N)).setCell ⟨g, 4, none⟩ (.int .i64 ((N : Int) + hn))).setCell ⟨g, 0, none⟩ (bnd (fnN 1) g)) = wz := ⟨_, rfl⟩
        rw [hwz] at hp q1 q2
        have hsz : wz.heap.size = w1.heap.size := by rw [← hwz]; simp [size_setCell]
        rw [hsz] at hp
        have e9 : (bnd (fnN 1) g) = .func (.func 18) #[pt g] #[] := rfl
        rw [e9] at hwz
        rw [hwz]
        exact ⟨o, _, rfl, hp, q1, q2⟩
end Go.Proofs.YtkmhdaalabhcbaaDoor

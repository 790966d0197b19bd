/-
  A feed of the program: a line's byte; all bytes that come: contracts.
-/
import Derived.Test.YtkmhdaalabhcbaaDoorFd4
import Derived.Laws.AppendOwnNone
import Derived.LoopTactic
import Derived.BigQuiet
import Derived.Lib.SmallJoins
import Derived.Deep.RegionHeld3
import Derived.Deep.DrawnRows
import Derived.Deep.CutRange
set_option linter.unusedVariables false
set_option linter.unusedSimpArgs false
namespace Go.Proofs.YtkmhdaalabhcbaaDoor
open Go Go.RowKit
variable {W W' : World} {g : Nat} {o : Option Nat} {s : FS}

theorem Errs.belowD {w w' : World} {D : Nat} (h : Errs w) (hb : Below D w w') (h1 : 1 < D) (h2 : 2 < D) : Errs w' := by
  obtain ⟨⟨t1, p1, e1⟩, t2, p2, e2⟩ := h
  exact ⟨⟨t1, p1, (cell_same (hb.block _ h1)).trans e1⟩, t2, p2, (cell_same (hb.block _ h2)).trans e2⟩
theorem FA.errs {o' : Option Nat} (h : FA W g o s) (hm : FMv g o o' W W') (hE : Errs W) (h1 : 1 < g) (h2 : 2 < g) : Errs W' :=
  hE.belowD (hm.below (Nat.le_of_lt h.lt) (Nat.le_refl _) (fun k hk => Nat.le_of_lt (h.row k hk).1)) h1 h2
theorem FMv.grown {o' row : Option Nat} {a b c : World} (h : FMv g o o' a b) (hg : b.grownBy c row) (hr : ∀ k, row = some k → a.heap.size ≤ k) : FMv g o o' a c :=
  ⟨hg.os.trans h.os, hg.tape.trans h.tape, hg.output.trans h.output, Nat.le_trans h.size hg.size,
    fun k hk h1 h2 => (hg.block k (Nat.lt_of_lt_of_le hk h.size) (fun e => by have := hr k e.symm; omega)).trans (h.blk k hk h1 h2), h.nw⟩
theorem RBy.moved {ad : Option Addr} {l : List UInt8} {o' : Option Nat} (h : RBy W ad l) (hm : FMv g o o' W W') (hn : ∀ b, ad.map (·.block) = some b → b ≠ g ∧ o ≠ some b) : RBy W' ad l := fun j c hj => by
  obtain ⟨b, off, rfl, h2, h3⟩ := h j c hj
  have := hn b rfl
  exact ⟨b, off, rfl, Nat.lt_of_lt_of_le h2 hm.size, (cell_same (a := ⟨b, off + j, none⟩) (hm.blk b h2 this.1 this.2)).trans h3⟩

theorem bytesOf_map (l : List UInt8) : Lib.bytesOf (l.map fun c => (c.toNat : Int)) = l := by
  unfold Lib.bytesOf
  rw [List.map_map]
  conv => rhs; rw [← List.map_id l]
  refine List.map_congr_left fun c _ => ?_
  show UInt8.ofNat (Int.toNat (c.toNat : Int)) = c
  simp
def cutV (ad : Option Addr) (n cap : Nat) (L : List UInt8) : Value := .slice ad (if Lib.hasSuffix L [13, 10] then n - 2 else n) cap
theorem bCut_c (W : World) (b o cap : Nat) (L : List UInt8) (h : RBy W (some ⟨b, o, none⟩) L) (hc : L.length ≤ cap) (hl : L.length ≤ 100000) (w : World) (hb : Below W.heap.size W w) :
    Calls Tryd.prog 12 #[.slice (some ⟨b, o, none⟩) L.length cap, .slice (some ⟨w.heap.size, 0, none⟩) 2 2] (w.alloc (.cells #[.int .u8 13, .int .u8 10] 5 (2, 3))) fun e w' =>
      e = .returned (.tuple #[cutV (some ⟨b, o, none⟩) L.length cap L, .bool (Lib.hasSuffix L [13, 10])]) ∧ w' = w.alloc (.cells #[.int .u8 13, .int .u8 10] 5 (2, 3)) := by
  have hbw : Below W.heap.size W (w.alloc (.cells #[.int .u8 13, .int .u8 10] 5 (2, 3))) := hb.alloc hb.size _
  have hx := h.below hbw
  refine (Tryd.bytes_CutSuffix_all (some ⟨b, o, none⟩) (some ⟨w.heap.size, 0, none⟩) L.length cap 2 2 (L.map fun c => (c.toNat : Int)) [13, 10] (w.alloc (.cells #[.int .u8 13, .int .u8 10] 5 (2, 3))) (by simp) rfl hc (by omega) ?_ ?_).mono ?_
  · intro _
    refine ⟨b, o, rfl, fun i hi => ?_⟩
    obtain ⟨b', o', e1, _, h3⟩ := hx i _ (List.getElem?_eq_getElem hi)
    cases e1
    rw [h3, List.getD_eq_getElem?_getD, List.getElem?_map, List.getElem?_eq_getElem hi]; rfl
  · intro _
    refine ⟨w.heap.size, 0, rfl, fun i hi => ?_⟩
    have hh := heap_alloc_new w (.cells #[.int .u8 13, .int .u8 10] 5 (2, 3))
    match i, hi with
    | 0, _ => rw [Nat.zero_add, Lib.cell_of_heap hh]; rfl
    | 1, _ => rw [Nat.zero_add, Lib.cell_of_heap hh]; rfl
  · rintro e w' ⟨rfl, rfl⟩
    refine ⟨?_, rfl⟩
    have e2 : Lib.bytesOf [13, 10] = [13, 10] := rfl
    rw [bytesOf_map, e2]
    have : Lib.trimSuffixV (some ⟨b, o, none⟩) L.length cap (L.map fun c => (c.toNat : Int)) [13, 10] = cutV (some ⟨b, o, none⟩) L.length cap L := by
      show Lib.bytesTrimSuffix b o L.length cap _ _ = _
      unfold Lib.bytesTrimSuffix cutV Lib.sliceTo
      rw [bytesOf_map, e2]
      split <;> rfl
    rw [this]
theorem row_rby {n cap tb : Nat} {w : World} {B : Nat} {l : List UInt8} (ho : w.ownsRow B 5 1 (.slice (some ⟨tb, 0, none⟩) n cap) n (bV l)) (hl : l.length = n) (k : Nat) : RBy w (some ⟨tb, k, none⟩) (l.drop k) := by
  intro j c hj
  rw [List.getElem?_drop] at hj
  have hc := ho.cells (g := tb) rfl (k + j) _ (bV_at hj)
  rw [Addr.add_lit, Nat.zero_add] at hc
  exact ⟨tb, k, rfl, (ho.lt tb rfl).2, hc⟩
theorem own_some {n cap : Nat} {ad : Option Addr} {w : World} {B : Nat} {T : TypeId} {k : Nat} {xs : List Value} (ho : w.ownsRow B T k (.slice ad n cap) n xs) (h0 : 0 < n) : ∃ tb, ad = some ⟨tb, 0, none⟩ ∧ n ≤ cap ∧ B ≤ tb := by
  rcases ho.2 with ⟨e1, e2⟩ | ⟨tb, cap', cur, e1, h2, h3, h4, h5, h6, h7⟩
  · omega
  · cases e1; exact ⟨tb, rfl, h4, h2⟩

theorem conv_cut (w : World) : (convert 22 22 (.slice (some ⟨w.heap.size, 0, none⟩) 2 2)).run Tryd.prog (w.alloc (.cells #[.int .u8 13, .int .u8 10] 5)) = .ok (.slice (some ⟨w.heap.size, 0, none⟩) 2 2) (w.alloc (.cells #[.int .u8 13, .int .u8 10] 5 (2, 3))) :=
  Go.Joins.run_convert_bytes_const_at w 22 5 #[.int .u8 13, .int .u8 10] 2 2 _ rfl Tryd.underlying22 Tryd.underlying5
theorem conv_cut' (w : World) : (convert 22 22 (.slice (some ⟨w.heap.size, 0, none⟩) 2 2)).run Tryd.prog (w.alloc (.cells #[.int .u8 13, .int .u8 10] 5)).drew = .ok (.slice (some ⟨w.heap.size, 0, none⟩) 2 2) (w.alloc (.cells #[.int .u8 13, .int .u8 10] 5 (2, 3))).drew := conv_cut w.drew
set_option maxRecDepth 100000 in
set_option maxHeartbeats 4000000 in
theorem feLine_c (h : FA W g o s) (hm : s.m = 0) (hok : s.Ok) (hl : s.t.length ≤ 50000) (hE : Errs W) (hv1 : 1 < g) (hv2 : 2 < g) (n : Nat) (c : UInt8) (hn : n = c.toNat) :
    Calls Tryd.prog 11 #[pt g, .int .u8 n] W (StepP W g o (lineS (s.t ++ [c]) s.lits s.fr s.to c)) := by
  obtain ⟨i0, hi, hz0, hz1, hz2⟩ := info_parts infoByteF
  obtain ⟨tv, c0, c1, c2, c3, c4, ⟨f0, f1, f2, f3, f4⟩, h2, h3, h1⟩ := h.cells
  have hb := h1.lt
  have G := fun w2 tv' k1 k2 k3 => FA.grow (c := c) (w2 := w2) (tv' := tv') (ob := .cells #[.int .u8 n] 5) h1 h3 k1 k2 k3
  rw [← hn] at G
  have hlen : (s.t ++ [c]).length = s.t.length + 1 := by simp
  have hto := hok.line hm
  have hlit := hok.lits
  have HFE : Hid (∀ {o' : Option Nat} {w' : World}, FMv g o o' W w' → Errs w') := fun hmv => h.errs hmv hE hv1 hv2
  obtain ⟨t, lits, fr, tz, m⟩ := s
  obtain ⟨t', ht'⟩ : ∃ t', t ++ [c] = t' := ⟨_, rfl⟩
  obtain ⟨N, hN⟩ : ∃ N, t.length = N := ⟨_, rfl⟩
  dsimp only at c0 c1 c2 c3 c4 h3 h1 hm hl hlen G hto hlit ⊢
  rw [ht'] at G hlen ⊢
  rw [hN] at G h3 hl hlen hto
  rw [hm] at G c0
  subst h2
  have HLS : Hid (lineS t' lits fr tz c = if Lib.hasSuffix (t'.drop tz) [13, 10] then
    (if headB ((t'.drop tz).take ((t'.drop tz).length - 2)) then
       if 65536 - lits < headN ((t'.drop tz).take ((t'.drop tz).length - 2)) then (FS.new, [(2, t'.take (t'.length - 2))])
       else (⟨t', lits + headN ((t'.drop tz).take ((t'.drop tz).length - 2)), t'.length, t'.length + headN ((t'.drop tz).take ((t'.drop tz).length - 2)), if headN ((t'.drop tz).take ((t'.drop tz).length - 2)) = 0 then 0 else 1⟩, [(1, [])])
     else (FS.new, [(0, t'.take (t'.length - 2))]))
    else if 8192 + lits < t'.length then (FS.skips c, [(3, t')]) else (⟨t', lits, fr, tz, 0⟩, [])) := rfl
  obtain ⟨R, hR⟩ : ∃ R, lineS t' lits fr tz c = R := ⟨_, rfl⟩
  rw [hR] at HLS ⊢
  have G := Lib.hid G
  have HO := Lib.hid h3
  have HLEN := Lib.hid hlen
  have HN := Lib.hid hN
  have HC := Lib.hid hn
  have hn9 : n < 256 := by rw [hn]; exact c.toNat_lt
  clear h h3 ht' hlen hm hn hN h1 hok hE hR hv1 hv2
  go_enter Tryd.func11, Tryd.ntmps11
  go_wp2_with (at_builtin; refine wpList_append_own_at _ rfl _ _ 22 rfl (g + 1) 5 i0 (.int .u8 0) 1 1 Tryd.underlying22 hi hz0 hz1 hz2 rfl (by decide) _ _ _ rfl (HO.out.alloc _) ⟨W.heap.size, 0, none⟩ 1 1 [.int .u8 n] rfl rfl ?c1 ?c2 ?c3 ?c4 ?c5 ?_)
  case c1 =>
    intro j u hj
    match j, hj with
    | 0, hj => simp at hj; subst hj; simp [Addr.add]
  case c2 => intro u hu; simp at hu; subst hu; rfl
  case c3 => unfold maxLen; omega
  case c4 => omega
  case c5 => simp; omega
  intro tv' w2 hown' hgrow _ hbl
  obtain ⟨k1, k2, k3, k4⟩ := G.out w2 tv' hgrow hbl hown'
  have H3 : FA (w2.setCell ⟨g, 1, none⟩ tv') g tv'.ownBlock ⟨t', lits, fr, tz, 0⟩ := ⟨_, k3, rfl, k4⟩
  rw [HLEN.out] at k4
  obtain ⟨ad, cp, rfl⟩ := own_form k4
  obtain ⟨tb, rfl, hcp, htb⟩ := own_some k4 (by omega)
  have a1 := k1.cell (i := 1) rfl
  have b1 := k1.frozen 1
  have hb2 := k1.lt
  have HRB := row_rby k4 HLEN.out tz
  obtain ⟨w3, hw3⟩ : ∃ w3, w2.setCell ⟨g, 1, none⟩ (.slice (some ⟨tb, 0, none⟩) (N + 1) cp) = w3 := ⟨_, rfl⟩
  rw [hw3] at k2 k3 k4 H3 HRB
  have hLl : (t'.drop tz).length = N + 1 - tz := by rw [List.length_drop, HLEN.out]
  have CX := fun w hw => bCut_c w3 tb tz (cp - tz) (t'.drop tz) HRB (by omega) (by omega) w hw
  rw [hLl] at CX
  have HW3 := Lib.hid hw3
  have K2 := Lib.hid k2
  have H3 := Lib.hid H3
  have HRB := Lib.hid HRB
  have d1 := k3.cell (i := 1) rfl
  have d4 := k3.cell (i := 4) rfl
  have hb3 := k3.lt
  have CX := Lib.hid CX
  have hq1 : (tz : Int) ≤ N + 1 := by omega
  have hq2 : ¬ cp = tz := by omega
  have hq3 : (tz : Int) ≤ cp := by omega
  clear k1 k2 k3 k4 hown' hgrow hbl c0 c1 c2 c3 c4 f0 f1 f2 f3 f4 hw3
  have hcs1 := conv_cut w3
  have hcs2 := conv_cut' w3
  go_wp2_with fail
  rw [HW3.out]
  go_cut [5, 6] from 7 (fun t5 t6 wx => t5 = cutV (some ⟨tb, tz, none⟩) (N + 1 - tz) (cp - tz) (t'.drop tz) ∧ t6 = .bool (Lib.hasSuffix (t'.drop tz) [13, 10]) ∧ Hid (Below w3.heap.size w3 wx))
  case first =>
    go_region_with (go_at_call 12; (first | refine (CX.out w3 (Below.refl _ _)).mono ?_ | refine (CX.out w3.drew (Below.refl _ _).drew).mono ?_); rintro e wz ⟨rfl, hwz⟩; have HBz : Hid (Below w3.heap.size w3 wz) := (by rw [hwz]; first | exact (Below.refl _ _).alloc (Nat.le_refl _) _ | exact (Below.refl _ _).drew.alloc (Nat.le_refl _) _); clear hwz)
    all_goals
      go_wp2_with fail
      go_meet
      case rel => exact ⟨rfl, rfl, HBz⟩
  case rest =>
    obtain ⟨rfl, rfl, HBz⟩ := hcut
    obtain ⟨wz, hwz⟩ : ∃ wz, wc = wz := ⟨_, rfl⟩
    rw [hwz] at HBz ⊢
    clear hwz
    clear d1 d4 hcs1 hcs2
    have HFZ : Hid (FA wz g (Value.slice (some ⟨tb, 0, none⟩) (N + 1) cp).ownBlock ⟨t', lits, fr, tz, 0⟩) := H3.out.below HBz.out
    have KZ : Hid (FMv g tv.ownBlock (Value.slice (some ⟨tb, 0, none⟩) (N + 1) cp).ownBlock W wz) := K2.out.trans (FMv.of_below HBz.out)
    have HRZ : Hid (RBy wz (some ⟨tb, tz, none⟩) (t'.drop tz)) := HRB.out.below HBz.out
    have HEZ : Hid (Errs wz) := HFE.out KZ.out
    have hLl : (t'.drop tz).length = N + 1 - tz := by rw [List.length_drop, HLEN.out]
    have hRL : ∀ {x y : List UInt8}, t'.drop tz = x → x.take (N + 1 - tz - 2) = y → RBy wz (some ⟨tb, tz, none⟩) y := fun {x y} e1 e2 j cc hj => by
      refine HRZ.out j cc ?_
      rw [e1]; rw [← e2] at hj
      rw [List.getElem?_take] at hj
      split at hj
      · exact hj
      · cases hj
    have HRL : Hid (∀ {x y : List UInt8}, t'.drop tz = x → x.take (N + 1 - tz - 2) = y → RBy wz (some ⟨tb, tz, none⟩) y) := hRL
    clear hRL
    obtain ⟨L, hL⟩ : ∃ L, t'.drop tz = L := ⟨_, rfl⟩
    rw [hL] at HLS hLl
    have HL := Lib.hid hL
    rw [hLl, HLEN.out] at HLS
    have HLl := Lib.hid hLl
    simp only [hL]
    clear hL hLl HRB HRZ CX
    unfold cutV
    cases hs : Lib.hasSuffix L [13, 10] with
    | true =>
      rw [hs, if_pos rfl] at HLS
      have hL2 : 2 ≤ N + 1 - tz := by
        have := Lib.hasSuffix_le hs
        rw [HLl.out] at this; exact this
      have hll : (L.take (N + 1 - tz - 2)).length = N + 1 - tz - 2 := by rw [List.length_take, HLl.out]; omega
      have C := feEndLine_c HFZ.out hlit (by dsimp only; rw [HLEN.out]; omega) (by dsimp only; rw [HLEN.out]; omega) HEZ.out tb tz (cp - tz) (L.take (N + 1 - tz - 2)) (HRL.out HL.out rfl) (by rw [hll]; omega) (by rw [hll]; omega) (by omega)
      dsimp only at C
      rw [hll, HLEN.out, ← HLS.out] at C
      have C := Lib.hid C
      rw [if_pos rfl]
      clear hs hll
      go_wp2_with fail
      refine C.out.mono ?_
      rintro e w5 ⟨o', pv, rfl, k1, k2, k3⟩
      have K1 := Lib.hid k1
      have K2 := Lib.hid k2
      have K3 := Lib.hid (KZ.out.trans k3)
      clear k1 k2 k3
      go_wp2_with fail
      go_ret
      exact ⟨o', pv, rfl, K1.out, K2.out, K3.out⟩
    | false =>
      rw [hs, if_neg (by simp)] at HLS
      rw [if_neg (by simp)]
      obtain ⟨tvz, c0, c1, c2, c3, c4, ⟨f0, f1, f2, f3, f4⟩, ho, h3, h1⟩ := HFZ.out.cells
      obtain ⟨ad, cpz, rfl⟩ := own_form h3
      dsimp only at c0 c1 c2 c3 c4
      rw [HLEN.out] at c1
      have hbz := h1.lt
      clear hs ho h3 h1 c0 c3 c4 f0 f1 f2 f3 f4
      by_cases hlong : 8192 + lits < N + 1
      · rw [if_pos hlong] at HLS
        have q : (8192 : Int) < (N : Int) + 1 - lits := by omega
        have C := Lib.hid fun n2 => feEndLong_c (HFZ.out.drewN n2) (by dsimp only; rw [HLEN.out]; omega) (by dsimp only; rw [HLEN.out]; omega) n c HC.out
        go_wp2_with fail
        go_quiet (fail)
        go_wp2_with fail
        refine (C.out _).mono ?_
        rintro e w5 ⟨o', pv, rfl, k1, k2, k3⟩
        rw [← HLS.out] at k1 k2
        have K1 := Lib.hid k1
        have K2 := Lib.hid k2
        have K3 := Lib.hid ((KZ.out.drewN nq).trans k3)
        clear k1 k2 k3
        go_wp2_with fail
        go_ret
        exact ⟨o', pv, rfl, K1.out, K2.out, K3.out⟩
      · rw [if_neg hlong] at HLS
        have q : ¬ ((8192 : Int) < (N : Int) + 1 - lits) := by omega
        go_wp2_with fail
        go_quiet (fail)
        go_wp2_with fail
        go_ret
        refine ⟨_, _, rfl, ?_, ?_, KZ.out.drewN nq⟩
        · rw [HLS.out]; exact .inl ⟨rfl, rfl⟩
        · rw [HLS.out]; exact HFZ.out.drewN nq
theorem feStep_c (h : FA W g o s) (hok : s.Ok) (hl : s.t.length ≤ 50000) (hE : Errs W) (h1 : 1 < g) (h2 : 2 < g) (n : Nat) (c : UInt8) (hn : n = c.toNat) :
    Calls Tryd.prog (fnN s.m) #[pt g, .int .u8 n] W (StepP W g o (stepF s c)) := by
  have hm := hok.m
  obtain hm | hm | hm | hm : s.m = 0 ∨ s.m = 1 ∨ s.m = 2 ∨ s.m = 3 := by omega
  · rw [hm]; unfold stepF; rw [if_pos hm]
    exact feLine_c h hm hok hl hE h1 h2 n c hn
  · rw [hm]; unfold stepF; rw [if_neg (by omega), if_pos hm]
    refine (feLiteral_c h hm (by omega) n c hn).mono ?_
    rintro e w' ⟨rfl, o', k1, k2⟩
    exact ⟨o', _, rfl, .inl ⟨rfl, rfl⟩, k1, k2⟩
  · rw [hm]; unfold stepF; rw [if_neg (by omega), if_neg (by omega), if_pos hm]
    refine (feSkip_c h hm n c hn).mono ?_
    rintro e w' ⟨rfl, k1, k2⟩
    exact ⟨o, _, rfl, .inl ⟨rfl, rfl⟩, k1, FMv.of_tk k2⟩
  · rw [hm]; unfold stepF; rw [if_neg (by omega), if_neg (by omega), if_neg (by omega)]
    refine (feSkipEnd_c h hm n c hn).mono ?_
    rintro e w' ⟨rfl, o', k1, k2⟩
    exact ⟨o', _, rfl, .inl ⟨rfl, rfl⟩, k1, k2⟩
end Go.Proofs.YtkmhdaalabhcbaaDoor

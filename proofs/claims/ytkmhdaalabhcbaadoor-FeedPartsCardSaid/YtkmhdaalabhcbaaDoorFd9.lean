/-
  The law FeedParts: its walk.
-/
import Derived.Test.YtkmhdaalabhcbaaDoorFd8
import Derived.Test.YtkmhdaalabhcbaaDoorClone
set_option linter.unusedVariables false
set_option linter.unusedSimpArgs false
namespace Go.Proofs.YtkmhdaalabhcbaaDoor
open Go Go.RowKit
variable {W W' : World} {g : Nat} {o : Option Nat} {s : FS}

theorem TkR.add {l c : List UInt8} {pv pv' : Value} {m a tz : Nat} {s1 s2 : FS} {o1 o2 : Option Nat} {ps qs : List Pc} {wr w5 w6 : World} (h : TkR W g o s l a pv m s1 o1 ps wr) (hg : g < W.heap.size) (ht : l.take tz = l.take a ++ c) (h5 : takeF s1 c = (s2, qs)) (hf : FA w5 g o2 s2) (hm : FMv g o1 o2 wr w5)
    (hr : w6.ownsRow W.heap.size 40 2 pv' (m + qs.length) (cellsK encP ps ++ cellsK encP qs)) (hgr : w5.grownBy w6 pv.ownBlock) (hb : pv'.ownBlock = pv.ownBlock ∨ pv'.ownBlock = some w5.heap.size) : TkR W g o s l tz pv' (m + qs.length) s2 o2 (ps ++ qs) w6 := by
  have hlt : ∀ q, pv.ownBlock = some q → q ≠ g ∧ q < wr.heap.size := fun q hq => by have := h.row.lt q hq; omega
  have hne : ∀ q, pv.ownBlock = some q → o2 ≠ some q := fun q hq e => by
    rcases hm.nw q e with h2 | h2
    · exact h.ap q hq h2
    · have := (hlt q hq).2; omega
  refine ⟨?_, by rw [List.length_append, h.len], ?_, (h.mv.trans hm).grown hgr fun q hq => (h.row.lt q hq).1, ?_, fun q hq e => ?_⟩
  · rw [ht, takeF_app, h.st]; dsimp only; rw [h5]
  · refine hf.later (hgr.block g hf.lt fun e => (hlt g e.symm).1 rfl) fun q hq => hgr.block q (hf.row q hq).2 fun e => hne q e.symm hq
  · rw [cellsK_app]; exact hr
  · rcases hb with h2 | h2
    · exact hne q (h2.symm.trans hq) e
    · rw [h2] at hq; cases hq; have := (hf.row _ e).2; omega
/-- The bytes of an argument: how they lie. -/
structure ArgB (W : World) (ad : Option Addr) (N cap : Nat) (l : List UInt8) : Prop where
  len : l.length = N
  le : N ≤ cap
  by_ : RBy W ad l
  where_ : cap = 0 ∨ ∃ b off, ad = some ⟨b, off, none⟩ ∧ b < W.heap.size
theorem RBy.part {b off : Nat} {l : List UInt8} (h : RBy W (some ⟨b, off, none⟩) l) (a tz : Nat) : RBy W (some ⟨b, off + a, none⟩) ((l.take tz).drop a) := by
  intro j c hj
  rw [List.getElem?_drop, List.getElem?_take] at hj
  split at hj
  · obtain ⟨b', off', e, h2, h3⟩ := h _ _ hj
    cases e
    exact ⟨b, off + a, rfl, h2, by rw [Nat.add_assoc]; exact h3⟩
  · cases hj
theorem part_len {l : List UInt8} {N a tz : Nat} (h : l.length = N) (ha : tz ≤ N) : ((l.take tz).drop a).length = tz - a := by rw [List.length_drop, List.length_take]; omega
theorem part_app {l : List UInt8} {a tz : Nat} (h : a ≤ tz) : l.take tz = l.take a ++ (l.take tz).drop a := by
  have : l.take a = (l.take tz).take a := by rw [List.take_take]; congr 1; omega
  rw [this, List.take_append_drop]
def u16V (l : List Nat) : List Value := l.map fun n : Nat => Value.int .u16 n
theorem u16V_len (l : List Nat) : (u16V l).length = l.length := by simp [u16V]
theorem u16V_at {l : List Nat} {k p : Nat} (h : l[k]? = some p) : (u16V l)[k]? = some (.int .u16 p) := by simp [u16V, h]
/-- What a part's Take answers, in the law's round. -/
def LwP (w2 : World) (D : Nat) (l : List UInt8) (a tz : Nat) (av : Value) (m : Nat) (qs : List Pc) (e : Ending) (w5 : World) : Prop :=
  ∃ pv2, e = .returned pv2 ∧ ((pv2 = .slice none 0 0 ∧ (∃ s2 o2, TkR w2 D none FS.new l tz av m s2 o2 qs w5) ∧ w5.ownsRow w2.heap.size 40 2 av m (cellsK encP qs)) ∨
    ∃ (g2 cap2 q : Nat) (xs : List Value) (s2 : FS) (o2 : Option Nat) (qs2 : List Pc), pv2 = .slice (some ⟨g2, 0, none⟩) q cap2 ∧ xs.length = q * 2 ∧ (∀ j u, xs[j]? = some u → w5.cell? ((⟨g2, 0, none⟩ : Addr).add j) = some u) ∧ (∀ u ∈ xs, u.oneCell' = true) ∧
      w5.ownsRow w2.heap.size 40 2 av m (cellsK encP qs) ∧ q ≤ tz - a ∧ w2.heap.size ≤ w5.heap.size ∧
      ∀ pv' w6, w6.ownsRow w2.heap.size 40 2 pv' (m + q) (cellsK encP qs ++ xs) → w5.grownBy w6 av.ownBlock → (pv'.ownBlock = av.ownBlock ∨ pv'.ownBlock = some w5.heap.size) → TkR w2 D none FS.new l tz pv' (m + q) s2 o2 (qs ++ qs2) w6)
theorem lw_take {w2 wr : World} {D : Nat} {l : List UInt8} {N a tz m : Nat} {av : Value} {s1 : FS} {o1 : Option Nat} {qs : List Pc} (h : TkR w2 D none FS.new l a av m s1 o1 qs wr) (hF : FA w2 D none FS.new) (hN : l.length = N) (hN9 : N ≤ 20000) (ha : a ≤ tz) (ht : tz ≤ N) (hE : Errs w2) (hv1 : 1 < D) (hv2 : 2 < D)
    (ad' : Option Addr) (cap' : Nat) (hr : RBy wr ad' ((l.take tz).drop a)) (hn : (l.take tz).drop a ≠ [] → ∀ b, ad'.map (·.block) = some b → b < D) :
    Calls Tryd.prog 5 #[pt D, .slice ad' (tz - a) cap'] wr (LwP w2 D l a tz av m qs) := by
  have hD : D < w2.heap.size := hF.lt
  have hs1 : s1.Ok ∧ s1.t.length ≤ a := by
    have h1 : (l.take a).length ≤ a := by rw [List.length_take]; omega
    have h2 := takeF_ok (s := FS.new) (l.take a) new_ok (by show 0 + _ < _; omega)
    rw [h.st] at h2
    exact ⟨h2.1, by have := h2.2; dsimp only [FS.new] at this; simp only [List.length_nil, Nat.zero_add] at this; omega⟩
  have hl := part_len (a := a) hN ht
  have ho1 : ∀ k, o1 = some k → D < k := fun k hk => (h.fa.row k hk).1
  have T := feTake_c h.fa hs1.1 ((l.take tz).drop a) (by rw [hl]; omega) (hF.errs h.mv hE hv1 hv2) hv1 hv2 ad' cap' hr (fun hne b hb => ⟨by have := hn hne b hb; omega, fun e => by have := hn hne b hb; have := ho1 b e; omega⟩)
  rw [hl] at T
  refine T.mono ?_
  rintro e w5 ⟨o2, pv2, rfl, hr2, hf, hm, hap⟩
  obtain ⟨s2, hs2⟩ : ∃ x, (takeF s1 ((l.take tz).drop a)).1 = x := ⟨_, rfl⟩
  obtain ⟨q2, hq2⟩ : ∃ x, (takeF s1 ((l.take tz).drop a)).2 = x := ⟨_, rfl⟩
  have hst : takeF s1 ((l.take tz).drop a) = (s2, q2) := by rw [← hs2, ← hq2]
  have hfew := takeF_few ((l.take tz).drop a) s1
  rw [hst] at hr2 hf hfew
  dsimp only at hr2 hf hfew
  have hlt : ∀ q, av.ownBlock = some q → q ≠ D ∧ q < wr.heap.size := fun q hq => by have := h.row.lt q hq; omega
  have ho5 : w5.ownsRow w2.heap.size 40 2 av m (cellsK encP qs) := own_later h.row fun q hq => hm.blk q (hlt q hq).2 (hlt q hq).1 (h.ap q hq)
  have hsz : w2.heap.size ≤ w5.heap.size := Nat.le_trans h.mv.size hm.size
  have hA : ∀ pv' w6, w6.ownsRow w2.heap.size 40 2 pv' (m + q2.length) (cellsK encP qs ++ cellsK encP q2) → w5.grownBy w6 av.ownBlock → (pv'.ownBlock = av.ownBlock ∨ pv'.ownBlock = some w5.heap.size) → TkR w2 D none FS.new l tz pv' (m + q2.length) s2 o2 (qs ++ q2) w6 :=
    fun pv' w6 k1 k2 k3 => h.add hD (part_app ha) hst hf hm k1 k2 k3
  refine ⟨pv2, rfl, ?_⟩
  rcases hr2.2 with ⟨rfl, h0⟩ | ⟨g2, cap2, cur, rfl, hg2, hgg, hc2, hm2, hcs, htk⟩
  · left
    obtain rfl : q2 = [] := List.length_eq_zero_iff.1 h0
    have := hA av w5 (by simpa [cellsK] using ho5) (World.grownBy.refl _ _) (.inl rfl)
    rw [List.append_nil] at this
    exact ⟨rfl, ⟨s2, o2, this⟩, ho5⟩
  · right
    refine ⟨g2, cap2, q2.length, cellsK encP q2, s2, o2, q2, rfl, cellsP_len _, fun j u hj => hr2.cells (g := g2) rfl j u hj, fun u hu => ?_, ho5, by omega, hsz, hA⟩
    unfold cellsK at hu
    obtain ⟨p, _, hp⟩ := List.mem_flatMap.1 hu
    exact encP_one p u hp
set_option maxRecDepth 100000 in
set_option maxHeartbeats 4000000 in
theorem fparts_walk {ad : Option Addr} {N cap : Nat} (l : List UInt8) (hA : ArgB W ad N cap l) {v : Value} (ps : List Nat) (hP : RowAt W v (u16V ps)) (h16 : ∀ p ∈ ps, p < 65536) (hE : Errs W) :
    Calls Tryd.prog 3 #[.slice ad N cap, v] W fun e w' => e = .returned (.bool true) ∧ Below W.heap.size W w' := by
  obtain ⟨i0, hi0, hz0, hz1, hz2⟩ := info_parts infoPc
  obtain ⟨pa, pc, rfl⟩ := hP.form
  rw [u16V_len] at hP ⊢
  obtain ⟨P, hPe⟩ : ∃ P, ps.length = P := ⟨_, rfl⟩
  rw [hPe] at hP ⊢
  have HPE := Lib.hid hPe
  by_cases hb1 : 20000 < N
  · have q : (20000 : Int) < N := by omega
    clear hA hP hE h16 hPe
    go_enter Tryd.func3, Tryd.ntmps3
    go_wp2_with fail
    go_ret
    exact ⟨rfl, Below.refl _ _⟩
  have q : ¬ (20000 : Int) < N := by omega
  by_cases hb2 : 40 < P
  · have q2 : (40 : Int) < P := by omega
    clear hA hP hE h16 hPe
    go_enter Tryd.func3, Tryd.ntmps3
    go_wp2_with fail
    go_ret
    exact ⟨rfl, Below.refl _ _⟩
  have q2 : ¬ (40 : Int) < P := by omega
  have C1 := Lib.hid (feNew_c W)
  have HLT := Lib.hid hE.lt
  have HE := Lib.hid hE
  have HA := Lib.hid hA
  have HP := Lib.hid hP
  have H16 := Lib.hid h16
  have hNc : N ≤ cap := hA.le
  clear hA hP hE h16 hPe
  go_enter Tryd.func3, Tryd.ntmps3
  go_wp2_with fail
  refine C1.out.mono ?_
  rintro e w1 ⟨rfl, h1, b1⟩
  have C2 := Lib.hid (feNew_c w1)
  have H1 := Lib.hid h1
  have B1 := Lib.hid b1
  clear h1 b1
  go_wp2_with fail
  refine C2.out.mono ?_
  rintro e w2 ⟨rfl, h2, b2⟩
  have HF : Hid (FA w2 W.heap.size none FS.new) := H1.out.below b2
  have hDG : W.heap.size < w1.heap.size := H1.out.lt
  have B2 : Hid (Below W.heap.size W w2) := B1.out.trans (b2.mono (Nat.le_of_lt hDG))
  have HG := Lib.hid h2
  have hG2 : w1.heap.size < w2.heap.size := h2.lt
  have HE2 : Hid (Errs w2) := HE.out.below B2.out
  obtain ⟨D, hD⟩ : ∃ D, W.heap.size = D := ⟨_, rfl⟩
  obtain ⟨G, hG⟩ : ∃ G, w1.heap.size = G := ⟨_, rfl⟩
  rw [hD] at HF hDG B2 HLT
  rw [hG] at hDG HG hG2
  rw [hD, hG]
  have HDW := Lib.hid hD
  clear h2 b2 B1 H1 C1 C2 hD hG
  have HBY : Hid (RBy w2 ad l) := HA.out.by_.below (by rw [HDW.out]; exact B2.out)
  have HWH : Hid (cap = 0 ∨ ∃ b off, ad = some ⟨b, off, none⟩ ∧ b < D) := by
    have := HA.out.where_
    rw [HDW.out] at this; exact this
  have HLN : Hid (l.length = N) := HA.out.len
  have T0 : Hid (TkR w2 D none FS.new l 0 (.slice none 0 0) 0 FS.new none [] w2) := ⟨rfl, rfl, HF.out, FMv.refl _ _ _, World.ownsRow_nil _ _ _ _, fun q hq => by cases hq⟩
  have HSTK : Hid (∀ {wr : World} {a tz m : Nat} {av : Value} {s1 : FS} {o1 : Option Nat} {qs : List Pc}, TkR w2 D none FS.new l a av m s1 o1 qs wr → a ≤ tz → tz ≤ N → ∀ (ad' : Option Addr) (cap' : Nat), (∃ b off, ad' = some ⟨b, off + a, none⟩ ∧ ad = some ⟨b, off, none⟩ ∧ b < D) ∨ tz ≤ a →
      Calls Tryd.prog 5 #[pt D, .slice ad' (tz - a) cap'] wr (LwP w2 D l a tz av m qs)) := by
    intro wr a tz m av s1 o1 qs h ha ht ad' cap' hor
    have hnil : tz ≤ a → (l.take tz).drop a = [] := fun h => List.length_eq_zero_iff.1 (by rw [part_len HLN.out ht]; omega)
    refine lw_take h HF.out HLN.out (by omega) ha ht HE2.out HLT.out.1 HLT.out.2 ad' cap' ?_ ?_
    · rcases hor with ⟨b, off, rfl, rfl, hb⟩ | h9
      · exact (HBY.out.moved h.mv fun b' hb' => by simp only [Option.map_some, Option.some.injEq] at hb'; subst hb'; exact ⟨by omega, by simp⟩).part a tz
      · rw [hnil h9]; intro j c hj; simp at hj
    · intro hne b' hb'
      rcases hor with ⟨b, off, rfl, rfl, hb⟩ | h9
      · simp only [Option.map_some, Option.some.injEq] at hb'; subst hb'; exact hb
      · exact absurd (hnil h9) hne
  go_wp2_with fail
  go_loopw [7, 8, 9, 10] (fun av tv iv zv wr => ∃ (i a m : Nat) (s1 : FS) (o1 : Option Nat) (qs : List Pc), i ≤ P + 1 ∧ a ≤ N ∧ m ≤ a ∧ (i = P + 1 → a = N) ∧ iv = .int .i64 i ∧ tv = .int .i64 a ∧ Hid (TkR w2 D none FS.new l a av m s1 o1 qs wr)) (fun _ _ iv _ _ => P + 1 - (intOf iv).toNat)
  case atStart => exact ⟨0, 0, 0, FS.new, none, [], by omega, by omega, by omega, fun h => by omega, rfl, rfl, T0.out⟩
  case round =>
    obtain ⟨i, a, m, s1, o1, qs, hi, ha, hma, hlast, rfl, rfl, HT⟩ := hrel
    obtain ⟨va, vc, hv⟩ := own_form HT.out.row
    subst hv
    by_cases hle : i ≤ P
    · have hq : (i : Int) ≤ P := by omega
      have hq0 : (0 : Int) ≤ i := by omega
      have hqa : (0 : Int) ≤ a := by omega
      clear hlast
      by_cases hlt : i < P
      · have hq1 : (i : Int) < P := by omega
        obtain ⟨p, hp⟩ : ∃ p, ps[i]? = some p := ⟨_, List.getElem?_eq_getElem (by have := HPE.out; omega)⟩
        obtain ⟨bp, offp, rfl, hbb, cp⟩ := HP.out.at (u16V_at hp)
        have hp9 : p < 65536 := H16.out p (List.mem_of_getElem? hp)
        have cpr : wr.cell? ⟨bp, offp + i, none⟩ = some (.int .u16 p) := by
          have k1 : Below D w2 wr := HT.out.mv.below (by omega) (Nat.le_refl _) (fun k hk => by cases hk)
          rw [HDW.out] at hbb
          rw [k1.cell (p := ⟨bp, _, none⟩) hbb, B2.out.cell (p := ⟨bp, _, none⟩) hbb]; exact cp
        obtain ⟨tz, htz⟩ : ∃ tz, min N (a + p) = tz := ⟨_, rfl⟩
        have ht1 : a ≤ tz := by omega
        have ht2 : tz ≤ N := by omega
        have hmin : min (N : Int) ((a : Int) + p) = (tz : Int) := by omega
        have hqt : (a : Int) ≤ tz := by omega
        have hqc : (tz : Int) ≤ cap := by omega
        clear hp cp htz

        by_cases hca : cap = a
        · have CT := HSTK.out HT.out ht1 ht2 ad 0 (.inr (by omega))
          have hmin2 : min (N : Int) ((cap : Int) + p) = (tz : Int) := by omega
          have hca' : a = cap := hca.symm
          rw [hca'] at CT
          have CT := Lib.hid CT
          have HCA := Lib.hid hca'
          clear hca
          go_wp2_with fail
          refine CT.out.mono ?_
          rintro e w5 ⟨pv2, rfl, hor⟩
          clear hca'
          rcases hor with ⟨rfl, ⟨s2, o2, hT⟩, ho5⟩ | ⟨g2, cap2, qn, xs, s2, o2, qs2, rfl, hxl, hxn, hx1, ho5, hqn, hW5, hAA⟩
          · have HT5 := Lib.hid hT
            clear hT
            go_wp2_with (at_builtin; refine wpList_append_own_none rfl (.tmp 49) (.tmp 55) 26 rfl w2.heap.size 40 i0 2 Tryd.underlying26 hi0 _ m _ rfl ho5 rfl ?_)
            clear ho5
            go_wp2_with fail
            go_roundw
            case rel => exact ⟨i + 1, tz, m, _, _, _, by omega, by omega, by omega, by omega, by go_num, rfl, HT5.out⟩
            case measure => simp [intOf] <;> omega
          · have HO5 := Lib.hid ho5
            have HAA := Lib.hid hAA
            have HXN := Lib.hid hxn
            have HX1 := Lib.hid hx1
            have HXL := Lib.hid hxl
            clear ho5 hAA hxn hx1 hxl
            go_wp2_with (at_builtin; refine wpList_append_own_at _ rfl (.tmp 49) (.tmp 55) 26 rfl w2.heap.size 40 i0 (.agg #[.int .i64 0, .string ⟨#[]⟩]) 2 24 Tryd.underlying26 hi0 hz0 hz1 hz2 rfl (by decide) _ m _ rfl HO5.out ⟨g2, 0, none⟩ qn cap2 xs rfl HXL.out HXN.out HX1.out (by unfold maxLen; omega) (by omega) (by omega) ?_)
            intro v6 w6 ho6 hg6 _ hb6
            have HT6 := Lib.hid (HAA.out v6 w6 ho6 hg6 hb6)
            clear ho6 hg6 hb6
            go_wp2_with fail
            go_roundw
            case rel => exact ⟨i + 1, tz, m + qn, _, _, _, by omega, by omega, by omega, by omega, by go_num, rfl, HT6.out⟩
            case measure => simp [intOf] <;> omega
        · have CT := Lib.hid (HSTK.out HT.out ht1 ht2 (ad.map (·.add a)) (cap - a) (by
            rcases HWH.out with h0 | ⟨b, off, h1, h2⟩
            · right; omega
            · left; exact ⟨b, off, by rw [h1, Option.map_some, addr_add], h1, h2⟩))
          go_wp2_with fail
          refine CT.out.mono ?_
          rintro e w5 ⟨pv2, rfl, hor⟩
          rcases hor with ⟨rfl, ⟨s2, o2, hT⟩, ho5⟩ | ⟨g2, cap2, qn, xs, s2, o2, qs2, rfl, hxl, hxn, hx1, ho5, hqn, hW5, hAA⟩
          · have HT5 := Lib.hid hT
            clear hT
            go_wp2_with (at_builtin; refine wpList_append_own_none rfl (.tmp 49) (.tmp 55) 26 rfl w2.heap.size 40 i0 2 Tryd.underlying26 hi0 _ m _ rfl ho5 rfl ?_)
            clear ho5
            go_wp2_with fail
            go_roundw
            case rel => exact ⟨i + 1, tz, m, _, _, _, by omega, by omega, by omega, by omega, by go_num, rfl, HT5.out⟩
            case measure => simp [intOf] <;> omega
          · have HO5 := Lib.hid ho5
            have HAA := Lib.hid hAA
            have HXN := Lib.hid hxn
            have HX1 := Lib.hid hx1
            have HXL := Lib.hid hxl
            clear ho5 hAA hxn hx1 hxl
            go_wp2_with (at_builtin; refine wpList_append_own_at _ rfl (.tmp 49) (.tmp 55) 26 rfl w2.heap.size 40 i0 (.agg #[.int .i64 0, .string ⟨#[]⟩]) 2 24 Tryd.underlying26 hi0 hz0 hz1 hz2 rfl (by decide) _ m _ rfl HO5.out ⟨g2, 0, none⟩ qn cap2 xs rfl HXL.out HXN.out HX1.out (by unfold maxLen; omega) (by omega) (by omega) ?_)
            intro v6 w6 ho6 hg6 _ hb6
            have HT6 := Lib.hid (HAA.out v6 w6 ho6 hg6 hb6)
            clear ho6 hg6 hb6
            go_wp2_with fail
            go_roundw
            case rel => exact ⟨i + 1, tz, m + qn, _, _, _, by omega, by omega, by omega, by omega, by go_num, rfl, HT6.out⟩
            case measure => simp [intOf] <;> omega
      · obtain ⟨tz, htz⟩ : ∃ tz, N = tz := ⟨_, rfl⟩
        subst htz
        obtain rfl : i = P := by omega
        have ht1 : a ≤ N := ha
        have ht2 : N ≤ N := Nat.le_refl _
        have hq1 : ¬ (i : Int) < i := by omega
        have hqt : (a : Int) ≤ N := by omega
        have hqc : (N : Int) ≤ cap := by omega

        by_cases hca : cap = a
        · have CT := HSTK.out HT.out ht1 ht2 ad 0 (.inr (by omega))
          have hca' : a = cap := hca.symm
          rw [hca'] at CT
          rw [show N - cap = 0 by omega] at CT
          have CT := Lib.hid CT
          have HCA := Lib.hid hca'
          clear hca
          go_wp2_with fail
          refine CT.out.mono ?_
          rintro e w5 ⟨pv2, rfl, hor⟩
          clear hca'
          rcases hor with ⟨rfl, ⟨s2, o2, hT⟩, ho5⟩ | ⟨g2, cap2, qn, xs, s2, o2, qs2, rfl, hxl, hxn, hx1, ho5, hqn, hW5, hAA⟩
          · have HT5 := Lib.hid hT
            clear hT
            go_wp2_with (at_builtin; refine wpList_append_own_none rfl (.tmp 49) (.tmp 55) 26 rfl w2.heap.size 40 i0 2 Tryd.underlying26 hi0 _ m _ rfl ho5 rfl ?_)
            clear ho5
            go_wp2_with fail
            go_roundw
            case rel => exact ⟨i + 1, N, m, _, _, _, by omega, by omega, by omega, by omega, by go_num, rfl, HT5.out⟩
            case measure => simp [intOf] <;> omega
          · have HO5 := Lib.hid ho5
            have HAA := Lib.hid hAA
            have HXN := Lib.hid hxn
            have HX1 := Lib.hid hx1
            have HXL := Lib.hid hxl
            clear ho5 hAA hxn hx1 hxl
            go_wp2_with (at_builtin; refine wpList_append_own_at _ rfl (.tmp 49) (.tmp 55) 26 rfl w2.heap.size 40 i0 (.agg #[.int .i64 0, .string ⟨#[]⟩]) 2 24 Tryd.underlying26 hi0 hz0 hz1 hz2 rfl (by decide) _ m _ rfl HO5.out ⟨g2, 0, none⟩ qn cap2 xs rfl HXL.out HXN.out HX1.out (by unfold maxLen; omega) (by omega) (by omega) ?_)
            intro v6 w6 ho6 hg6 _ hb6
            have HT6 := Lib.hid (HAA.out v6 w6 ho6 hg6 hb6)
            clear ho6 hg6 hb6
            go_wp2_with fail
            go_roundw
            case rel => exact ⟨i + 1, N, m + qn, _, _, _, by omega, by omega, by omega, by omega, by go_num, rfl, HT6.out⟩
            case measure => simp [intOf] <;> omega
        · have CT := Lib.hid (HSTK.out HT.out ht1 ht2 (ad.map (·.add a)) (cap - a) (by
            rcases HWH.out with h0 | ⟨b, off, h1, h2⟩
            · right; omega
            · left; exact ⟨b, off, by rw [h1, Option.map_some, addr_add], h1, h2⟩))
          go_wp2_with fail
          refine CT.out.mono ?_
          rintro e w5 ⟨pv2, rfl, hor⟩
          rcases hor with ⟨rfl, ⟨s2, o2, hT⟩, ho5⟩ | ⟨g2, cap2, qn, xs, s2, o2, qs2, rfl, hxl, hxn, hx1, ho5, hqn, hW5, hAA⟩
          · have HT5 := Lib.hid hT
            clear hT
            go_wp2_with (at_builtin; refine wpList_append_own_none rfl (.tmp 49) (.tmp 55) 26 rfl w2.heap.size 40 i0 2 Tryd.underlying26 hi0 _ m _ rfl ho5 rfl ?_)
            clear ho5
            go_wp2_with fail
            go_roundw
            case rel => exact ⟨i + 1, N, m, _, _, _, by omega, by omega, by omega, by omega, by go_num, rfl, HT5.out⟩
            case measure => simp [intOf] <;> omega
          · have HO5 := Lib.hid ho5
            have HAA := Lib.hid hAA
            have HXN := Lib.hid hxn
            have HX1 := Lib.hid hx1
            have HXL := Lib.hid hxl
            clear ho5 hAA hxn hx1 hxl
            go_wp2_with (at_builtin; refine wpList_append_own_at _ rfl (.tmp 49) (.tmp 55) 26 rfl w2.heap.size 40 i0 (.agg #[.int .i64 0, .string ⟨#[]⟩]) 2 24 Tryd.underlying26 hi0 hz0 hz1 hz2 rfl (by decide) _ m _ rfl HO5.out ⟨g2, 0, none⟩ qn cap2 xs rfl HXL.out HXN.out HX1.out (by unfold maxLen; omega) (by omega) (by omega) ?_)
            intro v6 w6 ho6 hg6 _ hb6
            have HT6 := Lib.hid (HAA.out v6 w6 ho6 hg6 hb6)
            clear ho6 hg6 hb6
            go_wp2_with fail
            go_roundw
            case rel => exact ⟨i + 1, N, m + qn, _, _, _, by omega, by omega, by omega, by omega, by go_num, rfl, HT6.out⟩
            case measure => simp [intOf] <;> omega
    · obtain rfl : i = P + 1 := by omega
      obtain rfl := hlast rfl
      have hq : ¬ (((P + 1 : Nat) : Int) ≤ P) := by omega
      have hst : takeF FS.new l = (s1, qs) := by
        have := HT.out.st
        rwa [List.take_of_length_le (by rw [HLN.out]; exact Nat.le_refl _)] at this
      have HST := Lib.hid hst
      have hqn : qs.length = m := HT.out.len
      have HQN := Lib.hid hqn
      have hDwr : D ≤ wr.heap.size := by have := HT.out.mv.size; omega
      have hrow : RowK 2 encP wr (.slice va m vc) qs := RowK.of_own encP_len (by rw [hqn]; exact HT.out.row)
      have CB := Lib.hid (back16_c hrow (by omega))
      clear hst hqn hrow
      go_wp2_with fail
      refine CB.out.mono ?_
      rintro e w5 ⟨u1, rfl, ru1, bb1⟩
      have hG5 : FA w5 G none FS.new := (HG.out.later (HT.out.mv.blk G hG2 (by omega) (by simp)) (fun k hk => by cases hk)).below bb1
      have hE5 : Errs w5 := (HF.out.errs HT.out.mv HE2.out HLT.out.1 HLT.out.2).below bb1
      have CT := feTake_c hG5 new_ok l (by show 0 + _ ≤ _; rw [HLN.out]; omega) hE5 (by have := HLT.out.1; omega) (by have := HLT.out.2; omega) ad cap (by
        by_cases h0 : l = []
        · rw [h0]; intro j c hj; simp at hj
        · refine (HBY.out.moved HT.out.mv fun b hb => ?_).below bb1
          rcases HWH.out with h9 | ⟨b', off, h1, h2⟩
          · exact absurd (List.length_eq_zero_iff.1 (by rw [HLN.out]; omega)) h0
          · rw [h1] at hb; simp only [Option.map_some, Option.some.injEq] at hb; subst hb; exact ⟨by omega, by simp⟩) (fun h0 b hb => by
        rcases HWH.out with h9 | ⟨b', off, h1, h2⟩
        · exact absurd (List.length_eq_zero_iff.1 (by rw [HLN.out]; omega)) h0
        · rw [h1] at hb; simp only [Option.map_some, Option.some.injEq] at hb; subst hb; exact ⟨by omega, by simp⟩)
      rw [HLN.out, HST.out] at CT
      dsimp only at CT
      rw [HQN.out] at CT
      have CT := Lib.hid CT
      have HB5 : Hid (Below D W w5) := B2.out.trans ((HT.out.mv.below (by omega) (Nat.le_refl _) (fun k hk => by cases hk)).trans (bb1.mono hDwr))
      have HU1 := Lib.hid ru1
      have HF5 := Lib.hid (HT.out.fa.below bb1)
      have hG5s : G < w5.heap.size := hG5.lt
      have hwr5 : wr.heap.size ≤ w5.heap.size := bb1.size
      have hGwr : G < wr.heap.size := by have := HT.out.mv.size; omega
      have HO1 : Hid (∀ k, o1 = some k → w2.heap.size ≤ k) := fun k hk => by
        rcases HT.out.mv.nw k hk with h | h
        · cases h
        · exact h
      clear ru1 bb1 hG5 hE5 CB
      go_wp2_with fail
      refine CT.out.mono ?_
      rintro e w6 ⟨o3, pv3, rfl, ho3, hf3, hm3, _⟩
      have HF6 : Hid (FA w6 D o1 s1) := HF5.out.other hm3 (by omega) (by simp) (fun e => by have := HO1.out _ e; omega) (fun k _ => by simp)
      have HU16 : Hid (w6.ownsRow wr.heap.size 39 2 u1 m (cellsK encP qs)) := by
        have := HU1.out
        rw [HQN.out] at this
        exact own_later this fun k hk => hm3.blk k (this.lt k hk).2 (by have := this.lt k hk; omega) (by simp)
      have HB6 : Hid (Below D W w6) := HB5.out.trans (hm3.below (by omega) (by omega) (fun k hk => by cases hk))
      have HG6 := Lib.hid hf3
      obtain ⟨va3, vc3, hv3⟩ := own_form ho3
      subst hv3
      have CB := Lib.hid (back16_c (RowK.of_own encP_len (by rw [HQN.out]; exact ho3)) (by rw [HQN.out]; omega))
      have h56 : w5.heap.size ≤ w6.heap.size := hm3.size
      clear ho3 hf3 hm3 CT
      go_wp2_with fail
      refine CB.out.mono ?_
      rintro e w7 ⟨u2, rfl, ru2, bb7⟩
      have CS := rSame16_c (W := w7) (RowK.of_own (l := qs) encP_len (by rw [HQN.out]; exact own_below HU16.out bb7)) (RowK.of_own encP_len ru2) (by rw [HQN.out]; omega)
      have CS := Lib.hid CS
      have HF7 := Lib.hid (HF6.out.below bb7)
      have HG7 := Lib.hid (HG6.out.below bb7)
      have HB7 : Hid (Below D W w7) := HB6.out.trans (bb7.mono (by omega))
      have h67 : w6.heap.size ≤ w7.heap.size := bb7.size
      clear ru2 bb7 CB
      go_wp2_with fail
      refine CS.out.mono ?_
      rintro e w8 ⟨rfl, n8, hw8⟩
      have CK1 := Lib.hid (feKept_c (HF7.out.drewN n8))
      have CK2 := Lib.hid (feKept_c (HG7.out.drewN n8))
      have HB8 : Hid (Below D W (w7.drewN n8)) := below_drewN HB7.out n8
      have CA := Lib.hid (awake16_c (w7.drewN n8) (HE.out.belowD HB8.out HLT.out.1 HLT.out.2))
      rw [← hw8] at CK1 CK2 HB8 CA
      clear hw8 CS
      go_wp2_with fail
      refine CK1.out.mono ?_
      rintro e w9 ⟨rfl, hw9⟩
      rw [hw9]
      clear hw9
      go_wp2_with fail
      refine CK2.out.mono ?_
      rintro e w9 ⟨rfl, hw9⟩
      rw [hw9]
      clear hw9
      go_wp2_with fail
      refine CA.out.mono ?_
      rintro e w9 ⟨rfl, hb9⟩
      have HB9 := Lib.hid (HB8.out.trans (hb9.mono (by have := HB8.out.size; rw [HDW.out] at this; exact this)))
      clear hb9
      go_wp2_with fail
      go_ret
      exact ⟨rfl, by rw [HDW.out]; exact HB9.out⟩
end Go.Proofs.YtkmhdaalabhcbaaDoor

/-
  A list behind notes, by the program: contract.
-/
import Derived.Test.YtebkpejiloabnaaLs6
import Derived.Test.YtebkpejiloabnaaQuad
set_option linter.unusedVariables false
set_option linter.unusedSimpArgs false
namespace Go.Proofs.Ytebkpejiloabnaa
open Go Go.RowKit
variable {W W' : World} {v va vb : Value} {l now : List EL}

theorem setK_set {m : List EL} {i : Nat} {r : EL} (hr : m[i]? = some r) (e : EL) : setK (cellsK encE m) (i * 2) (encE e) = cellsK encE (m.set i e) := by
  obtain ⟨hi, rfl⟩ := List.getElem?_eq_some_iff.1 hr
  have h1 : m = m.take i ++ [m[i]] ++ m.drop (i + 1) := by rw [← take_at' hr, List.take_append_drop]
  have h2 : m.set i e = m.take i ++ [e] ++ m.drop (i + 1) := by rw [List.set_eq_take_append_cons_drop]; simp [hi]
  rw [h2]
  conv => lhs; rw [h1]
  rw [cellsE_app, cellsE_app, cellsE_app, cellsE_app, cellsK_one, cellsK_one]
  have := setK_mid (encE e) (cellsK encE (m.take i)) (encE m[i]) (cellsK encE (m.drop (i + 1))) rfl
  rw [cellsE_len, List.length_take, Nat.min_eq_left (by omega)] at this
  exact this
theorem cellsE_at {m : List EL} {i : Nat} {r : EL} (hr : m[i]? = some r) : (cellsK encE m)[i * 2]? = some (.int .u32 r.uid) ∧ (cellsK encE m)[i * 2 + 1]? = some (.int .u8 r.fl) :=
  ⟨cellsK_at encE_len m i r hr 0 _ rfl, cellsK_at encE_len m i r hr 1 _ rfl⟩

def PlayP (W : World) (R : Option (List EL)) (e : Ending) (w' : World) : Prop :=
  Below W.heap.size W w' ∧ match R with
  | none => e = .returned (.tuple #[.slice none 0 0, .int .i64 3])
  | some m => ∃ v, e = .returned (.tuple #[v, .int .i64 0]) ∧ w'.ownsRow W.heap.size 35 2 v m.length (cellsK encE m)

set_option maxRecDepth 100000 in
set_option maxHeartbeats 8000000 in
theorem lPlay_c {nv : Value} {ns : List NL} (hl : EntRow W v l) (hn : NoteRow W nv ns) (hb : ∀ n ∈ ns, -9223372036854775808 ≤ n.seq ∧ n.seq ≤ 9223372036854775807) (hm : l.length + 65536 * ns.length ≤ 20000000) :
    Calls Try.prog 12 #[v, nv] W (PlayP W (playL l ns)) := by
  obtain ⟨i0, hi0, hz0, hz1, hz2⟩ := info_parts infoE
  have CC := Lib.hid (cloneL_c hl (by omega))
  obtain ⟨na, nc, rfl⟩ := hn.form
  obtain ⟨M, hM⟩ : ∃ M, ns.length = M := ⟨_, rfl⟩
  rw [hM] at hn hm ⊢
  have HNR := Lib.hid hn
  have HM := Lib.hid hM
  have HBD := Lib.hid hb
  have hM9 : M ≤ 1000 := by omega
  have HMM := Lib.hid hm
  clear hl hn hM hb hm
  go_enter Try.func12, Try.ntmps12
  go_wp2_with fail
  refine CC.out.mono ?_
  rintro e w1 ⟨v1, rfl, ho1, hb1⟩
  have HO1 := Lib.hid ho1
  have HB1 := Lib.hid hb1
  clear ho1 hb1 CC
  go_wp2_with fail
  go_loopw [0, 12] (fun lv i wr => ∃ (k : Nat) (m : List EL), k ≤ M ∧ i = .int .i64 k ∧ Hid (playL l (ns.take k) = some m) ∧ Hid (wr.ownsRow W.heap.size 35 2 lv m.length (cellsK encE m)) ∧ Hid (Below W.heap.size W wr)) (fun _ i _ => M - (intOf i).toNat)
  case atStart => exact ⟨0, l, Nat.zero_le _, rfl, rfl, HO1.out, HB1.out⟩
  case round =>
    clear HO1 HB1
    obtain ⟨k, m, hk, rfl, HP, HO, HB⟩ := hrel
    obtain ⟨ad, cp, hv⟩ := own_form HO.out
    subst hv
    by_cases hlt : k < M
    · have hq : (k : Int) < M := by omega
      have hq0 : (0 : Int) ≤ k := by omega
      obtain ⟨r, hr⟩ : ∃ r, ns[k]? = some r := ⟨_, List.getElem?_eq_getElem (by have := HM.out; omega)⟩
      obtain ⟨b, off, rfl, hbb, c0, c1, c2, c3⟩ := NoteRow.at (HNR.out.below HB.out) hr
      have hlen : m.length ≤ l.length + 65536 * (ns.take k).length := playL_len _ _ _ HP.out
      have hbd := HBD.out r (List.mem_of_getElem? hr)
      have hstep := playL_snoc (ns.take k) r l
      rw [← take_at' hr, HP.out] at hstep
      dsimp only at hstep
      obtain ⟨⟨kd, sq, ⟨x, y⟩⟩, rfl⟩ : ∃ q : NL, q = r := ⟨_, rfl⟩
      dsimp only at c0 c1 c2 c3 hbd
      have hfail : Hid (stepL m ⟨kd, sq, ⟨x, y⟩⟩ = none → playL l ns = none) := by
        intro h
        rw [h] at hstep
        conv => lhs; rw [← List.take_append_drop (k + 1) ns]
        rw [playL_app, hstep]
      obtain ⟨L, hL⟩ : ∃ L, m.length = L := ⟨_, rfl⟩
      have hL9 : L ≤ 20000000 := by
        have h1 := HMM.out
        rw [List.length_take] at hlen
        have h2 : 65536 * min k ns.length ≤ 65536 * M := Nat.mul_le_mul_left _ (by omega)
        omega
      rw [hL] at HO ⊢
      have hmay := stepL_may m ⟨kd, sq, ⟨x, y⟩⟩
      rw [hL] at hmay
      have HST := Lib.hid hstep
      have HL := Lib.hid hL
      -- the world behind the note's block
      have hN1 := Quad.new wr 37 (.int .i64 kd) (.int .i64 sq) (.int .u32 x) (.int .u8 y)
      have hO1 := HO.out.alloc (.cells #[.int .i64 kd, .int .i64 sq, .int .u32 x, .int .u8 y] 37)
      have hB1 := HB.out.alloc HB.out.size (.cells #[.int .i64 kd, .int .i64 sq, .int .u32 x, .int .u8 y] 37)
      have CM := Lib.hid (lmay_c ad L cp (by omega) ⟨kd, sq, ⟨x, y⟩⟩ hbd.1 hbd.2 (wr.alloc (.cells #[.int .i64 kd, .int .i64 sq, .int .u32 x, .int .u8 y] 37)))
      dsimp only at CM
      have HN1 := Lib.hid hN1
      have HO1 := Lib.hid hO1
      have HB1 := Lib.hid hB1
      obtain ⟨B, hB⟩ : ∃ mb, mayN L ⟨kd, sq, ⟨x, y⟩⟩ = mb := ⟨_, rfl⟩
      rw [hB] at CM hmay
      have HMY := Lib.hid hmay
      have hmb := hB
      clear hr hlen hstep hN1 hO1 hB1 hmay hL hB
      cases B with
      | false =>
        have HF : Hid (playL l ns = none) := hfail.out (by have := HMY.out; rw [Option.isSome_eq_false_iff] at this; simpa using this)
        clear hmb
        go_wp2_with fail
        refine CM.out.mono ?_
        rintro e w5 ⟨rfl, hb5⟩
        have HB5 := Lib.hid (HB1.out.trans (hb5.mono HB1.out.size))
        clear hb5 c0 c1 c2 c3
        go_wp2_with fail
        go_ret2
        refine ⟨HB5.out, ?_⟩
        rw [HF.out]; rfl
      | true =>
        obtain ⟨m2, hm2⟩ : ∃ m2, stepL m ⟨kd, sq, ⟨x, y⟩⟩ = some m2 := Option.isSome_iff_exists.1 HMY.out
        rw [hm2] at HST
        have HM2 := Lib.hid hm2
        clear hm2
        have hkd : kd = 0 ∨ kd = 2 ∨ kd = 1 := by unfold mayN at hmb; dsimp only at hmb; split at hmb <;> (try split at hmb) <;> first | omega | (exact absurd hmb (by decide))
        rcases hkd with rfl | rfl | rfl
        · -- gone
          have hs1 : 1 ≤ sq ∧ sq ≤ L := by simpa [mayN] using hmb
          obtain ⟨i, rfl⟩ : ∃ i : Nat, sq = (i : Int) + 1 := ⟨(sq - 1).toNat, by omega⟩
          have hiL : i < L := by omega
          have hM2 : m2 = m.eraseIdx i := by
            have := HM2.out
            unfold stepL at this
            simp only [HL.out] at this
            rw [if_neg (by decide), if_neg (by omega), if_neg (by decide)] at this
            rw [← Option.some.inj this]
            congr 1
          obtain ⟨g, cap, hvg, hbg, hgl⟩ := HO1.out.form (by omega)
          cases hvg
          clear hmb hs1
          go_wp2_with fail
          refine CM.out.mono ?_
          rintro e w5 ⟨rfl, hb5⟩
          have hN5 := HN1.out.below hb5 HN1.out.lt
          have HO5 := Lib.hid (own_below HO1.out hb5)
          have HB5 := Lib.hid (HB1.out.trans (hb5.mono HB1.out.size))
          obtain ⟨d0, d1, d2, d3⟩ := hN5.cell
          have HCD := Lib.hid (fun x y hx hy => deleteL_c (i := i) (x := x) (y := y) HO5.out HL.out hiL (by omega) hx hy)
          have HM2E := Lib.hid hM2
          clear hb5 c0 c1 c2 c3 hN5 hM2
          go_wp2_with fail
          refine (HCD.out _ _ ?hx ?hy).mono ?_
          case hx => first | rfl | omega
          case hy => first | rfl | omega
          rintro e w6 ⟨rfl, ho6, hg6⟩
          have HO6 : Hid (w6.ownsRow W.heap.size 35 2 (.slice (some ⟨g, 0, none⟩) (L - 1) cp) m2.length (cellsK encE m2)) := by
            show World.ownsRow _ _ _ _ _ _ _
            rw [HM2E.out, List.length_eraseIdx, if_pos (by rw [HL.out]; exact hiL), HL.out]; exact ho6
          have HB6 := Lib.hid (HB5.out.grown hg6 (by have := HB5.out.size; omega) (fun q hq => by cases hq; exact hbg))
          clear ho6 hg6 HM2E HCD
          go_wp2_with fail
          go_roundw
          case rel => exact ⟨k + 1, m2, by omega, by go_num, HST.out, HO6.out, HB6.out⟩
          case measure => simp [intOf]; omega
        · -- fetch
          have hs1 : 1 ≤ sq ∧ sq ≤ L := by simpa [mayN] using hmb
          obtain ⟨i, rfl⟩ : ∃ i : Nat, sq = (i : Int) + 1 := ⟨(sq - 1).toNat, by omega⟩
          have hiL : i < L := by omega
          have hM2 : m2 = m.set i ⟨x, y⟩ := by
            have := HM2.out
            unfold stepL at this
            simp only [HL.out] at this
            rw [if_neg (by decide), if_neg (by omega), if_pos (by decide)] at this
            rw [← Option.some.inj this]
            congr 1
          obtain ⟨g, cap, hvg, hbg, hgl⟩ := HO1.out.form (by omega)
          cases hvg
          obtain ⟨q, hqq⟩ : ∃ q, m[i]? = some q := ⟨_, List.getElem?_eq_getElem (by rw [HL.out]; exact hiL)⟩
          clear hmb hs1
          go_wp2_with fail
          refine CM.out.mono ?_
          rintro e w5 ⟨rfl, hb5⟩
          have hN5 := HN1.out.below hb5 HN1.out.lt
          have ho5 := own_below HO1.out hb5
          have HO5 := Lib.hid ho5
          have HB5 := Lib.hid (HB1.out.trans (hb5.mono HB1.out.size))
          obtain ⟨d0, d1, d2, d3⟩ := hN5.cell
          obtain ⟨e0, e1⟩ := cellsE_at hqq
          have k0 : w5.cell? ⟨g, i * 2, none⟩ = some (.int .u32 q.uid) := by rw [ho5.cellAt _ (by omega)]; exact e0
          have k1 : w5.cell? ⟨g, i * 2 + 1, none⟩ = some (.int .u8 q.fl) := by rw [ho5.cellAt _ (by omega)]; exact e1
          have f0 : w5.frozen? ⟨g, i * 2, none⟩ = false := ho5.frozenAt _
          have f1 : w5.frozen? ⟨g, i * 2 + 1, none⟩ = false := ho5.frozenAt _
          have hgl5 : g < w5.heap.size := (ho5.lt g rfl).2
          have hst := ownK_stored (encE ⟨x, y⟩) w5 (cellsK encE m) (i * 2) ho5
          rw [setK_set hqq] at hst
          have HO6 : Hid (((w5.setCell ⟨g, i * 2, none⟩ (.int .u32 x)).setCell ⟨g, i * 2 + 1, none⟩ (.int .u8 y)).ownsRow W.heap.size 35 2 (.slice (some ⟨g, 0, none⟩) L cp) m2.length (cellsK encE m2)) := by
            show World.ownsRow _ _ _ _ _ _ _
            rw [hM2, List.length_set, HL.out]; exact hst.1
          have HB6 : Hid (Below W.heap.size W ((w5.setCell ⟨g, i * 2, none⟩ (.int .u32 x)).setCell ⟨g, i * 2 + 1, none⟩ (.int .u8 y))) :=
            HB5.out.grown hst.2 (by have := HB5.out.size; omega) (fun q hq => by cases hq; exact hbg)
          have hi0 : (0 : Int) ≤ i := by omega
          have hi1 : (i : Int) < L := by omega
          clear hb5 c0 c1 c2 c3 hN5 hM2 hst ho5 e0 e1 hqq
          go_wp2_with fail
          go_roundw
          case rel => exact ⟨k + 1, m2, by omega, by go_num, HST.out, HO6.out, HB6.out⟩
          case measure => simp [intOf]; omega
        · -- exists
          have hs1 : (L : Int) ≤ sq ∧ sq - L ≤ 65536 := by simpa [mayN] using hmb
          obtain ⟨t, rfl⟩ : ∃ t : Nat, sq = (L : Int) + t := ⟨(sq - L).toNat, by omega⟩
          have ht : t ≤ 65536 := by omega
          have hM2 : m2 = m ++ List.replicate t noE := by
            have := HM2.out
            unfold stepL at this
            simp only [HL.out] at this
            rw [if_pos (by decide), if_neg (by omega)] at this
            rw [← Option.some.inj this]
            congr 2
            omega
          clear hmb hs1
          go_wp2_with fail
          refine CM.out.mono ?_
          rintro e w5 ⟨rfl, hb5⟩
          have hN5 := HN1.out.below hb5 HN1.out.lt
          have ho5 := own_below HO1.out hb5
          have HO5 := Lib.hid ho5
          have HB5 := Lib.hid (HB1.out.trans (hb5.mono HB1.out.size))
          obtain ⟨d0, d1, d2, d3⟩ := hN5.cell
          have hw5 : W.heap.size ≤ w5.heap.size := HB5.out.size
          have HM2E := Lib.hid hM2
          clear hb5 c0 c1 c2 c3 hN5 ho5 hM2
          go_wp2_with (at_builtin; refine wpList_append_zeros_own _ rfl (.tmp 33) (.tmp 38) 26 3 rfl W.heap.size 35 i0 (.agg #[.int .u32 0, .int .u8 0]) 2 8 Try.underlying26 Try.underlying3 hi0 hz0 hz1 hz2 rfl (by decide) (by simp [Value.cells, Value.oneCell']) _ L (cellsK encE m) rfl HO5.out t (by first | rfl | (show Value.int .i64 _ = Value.int .i64 _; congr 1; omega)) (by unfold maxLen; omega) (by omega) hw5 ?_)
          intro v6 w6 ho6 hg6 hat6
          have HO6 : Hid (w6.ownsRow W.heap.size 35 2 v6 m2.length (cellsK encE m2)) := by
            show World.ownsRow _ _ _ _ _ _ _
            rw [HM2E.out, cellsE_app, List.length_append, List.length_replicate, HL.out, ← zerosE]; exact ho6
          have HB6 := Lib.hid (HB5.out.grown hg6 hw5 (fun q hq => (HO5.out.lt q hq).1))
          clear ho6 hg6 hat6 HM2E
          go_wp2_with fail
          go_roundw
          case rel => exact ⟨k + 1, m2, by omega, by go_num, HST.out, HO6.out, HB6.out⟩
          case measure => simp [intOf]; omega
    · obtain rfl : k = M := by omega
      have hq : ¬ (k : Int) < k := by omega
      have hfin := HP.out
      rw [List.take_of_length_le (by rw [HM.out]; exact Nat.le_refl _)] at hfin
      have HF := Lib.hid hfin
      clear hfin
      go_wp2_with fail
      go_ret2
      refine ⟨HB.out, ?_⟩
      rw [HF.out]
      exact ⟨_, rfl, HO.out⟩
end Go.Proofs.Ytebkpejiloabnaa

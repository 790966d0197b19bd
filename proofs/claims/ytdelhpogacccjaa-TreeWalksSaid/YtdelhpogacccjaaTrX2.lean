/-
  The law TreeWalks, walked.
-/
import Derived.Test.YtdelhpogacccjaaTrX1
import Derived.Test.YtdelhpogacccjaaTrRow
set_option linter.unusedVariables false
set_option linter.unusedSimpArgs false
namespace Go.Proofs.Ytdelhpogacccjaa
open Go Go.RowKit
attribute [local go_sem] Oper.semAt_some wide_fn' wide_depth'
variable {W W' : World} {lv : Value} {l : List R7}

/-- What the law has: the messages, how many at most, its answer; the shelf, the tree. -/
structure LX (W : World) (lv : Value) (most : Nat) (Bs : Nat) (sv : Value) (r : Int) (H : Nat) (X : World) : Prop where
  be : Below W.heap.size W X
  l : Boxed X W.heap.size 22 lv
  mo : Boxed X (W.heap.size + 1) 5 (.int .u8 most)
  re : Boxed X (W.heap.size + 1 + 1) 4 (.bool false)
  s : Boxed X Bs 25 sv
  t : TB X (Bs + 1) r H
theorem LX.below {most Bs : Nat} {sv : Value} {r : Int} {H : Nat} {X Y : World} (h : LX W lv most Bs sv r H X) (hb : Below X.heap.size X Y) : LX W lv most Bs sv r H Y :=
  ⟨h.be.trans (hb.mono h.be.size), (hb.block _ (lt_of_block h.l)).trans h.l, (hb.block _ (lt_of_block h.mo)).trans h.mo, (hb.block _ (lt_of_block h.re)).trans h.re, (hb.block _ (lt_of_block h.s)).trans h.s, (hb.block _ h.t.lt).trans h.t⟩
theorem LX.itself {most Bs D : Nat} {sv : Value} {r : Int} {H : Nat} {T0 : TypeId → Prop} {X Y : World} (h : LX W lv most Bs sv r H X) (hi : Itself T0 D X Y) (hD : W.heap.size + 3 ≤ D ∧ Bs + 1 < D) : LX W lv most Bs sv r H Y :=
  ⟨h.be.trans (hi.toBelow.mono (by omega)), hi.boxed h.l (.inl (by omega)), hi.boxed h.mo (.inl (by omega)), hi.boxed h.re (.inl (by omega)), hi.boxed h.s (.inl (by omega)), (hi.below _ (by omega)).trans h.t⟩
theorem LX.other {most Bs : Nat} {sv : Value} {r : Int} {H : Nat} {X : World} (h : LX W lv most Bs sv r H X) (k : Nat) (hk : W.heap.size + 3 ≤ k ∧ Bs + 1 < k) (u : Value) : LX W lv most Bs sv r H (X.setCell ⟨k, 0, none⟩ u) :=
  ⟨h.be.setCell (p := ⟨k, 0, none⟩) (by show W.heap.size ≤ k; omega) _, h.l.other (by omega) _, h.mo.other (by omega) _, h.re.other (by omega) _, h.s.other (by omega) _, (Below.heap_setCell X ⟨k, 0, none⟩ u (Bs + 1) (by show Bs + 1 ≠ k; omega)).trans h.t⟩
set_option maxRecDepth 100000 in
set_option maxHeartbeats 4000000 in
theorem walks7_walk (hl : RecRow W lv l) (h32 : ∀ r, r ∈ l → r.uid < 4294967296) (hs : ∀ r, r ∈ l → r.tx.size ≤ 9223372036854775807) (gap most : Nat) (hgap : gap < 256) (hmost : most < 256) :
    Calls Try.prog 3 #[lv, .int .u8 gap, .int .u8 most] W fun e w' => e = .returned (.bool true) ∧ Below W.heap.size W w' := by
  refine (callsIn_wide (n := 3)).1 ?_
  refine callsIn_of_wp_marks Try.func3 rfl trivial ?_
  simp only [Try.ntmps3, List.size_toArray, List.length_cons, List.length_nil, Nat.reduceAdd, Nat.reduceSub, Array.replicate_succ, Array.replicate_zero, List.push_toArray, List.append_toArray, List.nil_append, List.cons_append]
  refine wpIn_wide.2 ?_
  have hm : ((120 : Nat) : Int) = 120 := rfl
  have CG := fun w (hb : Below W.heap.size W w) => great7_c (hl.below hb) 120 (by omega) (by omega) hs
  rw [hm] at CG
  have HCG := Lib.hid CG
  clear CG hm
  have hbA : Below W.heap.size W (((W.alloc (.cells #[lv] 22)).alloc (.cells #[.int .u8 most] 5)).alloc (.cells #[.bool false] 4)) := (((Below.refl _ _).alloc (Nat.le_refl _) _).alloc (by simp) _).alloc (by simp; omega) _
  have b1 := ((Boxed.new W 22 lv).alloc (.cells #[.int .u8 most] 5)).alloc (.cells #[.bool false] 4)
  have b2 := (Boxed.new (W.alloc (.cells #[lv] 22)) 5 (.int .u8 most)).alloc (.cells #[.bool false] 4)
  have b3 := Boxed.new ((W.alloc (.cells #[lv] 22)).alloc (.cells #[.int .u8 most] 5)) 4 (.bool false)
  simp only [World.size_alloc] at b2 b3
  cases hgr : greatB l 120 with
  | true =>
    rw [hgr] at HCG
    have HBA := Lib.hid hbA
    obtain ⟨la, lc, hlv⟩ := hl.form
    subst hlv
    clear hgr hl h32 hs hbA
    go_wp2_with fail
    obtain ⟨wA, hwA⟩ : ∃ wA, ((W.alloc (.cells #[.slice la l.length lc] 22)).alloc (.cells #[.int .u8 most] 5)).alloc (.cells #[.bool false] 4) = wA := ⟨_, rfl⟩
    rw [hwA] at HBA b1 b2 b3 ⊢
    clear hwA
    have c1 := b1.cell
    have HB3 := Lib.hid b3
    clear b1 b2 b3
    go_wp2_with fail
    refine (HCG.out _ HBA.out).mono ?_
    rintro e w1 ⟨rfl, hb⟩
    have hb3 : Boxed w1 (W.heap.size + 1 + 1) 4 (.bool false) := (hb.block _ (lt_of_block HB3.out)).trans HB3.out
    have HBZ := Lib.hid (HBA.out.trans (hb.mono HBA.out.size))
    have k3 := hb3.cell
    have f3 := hb3.frozen
    have l3 := lt_of_block hb3
    have e3 := (hb3.set (.bool true)).cell
    clear hb hb3 c1
    go_wp2_with fail
    refine ⟨.bool true, ?_, rfl, HBZ.out.setCell (p := ⟨W.heap.size + 1 + 1, 0, none⟩) (by simp; omega) _⟩
    simp [results, Try.f3, go_sem, e3]
  | false =>
    rw [hgr] at HCG
    obtain ⟨h120, hup, hnz⟩ := great_small hgr h32
    have hm9 : gap % 9 < 9 := Nat.mod_lt _ (by omega)
    have hm2 : gap % 2 < 2 := Nat.mod_lt _ (by omega)
    have CS := fun w1 (hb : Below W.heap.size W w1) => stand9_c (hl.below hb) hup (by omega) (gap % 9) (gap % 2) (by omega) (by omega)
    have e9 : ((gap % 9 : Nat) : Int) = (gap : Int) % 9 := by omega
    have e2 : ((gap % 2 : Nat) : Int) = (gap : Int) % 2 := by omega
    rw [e9, e2] at CS
    have HUP := Lib.hid hup
    have HL := Lib.hid hl
    obtain ⟨la, lc, hlv⟩ := hl.form
    subst hlv
    obtain ⟨N, hN⟩ : ∃ N, l.length = N := ⟨_, rfl⟩
    rw [hN] at HCG CS HL h120 hbA b1 b2 b3 ⊢
    have HCS := Lib.hid CS
    have HN := Lib.hid hN
    have HM9 := Lib.hid hm9
    clear hgr hl h32 hs hnz hup hN CS e9 e2 hm9 hm2
    go_wp2_with fail
    obtain ⟨wA, hwA⟩ : ∃ wA, ((W.alloc (.cells #[.slice la N lc] 22)).alloc (.cells #[.int .u8 most] 5)).alloc (.cells #[.bool false] 4) = wA := ⟨_, rfl⟩
    rw [hwA] at hbA b1 b2 b3 ⊢
    clear hwA
    have c1 := b1.cell
    have HBA := Lib.hid hbA
    have HB1 := Lib.hid b1
    have HB2 := Lib.hid b2
    have HB3 := Lib.hid b3
    clear b1 b2 b3 hbA
    go_wp2_with fail
    refine (HCG.out _ HBA.out).mono ?_
    rintro e w1 ⟨rfl, hb⟩
    have HBB := Lib.hid (HBA.out.trans (hb.mono HBA.out.size))
    have HC1 : Hid (Boxed w1 W.heap.size 22 (.slice la N lc)) := (hb.block _ (lt_of_block HB1.out)).trans HB1.out
    have HC2 : Hid (Boxed w1 (W.heap.size + 1) 5 (.int .u8 most)) := (hb.block _ (lt_of_block HB2.out)).trans HB2.out
    have HC3 : Hid (Boxed w1 (W.heap.size + 1 + 1) 4 (.bool false)) := (hb.block _ (lt_of_block HB3.out)).trans HB3.out
    have c2 := HC1.out.cell
    clear hb c1 HBA HB1 HB2 HB3
    go_wp2_with fail
    refine (HCS.out _ HBB.out).mono ?_
    rintro e w2 ⟨sv, ns, r, H, rfl, hsr, hvb, hb2, his⟩
    obtain ⟨sa, sc, hsv⟩ := hsr.form
    obtain ⟨M, hM⟩ : ∃ M, ns.length = M := ⟨_, rfl⟩
    rw [hM] at hsv
    subst hsv
    obtain ⟨n1, n2, n3, n4, n5, n6⟩ := his.nums HUP.out (by have := HN.out; omega) (by have := HM9.out; omega)
    have HT := Lib.hid (his.tree HUP.out)
    have HNU := Lib.hid (And.intro n1 (And.intro n2 (And.intro n3 n4)))
    have HST := Lib.hid n5
    have HEN := Lib.hid n6
    have HMM := Lib.hid hM
    have hc3 := Boxed.new w2 25 (.slice sa M sc)
    have hcT := TB.new (w2.alloc (.cells #[.slice sa M sc] 25)) r H
    have hbx : Below w2.heap.size w2 ((w2.alloc (.cells #[.slice sa M sc] 25)).alloc (.cells #[.int .i64 r, .int .i64 H] 27)) := ((Below.refl _ _).alloc (Nat.le_refl _) _).alloc (by simp) _
    rw [World.size_alloc] at hcT
    have hLX : LX W (.slice la N lc) most w2.heap.size (.slice sa M sc) r H ((w2.alloc (.cells #[.slice sa M sc] 25)).alloc (.cells #[.int .i64 r, .int .i64 H] 27)) :=
      ⟨HBB.out.trans ((hb2.trans (hbx.mono hb2.size)).mono HBB.out.size), (hbx.block _ (Nat.lt_of_lt_of_le (lt_of_block HC1.out) hb2.size)).trans ((hb2.block _ (lt_of_block HC1.out)).trans HC1.out), (hbx.block _ (Nat.lt_of_lt_of_le (lt_of_block HC2.out) hb2.size)).trans ((hb2.block _ (lt_of_block HC2.out)).trans HC2.out),
        (hbx.block _ (Nat.lt_of_lt_of_le (lt_of_block HC3.out) hb2.size)).trans ((hb2.block _ (lt_of_block HC3.out)).trans HC3.out), hc3.alloc _, hcT⟩
    have hsB := hsr.below hbx
    have hvB : ∀ k, (Value.slice sa M sc).ownBlock = some k → k < ((w2.alloc (.cells #[.slice sa M sc] 25)).alloc (.cells #[.int .i64 r, .int .i64 H] 27)).heap.size := fun k hk => Nat.lt_of_lt_of_le (hvb k hk) hbx.size
    have hBs : W.heap.size + 3 ≤ w2.heap.size := by have h := lt_of_block HC3.out; have h2 := hb2.size; omega
    have HBS := Lib.hid hBs
    clear c2 n1 n2 n3 n4 n5 n6 hM his hsr hvb hb2 hc3 hcT hbx hBs HC1 HC2 HC3 HBB HCG HCS
    go_upto_region 4 with fail
    obtain ⟨wB, hwB⟩ : ∃ wB, (w2.alloc (.cells #[.slice sa M sc] 25)).alloc (.cells #[.int .i64 r, .int .i64 H] 27) = wB := ⟨_, rfl⟩
    rw [hwB] at hLX hsB hvB ⊢
    clear hwB
    obtain ⟨Bs, hBs2⟩ : ∃ Bs, w2.heap.size = Bs := ⟨_, rfl⟩
    rw [hBs2] at hLX HBS ⊢
    clear hBs2
    have HLX := Lib.hid hLX
    have HSB := Lib.hid hsB
    have HVB := Lib.hid hvB
    have C9 := Lib.hid (all7_c hsB hvB HT.out (by have := HNU.out.1; omega) HNU.out.2.1 (by have := HNU.out.2.2.1; omega) HNU.out.2.2.2 N (by have := HN.out; omega) (by have := HN.out; omega))
    have cl := hLX.l.cell
    have cs := hLX.s.cell
    obtain ⟨ct0, ct1⟩ := hLX.t.cell
    clear hLX hsB hvB
    unfold iS at C9
    go_wp2_with fail
    refine C9.out.mono ?_
    rintro e w3 ⟨oa, rfl, hra, hb3⟩
    obtain ⟨aa, ca, hoa⟩ := hra.form
    rw [HN.out] at hoa
    subst hoa
    have hl3 := HLX.out.below hb3
    have hs3 := HSB.out.below hb3
    have HVB3 : Hid (∀ k, (Value.slice sa M sc).ownBlock = some k → k < w3.heap.size) := fun k hk => Nat.lt_of_lt_of_le (HVB.out k hk) hb3.size
    have C10 := Lib.hid (same7_c hra (HL.out.below hl3.be) (by have := HN.out; omega))
    have HLX3 := Lib.hid hl3
    have HS3 := Lib.hid hs3
    clear cl cs ct0 ct1 hb3 hra C9 HLX HSB HVB hl3 hs3
    have cl := HLX3.out.l.cell
    go_wp2_with fail
    refine C10.out.mono ?_
    rintro e w4 ⟨rfl, hb4⟩
    have HLX4 := Lib.hid (HLX3.out.below hb4)
    have HS4 := Lib.hid (HS3.out.below hb4)
    have HVB4 : Hid (∀ k, (Value.slice sa M sc).ownBlock = some k → k < w4.heap.size) := fun k hk => Nat.lt_of_lt_of_le (HVB3.out k hk) hb4.size
    clear cl hb4 C10 HLX3 HS3 HVB3
    have cs := HLX4.out.s.cell
    obtain ⟨ct0, ct1⟩ := HLX4.out.t.cell
    have C11 := Lib.hid (tSlots_c (W := w4) (.slice sa M sc) r H)
    unfold iS at C11
    have hnf : ∀ (b c : Nat) w, (binOp .eql 34 (.func (.func 28) #[] #[.pointer (some ⟨b, 0, none⟩), .pointer (some ⟨c, 0, none⟩)]) Value.nilFunc).run Try.prog w = .ok (.bool false) w := fun b c w => by kernel_rfl
    go_wp2_with fail
    refine C11.out.mono ?_
    rintro e w5 ⟨rfl, h5⟩
    obtain ⟨B4, hB4⟩ : ∃ B4, w4.heap.size = B4 := ⟨_, rfl⟩
    rw [hB4]
    have hb5 : Below w4.heap.size w4 w5 := by rw [← h5]; exact ((Below.refl _ _).alloc (Nat.le_refl _) _).alloc (by simp) _
    have HLX5 := Lib.hid (HLX4.out.below hb5)
    have HS5 := Lib.hid (HS4.out.below hb5)
    have HTT : Hid (TB w5 B4 r H) := by rw [← h5, ← hB4]; exact (Below.heap_alloc _ _ _ (by simp)).trans (TB.new w4 r H)
    have HSS : Hid (Boxed w5 (B4 + 1) 82 (.iface 25 (.slice sa M sc))) := by rw [← h5]; exact Boxed.atNew _ _ _ _ (by simp [hB4])
    have hsz4 : w5.heap.size = B4 + 2 := by rw [← h5]; simp [hB4]
    have HSZ := Lib.hid hsz4
    clear hsz4
    have HVB5 : Hid (∀ k, (Value.slice sa M sc).ownBlock = some k → k < B4) := fun k hk => by rw [← hB4]; exact HVB4.out k hk
    have HB4 : Hid (W.heap.size + 3 ≤ B4 ∧ Bs + 1 < B4) := by
      have h1 := HLX4.out.t.lt
      have h2 := HBS.out
      rw [hB4] at h1
      exact ⟨by omega, h1⟩
    clear cs ct0 ct1 C11 HLX4 HS4 HVB4 h5 hB4 hb5
    obtain ⟨ct0, ct1⟩ := HLX5.out.t.cell
    go_wp2_with fail
    clear hnf ct0 ct1
    have hsz5 := HSZ.out
    have e1 := Boxed.new w5 3 (.int .i64 r)
    have hbw : Below w5.heap.size w5 (w5.alloc (.cells #[.int .i64 r] 3)) := (Below.refl _ _).alloc (Nat.le_refl _) _
    have hLX0 := HLX5.out.below hbw
    have hS0 := HS5.out.below hbw
    have hT0 := (hbw.block _ HTT.out.lt).trans HTT.out
    have hSS0 := (hbw.block _ (lt_of_block HSS.out)).trans HSS.out
    have hsz0 : (w5.alloc (.cells #[.int .i64 r] 3)).heap.size = B4 + 3 := by simp [hsz5]
    rw [hsz5] at e1 ⊢
    obtain ⟨W0, hW0⟩ : ∃ W0, w5.alloc (.cells #[.int .i64 r] 3) = W0 := ⟨_, rfl⟩
    rw [hW0] at e1 hLX0 hS0 hT0 hSS0 hsz0 ⊢
    have HS0 := Lib.hid hS0
    have HT0 := Lib.hid hT0
    have HSS0 := Lib.hid hSS0
    clear hW0 hbw hS0 hT0 hSS0 HLX5 HS5 HTT HSS HSZ hsz5
    obtain ⟨hB4a, hB4b⟩ := HB4.out
    refine (wpIn_wide (n := 3)).1 ?_
    refine wpIn_rangeIterL (gf := 28) (lb := #[.pointer (some ⟨B4 + 1, 0, none⟩), .pointer (some ⟨B4, 0, none⟩)]) rfl (enters_of Try.func28 (by kernel_rfl) rfl)
      (slots1_iter (B4 + 1) B4 (.slice sa M sc) ns r H l HT.out (by have := HNU.out.1; omega) HNU.out.2.1 (by have := HNU.out.2.2.1; omega)) (fun _ => False) (fun e h => h.elim) (fun _ => rfl)
      (fun k hk => by
        rcases hk with rfl | rfl | hk
        · omega
        · omega
        · have h1 := HVB5.out k hk; omega) (fun W' hW' => ⟨(hW'.block _ (by omega)).trans HSS0.out, (hW'.block _ (by omega)).trans HT0.out, HS0.out.below hW'⟩)
      (fun pre X => LX W (.slice la N lc) most Bs (.slice sa M sc) r H X ∧ Boxed X (B4 + 2) 3 (.int .i64 (r + pre.length)) ∧ ShelfRow X (.slice sa M sc) ns) (fun c pre X => False)
      (fun s' X Y h hXY => by
        rw [hsz0] at hXY
        exact ⟨h.1.itself hXY (by omega), hXY.boxed h.2.1 (.inl (by omega)), h.2.2.keep hXY.size fun k hk hlt => hXY.below k (by have h1 := HVB5.out k hk; omega)⟩)
      (fun c s' X Y h hXY => h) ⟨hLX0, by simpa using e1, HS0.out⟩ ?round ?done ?stop
    case round =>
      rintro l2 pre x W1 hl ⟨rl, hrl⟩ ⟨hx, hw, hsr⟩ hst
      obtain ⟨z, n⟩ := x
      obtain ⟨hr, hzz, hnn⟩ := HST.out pre (z, n) hst
      dsimp only at hzz hnn
      obtain ⟨g, hg⟩ : ∃ g, gap % 9 + pre.length = g := ⟨_, rfl⟩
      rw [hg] at hzz hnn
      subst hzz
      have hgM : g < M := by
        have h1 := (List.getElem?_eq_some_iff.1 hnn).1
        have h2 := HMM.out
        omega
      have hM9 : M ≤ 10000 := by have h1 := HNU.out.1; have h2 := HMM.out; omega
      have hrg : r + (pre.length : Int) = g := by rw [hr]; omega
      rw [hrg] at hw
      have HRG := Lib.hid hrg
      have hz := heap_alloc_new W1 (.cells (nodeA noTN) 45)
      have HZ := Lib.hid hz
      have hlt2 : l2 < W1.heap.size := (Array.getElem?_eq_some_iff.1 hrl).1
      clear hz hr hrg hst
      rw [hsz0] at hl ⊢
      gi_wp2_with (refine wpListIn_store_row (by rfl) 45 (.tmp 14) (.tmp 57) rfl W1.heap.size (nodeA n) rfl rfl 45 (nodeA noTN) HZ.out sizeNode rfl (nodeA_one _) ?_)
      have hlt0 := lt_of_block hw
      refine ⟨(show Keeps _ _ _ W1 ((W1.alloc (.cells (nodeA noTN) 45)).setRow W1.heap.size (nodeA n)) from by rw [World.setRow_alloc_new]; exact Keeps.alloc _ _ _ _ _), fun W2 hits0 hsz2 hrec hoth0 => ?_⟩
      have hits : Itself sT0 (B4 + 3) (W1.alloc (.cells (nodeA n) 45)) W2 := by
        have h := (show Itself sT0 (B4 + 3) ((W1.alloc (.cells (nodeA noTN) 45)).setRow W1.heap.size (nodeA n)) W2 from hits0)
        rw [World.setRow_alloc_new] at h; exact h
      have hoth : ∀ k, k ≠ l2 → W2.heap[k]? = (W1.alloc (.cells (nodeA n) 45)).heap[k]? := by
        have h := (show ∀ k, k ≠ l2 → W2.heap[k]? = ((W1.alloc (.cells (nodeA noTN) 45)).setRow W1.heap.size (nodeA n)).heap[k]? from hoth0)
        rw [World.setRow_alloc_new] at h; exact h
      have hit1 : Itself sT0 (B4 + 3) W1 W2 := (Itself.alloc _ W1 _ (by omega)).trans hits
      have hx2 := hx.itself hit1 (by omega)
      have hw2 := hit1.boxed hw (.inl (by omega))
      have hs2 := hsr.keep hit1.size fun k hk hlt => hit1.below k (by have h1 := HVB5.out k hk; omega)
      have hnew : W2.heap[W1.heap.size]? = some (.cells (nodeA n) 45 (0, 0)) := (hoth _ (by omega)).trans (heap_alloc_new W1 _)
      obtain ⟨b, off, rfl, hbb, hra⟩ := hs2.at hnn
      have HRA : Hid (∀ q, (W2.drewN q).rangeAt b (off + g * 26) (nodeA n).toList) := fun q => hra
      have HRN : Hid (∀ q, (W2.drewN q).rangeAt W1.heap.size 0 (nodeA n).toList) := fun q j u hu => by
        rw [Nat.zero_add]
        show W2.cell? _ = _
        simp only [World.cell?, hnew]
        simpa using hu
      have q1 : decide (M ≤ g) = false := decide_eq_false (by omega)
      have q2 : (g : Int) < M := by omega
      have q3 : (0 : Int) ≤ g := by omega
      have cw := hw2.cell
      have cs := hx2.s.cell
      have HX2 := Lib.hid hx2
      have HW2 := Lib.hid hw2
      have HS2 := Lib.hid hs2
      clear hits0 hits hoth0 hoth hit1 hsz2 hrec hrl hnew hx hw hsr hx2 hw2 hs2 hra hnn HZ hlt2 hlt0
      gi_wp2_with fail
      simp only [Act.put]
      refine wpIn_region_quiet7 (by kernel_rfl) (by kernel_rfl) (by kernel_rfl) ?_
      repeat (first
        | (go_big_quiet_want; refine quiet_load_mid 45 (.tmp 14) rfl W1.heap.size 0 rfl (nodeA n).toList _ (fun w' hw' => by obtain ⟨q, rfl⟩ := hw'; exact HRN.out q) Try.underlying45 rfl sizeNode ?_; simp only [Act.put, List.setIfInBounds_toArray, List.set_cons_zero, List.set_cons_succ, Array.toArray_toList]; go_big_quiet_on)
        | (go_big_quiet_want; refine quiet_load_mid 45 (.tmp 71) rfl b (off + g * 26) rfl (nodeA n).toList _ (fun w' hw' => by obtain ⟨q, rfl⟩ := hw'; exact HRA.out q) Try.underlying45 rfl sizeNode ?_; simp only [Act.put, List.setIfInBounds_toArray, List.set_cons_zero, List.set_cons_succ, Array.toArray_toList]; go_big_quiet_on)
        | (go_big_quiet_want; refine quiet_node_neq (.tmp 68) (.tmp 72) _ rfl n rfl rfl ?_; simp only [Act.put, List.setIfInBounds_toArray, List.set_cons_zero, List.set_cons_succ, Array.toArray_toList]; go_big_quiet_on)
        | go_big_quiet_step (fail))
      refine wpQuiet_nil ?_
      rintro w' ⟨q, rfl⟩
      have hwq : Boxed (W2.drewN q) (B4 + 2) 3 (.int .i64 g) := HW2.out
      have kq := hwq.cell
      have fq := hwq.frozen
      have lq := lt_of_block hwq
      gi_wp2_with fail
      refine ⟨(Keeps.drewN _ _ _ W2 q).trans (Keeps.setCell _ (W2.drewN q) ⟨B4 + 2, 0, none⟩ _ (fun hk => by
        rcases hk with hk | hk | hk
        · have h2 : B4 + 2 = B4 + 1 := hk; omega
        · have h2 : B4 + 2 = B4 := hk; omega
        · have h1 := HVB5.out _ hk
          have h2 : B4 + 2 < B4 := h1
          omega) (by show B4 + 2 < B4 + 3; omega)), ?_, ?_, ?_⟩
      · exact LX.other (X := W2.drewN q) ⟨below_drewN HX2.out.be q, HX2.out.l, HX2.out.mo, HX2.out.re, HX2.out.s, HX2.out.t⟩ (B4 + 2) (by omega) _
      · have h := hwq.set (.int .i64 ((g : Int) + 1))
        rw [List.length_append, List.length_singleton, show (r + ((pre.length + 1 : Nat) : Int)) = (g : Int) + 1 by have := HRG.out; omega]
        exact h
      · exact HS2.out.keep (by show W2.heap.size ≤ ((W2.drewN q).heap.modify _ _).size; rw [Array.size_modify]; exact Nat.le_refl _) fun k hk hlt => Below.heap_setCell (W2.drewN q) ⟨B4 + 2, 0, none⟩ _ k (by have h1 := HVB5.out k hk; show k ≠ B4 + 2; omega)
    case done =>
      rintro D xs W1 hD hS ⟨hx, hw, hsr⟩ hK
      subst hS
      rw [hsz0] at hD
      have hen := HEN.out
      obtain ⟨wn, hwn⟩ : ∃ wn, r + ((preN ns H r).length : Int) = wn := ⟨_, rfl⟩
      rw [hwn] at hw hen
      have hcase : (N = 0 ∧ wn = -1) ∨ (0 < N ∧ wn = (M : Int)) := by
        have h1 := HN.out
        have h2 := HMM.out
        by_cases h : l = []
        · rw [if_pos h] at hen
          exact .inl ⟨by rw [← h1, h]; rfl, hen⟩
        · rw [if_neg h] at hen
          have := List.length_pos_iff.2 h
          exact .inr ⟨by omega, by omega⟩
      have HK1 := Lib.hid hK
      have HX1 := Lib.hid hx
      have HS1 := Lib.hid hsr
      have HD := Lib.hid hD
      have kl := hx.l.cell
      have ks := hx.s.cell
      obtain ⟨kt0, kt1⟩ := hx.t.cell
      have kw := hw.cell
      clear hen hwn hK hx hsr hD hw e1 hLX0 HT0 HSS0 HS0
      have CW := Lib.hid (fun (w : World) => tWalk_c (W := w) (.slice sa M sc) r H)
      unfold iS at CW
      have hwa : Below W1.heap.size W1 (W1.alloc (.cells #[.int .i64 0] 3)) := (Below.refl _ _).alloc (Nat.le_refl _) _
      have HX6 := Lib.hid (HX1.out.below hwa)
      have HS6 := Lib.hid (HS1.out.below hwa)
      have HM6 := Lib.hid (Boxed.new W1 3 (.int .i64 0))
      have HK6 : Hid ((W1.alloc (.cells #[.int .i64 0] 3)).heap[D]? = some (.deferred (some []))) := (hwa.block D (Array.getElem?_eq_some_iff.1 HK1.out).1).trans HK1.out
      have HZ6 : Hid ((W1.alloc (.cells #[.int .i64 0] 3)).heap.size = W1.heap.size + 1) := World.size_alloc _ _
      have HB6 : Hid (B4 + 3 ≤ W1.heap.size ∧ D < W1.heap.size) := ⟨by have := (Array.getElem?_eq_some_iff.1 HK1.out).1; have := HD.out; omega, (Array.getElem?_eq_some_iff.1 HK1.out).1⟩
      obtain ⟨Bm, hBm⟩ : ∃ Bm, W1.heap.size = Bm := ⟨_, rfl⟩
      obtain ⟨W6, hW6⟩ : ∃ W6, W1.alloc (.cells #[.int .i64 0] 3) = W6 := ⟨_, rfl⟩
      rw [hBm] at HM6 HZ6 HB6
      rw [hW6] at HX6 HS6 HM6 HK6 HZ6
      have HBM := Lib.hid hBm
      have HW6 := Lib.hid hW6
      clear hwa hBm hW6 HX1 HS1 HK1
      --SECOND--
      have hcase2 : (((N : Int) == 0) = true ∧ decide (0 < N) = false ∧ wn = -1) ∨ (((N : Int) == 0) = false ∧ decide (0 < N) = true ∧ wn = (M : Int)) := by
        rcases hcase with ⟨h1, h2⟩ | ⟨h1, h2⟩
        · exact .inl ⟨by rw [beq_iff_eq]; omega, decide_eq_false (by omega), h2⟩
        · exact .inr ⟨by rw [beq_eq_false_iff_ne]; omega, decide_eq_true (by omega), h2⟩
      clear hcase
      rcases hcase2 with ⟨z1, z2, rfl⟩ | ⟨z1, z2, rfl⟩
      all_goals
        go_upto_region 20 with fail
        rw [HBM.out, HW6.out]
        clear z1 z2 kl ks kt0 kt1 kw HBM HW6
        obtain ⟨kt0, kt1⟩ := HX6.out.t.cell
        have ks := HX6.out.s.cell
        go_wp2_with (go_at_call 12; refine (CW.out _).mono ?_; rintro e W7 ⟨rfl, hw7⟩)
        clear kt0 kt1 ks CW
        have hz6 := HZ6.out
        rw [hz6]
        have hb7 : Below W6.heap.size W6 W7 := by rw [← hw7]; exact ((Below.refl _ _).alloc (Nat.le_refl _) _).alloc (by simp) _
        have HX7 := Lib.hid (HX6.out.below hb7)
        have HS7 := Lib.hid (HS6.out.below hb7)
        have HM7 : Hid (Boxed W7 Bm 3 (.int .i64 0)) := (hb7.block _ (lt_of_block HM6.out)).trans HM6.out
        have HK7 : Hid (W7.heap[D]? = some (.deferred (some []))) := (hb7.block _ (Array.getElem?_eq_some_iff.1 HK6.out).1).trans HK6.out
        have ht7 : TB W7 (Bm + 1) r H := by rw [← hw7, ← hz6]; exact (Below.heap_alloc _ _ _ (by simp)).trans (TB.new W6 r H)
        have hs7 : Boxed W7 (Bm + 1 + 1) 82 (iS (.slice sa M sc)) := by rw [← hw7]; exact Boxed.atNew _ _ _ _ (by simp [hz6])
        have hsz7 : W7.heap.size = Bm + 3 := by rw [← hw7]; simp [hz6]
        have HT7 := Lib.hid ht7
        have HSS7 := Lib.hid hs7
        obtain ⟨hBm1, hBm2⟩ := HB6.out
        have HLEN := Lib.hid (show most < 256 from hmost)
        clear hb7 hw7 ht7 hs7 HX6 HS6 HM6 HK6 HZ6 hz6
        refine (wpIn_wide (n := 3)).1 ?_
        refine wpIn_rangeIterL (gf := 31) (lb := #[.pointer (some ⟨Bm + 1, 0, none⟩), .pointer (some ⟨Bm + 1 + 1, 0, none⟩)]) rfl (enters_of Try.func31 (by kernel_rfl) rfl)
          (walk7_iter (Bm + 1) (Bm + 1 + 1) (.slice sa M sc) ns r H l HT.out (by have := HNU.out.1; omega) HNU.out.2.1 (by have := HNU.out.2.2.1; omega)) (fun _ => False) (fun e h => h.elim) (fun _ => rfl)
          (fun k hk => by
            rcases hk with rfl | rfl | hk
            · omega
            · omega
            · have h1 := HVB5.out k hk; omega) (fun W' hW' => ⟨⟨(hW'.block _ (by omega)).trans HSS7.out, (hW'.block _ (by omega)).trans HT7.out, HS7.out.below hW'⟩, fun k hk => by have h1 := HVB5.out k hk; have h2 := hW'.size; omega⟩)
          (fun pre X => LX W (.slice la N lc) most Bs (.slice sa M sc) r H X ∧ Boxed X Bm 3 (.int .i64 pre.length) ∧ X.heap[D]? = some (.deferred (some [])) ∧ pre.length ≤ most)
          (fun c pre X => c = .exit 2 ∧ LX W (.slice la N lc) most Bs (.slice sa M sc) r H X ∧ Boxed X Bm 3 (.int .i64 ((most : Int) + 1)) ∧ X.heap[D]? = some (.deferred (some [])) ∧ pre.length = most + 1)
          (fun s' X Y h hXY => by
            rw [hsz7] at hXY
            exact ⟨h.1.itself hXY (by omega), hXY.boxed h.2.1 (.inl (by omega)), (hXY.below _ (by omega)).trans h.2.2.1, h.2.2.2⟩)
          (fun c s' X Y h hXY => by
            rw [hsz7] at hXY
            exact ⟨h.1, h.2.1.itself hXY (by omega), hXY.boxed h.2.2.1 (.inl (by omega)), (hXY.below _ (by omega)).trans h.2.2.2.1, h.2.2.2.2⟩) ⟨HX7.out, HM7.out, HK7.out, Nat.zero_le _⟩ ?_ ?_ ?_
        · --round
          rintro l3 pre x W8 hl ⟨rl, hrl⟩ ⟨hx, hm, hk, hle⟩ hst
          rw [HNU.out.2.2.2] at hst
          obtain ⟨u, f, t⟩ := x
          simp only [rV]
          obtain ⟨n, hn⟩ : ∃ n, pre.length = n := ⟨_, rfl⟩
          have hq : l[n]? = some ⟨u, f, t⟩ := by
            obtain ⟨tl, htl⟩ := hst
            rw [← htl, ← hn]
            simp
          have hnN : n < N := by have h1 := (List.getElem?_eq_some_iff.1 hq).1; have h2 := HN.out; omega
          rw [hn] at hm hle
          have HNP := Lib.hid hn
          have hlt3 : l3 < W8.heap.size := (Array.getElem?_eq_some_iff.1 hrl).1
          have hT := Tri.new W8 40 (.int .u32 u) (.int .u8 f) (.string t)
          have hsW := lt_of_block hm
          clear hst hn
          gi_wp2
          refine ⟨Keeps.alloc _ _ _ _ _, fun W9 hits hsz2 hrec hoth => ?_⟩
          rw [hsz7] at hits hl ⊢
          have hX : Itself wT0 (Bm + 3) W8 W9 := (Itself.alloc _ W8 _ (by omega)).trans hits
          have hx9 := hx.itself hX (by omega)
          have hm9 := hX.boxed hm (.inl (by omega))
          have hk9 := (hX.below D (by omega)).trans hk
          have hT9 : Tri W9 W8.heap.size 40 (.int .u32 u) (.int .u8 f) (.string t) := hT.later (hoth _ (by omega))
          obtain ⟨b, off, hab, hbb, k0, k1, k2⟩ := (HL.out.below hx9.be).at hq
          have c0 := hm9.cell
          have c1 := hx9.l.cell
          obtain ⟨t0, t1, t2, _, _, _⟩ := hT9.cell
          have q1 : decide (N ≤ n) = false := decide_eq_false (by omega)
          have q2 : (n : Int) < N := by omega
          have q3 : (0 : Int) ≤ n := by omega
          have HB7 := Lib.hid (fun w => back7_c ⟨u, f, t⟩ w)
          unfold rV at HB7
          have lts : Hid (Bm < W9.heap.size ∧ W.heap.size < W9.heap.size ∧ W8.heap.size < W9.heap.size ∧ b < W9.heap.size) := ⟨lt_of_block hm9, lt_of_block hx9.l, hT9.lt, hbb⟩
          have HSS : Hid (∀ w', Below W9.heap.size W9 w' → w'.cell? ⟨Bm, 0, none⟩ = some (.int .i64 n) ∧ w'.cell? ⟨W.heap.size, 0, none⟩ = some (.slice la N lc) ∧ w'.cell? ⟨W8.heap.size, 0, none⟩ = some (.int .u32 u) ∧ w'.cell? ⟨W8.heap.size, 1, none⟩ = some (.int .u8 f) ∧ w'.cell? ⟨W8.heap.size, 2, none⟩ = some (.string t) ∧
              w'.cell? ⟨b, off + n * 3, none⟩ = some (.int .u32 u) ∧ w'.cell? ⟨b, off + n * 3 + 1, none⟩ = some (.int .u8 f) ∧ w'.cell? ⟨b, off + n * 3 + 2, none⟩ = some (.string t) ∧ Below W9.heap.size W9 w') := fun w' hb => by
            obtain ⟨j1, j2, j3, j4⟩ := lts.out
            have e : ∀ k o, k < W9.heap.size → w'.cell? ⟨k, o, none⟩ = W9.cell? ⟨k, o, none⟩ := fun k o hk => hb.cell (p := ⟨k, o, none⟩) hk
            rw [e _ _ j1, e _ _ j2, e _ _ j3, e _ _ j3, e _ _ j3, e _ _ j4, e _ _ j4, e _ _ j4]
            exact ⟨c0, c1, t0, t1, t2, k0, k1, k2, hb⟩
          have HX9 := Lib.hid hx9
          have HM9b := Lib.hid hm9
          have HK9 := Lib.hid hk9
          clear hX hT9 hits hsz2 hrec hoth hx hm hk hT hrl hx9 hm9 hk9 c0 c1 t0 t1 t2 k0 k1 k2 hq hlt3 hsW hbb
          subst hab
          gi_wp2_with fail
          refine wpIn_region_held (S := fun w' => w'.cell? ⟨Bm, 0, none⟩ = some (.int .i64 n) ∧ w'.cell? ⟨W.heap.size, 0, none⟩ = some (.slice (some ⟨b, off, none⟩) N lc) ∧ w'.cell? ⟨W8.heap.size, 0, none⟩ = some (.int .u32 u) ∧ w'.cell? ⟨W8.heap.size, 1, none⟩ = some (.int .u8 f) ∧ w'.cell? ⟨W8.heap.size, 2, none⟩ = some (.string t) ∧
              w'.cell? ⟨b, off + n * 3, none⟩ = some (.int .u32 u) ∧ w'.cell? ⟨b, off + n * 3 + 1, none⟩ = some (.int .u8 f) ∧ w'.cell? ⟨b, off + n * 3 + 2, none⟩ = some (.string t) ∧ Below W9.heap.size W9 w') (by kernel_rfl) (by kernel_rfl) (fun ⟨_, _, h⟩ => h) (HSS.out _ (Below.refl _ _).drew) (fun hHeld => ?_)
          refine wpAnyH_take (i := 0) (v := ?_) rfl (by kernel_rfl) (by kernel_rfl) (by kernel_rfl) (fun _ _ _ h => h) (Or.inl ⟨by rfl, ?_⟩) (by assumption) ?_
          rotate_left
          · intro w hSw; (try dsimp only at hSw); go_simp; try with_reducible rfl
          simp only [Act.put, List.getElem_toArray, List.getElem_cons_zero, List.getElem_cons_succ, List.setIfInBounds_toArray, List.set_cons_zero, List.set_cons_succ]
          refine wpAnyH_take (i := 1) (v := ?_) rfl (by kernel_rfl) (by kernel_rfl) (by kernel_rfl) (fun _ _ _ h => h) (Or.inl ⟨by rfl, ?_⟩) (by assumption) ?_
          rotate_left
          · intro w hSw; (try dsimp only at hSw); go_simp; try with_reducible rfl
          simp only [Act.put, List.getElem_toArray, List.getElem_cons_zero, List.getElem_cons_succ, List.setIfInBounds_toArray, List.set_cons_zero, List.set_cons_succ]
          refine wpAnyH_take (i := 2) (v := ?_) rfl (by kernel_rfl) (by kernel_rfl) (by kernel_rfl) (fun _ _ _ h => h) (Or.inl ⟨by rfl, ?_⟩) (by assumption) ?_
          rotate_left
          · intro w hSw; (try dsimp only at hSw); go_simp; try with_reducible rfl
          simp only [Act.put, List.getElem_toArray, List.getElem_cons_zero, List.getElem_cons_succ, List.setIfInBounds_toArray, List.set_cons_zero, List.set_cons_succ]
          refine wpAnyH_take (i := 3) (v := ?_) rfl (by kernel_rfl) (by kernel_rfl) (by kernel_rfl) (fun _ _ _ h => h) (Or.inl ⟨by rfl, ?_⟩) (by assumption) ?_
          rotate_left
          · intro w hSw; (try dsimp only at hSw); go_simp; try with_reducible rfl
          simp only [Act.put, List.getElem_toArray, List.getElem_cons_zero, List.getElem_cons_succ, List.setIfInBounds_toArray, List.set_cons_zero, List.set_cons_succ]
          refine wpAnyH_take (i := 4) (v := ?_) rfl (by kernel_rfl) (by kernel_rfl) (by kernel_rfl) (fun _ _ _ h => h) (Or.inl ⟨by rfl, ?_⟩) (by assumption) ?_
          rotate_left
          · intro w hSw; (try dsimp only at hSw); go_simp; try with_reducible rfl
          simp only [Act.put, List.getElem_toArray, List.getElem_cons_zero, List.getElem_cons_succ, List.setIfInBounds_toArray, List.set_cons_zero, List.set_cons_succ]
          refine wpAnyH_take (i := 5) (v := ?_) rfl (by kernel_rfl) (by kernel_rfl) (by kernel_rfl) (fun _ _ _ h => h) (Or.inl ⟨by rfl, ?_⟩) (by assumption) ?_
          rotate_left
          · intro w hSw; (try dsimp only at hSw); go_simp; try with_reducible rfl
          simp only [Act.put, List.getElem_toArray, List.getElem_cons_zero, List.getElem_cons_succ, List.setIfInBounds_toArray, List.set_cons_zero, List.set_cons_succ]
          refine wpAnyH_take (i := 7) (v := ?_) rfl (by kernel_rfl) (by kernel_rfl) (by kernel_rfl) (fun _ _ _ h => h) (Or.inl ⟨by rfl, ?_⟩) (by assumption) ?_
          rotate_left
          · intro w hSw; (try dsimp only at hSw); go_simp; try with_reducible rfl
          simp only [Act.put, List.getElem_toArray, List.getElem_cons_zero, List.getElem_cons_succ, List.setIfInBounds_toArray, List.set_cons_zero, List.set_cons_succ]
          refine wpAnyH_take (i := 8) (v := ?_) rfl (by kernel_rfl) (by kernel_rfl) (by kernel_rfl) (fun _ _ _ h => h) (Or.inl ⟨by rfl, ?_⟩) (by assumption) ?_
          rotate_left
          · intro w hSw; (try dsimp only at hSw); go_simp; try with_reducible rfl
          simp only [Act.put, List.getElem_toArray, List.getElem_cons_zero, List.getElem_cons_succ, List.setIfInBounds_toArray, List.set_cons_zero, List.set_cons_succ]
          refine wpAnyH_take (i := 9) (v := ?_) rfl (by kernel_rfl) (by kernel_rfl) (by kernel_rfl) (fun _ _ _ h => h) (Or.inl ⟨by rfl, ?_⟩) (by assumption) ?_
          rotate_left
          · intro w hSw; (try dsimp only at hSw); go_simp; try with_reducible rfl
          simp only [Act.put, List.getElem_toArray, List.getElem_cons_zero, List.getElem_cons_succ, List.setIfInBounds_toArray, List.set_cons_zero, List.set_cons_succ]
          refine wpAnyH_take (i := 10) (v := ?_) rfl (by kernel_rfl) (by kernel_rfl) (by kernel_rfl) (fun _ _ _ h => h) (Or.inl ⟨by rfl, ?_⟩) (by assumption) ?_
          rotate_left
          · intro w hSw; (try dsimp only at hSw); go_simp; try with_reducible rfl
          simp only [Act.put, List.getElem_toArray, List.getElem_cons_zero, List.getElem_cons_succ, List.setIfInBounds_toArray, List.set_cons_zero, List.set_cons_succ]
          refine wpAnyH_ready (rs := [6]) (by kernel_rfl) (by simp) ?_
          refine AllReadyH.cons rfl (fun K hK => ?_) AllReadyH.nil
          go_simp
          refine (HB7.out _).mono ?_
          rintro e w3 ⟨rfl, hb3⟩
          have hB3 : Below W9.heap.size W9 w3 := hHeld.2.2.2.2.2.2.2.2.trans (hb3.mono hHeld.2.2.2.2.2.2.2.2.size)
          clear hb3
          refine hK.out _ _ (HSS.out _ hB3) (fun hHeld2 => ?_)
          clear hK K hHeld
          try simp only [Act.put, List.setIfInBounds_toArray, List.set_cons_zero, List.set_cons_succ]
          refine wpAnyH_take (i := 11) (v := ?_) rfl (by kernel_rfl) (by kernel_rfl) (by kernel_rfl) (fun _ _ _ h => h) (Or.inl ⟨by rfl, ?_⟩) (by assumption) ?_
          rotate_left
          · intro w hSw; (try dsimp only at hSw); go_simp; try with_reducible rfl
          simp only [Act.put, List.getElem_toArray, List.getElem_cons_zero, List.getElem_cons_succ, List.setIfInBounds_toArray, List.set_cons_zero, List.set_cons_succ]
          refine wpAnyH_take (i := 12) (v := ?_) rfl (by kernel_rfl) (by kernel_rfl) (by kernel_rfl) (fun _ _ _ h => h) (Or.inl ⟨by rfl, ?_⟩) (by assumption) ?_
          rotate_left
          · intro w hSw; (try dsimp only at hSw); go_simp; try with_reducible rfl
          simp only [Act.put, List.getElem_toArray, List.getElem_cons_zero, List.getElem_cons_succ, List.setIfInBounds_toArray, List.set_cons_zero, List.set_cons_succ]
          refine wpAnyH_done (by kernel_rfl) ?_ _
          have hx3 := HX9.out.below hB3
          have hm3 : Boxed w3 Bm 3 (.int .i64 n) := (hB3.block _ (lt_of_block HM9b.out)).trans HM9b.out
          have hk3 : w3.heap[D]? = some (.deferred (some [])) := (hB3.block _ (Array.getElem?_eq_some_iff.1 HK9.out).1).trans HK9.out
          have g1 := hm3.set (.int .i64 ((n : Int) + 1))
          have g2 := hx3.other Bm (by omega) (.int .i64 ((n : Int) + 1))
          have g3 : (w3.setCell ⟨Bm, 0, none⟩ (.int .i64 ((n : Int) + 1))).heap[D]? = some (.deferred (some [])) := (Below.heap_setCell w3 ⟨Bm, 0, none⟩ _ D (by show D ≠ Bm; omega)).trans hk3
          have g4 : Keeps (fun _ => False) (scap (Bm + 1 + 1) (Bm + 1) (.slice sa M sc)) (Bm + 3) W9 (w3.setCell ⟨Bm, 0, none⟩ (.int .i64 ((n : Int) + 1))) := (Keeps.of_below hB3).trans (Keeps.setCell _ w3 ⟨Bm, 0, none⟩ _ (fun hk => by
            rcases hk with hk | hk | hk
            · have h2 : Bm = Bm + 1 + 1 := hk; omega
            · have h2 : Bm = Bm + 1 := hk; omega
            · have h1 := HVB5.out _ hk
              have h2 : Bm < B4 := h1
              omega) (by show Bm < Bm + 3; omega))
          have r1 := hm3.cell
          have r2 := hm3.frozen
          have r3 := lt_of_block hm3
          have r4 := g1.cell
          have r5 := g2.mo.cell
          have r6 := hx3.mo.cell
          have n1 : ¬ (Bm = W.heap.size + 1) := by omega
          have n2 : ¬ (W.heap.size + 1 = Bm) := by omega
          have G1 := Lib.hid g1
          have G2 := Lib.hid g2
          have G3 := Lib.hid g3
          have G4 := Lib.hid g4
          clear hHeld2 hB3 hx3 hm3 hk3 g1 g2 g3 g4 HSS
          by_cases hb : n < most
          · have q5 : ¬ (most : Int) < (n : Int) + 1 := by omega
            gi_wp2_with fail
            refine ⟨G4.out, G2.out, ?_, G3.out, ?_⟩
            · rw [List.length_append, List.length_singleton, HNP.out]; exact G1.out
            · rw [List.length_append, List.length_singleton, HNP.out]; omega
          · have q5 : (most : Int) < (n : Int) + 1 := by omega
            have hnm : n = most := by omega
            have HNM := Lib.hid hnm
            clear hnm hb
            gi_wp2_with fail
            refine ⟨G4.out, rfl, G2.out, ?_, G3.out, ?_⟩
            · have h := G1.out; rw [← HNM.out]; exact h
            · rw [List.length_append, List.length_singleton, HNP.out, HNM.out]
        · rintro D2 xs W8 hD2 hS ⟨hx, hm, hk, hle⟩ hK2
          rw [HNU.out.2.2.2] at hS
          subst hS
          have hln := HN.out
          rw [hln] at hm hle
          have hmn : min (N : Int) ((most : Int) + 1) = N := by omega
          rw [hsz7] at hD2
          obtain ⟨mv, hmv⟩ : ∃ mv, (N : Int) = mv := ⟨_, rfl⟩
          rw [hmv] at hm
          have hmn2 : min (N : Int) ((most : Int) + 1) = mv := by rw [hmn, hmv]
          clear hmn
          have hD3 : D ≠ D2 := by omega
          have cm := hm.cell
          have cl := hx.l.cell
          have co := hx.mo.cell
          have HXX := Lib.hid hx
          have HKK := Lib.hid hk
          have HKK2 := Lib.hid hK2
          have HAW := Lib.hid (fun w => awake7_c (W := w))
          clear hx hk hK2 hm hmv hle
          go_wp2_with fail
          refine (HAW.out _).mono ?_
          rintro e W9 ⟨rfl, hb9⟩
          have hx9 := HXX.out.below hb9
          have hk9 : W9.heap[D]? = some (.deferred (some [])) := (hb9.block _ (Array.getElem?_eq_some_iff.1 HKK.out).1).trans HKK.out
          have hl9 : W9.heap[D2]? = some (.deferred (some [])) := (hb9.block _ (Array.getElem?_eq_some_iff.1 HKK2.out).1).trans HKK2.out
          have j1 := hx9.re.cell
          have j2 := hx9.re.frozen
          have j3 := lt_of_block hx9.re
          have j4 := (hx9.re.set (.bool true)).cell
          have hbe := hx9.be.setCell (p := ⟨W.heap.size + 1 + 1, 0, none⟩) (by show W.heap.size ≤ W.heap.size + 1 + 1; omega) (.bool true)
          have hk10 : (W9.setCell ⟨W.heap.size + 1 + 1, 0, none⟩ (.bool true)).heap[D]? = some (.deferred (some [])) := (Below.heap_setCell W9 ⟨W.heap.size + 1 + 1, 0, none⟩ _ D (by show D ≠ W.heap.size + 1 + 1; have := HD.out; omega)).trans hk9
          have hl10 : (W9.setCell ⟨W.heap.size + 1 + 1, 0, none⟩ (.bool true)).heap[D2]? = some (.deferred (some [])) := (Below.heap_setCell W9 ⟨W.heap.size + 1 + 1, 0, none⟩ _ D2 (by show D2 ≠ W.heap.size + 1 + 1; omega)).trans hl9
          have J4 := Lib.hid j4
          have HBE := Lib.hid hbe
          have HK10 := Lib.hid hk10
          have HL10 := Lib.hid hl10
          clear hx9 hk9 hl9 hb9 j4 hbe hk10 hl10 cm cl co hmn2
          go_wp2_with fail
          refine ⟨by simp, .inl ⟨_, _, rfl, run_takeDeferred HL10.out, ?_⟩⟩
          have hk11 : ((W9.setCell ⟨W.heap.size + 1 + 1, 0, none⟩ (.bool true)).putObj D2 (.deferred none)).heap[D]? = some (.deferred (some [])) := (World.putObj_heap_other hD3).trans HK10.out
          refine ⟨by simp, .inl ⟨_, _, rfl, run_takeDeferred hk11, ?_⟩⟩
          have v1 := cell_kept J4.out (grownBy_putObj' _ D2 (.deferred none)) (fun r e => by cases e; exact ⟨_, HL10.out, rfl⟩)
          have v2 := cell_kept v1 (grownBy_putObj' _ D (.deferred none)) (fun r e => by cases e; exact ⟨_, hk11, rfl⟩)
          refine ⟨.bool true, ?_, rfl, (HBE.out.trans (belowK_b (w := W) (Nat.le_refl _) _ D2 _ _ (by omega) HL10.out rfl rfl)).trans (belowK_b (w := W) (Nat.le_refl _) _ D _ _ (by have := HD.out; omega) hk11 rfl rfl)⟩
          simp [results, Try.f3, go_sem, v2]
        · rintro D2 c pre W8 hD2 hS ⟨rfl, hx, hm, hk, hle⟩ hK2
          rw [HNU.out.2.2.2] at hS
          have hln := HN.out
          have hle2 : most + 1 ≤ N := by have h1 := hS.length_le; omega
          have hmn : min (N : Int) ((most : Int) + 1) = (most : Int) + 1 := by omega
          rw [hsz7] at hD2
          refine wpIn_wide.2 ?_
          obtain ⟨mv, hmv⟩ : ∃ mv, ((most : Int) + 1) = mv := ⟨_, rfl⟩
          rw [hmv] at hm
          have hmn2 : min (N : Int) ((most : Int) + 1) = mv := by rw [hmn, hmv]
          clear hmn
          have hD3 : D ≠ D2 := by omega
          have cm := hm.cell
          have cl := hx.l.cell
          have co := hx.mo.cell
          have HXX := Lib.hid hx
          have HKK := Lib.hid hk
          have HKK2 := Lib.hid hK2
          have HAW := Lib.hid (fun w => awake7_c (W := w))
          clear hx hk hK2 hm hmv hle
          go_wp2_with fail
          refine (HAW.out _).mono ?_
          rintro e W9 ⟨rfl, hb9⟩
          have hx9 := HXX.out.below hb9
          have hk9 : W9.heap[D]? = some (.deferred (some [])) := (hb9.block _ (Array.getElem?_eq_some_iff.1 HKK.out).1).trans HKK.out
          have hl9 : W9.heap[D2]? = some (.deferred (some [])) := (hb9.block _ (Array.getElem?_eq_some_iff.1 HKK2.out).1).trans HKK2.out
          have j1 := hx9.re.cell
          have j2 := hx9.re.frozen
          have j3 := lt_of_block hx9.re
          have j4 := (hx9.re.set (.bool true)).cell
          have hbe := hx9.be.setCell (p := ⟨W.heap.size + 1 + 1, 0, none⟩) (by show W.heap.size ≤ W.heap.size + 1 + 1; omega) (.bool true)
          have hk10 : (W9.setCell ⟨W.heap.size + 1 + 1, 0, none⟩ (.bool true)).heap[D]? = some (.deferred (some [])) := (Below.heap_setCell W9 ⟨W.heap.size + 1 + 1, 0, none⟩ _ D (by show D ≠ W.heap.size + 1 + 1; have := HD.out; omega)).trans hk9
          have hl10 : (W9.setCell ⟨W.heap.size + 1 + 1, 0, none⟩ (.bool true)).heap[D2]? = some (.deferred (some [])) := (Below.heap_setCell W9 ⟨W.heap.size + 1 + 1, 0, none⟩ _ D2 (by show D2 ≠ W.heap.size + 1 + 1; omega)).trans hl9
          have J4 := Lib.hid j4
          have HBE := Lib.hid hbe
          have HK10 := Lib.hid hk10
          have HL10 := Lib.hid hl10
          clear hx9 hk9 hl9 hb9 j4 hbe hk10 hl10 cm cl co hmn2
          go_wp2_with fail
          refine ⟨by simp, .inl ⟨_, _, rfl, run_takeDeferred HL10.out, ?_⟩⟩
          have hk11 : ((W9.setCell ⟨W.heap.size + 1 + 1, 0, none⟩ (.bool true)).putObj D2 (.deferred none)).heap[D]? = some (.deferred (some [])) := (World.putObj_heap_other hD3).trans HK10.out
          refine ⟨by simp, .inl ⟨_, _, rfl, run_takeDeferred hk11, ?_⟩⟩
          have v1 := cell_kept J4.out (grownBy_putObj' _ D2 (.deferred none)) (fun r e => by cases e; exact ⟨_, HL10.out, rfl⟩)
          have v2 := cell_kept v1 (grownBy_putObj' _ D (.deferred none)) (fun r e => by cases e; exact ⟨_, hk11, rfl⟩)
          refine ⟨.bool true, ?_, rfl, (HBE.out.trans (belowK_b (w := W) (Nat.le_refl _) _ D2 _ _ (by omega) HL10.out rfl rfl)).trans (belowK_b (w := W) (Nat.le_refl _) _ D _ _ (by have := HD.out; omega) hk11 rfl rfl)⟩
          simp [results, Try.f3, go_sem, v2]
    case stop =>
      rintro D c pre W1 hD hS hf hK
      exact hf.elim
end Go.Proofs.Ytdelhpogacccjaa

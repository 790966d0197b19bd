/-
  The law SeqsetWalks: its walk.
-/
import Derived.Test.YtmfpfebnlflfiaaDoorSBackW
import Derived.Test.YtmfpfebnlflfiaaDoorROf
import Derived.Test.YtmfpfebnlflfiaaDoorRHas
set_option linter.unusedVariables false
set_option linter.unusedSimpArgs false
namespace Go.Proofs.YtmfpfebnlflfiaaDoor
open Go Go.RowKit
attribute [local go_sem] Oper.semAt_some wide_fn wide_depth

/-- What stands through the law. -/
structure WCtx (w : World) (p : Option Addr) (N cap last : Nat) (W : World) : Prop where
  below : Below w.heap.size w W
  s : Boxed W w.heap.size 47 (.slice p N cap)
  la : Boxed W (w.heap.size + 1) 52 (.int .u16 last)
  rb : Boxed W (w.heap.size + 1 + 1) 4 (.bool false)
theorem WCtx.lt {w : World} {p : Option Addr} {N cap last : Nat} {W : World} (h : WCtx w p N cap last W) : w.heap.size + 1 + 1 < W.heap.size := lt_of_block h.rb
theorem WCtx.at {w : World} {p : Option Addr} {N cap last : Nat} {W W' : World} {D : Nat} (h : WCtx w p N cap last W) (hb : Below D W W') (hD : w.heap.size + 1 + 1 < D) : WCtx w p N cap last W' :=
  ⟨h.below.trans (hb.mono (by omega)), (hb.block _ (by omega)).trans h.s, (hb.block _ (by omega)).trans h.la, (hb.block _ hD).trans h.rb⟩
theorem WCtx.later {w : World} {p : Option Addr} {N cap last : Nat} {W W' : World} (h : WCtx w p N cap last W) (hb : Below W.heap.size W W') : WCtx w p N cap last W' := h.at hb h.lt

def cellNatW (W : World) (b : Nat) : Nat := match W.cell? ⟨b, 0, none⟩ with
  | some (.int _ n) => n.toNat
  | _ => 0
theorem cellNatW_boxed {W : World} {b : Nat} {t : TypeId} {k : IntKind} {n : Int} (h : Boxed W b t (.int k n)) : cellNatW W b = n.toNat := by
  unfold cellNatW; rw [h.cell]
theorem le_lastN {l : List Nat} (h : Rise l) : ∀ m ∈ l, m ≤ lastN l := by
  intro m hm
  rcases List.eq_nil_or_concat l with rfl | ⟨i, z, rfl⟩
  · simp at hm
  · rw [List.concat_eq_append, lastN_snoc]
    rw [List.concat_eq_append] at hm h
    rcases List.mem_append.1 hm with hm | hm
    · exact Nat.le_of_lt ((List.pairwise_append.1 h.1).2.2 m hm z (by simp))
    · rw [List.mem_singleton.1 hm]; exact Nat.le_refl _
theorem gap_none {l : List (Nat × Nat)} {last f : Nat} (h : lastN (meant l last) < f) (hf : f ≤ last) : hasB l f last = false := by
  cases hh : hasB l f last with
  | false => rfl
  | true =>
    have := le_lastN (meant_rise l last) f ((mem_meant l last f).2 ⟨by omega, hf, hh⟩)
    omega

theorem next_meant {l : List (Nat × Nat)} {last : Nat} {pre : List Nat} {x : Nat} (h : pre ++ [x] <+: meant l last) :
    lastN pre < x ∧ x ≤ last ∧ hasB l x last = true ∧ ∀ f, lastN pre < f → f < x → hasB l f last = false := by
  obtain ⟨r, hr⟩ := h
  have hm := meant_rise l last
  rw [← hr] at hm
  have hx := (mem_meant l last x).1 (by rw [← hr]; simp)
  have h1 : Rise (pre ++ [x]) := ⟨(List.pairwise_append.1 hm.1).1, fun n hn => hm.2 n (List.mem_append_left _ hn)⟩
  have h2 := rise_snoc.1 h1
  refine ⟨h2.2, hx.2.1, hx.2.2, fun f hf hfx => ?_⟩
  cases hh : hasB l f last with
  | false => rfl
  | true =>
    exfalso
    have h3 := (mem_meant l last f).2 ⟨by omega, by omega, hh⟩
    rw [← hr] at h3
    rcases List.mem_append.1 h3 with h3 | h3
    · rcases List.mem_append.1 h3 with h3 | h3
      · have := le_lastN h2.1 f h3; omega
      · have := List.mem_singleton.1 h3; omega
    · have := (List.pairwise_append.1 hm.1).2.2 x (by simp) f h3; omega

set_option maxRecDepth 100000 in
set_option maxHeartbeats 4000000 in
theorem swalk_walk (p : Option Addr) (cap last : Nat) (l : List (Nat × Nat)) (hl : l.length ≤ 70) (hlast : last ≤ 400) (q : Option Addr) (cq : Nat) (ns : List Nat) (hns : ns.length ≤ 100) (w : World) (hp : PairsAt w p l) (hq : NumsAt w q ns) (hE : Errs w) (hT : Tab w) :
    Calls Tryd.prog 7 #[.slice p l.length cap, .int .u16 last, .slice q ns.length cq] w fun e w' => e = .returned (.bool true) ∧ Below w.heap.size w w' := by
  refine (callsIn_wide (n := 3)).1 ?_
  refine callsIn_of_wp_marks Tryd.func7 rfl trivial ?_
  simp only [Tryd.ntmps7, List.size_toArray, List.length_cons, List.length_nil, Nat.reduceAdd, Nat.reduceSub, Array.replicate_succ, Array.replicate_zero, List.push_toArray, List.append_toArray, List.nil_append, List.cons_append]
  refine wpIn_wide.2 ?_
  obtain ⟨N, hN⟩ : ∃ N, N = l.length := ⟨_, rfl⟩
  obtain ⟨M, hM⟩ : ∃ M, M = ns.length := ⟨_, rfl⟩
  rw [← hN] at hl
  rw [← hN, ← hM]
  have hM' : M ≤ 100 := by omega
  have HN := Lib.hid hN
  have HM := Lib.hid hM
  have HE := Lib.hid hE
  have HT := Lib.hid hT
  have HP := Lib.hid hp
  have HQ := Lib.hid hq
  have q1 : ¬ (70 : Int) < N := by omega
  have q2 : ¬ (400 : Int) < last := by omega
  have q3 : ¬ (100 : Int) < M := by omega
  clear hN hM hE hT hp hq hns
  go_wp2_with fail
  obtain ⟨wA, hwA⟩ : ∃ wA, ((w.alloc (.cells #[.slice p N cap] 47)).alloc (.cells #[.int .u16 last] 52)).alloc (.cells #[.bool false] 4) = wA := ⟨_, rfl⟩
  have hA : WCtx w p N cap last wA ∧ wA.heap.size = w.heap.size + 1 + 1 + 1 := by
    rw [← hwA]
    have b1 := (((Boxed.new w 47 (.slice p N cap)).alloc (.cells #[.int .u16 last] 52)).alloc (.cells #[.bool false] 4))
    have b2 := ((Boxed.new (w.alloc (.cells #[.slice p N cap] 47)) 52 (.int .u16 last)).alloc (.cells #[.bool false] 4))
    have b3 := Boxed.new ((w.alloc (.cells #[.slice p N cap] 47)).alloc (.cells #[.int .u16 last] 52)) 4 (.bool false)
    simp only [World.size_alloc] at b2 b3
    exact ⟨⟨(((Below.refl w.heap.size w).alloc (Nat.le_refl _) _).alloc (by simp) _).alloc (by simp; omega) _, b1, b2, b3⟩, by simp⟩
  rw [hwA]
  have HA := Lib.hid hA.1
  have d1 : ∀ W, WCtx w p N cap last W → Calls Tryd.prog 26 #[.slice p N cap] W fun e W' => ∃ xv, e = .returned xv ∧ (∃ base, W'.ownsRow base 83 2 xv l.length (cellsP l)) ∧ WCtx w p N cap last W' ∧ (W'.cell? ⟨w.heap.size, 0, none⟩ = some (.slice p N cap) ∧ W'.cell? ⟨w.heap.size + 1, 0, none⟩ = some (.int .u16 last)) := fun W hG => by
    have h := own2_c p cap l (by have := HN.out; omega) W (HP.out.below hG.below)
    rw [← HN.out] at h
    refine h.mono ?_
    rintro e W' ⟨v, rfl, ho, hb⟩
    exact ⟨v, rfl, ⟨_, by rw [← HN.out]; exact ho⟩, hG.later hb, (hG.later hb).s.cell, (hG.later hb).la.cell⟩
  have d2 : ∀ W xv base, W.ownsRow base 83 2 xv l.length (cellsP l) → WCtx w p N cap last W → Calls Tryd.prog 27 #[xv, .int .u32 (IntKind.u32.wrap (last : Int))] W fun e W' => ∃ Bq, e = .returned (.func (.func 47) #[] #[.pointer (some ⟨Bq, 0, none⟩)]) ∧ (∃ (u : Value) (A : List (Nat × Nat)) (B0 : Nat),
      Caps Bq B0 u A W' ∧ A.length ≤ 100 ∧ (∀ r ∈ A, r.1 ≤ r.2 ∧ r.2 ≤ last) ∧ spread A = meant l last) ∧ WCtx w p N cap last W' ∧ (W'.cell? ⟨w.heap.size, 0, none⟩ = some (.slice p N cap) ∧ W'.cell? ⟨w.heap.size + 1, 0, none⟩ = some (.int .u16 last)) := fun W xv base ho hG => by
    have hwr : IntKind.u32.wrap (last : Int) = last := by simp [IntKind.wrap, IntKind.bits, IntKind.signed, IntKind.min, IntKind.max]; omega
    rw [hwr]
    refine (qwalk_c base xv l (by have := HN.out; omega) last W ho).mono ?_
    rintro e W' ⟨Bq, u, A, rfl, h1, h2, h3, h4, h5, h6, hb⟩
    exact ⟨Bq, rfl, ⟨u, A, _, h3, h4, h5, h6⟩, hG.later hb, (hG.later hb).s.cell, (hG.later hb).la.cell⟩
  have D1 := Lib.hid d1
  have D2 := Lib.hid d2
  have c0 := hA.1.s.cell
  have c1 := hA.1.la.cell
  have f0 := hA.1.s.frozen
  have hg0 : WCtx w p N cap last wA.drew := ⟨hA.1.below.drew, hA.1.s, hA.1.la, hA.1.rb⟩
  have hsA := hA.2
  have cS : wA.cell? ⟨w.heap.size, 0, none⟩ = some (.slice p N cap) ∧ wA.cell? ⟨w.heap.size + 1, 0, none⟩ = some (.int .u16 last) := ⟨hA.1.s.cell, hA.1.la.cell⟩
  have cS2 : wA.drew.cell? ⟨w.heap.size, 0, none⟩ = some (.slice p N cap) ∧ wA.drew.cell? ⟨w.heap.size + 1, 0, none⟩ = some (.int .u16 last) := ⟨hA.1.s.cell, hA.1.la.cell⟩
  clear hwA hA d1 d2
  refine wp_region_noPanic ?_
  go_region_held3 (fun w' => w'.cell? ⟨w.heap.size, 0, none⟩ = some (.slice p N cap) ∧ w'.cell? ⟨w.heap.size + 1, 0, none⟩ = some (.int .u16 last)) (first | assumption | go_keep) ((first | (go_at_call 26; refine (D1.out _ (by assumption)).mono ?_; rintro e w2 ⟨xv, rfl, ⟨base, ho2⟩, hg2, hc2⟩) | (go_at_call 27; refine (D2.out _ _ _ (by assumption) (by assumption)).mono ?_; rintro e w3 ⟨Bq, rfl, hq3, hg3, hc3⟩)))
  all_goals refine NoPanic.normal ?_
  obtain ⟨u, A, B0, hcap, hAl, hAr, hsp⟩ := hq3
  have hnf : ∀ (b : Nat) w, (binOp .eql 55 (.func (.func 47) #[] #[.pointer (some ⟨b, 0, none⟩)]) Value.nilFunc).run Tryd.prog w = .ok (.bool false) w := fun b w => by kernel_rfl
  have HG3 := Lib.hid hg3
  have HCAP := Lib.hid hcap
  have HAR := Lib.hid hAr
  have HSP := Lib.hid hsp
  obtain ⟨Lb, hLb⟩ : ∃ Lb, w3.heap.size = Lb := ⟨_, rfl⟩
  have hBL : w.heap.size + 1 + 1 < Lb := by rw [← hLb]; exact hg3.lt
  clear hg3 hcap hAr hsp hg0 hg2 ho2 hc2 hc3 D1 D2 HA c0 c1 f0 hsA cS cS2
  have hcl : ∀ k, capOf Bq u k → k < Lb := by
    intro k hk
    rw [← hLb]
    rcases hk with rfl | hk
    · exact lt_of_block HCAP.out.box
    · exact (HCAP.out.row.lt k hk).2
  have HCL := Lib.hid hcl
  clear hcl
  go_wp2_with fail
  clear hnf
  have e1 := ((Boxed.new w3 3 (.int .i64 ((M : Int) + 1))).alloc (.cells #[.int .i64 0] 3)).alloc (.cells #[.int .u32 1] 58)
  have e2 := (Boxed.new (w3.alloc (.cells #[.int .i64 ((M : Int) + 1)] 3)) 3 (.int .i64 0)).alloc (.cells #[.int .u32 1] 58)
  have e3 := Boxed.new ((w3.alloc (.cells #[.int .i64 ((M : Int) + 1)] 3)).alloc (.cells #[.int .i64 0] 3)) 58 (.int .u32 1)
  simp only [World.size_alloc, hLb] at e1 e2 e3
  have hX0 := HG3.out.later ((((Below.refl w3.heap.size w3).alloc (Nat.le_refl _) (.cells #[.int .i64 ((M : Int) + 1)] 3)).alloc (by simp) (.cells #[.int .i64 0] 3)).alloc (by simp; omega) (.cells #[.int .u32 1] 58))
  have hC0 := ((HCAP.out.alloc (.cells #[.int .i64 ((M : Int) + 1)] 3)).alloc (.cells #[.int .i64 0] 3)).alloc (.cells #[.int .u32 1] 58)
  have hsz : (((w3.alloc (.cells #[.int .i64 ((M : Int) + 1)] 3)).alloc (.cells #[.int .i64 0] 3)).alloc (.cells #[.int .u32 1] 58)).heap.size = Lb + 1 + 1 + 1 := by simp [hLb]
  obtain ⟨W0, hW0⟩ : ∃ W0, ((w3.alloc (.cells #[.int .i64 ((M : Int) + 1)] 3)).alloc (.cells #[.int .i64 0] 3)).alloc (.cells #[.int .u32 1] 58) = W0 := ⟨_, rfl⟩
  rw [hW0] at e1 e2 e3 hX0 hC0 hsz ⊢
  clear hW0 hLb HG3 HCAP
  refine (wpIn_wide (n := 3)).1 ?_
  refine wpIn_rangeIter (gf := 47) (lb := #[.pointer (some ⟨Bq, 0, none⟩)]) rfl (enters_of Tryd.func47 (by kernel_rfl) rfl) (walk1_iter Bq B0 u A (by omega) (fun r hr => ⟨(HAR.out r hr).1, by have := (HAR.out r hr).2; omega⟩)) (fun e => e = 58) (fun e h => by subst h; decide) (fun _ => rfl)
    (fun k hk => by have := HCL.out k hk; omega) (fun W' hW' => ⟨(hW'.block _ (by have := HCL.out Bq (.inl rfl); omega)).trans hC0.box, own_below hC0.row hW'⟩)
    (fun pre W' => WCtx w p N cap last W' ∧ Boxed W' Lb 3 (.int .i64 ((M : Int) + 1)) ∧ Boxed W' (Lb + 1) 3 (.int .i64 pre.length) ∧ Boxed W' (Lb + 1 + 1) 58 (.int .u32 ((lastN pre + 1 : Nat) : Int)) ∧ pre.length ≤ M)
    (fun c pre W' => c = .exit 0 ∧ WCtx w p N cap last W' ∧ Boxed W' Lb 3 (.int .i64 ((M : Int) + 1)) ∧ Boxed W' (Lb + 1) 3 (.int .i64 ((M : Int) + 1)) ∧ ∃ v, Boxed W' (Lb + 1 + 1) 58 v)
    (fun s' X Y h hAB => by
      obtain ⟨h1, h2, h3, h4, h5⟩ := h
      rw [hsz] at hAB
      exact ⟨h1.at hAB.toBelow (by omega), hAB.boxed h2 (.inl (by omega)), hAB.boxed h3 (.inl (by omega)), hAB.boxed h4 (.inl (by omega)), h5⟩)
    (fun c s' X Y h hAB => by
      obtain ⟨h0, h1, h2, h3, v, h4⟩ := h
      rw [hsz] at hAB
      exact ⟨h0, h1.at hAB.toBelow (by omega), hAB.boxed h2 (.inl (by omega)), hAB.boxed h3 (.inl (by omega)), v, hAB.boxed h4 (.inl (by omega))⟩)
    ⟨hX0, e1, e2, e3, Nat.zero_le _⟩ ?round ?done ?stop
  case round =>
    rintro l' pre x W1 hl' ⟨hg, hm, hy, hf, hle⟩ hst
    rw [HSP.out] at hst
    obtain ⟨n1, n2, n3, n4⟩ := next_meant hst
    gi_wp2
    refine ⟨Keeps.refl _ _ _ _, fun W2 hits hsz2 hrec hoth => ?_⟩
    rw [hsz] at hits
    have HG2 := Lib.hid (hg.at hits.toBelow (by omega))
    have HB1 := Lib.hid (hits.boxed hm (.inl (by omega)))
    have HB2 := Lib.hid (hits.boxed hy (.inl (by omega)))
    have HB3 := Lib.hid (hits.boxed hf (.inl (by omega)))
    have HGAP := Lib.hid n4
    have HHAS := Lib.hid n3
    obtain ⟨np, hnp⟩ : ∃ np, pre.length = np := ⟨_, rfl⟩
    obtain ⟨F0, hF0⟩ : ∃ F0, lastN pre = F0 := ⟨_, rfl⟩
    rw [hnp] at HB2 hle
    rw [hF0] at HB3 HGAP n1
    have HNP := Lib.hid hnp
    have HF0 := Lib.hid hF0
    clear hg hm hy hf hst hits hsz2 hrec hoth n3 n4 hnp hF0
    gi_wp2_with fail
    gi_loopw [36] (fun _ wr => ∃ f : Nat, F0 < f ∧ f ≤ x ∧ Boxed wr Lb 3 (.int .i64 ((M : Int) + 1)) ∧ Boxed wr (Lb + 1) 3 (.int .i64 np) ∧ Boxed wr (Lb + 1 + 1) 58 (.int .u32 f) ∧ WCtx w p N cap last wr ∧ Keeps (fun e => e = 58) (capOf Bq u) W0.heap.size W2 wr) (fun _ wr => x - cellNatW wr (Lb + 1 + 1))
    case atStart => exact ⟨F0 + 1, by omega, by omega, HB1.out, HB2.out, HB3.out, HG2.out, Keeps.refl _ _ _ _⟩
    case round =>
      obtain ⟨f, hf0, hf1, hm1, hy1, hf2, hg1, hk1⟩ := hrel
      clear HB1 HB2 HB3 HG2
      have HG := Lib.hid hg1
      have HK := Lib.hid hk1
      have HB1 := Lib.hid hm1
      have HB2 := Lib.hid hy1
      have HB3 := Lib.hid hf2
      have cm := hm1.cell
      have cy := hy1.cell
      have fy := hy1.frozen
      have cf := hf2.cell
      have ff := hf2.frozen
      have bf := lt_of_block hf2
      have cs := hg1.s.cell
      have cl := hg1.la.cell
      clear hm1 hy1 hf2 hg1 hk1
      have k1 : (f : Int) ≤ last := by omega
      by_cases hlt : f < x
      · have C5 := Lib.hid (rqhas_c p cap l (by have := HN.out; omega) f last wr (HP.out.below HG.out.below))
        rw [← HN.out, HGAP.out f hf0 hlt] at C5
        gi_wp2_with (gi_at_call 28; refine CallsIn.wr C5.out ?_; rintro e w5 ⟨rfl, nd, rfl⟩)
        have HG5 : Hid (WCtx w p N cap last (wr.drewN nd)) := ⟨below_drewN HG.out.below nd, HG.out.s, HG.out.la, HG.out.rb⟩
        have hx1 : Boxed (wr.drewN nd) Lb 3 (.int .i64 ((M : Int) + 1)) := HB1.out
        have hx2 : Boxed (wr.drewN nd) (Lb + 1) 3 (.int .i64 np) := HB2.out
        have hx3 : Boxed (wr.drewN nd) (Lb + 1 + 1) 58 (.int .u32 f) := HB3.out
        have hk5 : Keeps (fun e => e = 58) (capOf Bq u) W0.heap.size W2 (wr.drewN nd) := HK.out.trans (Keeps.drewN _ _ _ _ _)
        have g3 := hx3.set (.int .u32 ((f : Int) + 1))
        have hb3 := (Below.refl (Lb + 1 + 1) (wr.drewN nd)).setCell (p := ⟨Lb + 1 + 1, 0, none⟩) (Nat.le_refl _) (.int .u32 ((f : Int) + 1))
        have hk6 := hk5.trans (Keeps.setCell (fun e => e = 58) (wr.drewN nd) ⟨Lb + 1 + 1, 0, none⟩ (.int .u32 ((f : Int) + 1)) (fun h => absurd (HCL.out (Lb + 1 + 1) h) (by omega)) (by show Lb + 1 + 1 < _; omega))
        have hg6 := HG5.out.at hb3 (by omega)
        have g1 := hx1.other (show Lb ≠ Lb + 1 + 1 by omega) (.int .u32 ((f : Int) + 1))
        have g2 := hx2.other (show Lb + 1 ≠ Lb + 1 + 1 by omega) (.int .u32 ((f : Int) + 1))
        go_roundw
        case rel => exact ⟨f + 1, by omega, by omega, g1, g2, g3, hg6, hk6⟩
        case measure => rw [cellNatW_boxed g3, cellNatW_boxed HB3.out]; omega
      · obtain rfl : f = x := by omega
        have C5 := Lib.hid (rqhas_c p cap l (by have := HN.out; omega) f last wr (HP.out.below HG.out.below))
        rw [← HN.out, HHAS.out] at C5
        have hby := lt_of_block HB2.out
        by_cases hbr : np < M
        · have k3 : ¬ ((M : Int) ≤ (np : Int)) := by omega
          gi_wp2_with (gi_at_call 28; refine CallsIn.wr C5.out ?_; rintro e w5 ⟨rfl, nd, rfl⟩)
          have HG5 : Hid (WCtx w p N cap last (wr.drewN nd)) := ⟨below_drewN HG.out.below nd, HG.out.s, HG.out.la, HG.out.rb⟩
          have hx1 : Boxed (wr.drewN nd) Lb 3 (.int .i64 ((M : Int) + 1)) := HB1.out
          have hx2 : Boxed (wr.drewN nd) (Lb + 1) 3 (.int .i64 np) := HB2.out
          have hx3 : Boxed (wr.drewN nd) (Lb + 1 + 1) 58 (.int .u32 f) := HB3.out
          have hk5 : Keeps (fun e => e = 58) (capOf Bq u) W0.heap.size W2 (wr.drewN nd) := HK.out.trans (Keeps.drewN _ _ _ _ _)
          have g3 := hx3.set (.int .u32 ((f : Int) + 1))
          have hb3 := (Below.refl (Lb + 1 + 1) (wr.drewN nd)).setCell (p := ⟨Lb + 1 + 1, 0, none⟩) (Nat.le_refl _) (.int .u32 ((f : Int) + 1))
          have hk6 := hk5.trans (Keeps.setCell (fun e => e = 58) (wr.drewN nd) ⟨Lb + 1 + 1, 0, none⟩ (.int .u32 ((f : Int) + 1)) (fun h => absurd (HCL.out (Lb + 1 + 1) h) (by omega)) (by show Lb + 1 + 1 < _; omega))
          have hg6 := HG5.out.at hb3 (by omega)
          have g1 := hx1.other (show Lb ≠ Lb + 1 + 1 by omega) (.int .u32 ((f : Int) + 1))
          have g2 := hx2.other (show Lb + 1 ≠ Lb + 1 + 1 by omega) (.int .u32 ((f : Int) + 1))
          have hb4 := (Below.refl (Lb + 1) ((wr.drewN nd).setCell ⟨Lb + 1 + 1, 0, none⟩ (.int .u32 ((f : Int) + 1)))).setCell (p := ⟨Lb + 1, 0, none⟩) (Nat.le_refl _) (.int .i64 ((np : Int) + 1))
          have hk7 := hk6.trans (Keeps.setCell (fun e => e = 58) ((wr.drewN nd).setCell ⟨Lb + 1 + 1, 0, none⟩ (.int .u32 ((f : Int) + 1))) ⟨Lb + 1, 0, none⟩ (.int .i64 ((np : Int) + 1)) (fun h => absurd (HCL.out (Lb + 1) h) (by omega)) (by show Lb + 1 < _; omega))
          have hg7 := hg6.at hb4 (by omega)
          have j1 := g1.other (show Lb ≠ Lb + 1 by omega) (.int .i64 ((np : Int) + 1))
          have j2 := g2.set (.int .i64 ((np : Int) + 1))
          have j3 := g3.other (show Lb + 1 + 1 ≠ Lb + 1 by omega) (.int .i64 ((np : Int) + 1))
          refine ⟨hk7, hg7, j1, ?_, ?_, ?_⟩
          · rw [List.length_append, List.length_singleton, HNP.out]; exact j2
          · rw [lastN_snoc]; exact j3
          · rw [List.length_append, List.length_singleton, HNP.out]; omega
        · have k3 : (M : Int) ≤ (np : Int) := by omega
          have hnm : np = M := by omega
          gi_wp2_with (gi_at_call 28; refine CallsIn.wr C5.out ?_; rintro e w5 ⟨rfl, nd, rfl⟩)
          have HG5 : Hid (WCtx w p N cap last (wr.drewN nd)) := ⟨below_drewN HG.out.below nd, HG.out.s, HG.out.la, HG.out.rb⟩
          have hx1 : Boxed (wr.drewN nd) Lb 3 (.int .i64 ((M : Int) + 1)) := HB1.out
          have hx2 : Boxed (wr.drewN nd) (Lb + 1) 3 (.int .i64 np) := HB2.out
          have hx3 : Boxed (wr.drewN nd) (Lb + 1 + 1) 58 (.int .u32 f) := HB3.out
          have hk5 : Keeps (fun e => e = 58) (capOf Bq u) W0.heap.size W2 (wr.drewN nd) := HK.out.trans (Keeps.drewN _ _ _ _ _)
          have g3 := hx3.set (.int .u32 ((f : Int) + 1))
          have hb3 := (Below.refl (Lb + 1 + 1) (wr.drewN nd)).setCell (p := ⟨Lb + 1 + 1, 0, none⟩) (Nat.le_refl _) (.int .u32 ((f : Int) + 1))
          have hk6 := hk5.trans (Keeps.setCell (fun e => e = 58) (wr.drewN nd) ⟨Lb + 1 + 1, 0, none⟩ (.int .u32 ((f : Int) + 1)) (fun h => absurd (HCL.out (Lb + 1 + 1) h) (by omega)) (by show Lb + 1 + 1 < _; omega))
          have hg6 := HG5.out.at hb3 (by omega)
          have g1 := hx1.other (show Lb ≠ Lb + 1 + 1 by omega) (.int .u32 ((f : Int) + 1))
          have g2 := hx2.other (show Lb + 1 ≠ Lb + 1 + 1 by omega) (.int .u32 ((f : Int) + 1))
          have hb4 := (Below.refl (Lb + 1) ((wr.drewN nd).setCell ⟨Lb + 1 + 1, 0, none⟩ (.int .u32 ((f : Int) + 1)))).setCell (p := ⟨Lb + 1, 0, none⟩) (Nat.le_refl _) (.int .i64 ((np : Int) + 1))
          have hk7 := hk6.trans (Keeps.setCell (fun e => e = 58) ((wr.drewN nd).setCell ⟨Lb + 1 + 1, 0, none⟩ (.int .u32 ((f : Int) + 1))) ⟨Lb + 1, 0, none⟩ (.int .i64 ((np : Int) + 1)) (fun h => absurd (HCL.out (Lb + 1) h) (by omega)) (by show Lb + 1 < _; omega))
          have hg7 := hg6.at hb4 (by omega)
          have j1 := g1.other (show Lb ≠ Lb + 1 by omega) (.int .i64 ((np : Int) + 1))
          have j2 := g2.set (.int .i64 ((np : Int) + 1))
          have j3 := g3.other (show Lb + 1 + 1 ≠ Lb + 1 by omega) (.int .i64 ((np : Int) + 1))
          rw [hnm] at hk7 hg7 j1 j2 j3
          exact ⟨hk7, rfl, hg7, j1, j2, _, j3⟩
  case done =>
    rintro D xs WT hD rfl ⟨hg, hm, hy, hf, hle⟩ hK
    rw [hsz] at hD
    obtain ⟨cnt, hcnt⟩ : ∃ cnt, (spread A).length = cnt := ⟨_, rfl⟩
    rw [HSP.out] at hf
    obtain ⟨F0, hF0⟩ : ∃ F0, lastN (meant l last) = F0 := ⟨_, rfl⟩
    rw [hcnt] at hy hle
    rw [hF0] at hf
    have HF0 := Lib.hid hF0
    have hF1 : F0 ≤ last := by
      rw [← hF0]
      rcases List.eq_nil_or_concat (meant l last) with h | ⟨i, z, h⟩
      · rw [h]; simp [lastN]
      · have h2 : z ∈ meant l last := by rw [h]; simp
        rw [h, List.concat_eq_append, lastN_snoc]
        exact ((mem_meant l last z).1 h2).2.1
    have k9 : (cnt : Int) < (M : Int) + 1 := by omega
    have HG := Lib.hid hg
    have HK := Lib.hid hK
    clear hcnt hF0 hg hK
    go_wp2_with fail
    go_loopw [66] (fun _ wr => ∃ f : Nat, F0 < f ∧ f ≤ last + 1 ∧ Boxed wr Lb 3 (.int .i64 ((M : Int) + 1)) ∧ Boxed wr (Lb + 1) 3 (.int .i64 cnt) ∧ Boxed wr (Lb + 1 + 1) 58 (.int .u32 f) ∧ WCtx w p N cap last wr ∧ wr.heap[D]? = some (.deferred (some []))) (fun _ wr => last + 1 - cellNatW wr (Lb + 1 + 1))
    case atStart => exact ⟨F0 + 1, by omega, by omega, hm, hy, hf, HG.out, HK.out⟩
    case round =>
      obtain ⟨f, hf0, hf1, hm1, hy1, hf2, hg1, hk1⟩ := hrel
      clear hm hy hf HG HK
      have HG := Lib.hid hg1
      have HK := Lib.hid hk1
      have HB1 := Lib.hid hm1
      have HB2 := Lib.hid hy1
      have HB3 := Lib.hid hf2
      have cm := hm1.cell
      have cy := hy1.cell
      have cf := hf2.cell
      have ff := hf2.frozen
      have cs := hg1.s.cell
      have cl := hg1.la.cell
      clear hm1 hy1 hf2 hg1 hk1
      by_cases hlt : f ≤ last
      · have k1 : (f : Int) ≤ last := by omega
        have C5 := Lib.hid (rqhas_c p cap l (by have := HN.out; omega) f last wr (HP.out.below HG.out.below))
        rw [← HN.out, gap_none (by rw [HF0.out]; exact hf0) hlt] at C5
        go_wp2_with fail
        refine C5.out.mono ?_
        rintro e w5 ⟨rfl, nd, hw5⟩
        have HG5 : Hid (WCtx w p N cap last w5) := by
          rw [hw5]; exact ⟨below_drewN HG.out.below nd, HG.out.s, HG.out.la, HG.out.rb⟩
        have HX1 : Hid (Boxed w5 Lb 3 (.int .i64 ((M : Int) + 1))) := by rw [hw5]; exact HB1.out
        have HX2 : Hid (Boxed w5 (Lb + 1) 3 (.int .i64 cnt)) := by rw [hw5]; exact HB2.out
        have hx3 : Boxed w5 (Lb + 1 + 1) 58 (.int .u32 f) := by rw [hw5]; exact HB3.out
        have HX3 := Lib.hid hx3
        have HK5 : Hid (w5.heap[D]? = some (.deferred (some []))) := by rw [hw5]; exact HK.out
        have cf5 := hx3.cell
        have ff5 := hx3.frozen
        have bf5 := lt_of_block hx3
        clear hw5 C5 cm cy cf ff cs cl hx3
        go_wp2_with fail
        have g3 := HX3.out.set (.int .u32 ((f : Int) + 1))
        go_roundw
        case rel => exact ⟨f + 1, by omega, by omega, HX1.out.other (by omega) _, HX2.out.other (by omega) _, g3, HG5.out.at ((Below.refl (Lb + 1 + 1) w5).setCell (p := ⟨Lb + 1 + 1, 0, none⟩) (Nat.le_refl _) _) (by omega), (Below.heap_setCell w5 ⟨Lb + 1 + 1, 0, none⟩ _ D (by show D ≠ Lb + 1 + 1; omega)).trans HK5.out⟩
        case measure => rw [cellNatW_boxed g3, cellNatW_boxed HB3.out]; omega
      · obtain rfl : f = last + 1 := by omega
        have k1 : ¬ (((last + 1 : Nat)) : Int) ≤ last := by omega
        go_wp2_with fail
        have C6 := Lib.hid (qof_c q cq ns (by have := HM.out; omega) wr (HQ.out.below HG.out.below))
        rw [← HM.out] at C6
        go_wp2_with fail
        refine C6.out.mono ?_
        rintro e W6 ⟨zv, rfl, ho6, hb6⟩
        have HG6 := Lib.hid (HG.out.later hb6)
        have HK6 : Hid (W6.heap[D]? = some (.deferred (some []))) := (hb6.block _ (lt_of_block HK.out)).trans HK.out
        have HZ6 := Lib.hid ho6
        clear C6 ho6 hb6 HK HG
        have C7 := Lib.hid (rqof_c q cq ns (by have := HM.out; omega) W6 (HQ.out.below HG6.out.below))
        rw [← HM.out] at C7
        go_wp2_with fail
        refine C7.out.mono ?_
        rintro e W7 ⟨yv, rfl, ho7, hb7⟩
        have HG7 := Lib.hid (HG6.out.later hb7)
        have HK7 : Hid (W7.heap[D]? = some (.deferred (some []))) := (hb7.block _ (lt_of_block HK6.out)).trans HK6.out
        have HZ7 := Lib.hid (own_below HZ6.out hb7)
        have HY7 := Lib.hid ho7
        clear C7 ho7 hb7 HK6 HG6 HZ6
        have C8 := Lib.hid (same_c _ _ zv yv (ofN ns) (by have h1 := ofN_len ns; have h2 := HM.out; omega) W7 HZ7.out HY7.out)
        go_wp2_with fail
        refine C8.out.mono ?_
        rintro e W8 ⟨rfl, nd, hw8⟩
        have HG8 : Hid (WCtx w p N cap last W8) := by
          rw [hw8]; exact ⟨below_drewN HG7.out.below nd, HG7.out.s, HG7.out.la, HG7.out.rb⟩
        have HK8 : Hid (W8.heap[D]? = some (.deferred (some []))) := by rw [hw8]; exact HK7.out
        clear C8 hw8 HK7 HG7 HZ7 HY7
        have C9 := Lib.hid (awake2_c W8 (HE.out.later HG8.out.below HE.out.lt) (HT.out.later HG8.out.below HT.out.lt))
        go_wp2_with fail
        refine C9.out.mono ?_
        rintro e W9 ⟨rfl, hb9⟩
        have HG9 := Lib.hid (HG8.out.later hb9)
        have HK9 : Hid (W9.heap[D]? = some (.deferred (some []))) := (hb9.block _ (lt_of_block HK8.out)).trans HK8.out
        have c9 := HG9.out.rb.cell
        have f9 := HG9.out.rb.frozen
        have b9 := HG9.out.lt
        clear C9 hb9 HK8 HG8
        go_wp2_with fail
        have hne : D ≠ w.heap.size + 1 + 1 := by omega
        have hK' : (W9.setCell ⟨w.heap.size + 1 + 1, 0, none⟩ (.bool true)).heap[D]? = some (.deferred (some [])) := (Below.heap_setCell W9 ⟨w.heap.size + 1 + 1, 0, none⟩ _ D hne).trans HK9.out
        refine ⟨by simp, .inl ⟨_, _, rfl, run_takeDeferred hK', ?_⟩⟩
        have hc11 := cell_kept (HG9.out.rb.set (.bool true)).cell (grownBy_putObj' _ D (.deferred none)) (fun r e => by cases e; exact ⟨_, hK', rfl⟩)
        refine ⟨.bool true, ?_, rfl, (HG9.out.below.setCell (p := ⟨w.heap.size + 1 + 1, 0, none⟩) (by simp; omega) _).trans (belowK_b (w := w) (Nat.le_refl _) _ D _ _ (by omega) hK' rfl rfl)⟩
        simp [results, Tryd.f7, go_sem, hc11]
  case stop =>
    rintro D c pre WT hD hS ⟨rfl, hg, hm, hy, v, hf⟩ hK
    rw [hsz] at hD
    have HG := Lib.hid hg
    have HK := Lib.hid hK
    have cm := hm.cell
    have cy := hy.cell
    clear hg hK
    clear cm cy
    refine wpIn_wide.2 ?_
    go_wp2_with fail
    go_loopw [66] (fun _ wr => Boxed wr Lb 3 (.int .i64 ((M : Int) + 1)) ∧ Boxed wr (Lb + 1) 3 (.int .i64 ((M : Int) + 1)) ∧ WCtx w p N cap last wr ∧ wr.heap[D]? = some (.deferred (some []))) (fun _ _ => 0)
    case atStart => exact ⟨hm, hy, HG.out, HK.out⟩
    case round =>
      obtain ⟨hm1, hy1, hg1, hk1⟩ := hrel
      have HG := Lib.hid hg1
      have HK := Lib.hid hk1
      have cm := hm1.cell
      have cy := hy1.cell
      clear hm hy hf
      clear hm1 hy1 hg1 hk1
      go_wp2_with fail
      have C6 := Lib.hid (qof_c q cq ns (by have := HM.out; omega) wr (HQ.out.below HG.out.below))
      rw [← HM.out] at C6
      go_wp2_with fail
      refine C6.out.mono ?_
      rintro e W6 ⟨zv, rfl, ho6, hb6⟩
      have HG6 := Lib.hid (HG.out.later hb6)
      have HK6 : Hid (W6.heap[D]? = some (.deferred (some []))) := (hb6.block _ (lt_of_block HK.out)).trans HK.out
      have HZ6 := Lib.hid ho6
      clear C6 ho6 hb6 HK HG
      have C7 := Lib.hid (rqof_c q cq ns (by have := HM.out; omega) W6 (HQ.out.below HG6.out.below))
      rw [← HM.out] at C7
      go_wp2_with fail
      refine C7.out.mono ?_
      rintro e W7 ⟨yv, rfl, ho7, hb7⟩
      have HG7 := Lib.hid (HG6.out.later hb7)
      have HK7 : Hid (W7.heap[D]? = some (.deferred (some []))) := (hb7.block _ (lt_of_block HK6.out)).trans HK6.out
      have HZ7 := Lib.hid (own_below HZ6.out hb7)
      have HY7 := Lib.hid ho7
      clear C7 ho7 hb7 HK6 HG6 HZ6
      have C8 := Lib.hid (same_c _ _ zv yv (ofN ns) (by have h1 := ofN_len ns; have h2 := HM.out; omega) W7 HZ7.out HY7.out)
      go_wp2_with fail
      refine C8.out.mono ?_
      rintro e W8 ⟨rfl, nd, hw8⟩
      have HG8 : Hid (WCtx w p N cap last W8) := by
        rw [hw8]; exact ⟨below_drewN HG7.out.below nd, HG7.out.s, HG7.out.la, HG7.out.rb⟩
      have HK8 : Hid (W8.heap[D]? = some (.deferred (some []))) := by rw [hw8]; exact HK7.out
      clear C8 hw8 HK7 HG7 HZ7 HY7
      have C9 := Lib.hid (awake2_c W8 (HE.out.later HG8.out.below HE.out.lt) (HT.out.later HG8.out.below HT.out.lt))
      go_wp2_with fail
      refine C9.out.mono ?_
      rintro e W9 ⟨rfl, hb9⟩
      have HG9 := Lib.hid (HG8.out.later hb9)
      have HK9 : Hid (W9.heap[D]? = some (.deferred (some []))) := (hb9.block _ (lt_of_block HK8.out)).trans HK8.out
      have c9 := HG9.out.rb.cell
      have f9 := HG9.out.rb.frozen
      have b9 := HG9.out.lt
      clear C9 hb9 HK8 HG8
      go_wp2_with fail
      have hne : D ≠ w.heap.size + 1 + 1 := by omega
      have hK' : (W9.setCell ⟨w.heap.size + 1 + 1, 0, none⟩ (.bool true)).heap[D]? = some (.deferred (some [])) := (Below.heap_setCell W9 ⟨w.heap.size + 1 + 1, 0, none⟩ _ D hne).trans HK9.out
      refine ⟨by simp, .inl ⟨_, _, rfl, run_takeDeferred hK', ?_⟩⟩
      have hc11 := cell_kept (HG9.out.rb.set (.bool true)).cell (grownBy_putObj' _ D (.deferred none)) (fun r e => by cases e; exact ⟨_, hK', rfl⟩)
      refine ⟨.bool true, ?_, rfl, (HG9.out.below.setCell (p := ⟨w.heap.size + 1 + 1, 0, none⟩) (by simp; omega) _).trans (belowK_b (w := w) (Nat.le_refl _) _ D _ _ (by omega) hK' rfl rfl)⟩
      simp [results, Tryd.f7, go_sem, hc11]
end Go.Proofs.YtmfpfebnlflfiaaDoor

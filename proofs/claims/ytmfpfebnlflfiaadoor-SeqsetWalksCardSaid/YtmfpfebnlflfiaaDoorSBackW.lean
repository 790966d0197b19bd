/-
  The law SeqsetBack: its walk.
-/
import Derived.Test.YtmfpfebnlflfiaaDoorOf
import Derived.Test.YtmfpfebnlflfiaaDoorBackP2
import Derived.Test.YtmfpfebnlflfiaaDoorAwake2
import Derived.Test.YtmfpfebnlflfiaaDoorNamed
import Derived.OwnWalkIn
set_option linter.unusedVariables false
set_option linter.unusedSimpArgs false
namespace Go.Proofs.YtmfpfebnlflfiaaDoor
open Go Go.RowKit
attribute [local go_sem] Oper.semAt_some wide_fn wide_depth

theorem infoU32 : (Tryd.prog.info? 58).map (fun i => (i.zero, i.size, i.bytes)) = some (some (.int .u32 0), 1, 4) := by kernel_rfl
def cellsN (l : List Nat) : List Value := l.map fun n : Nat => Value.int .u32 n
theorem Keeps.grown {T : TypeId → Prop} {cap : Nat → Prop} {D : Nat} {W W' : World} {row : Option Nat} (hg : W.grownBy W' row)
    (hrow : ∀ r, row = some r → ¬ cap r ∧ ∃ c e fz, W.heap[r]? = some (.cells c e fz) ∧ T e) : Keeps T cap D W W' :=
  ⟨hg.size, fun k o hk hp => by
    by_cases e : row = some k
    · obtain ⟨h1, c, e2, fz, h2, h3⟩ := hrow k e
      rw [h2] at hk
      cases hk
      rcases hp with hp | ⟨_, hp⟩
      · exact absurd hp h1
      · exact absurd rfl (hp c e2 fz h3)
    · exact (hg.block k (lt_of_block hk) (fun h => e h.symm)).trans hk⟩
theorem own_itself {T0 : TypeId → Prop} {D : Nat} {A B : World} {base e size n : Nat} {v : Value} {xs : List Value} (h : A.ownsRow base e size v n xs) (hi : Itself T0 D A B) (hp : (∀ k, v.ownBlock = some k → k < D) ∨ ¬ T0 e) : B.ownsRow base e size v n xs := by
  refine ⟨h.1, ?_⟩
  rcases h.2 with hn | ⟨g, cap, cur, rfl, hg, hgg, rest⟩
  · exact .inl hn
  · refine .inr ⟨g, cap, cur, rfl, hg, ?_, rest⟩
    rcases hp with hp | hp
    · rw [hi.below g (hp g rfl)]; exact hgg
    · exact hi.same g _ _ _ hp hgg

theorem own_heap {A B : World} {base e size n : Nat} {v : Value} {xs : List Value} (h : A.ownsRow base e size v n xs) (hp : ∀ k, v.ownBlock = some k → B.heap[k]? = A.heap[k]?) : B.ownsRow base e size v n xs := by
  refine ⟨h.1, ?_⟩
  rcases h.2 with hn | ⟨g, cap, cur, rfl, hg, hgg, rest⟩
  · exact .inl hn
  · exact .inr ⟨g, cap, cur, rfl, hg, (hp g rfl).trans hgg, rest⟩

theorem nums_own {W : World} {B m lc : Nat} {la : Option Addr} {xs : List Nat} (hm : xs.length = m) (h : W.ownsRow B 58 1 (.slice la m lc) m (cellsN xs)) (hx : ∀ n ∈ xs, n ≤ 4294967295) : NumsAt W la xs := by
  intro i n hi
  have hil := (List.getElem?_eq_some_iff.1 hi).1
  obtain ⟨g, rfl⟩ : ∃ g, la = some ⟨g, 0, none⟩ := by
    rcases h.2 with ⟨h1, h2⟩ | ⟨g, cap, cur, h1, _⟩
    · exfalso; omega
    · cases h1; exact ⟨g, rfl⟩
  refine ⟨hx n (List.mem_of_getElem? hi), g, 0, rfl, (h.lt g rfl).2, ?_⟩
  rw [Nat.zero_add, h.cellAt i (by omega)]
  simp [cellsN, hi]

/-- What stands through the law. -/
structure Ctx (w : World) (xv : Value) (l : List (Nat × Nat)) (W : World) : Prop where
  below : Below w.heap.size w W
  rb : Boxed W w.heap.size 4 (.bool false)
  x : W.ownsRow (w.heap.size + 1) 83 2 xv l.length (cellsP l)
theorem Ctx.later {w : World} {xv : Value} {l : List (Nat × Nat)} {W W' : World} (h : Ctx w xv l W) (hb : Below W.heap.size W W') : Ctx w xv l W' :=
  ⟨h.below.trans (hb.mono h.below.size), (hb.block _ (lt_of_block h.rb)).trans h.rb, own_below h.x hb⟩
theorem Ctx.drewN {w : World} {xv : Value} {l : List (Nat × Nat)} {W : World} (h : Ctx w xv l W) (n : Nat) : Ctx w xv l (W.drewN n) := ⟨below_drewN h.below n, h.rb, h.x⟩

set_option maxHeartbeats 400000 in
theorem sback_easy (p : Option Addr) (N cap last : Nat) (hN : N ≤ maxLen) (hl : last < 65536) (h : 64 < N ∨ N = 0 ∨ 400 < last) (w : World) : Calls Tryd.prog 8 #[.slice p N cap, .int .u16 last] w fun e w' => e = .returned (.bool true) ∧ Below w.heap.size w w' := by
  unfold maxLen at hN
  refine (callsIn_wide (n := 3)).1 ?_
  refine callsIn_of_wp_marks Tryd.func8 rfl trivial ?_
  simp only [Tryd.ntmps8, List.size_toArray, List.length_cons, List.length_nil, Nat.reduceAdd, Nat.reduceSub, Array.replicate_succ, Array.replicate_zero, List.push_toArray, List.append_toArray, List.nil_append, List.cons_append]
  refine wpIn_wide.2 ?_
  have hRB := Boxed.new w 4 (.bool false)
  have HRB := Lib.hid hRB
  have hBL : Below w.heap.size w (w.alloc (.cells #[.bool true] 4)) := (Below.refl _ _).alloc (Nat.le_refl _) _
  have HBL := Lib.hid hBL
  clear hRB hBL
  by_cases h1 : 64 < N
  · have q1 : (64 : Int) < N := by omega
    go_wp2_with fail
    refine ⟨.bool true, ?_, rfl, HBL.out⟩
    simp [results, Tryd.f8, go_sem]
  · have q1 : ¬ (64 : Int) < N := by omega
    by_cases h2 : N = 0
    · subst h2
      go_wp2_with fail
      refine ⟨.bool true, ?_, rfl, HBL.out⟩
      simp [results, Tryd.f8, go_sem]
    · have q2 : ¬ (N : Int) = 0 := by omega
      have q3 : (400 : Int) < last := by omega
      have qe : ((N : Int) == 0) = false := by rw [beq_eq_false_iff_ne]; omega
      go_wp2_with fail
      refine ⟨.bool true, ?_, rfl, HBL.out⟩
      simp [results, Tryd.f8, go_sem]

set_option maxRecDepth 100000 in
set_option maxHeartbeats 4000000 in
theorem sback_walk (p : Option Addr) (cap last : Nat) (l : List (Nat × Nat)) (h0 : l ≠ []) (hl : l.length ≤ 64) (hlast : last ≤ 400) (hS : Small l) (w : World) (hp : PairsAt w p l) (hE : Errs w) (hT : Tab w) :
    Calls Tryd.prog 8 #[.slice p l.length cap, .int .u16 last] w fun e w' => e = .returned (.bool true) ∧ Below w.heap.size w w' := by
  have hN0 : 0 < l.length := List.length_pos_iff.2 h0
  have HSET := Lib.hid (setOf_setT h0 hS)
  have hlen := setT_len hS l.length (Nat.le_refl _)
  rw [List.take_length] at hlen
  refine (callsIn_wide (n := 3)).1 ?_
  refine callsIn_of_wp_marks Tryd.func8 rfl trivial ?_
  simp only [Tryd.ntmps8, List.size_toArray, List.length_cons, List.length_nil, Nat.reduceAdd, Nat.reduceSub, Array.replicate_succ, Array.replicate_zero, List.push_toArray, List.append_toArray, List.nil_append, List.cons_append]
  refine wpIn_wide.2 ?_
  have hRB := Boxed.new w 4 (.bool false)
  have HP := Lib.hid (hp.below ((Below.refl w.heap.size w).alloc (Nat.le_refl _) (.cells #[.bool false] 4)))
  have HB0 : Hid (Below w.heap.size w (w.alloc (.cells #[.bool false] 4))) := (Below.refl _ _).alloc (Nat.le_refl _) _
  have C1 := Lib.hid (own2_c p cap l (by omega) _ HP.out)
  obtain ⟨N, hN⟩ : ∃ N, N = l.length := ⟨_, rfl⟩
  rw [← hN] at hl hN0 C1 ⊢
  have HN := Lib.hid hN
  have HE := Lib.hid hE
  have HT := Lib.hid hT
  have HS := Lib.hid hS
  have HRB := Lib.hid hRB
  have HL := Lib.hid hlen
  have q1 : (N : Int) ≤ 64 := by omega
  have q2 : (0 : Int) < N := by omega
  have q3 : (last : Int) ≤ 400 := by omega
  have qe : ((N : Int) == 0) = false := by rw [beq_eq_false_iff_ne]; omega
  clear hN hE hT hS hRB hp h0 hlen
  go_wp2_with fail
  refine C1.out.mono ?_
  rintro e w1 ⟨xv, rfl, ho1, hb1⟩
  have HX1 : Hid (Ctx w xv l w1) := by
    refine ⟨HB0.out.trans (hb1.mono (by simp)), (hb1.block _ (by simp)).trans HRB.out, ?_⟩
    rw [World.size_alloc, HN.out] at ho1
    exact ho1
  have HP1 := Lib.hid (HP.out.below hb1)
  have HLEN : Hid (l.length ≤ 1000) := by show _ ≤ _; rw [← HN.out]; omega
  obtain ⟨xa, xc, hxv⟩ := own_form HX1.out.x
  rw [← HN.out] at hxv
  subst hxv
  clear ho1 hb1 C1 HRB HP
  go_wp2_with fail
  refine (qstring_c _ _ l HLEN.out HS.out w1 (HT.out.later HX1.out.below HT.out.lt) HX1.out.x).mono ?_
  rintro e w2 ⟨rfl, hb2⟩
  have HX2 := Lib.hid (HX1.out.later hb2)
  have HP2 := Lib.hid (HP1.out.below hb2)
  clear hb2
  have C3 := Lib.hid (qparse_c (txt (setT l)) (by show (setT l).toArray.size ≤ _; rw [List.size_toArray]; have := HL.out; have := HN.out; omega) w2 (HE.out.later HX2.out.below HE.out.lt))
  rw [txt_list, HSET.out] at C3
  go_wp2_with fail
  refine C3.out.mono ?_
  rintro e w3 ⟨hs3, hb3⟩
  have hl64 : ¬ 64 < l.length := by have := HN.out; omega
  unfold SetIs at hs3
  simp only [hl64, if_false] at hs3
  obtain ⟨yv, rfl, ho3⟩ := hs3
  have HX3 := Lib.hid (HX2.out.later hb3)
  have HP3 := Lib.hid (HP2.out.below hb3)
  have HY3 := Lib.hid ho3
  clear hb3 ho3 hl64 C3
  go_wp2_with fail
  have C4 := Lib.hid (same_arg_c _ yv p cap l HLEN.out w3 HY3.out HP3.out)
  rw [← HN.out] at C4
  refine C4.out.mono ?_
  rintro e w4 ⟨rfl, nd, hw4⟩
  have HX4 : Hid (Ctx w (.slice xa N xc) l w4) := by rw [hw4]; exact HX3.out.drewN nd
  clear hw4 C4 HY3
  have C5 := Lib.hid (qwalk_c _ _ l (by have := HN.out; omega) last w4 HX4.out.x)
  have hnf : ∀ (b : Nat) w, (binOp .eql 55 (.func (.func 47) #[] #[.pointer (some ⟨b, 0, none⟩)]) Value.nilFunc).run Tryd.prog w = .ok (.bool false) w := fun b w => by kernel_rfl
  go_wp2_with fail
  refine C5.out.mono ?_
  rintro e w5 ⟨Bq, uv, A, rfl, hBq, hub, hcap, hAl, hAr, hsp, hb5⟩
  have HX5 := Lib.hid (HX4.out.later hb5)
  have HCAP := Lib.hid hcap
  have HAR := Lib.hid hAr
  have HSP := Lib.hid hsp
  have HUB := Lib.hid hub
  have hs5 := hb5.size
  clear C5 hb5 hcap hAr hsp hub
  go_wp2_with fail
  clear hnf
  obtain ⟨i1, hi1, hy0, hy1, hy2⟩ := info_parts infoU32
  obtain ⟨Lb, hLb⟩ : ∃ Lb, w5.heap.size = Lb := ⟨_, rfl⟩
  have hlb0 := Boxed.new w5 53 (.slice none 0 0)
  have hX0 := HX5.out.later ((Below.refl w5.heap.size w5).alloc (Nat.le_refl _) (.cells #[.slice none 0 0] 53))
  have hC0 := HCAP.out.alloc (.cells #[.slice none 0 0] 53)
  have hsz : (w5.alloc (.cells #[.slice none 0 0] 53)).heap.size = Lb + 1 := by rw [World.size_alloc, hLb]
  have hxb : ∀ k, (Value.slice xa N xc).ownBlock = some k → k < Lb := fun k hk => by rw [← hLb]; exact (HX5.out.x.lt k hk).2
  have hws : w.heap.size < Lb := by rw [← hLb]; exact lt_of_block HX5.out.rb
  have hcl : ∀ k, capOf Bq uv k → k < Lb := by
    intro k hk
    rw [← hLb]
    rcases hk with rfl | hk
    · exact lt_of_block HCAP.out.box
    · exact (HCAP.out.row.lt k hk).2
  rw [hLb] at hlb0 ⊢
  obtain ⟨W0, hW0⟩ : ∃ W0, w5.alloc (.cells #[.slice none 0 0] 53) = W0 := ⟨_, rfl⟩
  rw [hW0] at hlb0 hX0 hC0 hsz ⊢
  clear hW0 hLb hs5 HX5 HCAP
  have hmem : ∀ pre : List Nat, pre <+: spread A → pre.length ≤ 400 := by
    intro pre hpre
    have h1 := hpre.length_le
    rw [HSP.out] at h1
    have h2 : (meant l last).length ≤ last := Nat.le_trans (List.length_filter_le _ _) (by simp)
    omega
  have HMEM := Lib.hid hmem
  clear hmem
  refine (wpIn_wide (n := 3)).1 ?_
  refine wpIn_rangeIter (gf := 47) (lb := #[.pointer (some ⟨Bq, 0, none⟩)]) rfl (enters_of Tryd.func47 (by kernel_rfl) rfl) (walk1_iter Bq w4.heap.size uv A (by omega) (fun r hr => ⟨(HAR.out r hr).1, by have := (HAR.out r hr).2; omega⟩)) (fun e => e = 58) (fun e h => by subst h; decide) (fun _ => rfl)
    (fun k hk => by have := hcl k hk; omega) (fun W' hW' => ⟨(hW'.block _ (by have := hcl Bq (.inl rfl); omega)).trans hC0.box, own_below hC0.row hW'⟩)
    (fun pre W' => Ctx w (.slice xa N xc) l W' ∧ ∃ lv, Boxed W' Lb 53 lv ∧ W'.ownsRow (Lb + 1) 58 1 lv pre.length (cellsN pre))
    (fun c pre W' => False)
    (fun s' X Y h hAB => by
      obtain ⟨h1, lv, h2, h3⟩ := h
      rw [hsz] at hAB
      exact ⟨⟨h1.below.trans (hAB.toBelow.mono (by omega)), hAB.boxed h1.rb (.inl (by omega)), own_itself h1.x hAB (.inl fun k hk => by have := hxb k hk; omega)⟩, lv, hAB.boxed h2 (.inl (by omega)), own_itself h3 hAB (.inr (by decide))⟩)
    (fun c s' X Y h hAB => h)
    ⟨hX0, _, hlb0, World.ownsRow_nil _ _ _ _⟩ ?round ?done ?stop
  case round =>
    rintro l' pre x W1 hl' ⟨hctx, lv, hlb, hrow⟩ hst
    have hpl := HMEM.out _ hst
    rw [List.length_append] at hpl
    gi_wp2
    refine ⟨Keeps.refl _ _ _ _, fun W2 hits hsz2 hrec hoth => ?_⟩
    rw [hsz] at hits
    have HCT : Hid (Ctx w (.slice xa N xc) l W2) := ⟨hctx.below.trans (hits.toBelow.mono (by omega)), hits.boxed hctx.rb (.inl (by omega)), own_itself hctx.x hits (.inl fun k hk => by have := hxb k hk; omega)⟩
    have HLB : Hid (Boxed W2 Lb 53 lv) := hits.boxed hlb (.inl (by omega))
    have HRW : Hid (W2.ownsRow (Lb + 1) 58 1 lv pre.length (cellsN pre)) := own_itself hrow hits (.inr (by decide))
    have hls2 : Lb + 1 ≤ W2.heap.size := by have := hits.size; have := lt_of_block hlb; have h9 := hits.toBelow.size; omega
    clear hctx hlb hrow hst hits hsz2 hrec hoth
    obtain ⟨np, hnp⟩ : ∃ np, pre.length = np := ⟨_, rfl⟩
    rw [hnp] at hpl HRW
    have HNP := Lib.hid hnp
    clear hnp
    obtain ⟨la, lc, hlv⟩ := own_form HRW.out
    subst hlv
    simp only [List.length_singleton] at hpl
    have hg4 : ¬ ((400 : Int) < (np : Int)) := by omega
    have hlb1 := HLB.out.cell
    have hlb2 := lt_of_block HLB.out
    gi_wp2_with (gi_at_builtin; refine wpListIn_append_own _ rfl (.tmp 52) (.tmp 54) 53 rfl (Lb + 1) 58 i1 (.int .u32 0) 1 4 Tryd.underlying53 hi1 hy0 hy1 hy2 rfl (by decide) _ _ _ rfl (HRW.out.alloc _) ⟨W2.heap.size, 0, none⟩ 1 1 [.int .u32 x] rfl rfl (World.news_of_block (cs := #[.int .u32 x]) (t := 58) (fr := (0, 0)) (heap_alloc_new W2 _)) (fun x hx => by simp at hx; subst hx; rfl) (by unfold maxLen; omega) (by omega) (by simp; omega) ?_)
    intro v' w4 hown4 hgrow4 _
    have hrl := fun k hk => HRW.out.lt k hk
    have hK4 : Keeps (fun e => e = 58) (capOf Bq uv) W0.heap.size W2 w4 := (Keeps.alloc _ _ _ _ _).trans (Keeps.grown hgrow4 (fun r hr => by
      obtain ⟨c, fz, hc⟩ := own_row (HRW.out.alloc (.cells #[.int .u32 x] 58)) r hr
      refine ⟨fun h => ?_, c, _, fz, hc, rfl⟩
      have h1 := hcl r h
      have h2 := (hrl r hr).1
      omega))
    have hLB4 : Boxed w4 Lb 53 (.slice la np lc) := (hgrow4.block _ (lt_of_block (HLB.out.alloc _)) (fun h => by have := (hrl Lb h.symm).1; omega)).trans (HLB.out.alloc _)
    have hB4 : Below (Lb + 1) W2 w4 := Below.grown ((Below.refl (Lb + 1) W2).alloc hls2 _) hgrow4 (by simp; omega) (fun i hi => (hrl i hi).1)
    have hCT4 : Ctx w (.slice xa N xc) l w4 := ⟨HCT.out.below.trans (hB4.mono (by omega)), (hB4.block _ (by omega)).trans HCT.out.rb, own_heap HCT.out.x fun k hk => hB4.block _ (by have := hxb k hk; omega)⟩
    obtain ⟨va, vc, hv'⟩ := own_form hown4
    subst hv'
    have HLB4 := Lib.hid hLB4
    have HK4 := Lib.hid hK4
    have HO4 := Lib.hid hown4
    have HCT4 := Lib.hid hCT4
    clear hown4 hgrow4 hB4 hK4 hCT4 hrl
    have hlb4 := hLB4.cell
    have hlb5 := lt_of_block hLB4
    have hlb6 := hLB4.frozen
    gi_wp2_with fail
    refine ⟨HK4.out.trans (Keeps.setCell _ _ ⟨Lb, 0, none⟩ _ (fun h => by have := hcl Lb h; omega) (by show Lb < _; omega)), ?_, _, HLB4.out.set _, ?_⟩
    · have hbs : Below Lb w4 (w4.setCell ⟨Lb, 0, none⟩ (.slice va (np + 1) vc)) := (Below.refl Lb w4).setCell (p := ⟨Lb, 0, none⟩) (Nat.le_refl _) _
      exact ⟨HCT4.out.below.trans (hbs.mono (by omega)), (hbs.block _ (by omega)).trans HCT4.out.rb, own_heap HCT4.out.x fun k hk => hbs.block _ (hxb k hk)⟩
    · rw [List.length_append, List.length_singleton, HNP.out]
      have h1 := own_heap (B := w4.setCell ⟨Lb, 0, none⟩ (.slice va (np + 1) vc)) HO4.out fun k hk => Below.heap_setCell w4 ⟨Lb, 0, none⟩ _ k (by have := (HO4.out.lt k hk).1; show k ≠ Lb; omega)
      have h2 : cellsN (pre ++ [x]) = cellsN pre ++ [.int .u32 x] := by unfold cellsN; simp
      rw [h2]
      exact h1
  case done =>
    rintro D xs W1 hD rfl ⟨hctx, lv, hlb, hrow⟩ hK
    rw [hsz] at hD
    obtain ⟨m, hm⟩ : ∃ m, (spread A).length = m := ⟨_, rfl⟩
    have hm4 : m ≤ 400 := by rw [← hm]; exact HMEM.out _ (List.prefix_refl _)
    rw [hm] at hrow
    obtain ⟨la, lc, hlv⟩ := own_form hrow
    subst hlv
    have HCT := Lib.hid hctx
    have HK := Lib.hid hK
    have HLB := Lib.hid hlb
    have HRW := Lib.hid hrow
    have HM := Lib.hid hm
    have hlb1 := hlb.cell
    have hlb2 := lt_of_block hlb
    have hlb3 := hlb.frozen
    clear hctx hlb hrow hK hm
    go_wp2_with fail
    have HNUM : Hid (NumsAt W1 la (spread A)) := nums_own HM.out HRW.out (fun n hn => by
      rw [HSP.out] at hn
      have := ((mem_meant l last n).1 hn).2.1
      omega)
    have hm10 : (spread A).length ≤ 1000 := by rw [HM.out]; omega
    have C6 := Lib.hid (qof_c la lc (spread A) hm10 W1 HNUM.out)
    rw [HM.out] at C6
    clear hm10 HNUM
    refine C6.out.mono ?_
    rintro e W2 ⟨zv, rfl, ho6, hb6⟩
    rw [HSP.out] at ho6
    have HZ6 := Lib.hid ho6
    have HCT6 := Lib.hid (HCT.out.later hb6)
    have HLB6 : Hid (Boxed W2 Lb 53 (.slice la m lc)) := (hb6.block _ hlb2).trans HLB.out
    have HK6 : Hid (W2.heap[D]? = some (.deferred (some []))) := (hb6.block _ (lt_of_block HK.out)).trans HK.out
    have hzl : (ofN (meant l last)).length ≤ m := by rw [← HM.out, HSP.out]; exact ofN_len _
    clear ho6 hb6 C6 HCT HLB HK HRW hlb1 hlb2 hlb3
    have HQ1 := Lib.hid (fun (n : Nat) (wr : World) (ho : wr.ownsRow W1.heap.size 83 2 zv (ofN (meant l last)).length (cellsP (ofN (meant l last)))) => qhas_c _ zv _ (by omega) n last wr ho)
    obtain ⟨zl, hzl2⟩ : ∃ zl, (ofN (meant l last)).length = zl := ⟨_, rfl⟩
    rw [hzl2] at hzl
    have HZL := Lib.hid hzl2
    clear hzl2
    go_wp2_with fail
    obtain ⟨Z0, hZ0⟩ : ∃ Z0, W1.heap.size = Z0 := ⟨_, rfl⟩
    rw [hZ0] at HZ6 HQ1
    clear hZ0
    have hzf := own_form HZ6.out
    rw [HZL.out] at hzf
    obtain ⟨za, zc, hzv⟩ := hzf
    subst hzv
    have hlx : l.length ≤ 1000 := by have := HN.out; omega
    have HLX := Lib.hid hlx
    clear hlx
    go_loopw [12] (fun i wr => ∃ n : Nat, n ≤ last + 1 ∧ i = .int .u32 n ∧ Hid (Below W2.heap.size W2 wr)) (fun i _ => last + 1 - (intOf i).toNat)
    case atStart => exact ⟨0, by omega, rfl, Below.refl _ _⟩
    case round =>
      obtain ⟨n, hn, rfl, HB⟩ := hrel
      have hle := HB.out.size
      by_cases hlt : n ≤ last
      · have k1 : (n : Int) ≤ last := by omega
        have HOM := Lib.hid (of_meant l last n hlt)
        have C7 := Lib.hid (HQ1.out n wr (own_below HZ6.out HB.out))
        rw [HOM.out] at C7
        by_cases hn0 : n = 0
        · subst hn0
          go_wp2_with fail
          refine C7.out.mono ?_
          rintro e w7 ⟨rfl, hb7⟩
          have HB7 : Hid (Below W2.heap.size W2 w7) := HB.out.trans (hb7.mono hle)
          clear hb7 C7
          go_wp2_with fail
          go_roundw
          case rel => exact ⟨1, by omega, by go_num, HB7.out⟩
          case measure => simp [intOf]; try omega
        · have k0 : (0 : Int) < n := by omega
          have k2 : decide (0 < n) = true := decide_eq_true (by omega)
          rw [k2, Bool.true_and] at C7
          go_wp2_with fail
          refine C7.out.mono ?_
          rintro e w7 ⟨rfl, hb7⟩
          have HB7 : Hid (Below W2.heap.size W2 w7) := HB.out.trans (hb7.mono hle)
          clear hb7 C7
          have C8 := Lib.hid (qhas_c _ (.slice xa N xc) l HLX.out n last w7 (HCT6.out.later HB7.out).x)
          go_wp2_with fail
          refine C8.out.mono ?_
          rintro e w8 ⟨rfl, hb8⟩
          have HB8 : Hid (Below W2.heap.size W2 w8) := HB7.out.trans (hb8.mono HB7.out.size)
          clear hb8 C8
          go_wp2_with fail
          go_roundw
          case rel => exact ⟨n + 1, by omega, by go_num, HB8.out⟩
          case measure => simp [intOf]; try omega
      · obtain rfl : n = last + 1 := by omega
        have k1 : ¬ (((last + 1 : Nat)) : Int) ≤ last := by omega
        have k2 : (zl : Int) ≤ m := by omega
        have HLB9 : Hid (Boxed wr Lb 53 (.slice la m lc)) := (HB.out.block _ (lt_of_block HLB6.out)).trans HLB6.out
        have c9 := HLB9.out.cell
        have hCT9 := HCT6.out.later HB.out
        have HCT9 := Lib.hid hCT9
        have HK9 : Hid (wr.heap[D]? = some (.deferred (some []))) := (HB.out.block _ (lt_of_block HK6.out)).trans HK6.out
        have C10 := Lib.hid (awake2_c wr (HE.out.later hCT9.below HE.out.lt) (HT.out.later hCT9.below HT.out.lt))
        clear hCT9
        go_wp2_with fail
        refine C10.out.mono ?_
        rintro e w9 ⟨rfl, hb9⟩
        have HCT10 := Lib.hid (HCT9.out.later hb9)
        have hK10 : w9.heap[D]? = some (.deferred (some [])) := (hb9.block _ (lt_of_block HK9.out)).trans HK9.out
        have HK10 := Lib.hid hK10
        have c10 := HCT10.out.rb.cell
        have f10 := HCT10.out.rb.frozen
        have b10 := lt_of_block HCT10.out.rb
        clear hb9 hK10
        go_wp2_with fail
        have hne : D ≠ w.heap.size := by omega
        have hK' : (w9.setCell ⟨w.heap.size, 0, none⟩ (.bool true)).heap[D]? = some (.deferred (some [])) := (Below.heap_setCell w9 ⟨w.heap.size, 0, none⟩ _ D hne).trans HK10.out
        refine ⟨by simp, .inl ⟨_, _, rfl, run_takeDeferred hK', ?_⟩⟩
        have hc11 := cell_kept (HCT10.out.rb.set (.bool true)).cell (grownBy_putObj' _ D (.deferred none)) (fun r e => by cases e; exact ⟨_, hK', rfl⟩)
        refine ⟨.bool true, ?_, rfl, (HCT10.out.below.setCell (p := ⟨w.heap.size, 0, none⟩) (Nat.le_refl _) _).trans (belowK_b (w := w) (Nat.le_refl _) _ D _ _ (by omega) hK' rfl rfl)⟩
        simp [results, Tryd.f8, go_sem, hc11]
  case stop =>
    rintro D c pre W1 hD hS h hK
    exact h.elim
end Go.Proofs.YtmfpfebnlflfiaaDoor

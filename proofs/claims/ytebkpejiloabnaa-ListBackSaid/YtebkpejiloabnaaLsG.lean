/-
  By which notes a list becomes another one, by the program: contract.
-/
import Derived.Test.YtebkpejiloabnaaLsE
import Derived.Test.YtebkpejiloabnaaLsF
set_option linter.unusedVariables false
set_option linter.unusedSimpArgs false
namespace Go.Proofs.Ytebkpejiloabnaa
open Go Go.RowKit
attribute [local go_sem] Oper.semAt_some wideK_fn wideK_depth
variable {W W' : World} {v va vb : Value} {l now : List EL}

/-- What stands through the call: the other list's box, the notes' box and row. -/
structure DIs (W : World) (vb : Value) (G : List NL) (W' : World) : Prop where
  below : Below W.heap.size W W'
  nb : Boxed W' W.heap.size 26 vb
  row : ∃ lv q, G.length = q ∧ Boxed W' (W.heap.size + 1) 24 lv ∧ W'.ownsRow (W.heap.size + 3) 37 4 lv q (cellsK encN G)
theorem DIs.later {G : List NL} {W1 W2 : World} (h : DIs W vb G W1) (hb : Below W1.heap.size W1 W2) : DIs W vb G W2 := by
  obtain ⟨lv, q, h1, h2, h3⟩ := h.row
  exact ⟨h.below.trans (hb.mono h.below.size), (hb.block _ h.nb.lt).trans h.nb, lv, q, h1, (hb.block _ h2.lt).trans h2, own_below h3 hb⟩
theorem DIs.itself {G : List NL} {W1 W2 : World} {D : Nat} (h : DIs W vb G W1) (hi : Itself (fun _ => False) D W1 W2) (hD : W.heap.size + 3 ≤ D) : DIs W vb G W2 := by
  obtain ⟨lv, q, h1, h2, h3⟩ := h.row
  exact ⟨h.below.trans (hi.toBelow.mono (by omega)), hi.boxed h.nb (.inr id), lv, q, h1, hi.boxed h2 (.inr id), own_itselfK h3 hi (.inr id)⟩

theorem DIs.push {G : List NL} {n : NL} {wa w7 : World} {lv v' : Value} {q : Nat} (hb : Below W.heap.size W wa) (hn : Boxed wa W.heap.size 26 vb) (hq : G.length = q) (hx : Boxed wa (W.heap.size + 1) 24 lv)
    (ho : wa.ownsRow (W.heap.size + 3) 37 4 lv q (cellsK encN G)) (hg : wa.grownBy w7 lv.ownBlock) (ho7 : w7.ownsRow (W.heap.size + 3) 37 4 v' (q + 1) (cellsK encN G ++ encN n)) :
    DIs W vb (G ++ [n]) (w7.setCell ⟨W.heap.size + 1, 0, none⟩ v') ∧ Boxed w7 (W.heap.size + 1) 24 lv ∧ Below (W.heap.size + 1) wa (w7.setCell ⟨W.heap.size + 1, 0, none⟩ v') ∧
      (∀ (cap : Nat → Prop) (D : Nat), (∀ k, cap k → k < W.heap.size + 3 ∧ k ≠ W.heap.size + 1) → W.heap.size + 1 < D → Keeps (fun e => e = 37) cap D wa (w7.setCell ⟨W.heap.size + 1, 0, none⟩ v')) ∧
      ∀ k : Nat, wa.heap[k]? = some (.deferred (some [])) → (w7.setCell ⟨W.heap.size + 1, 0, none⟩ v').heap[k]? = some (.deferred (some [])) := by
  have hlt : ∀ r, lv.ownBlock = some r → W.heap.size + 3 ≤ r := fun r hr => (ho.lt r hr).1
  have hx7 : Boxed w7 (W.heap.size + 1) 24 lv := (hg.block _ hx.lt (fun h => by have := hlt _ h.symm; omega)).trans hx
  have hn7 : Boxed w7 W.heap.size 26 vb := (hg.block _ hn.lt (fun h => by have := hlt _ h.symm; omega)).trans hn
  have hb7 : Below (W.heap.size + 1) wa w7 := ⟨hg.os, hg.tape, hg.output, hg.size, fun k hk => hg.block k (by have := hx.lt; omega) (fun h => by have := hlt _ h.symm; omega)⟩
  have hset : Below (W.heap.size + 1) w7 (w7.setCell ⟨W.heap.size + 1, 0, none⟩ v') := (Below.refl _ w7).setCell (p := ⟨W.heap.size + 1, 0, none⟩) (Nat.le_refl _) _
  have hall := hb7.trans hset
  refine ⟨⟨hb.trans (hall.mono (by omega)), (hset.block _ (by omega)).trans hn7, v', q + 1, by rw [List.length_append, hq]; rfl, hx7.set v', ?_⟩, hx7, hall, fun cap D hc hD => ?_, fun k hk => ?_⟩
  · rw [cellsN_app', cellsK_one]
    exact own_heapK ho7 fun k hk => Below.heap_setCell w7 ⟨W.heap.size + 1, 0, none⟩ _ k (by have := (ho7.lt k hk).1; show k ≠ W.heap.size + 1; omega)
  · refine (keeps_grownK hg (fun r hr => ?_)).trans (Keeps.setCell _ w7 ⟨W.heap.size + 1, 0, none⟩ v' (fun h => (hc _ h).2 rfl) hD)
    obtain ⟨c, fz, h1⟩ := own_rowK ho r hr
    exact ⟨fun h => by have := (hc r h).1; have := hlt r hr; omega, c, _, fz, h1, rfl⟩
  · have h1 : k ≠ W.heap.size + 1 := fun e => by rw [e, show wa.heap[W.heap.size + 1]? = _ from hx] at hk; cases hk
    rw [Below.heap_setCell w7 ⟨W.heap.size + 1, 0, none⟩ _ k h1, hg.block k (Array.getElem?_eq_some_iff.1 hk).1 (fun h => by
      obtain ⟨c, fz, h2⟩ := own_rowK ho k h.symm
      rw [h2] at hk; cases hk)]
    exact hk

theorem getE_uid {u : Nat} (h : (getE l u).2 = true) : (getE l u).1.uid = u := by
  unfold getE at h ⊢
  cases hf : l.find? (fun e => decide (e.uid = u)) with
  | none => rw [hf] at h; cases h
  | some q => exact of_decide_eq_true (List.find?_some (p := fun e : EL => decide (e.uid = u)) hf)

set_option maxRecDepth 100000 in
set_option maxHeartbeats 32000000 in
theorem lDiff_c (hl : EntRow W va l) (hn : EntRow W vb now) (hmay : MayE l now) (hm : l.length ≤ 1000000) (hm2 : now.length ≤ 1000000) :
    Calls Try.prog 8 #[va, vb] W fun e w' => ∃ u, e = .returned u ∧ w'.ownsRow W.heap.size 37 4 u (diffL l now).length (cellsK encN (diffL l now)) ∧ Below W.heap.size W w' := by
  obtain ⟨i0, hi0, hz0, hz1, hz2⟩ := info_parts infoN
  refine (callsIn_wide (n := 3)).1 ?_
  refine callsIn_of_wp_marks Try.func8 rfl trivial ?_
  simp only [Try.ntmps8, List.size_toArray, List.length_cons, List.length_nil, Nat.reduceAdd, Nat.reduceSub, Array.replicate_succ, Array.replicate_zero, List.push_toArray, List.append_toArray, List.nil_append, List.cons_append]
  refine wpIn_wide.2 ?_
  obtain ⟨la, lc, hva⟩ := hl.form
  obtain ⟨na, nc, hvb⟩ := hn.form
  obtain ⟨N, hN⟩ : ∃ N, l.length = N := ⟨_, rfl⟩
  obtain ⟨M, hM⟩ : ∃ M, now.length = M := ⟨_, rfl⟩
  have CL : Hid (∀ u W', Below W.heap.size W W' → Calls Try.prog 21 #[va, .int .u32 (u : Nat)] W' fun e w' => e = .returned (.tuple #[.agg #[.int .u32 (getE l u).1.uid, .int .u8 (getE l u).1.fl], .bool (getE l u).2]) ∧ Below W'.heap.size W' w') := fun u W' hb => lfind_c (hl.below hb) hmay.1 u (by omega)
  have CN : Hid (∀ u W', Below W.heap.size W W' → Calls Try.prog 21 #[vb, .int .u32 (u : Nat)] W' fun e w' => e = .returned (.tuple #[.agg #[.int .u32 (getE now u).1.uid, .int .u8 (getE now u).1.fl], .bool (getE now u).2]) ∧ Below W'.heap.size W' w') := fun u W' hb => lfind_c (hn.below hb) hmay.2.1 u (by omega)
  have CLa : Hid (∀ W', Below W.heap.size W W' → Calls Try.prog 18 #[va] W' fun e w' => e = .returned (.int .u32 (lastE l : Nat)) ∧ w' = W') := fun W' hb => lLast_c (hl.below hb) (by omega)
  have CLb : Hid (∀ W', Below W.heap.size W W' → Calls Try.prog 18 #[vb] W' fun e w' => e = .returned (.int .u32 (lastE now : Nat)) ∧ w' = W') := fun W' hb => lLast_c (hn.below hb) (by omega)
  rw [hN] at hva
  rw [hM] at hvb
  have HL := Lib.hid hl
  have HW := Lib.hid hn
  have HN := Lib.hid hN
  have HM := Lib.hid hM
  have HVA := Lib.hid hva
  have HVB := Lib.hid hvb
  have HMY := Lib.hid hmay
  have hN9 : N ≤ 1000000 := by omega
  have hM9 : M ≤ 1000000 := by omega
  clear hl hn hN hM hva hvb hmay hm hm2
  go_wp2_with fail
  refine (backw_c va _ ⟨_, _, _, HVA.out⟩).mono ?_
  rintro e w1 ⟨hw1, rfl⟩
  have b0 := ((Boxed.new W 26 vb).alloc (.cells #[.slice none 0 0] 24)).alloc (.cells #[va] 26)
  have b1 := (Boxed.new (W.alloc (.cells #[vb] 26)) 24 (.slice none 0 0)).alloc (.cells #[va] 26)
  have b2 := Boxed.new ((W.alloc (.cells #[vb] 26)).alloc (.cells #[.slice none 0 0] 24)) 26 va
  simp only [World.size_alloc] at b1 b2
  have hB1 : Below W.heap.size W w1 := by rw [hw1]; exact (((Below.refl _ W).alloc (Nat.le_refl _) _).alloc (by simp) _).alloc (by simp; omega) _
  have hsz : w1.heap.size = W.heap.size + 3 := by rw [hw1]; simp
  rw [← hw1] at b0 b1 b2
  have HI0 : Hid (DIs W vb (goneN l now 0) w1) := ⟨hB1, b0, _, 0, rfl, b1, World.ownsRow_nil _ _ _ _⟩
  have HBC : Hid (BCap (W.heap.size + 2) va l w1) := ⟨b2, HL.out.below hB1⟩
  have hcl : ∀ k, bcapOf (W.heap.size + 2) va l k → k < W.heap.size ∨ k = W.heap.size + 2 := by
    rintro k (rfl | ⟨hk, hne⟩)
    · exact .inr rfl
    · exact .inl (HL.out.block hne hk)
  have HCL := Lib.hid hcl
  clear hw1 b0 b1 b2 hB1 hcl
  go_wp2_with fail
  refine (wpIn_wide (n := 3)).1 ?_
  refine wpIn_rangeIter (gf := 28) (lb := #[.pointer (some ⟨W.heap.size + 2, 0, none⟩)]) rfl (enters_of Try.func28 (by kernel_rfl) rfl) (backw1_iter (W.heap.size + 2) va l (by have := HN.out; omega)) (fun e => e = 37) (fun e h hf => hf) (fun _ => rfl)
    (fun k hk => by have := HCL.out k hk; omega) (fun W' hW' => ⟨(hW'.block _ (by omega)).trans HBC.out.1, HBC.out.2.below hW'⟩)
    (fun pre W' => DIs W vb (goneN l now pre.length) W')
    (fun c pre W' => False)
    (fun s' X Y h hAB => by rw [hsz] at hAB; exact h.itself hAB (Nat.le_refl _))
    (fun c s' X Y h hAB => h)
    HI0.out ?round ?done ?stop
  case round =>
    rintro l' pre ⟨xi, xe⟩ W1 hl' hI ⟨hx1, hx2⟩
    dsimp only at hx1 hx2
    gi_wp2
    refine ⟨Keeps.alloc _ _ _ _ _, fun W2 hits hsz2 hrec hoth => ?_⟩
    rw [hsz] at hits
    have hI2 := (hI.later ((Below.refl _ W1).alloc (Nat.le_refl _) (.cells #[.int .u32 xe.uid, .int .u8 xe.fl] 35))).itself hits (Nat.le_refl _)
    have hE : Duo W2 W1.heap.size 35 (.int .u32 xe.uid) (.int .u8 xe.fl) := hits.same _ _ _ _ id (Duo.new W1 _ _ _)
    have HI2 := Lib.hid hI2
    have hG := goneN_at (now := now) hx1
    rw [HN.out] at hG hx2
    rw [show N - (xi + 1) = pre.length by omega, show N - xi = pre.length + 1 by omega] at hG
    have hgi := getE_isIn (l := now) (u := xe.uid)
    obtain ⟨⟨⟨gu, gf⟩, gb⟩, hge⟩ : ∃ ge, getE now xe.uid = ge := ⟨_, rfl⟩
    have C5 := CN.out xe.uid W2 hI2.below
    rw [hge] at hgi C5
    dsimp only at hgi C5
    have C5 := Lib.hid C5
    obtain ⟨e0, e1, _, _⟩ := hE.cell
    have hEl := hE.lt
    have n0 := hI2.nb.cell
    have HDG := Lib.hid hG
    obtain ⟨E, hEE⟩ : ∃ E, W1.heap.size = E := ⟨_, rfl⟩
    rw [hEE] at e0 e1 hEl ⊢
    have hq9 : xi < N := by omega
    have HX2 := Lib.hid hx2
    clear hI hI2 hits hsz2 hrec hoth hG hge hx1 hx2 hE hEE
    cases gb with
    | true =>
      have hpos : isIn now xe.uid = true := hgi.symm
      have hG := HDG.out
      rw [hpos, if_pos rfl, List.append_nil] at hG
      have HG := Lib.hid hG
      clear hpos hG hgi HDG
      gi_wp2_with fail
      refine callsWr C5.out ?_
      rintro e w5 ⟨rfl, hb5⟩
      have HI5 := HI2.out.later hb5
      have HK5 : Keeps (fun e => e = 37) (bcapOf (W.heap.size + 2) va l) w1.heap.size W2 w5 := Keeps.of_below hb5
      have HI5 := Lib.hid HI5
      have HK5 := Lib.hid HK5
      clear hb5 C5 n0 e0 e1
      gi_wp2_with fail
      refine ⟨HK5.out.trans (Keeps.alloc _ _ _ _ _), ?_⟩
      show DIs W vb (goneN l now (pre ++ [(xi, xe)]).length) _
      rw [List.length_append, List.length_singleton, HG.out]
      exact HI5.out.later ((Below.refl _ w5).alloc (Nat.le_refl _) _)
    | false =>
      have hneg : isIn now xe.uid = false := hgi.symm
      have hG := HDG.out
      rw [hneg, if_neg (by simp)] at hG
      have HG := Lib.hid hG
      clear hneg hG hgi HDG
      gi_wp2_with fail
      refine callsWr C5.out ?_
      rintro e w5 ⟨rfl, hb5⟩
      have hI5 := HI2.out.later hb5
      have HK5 : Hid (Keeps (fun e => e = 37) (bcapOf (W.heap.size + 2) va l) w1.heap.size W2 w5) := Keeps.of_below hb5
      have hI6 := hI5.later ((Below.refl _ w5).alloc (Nat.le_refl _) (.cells #[.int .u32 gu, .int .u8 gf] 35))
      have hI7 := hI6.later ((Below.refl _ _).alloc (Nat.le_refl _) (.cells #[.int .i64 0, .int .i64 ((xi : Int) + 1), .int .u32 0, .int .u8 0] 37))
      obtain ⟨lv, q, hq, hlv, hro⟩ := hI7.row
      obtain ⟨la2, lc2, hlv2⟩ := own_form hro
      subst hlv2
      have nb5 : w5.cell? ⟨W.heap.size + 1, 0, none⟩ = some (.slice la2 q lc2) := by
        obtain ⟨lv', q', h1, h2, h3⟩ := hI5.row
        have h4 := (h2.alloc (.cells #[.int .u32 gu, .int .u8 gf] 35)).alloc (.cells #[.int .i64 0, .int .i64 ((xi : Int) + 1), .int .u32 0, .int .u8 0] 37)
        have h5 : some (Obj.cells #[lv'] 24 (0, 0)) = some (Obj.cells #[.slice la2 q lc2] 24 (0, 0)) := h4.symm.trans hlv
        have h6 : lv' = .slice la2 q lc2 := by simpa using h5
        rw [← h6]; exact h2.cell
      have nl5 : W.heap.size + 1 < w5.heap.size := by obtain ⟨_, _, _, h2, _⟩ := hI5.row; exact h2.lt
      have hqN : q ≤ 1000000 := by have := goneN_len l now pre.length; have := HX2.out; omega
      have hbs : W.heap.size + 3 ≤ w5.heap.size + 1 + 1 := by omega
      have HR7 := Lib.hid hro
      have HI7 := Lib.hid hI7
      have HQ7 := Lib.hid hq
      have HX7 := Lib.hid hlv
      clear hb5 C5 n0 e0 e1 hI5 hI6 hI7 hq hlv hro
      gi_wp2_with (gi_at_builtin; refine wpListIn_append_own _ rfl (.tmp 27) (.tmp 31) 24 rfl (W.heap.size + 3) 37 i0 (.agg #[.int .i64 0, .int .i64 0, .int .u32 0, .int .u8 0]) 4 24 Try.underlying24 hi0 hz0 hz1 hz2 rfl (by decide) _ q (cellsK encN (goneN l now pre.length)) rfl HR7.out ⟨w5.heap.size + 1, 0, none⟩ 1 1 [.int .i64 0, .int .i64 ((xi : Int) + 1), .int .u32 0, .int .u8 0] rfl rfl (World.news_of_block (cs := #[.int .i64 0, .int .i64 ((xi : Int) + 1), .int .u32 0, .int .u8 0]) (t := 37) (fr := (0, 0)) (heap_alloc2_new w5 _ _)) (by simp [Value.oneCell']) (by unfold maxLen; omega) (by omega) (by simp; omega) ?_)
      intro v7 w7 ho7 hg7 _
      obtain ⟨a7, c7', hv7⟩ := own_form ho7
      subst hv7
      obtain ⟨p1, p2, p3, p4, _⟩ := DIs.push (n := ⟨0, ((xi + 1 : Nat) : Int), noE⟩) HI7.out.below HI7.out.nb HQ7.out HX7.out HR7.out hg7 ho7
      have P1 := Lib.hid p1
      have P4 := Lib.hid (p4 (bcapOf (W.heap.size + 2) va l) w1.heap.size (fun k hk => by have := HCL.out k hk; omega) (by omega))
      have c7 := p2.cell
      have l7 := p2.lt
      have f7 := p2.frozen
      clear ho7 hg7 p1 p2 p3 p4 nb5
      gi_wp2_with fail
      refine ⟨((HK5.out.trans (Keeps.alloc _ _ _ _ _)).trans (Keeps.alloc _ _ _ _ _)).trans P4.out, ?_⟩
      show DIs W vb (goneN l now (pre ++ [(xi, xe)]).length) _
      rw [List.length_append, List.length_singleton, HG.out]
      exact P1.out
  case done =>
    rintro D xs WT hD hS hI hK
    rw [hsz] at hD
    rw [hS, HN.out] at hI
    have hvb := HVB.out
    subst hvb
    have hex : existsN l now = if freshN l now M then [⟨1, (M : Nat), noE⟩] else [] := by unfold existsN; rw [HM.out]
    have hfr := fresh_last HMY.out
    rw [HM.out] at hfr
    have C1 := CLb.out WT hI.below
    have C2 := CLa.out WT hI.below
    obtain ⟨a, ha⟩ : ∃ a, lastE l = a := ⟨_, rfl⟩
    obtain ⟨b2, hb2⟩ : ∃ b2, lastE now = b2 := ⟨_, rfl⟩
    rw [ha, hb2] at hfr
    rw [hb2] at C1
    rw [ha] at C2
    have C1 := Lib.hid C1
    have C2 := Lib.hid C2
    have n0 := hI.nb.cell
    have HI := Lib.hid hI
    have HK := Lib.hid hK
    have HEX := Lib.hid hex
    have HFR := Lib.hid hfr
    clear ha hb2 hI hK hex hfr hS
    by_cases hab : a < b2
    · have g0 : (a : Int) < b2 := by omega
      have hex := HEX.out
      rw [HFR.out, decide_eq_true hab, if_pos rfl] at hex
      obtain ⟨F, hF⟩ : ∃ F, goneN l now N ++ existsN l now = F := ⟨_, rfl⟩
      rw [hex] at hF
      have hI7 := HI.out.later ((Below.refl _ WT).alloc (Nat.le_refl _) (.cells #[.int .i64 1, .int .i64 (M : Int), .int .u32 0, .int .u8 0] 37))
      obtain ⟨lv, q, hq, hlv, hro⟩ := hI7.row
      obtain ⟨la2, lc2, hlv2⟩ := own_form hro
      subst hlv2
      have nb5 : WT.cell? ⟨W.heap.size + 1, 0, none⟩ = some (.slice la2 q lc2) := by
        obtain ⟨lv', q', h1, h2, h3⟩ := HI.out.row
        have h4 := h2.alloc (.cells #[.int .i64 1, .int .i64 (M : Int), .int .u32 0, .int .u8 0] 37)
        have h5 : some (Obj.cells #[lv'] 24 (0, 0)) = some (Obj.cells #[.slice la2 q lc2] 24 (0, 0)) := h4.symm.trans hlv
        have h6 : lv' = .slice la2 q lc2 := by simpa using h5
        rw [← h6]; exact h2.cell
      have nl5 : W.heap.size + 1 < WT.heap.size := by obtain ⟨_, _, _, h2, _⟩ := HI.out.row; exact h2.lt
      have nl6 : W.heap.size + 3 ≤ WT.heap.size + 1 := by omega
      have hqN : q ≤ 1000000 := by have := goneN_len l now N; omega
      have HR7 := Lib.hid hro
      have HI7 := Lib.hid hI7
      have HQ7 := Lib.hid hq
      have HX7 := Lib.hid hlv
      have HK7 : Hid ((WT.alloc (.cells #[.int .i64 1, .int .i64 (M : Int), .int .u32 0, .int .u8 0] 37)).heap[D]? = some (.deferred (some []))) := by
        show _ = _
        rw [Below.heap_alloc _ _ _ (Array.getElem?_eq_some_iff.1 HK.out).1]; exact HK.out
      have HFF := Lib.hid hF
      clear hI7 hq hlv hro hF hab
      go_wp2_with fail
      refine C1.out.mono ?_
      rintro e w' ⟨rfl, hw⟩
      rw [hw]; clear hw w'
      go_wp2_with fail
      refine C2.out.mono ?_
      rintro e w' ⟨rfl, hw⟩
      rw [hw]; clear hw w'
      go_wp2_with (at_builtin; refine wpList_append_own_at _ rfl (.tmp 38) (.tmp 42) 24 rfl (W.heap.size + 3) 37 i0 (.agg #[.int .i64 0, .int .i64 0, .int .u32 0, .int .u8 0]) 4 24 Try.underlying24 hi0 hz0 hz1 hz2 rfl (by decide) _ q (cellsK encN (goneN l now N)) rfl HR7.out ⟨WT.heap.size, 0, none⟩ 1 1 [.int .i64 1, .int .i64 (M : Int), .int .u32 0, .int .u8 0] rfl rfl (World.news_of_block (cs := #[.int .i64 1, .int .i64 (M : Int), .int .u32 0, .int .u8 0]) (t := 37) (fr := (0, 0)) (heap_alloc_new WT _)) (by simp [Value.oneCell']) (by unfold maxLen; omega) (by omega) (by simp; omega) ?_)
      intro v7 w7 ho7 hg7 _ _
      obtain ⟨a7, c7', hv7⟩ := own_form ho7
      subst hv7
      obtain ⟨p1, p2, p3, _, p5⟩ := DIs.push (n := ⟨1, (M : Nat), noE⟩) HI7.out.below HI7.out.nb HQ7.out HX7.out HR7.out hg7 ho7
      rw [HFF.out] at p1
      have HI9 := Lib.hid p1
      have HK9 := Lib.hid (p5 D HK7.out)
      have n9 := p1.nb.cell
      have c7 := p2.cell
      have l7 := p2.lt
      have f7 := p2.frozen
      have HF : Hid (F = goneN l now N ++ existsN l now) := by show _ = _; rw [hex]; exact HFF.out.symm
      have HFL : Hid (∀ k, (F ++ fetchN l now k).length ≤ N + 1 + k) := fun k => by
        rw [HF.out, List.length_append, List.length_append]
        have := goneN_len l now N
        have := existsN_len l now
        have := fetchN_len l now k
        omega
      clear ho7 hg7 p1 p2 p3 p5 nb5 hex HFF HR7 HI7 HQ7 HX7 HK7 C1 C2 g0 n0
      go_wp2_with fail
      go_loopw [46] (fun kv wr => ∃ k : Nat, k ≤ M ∧ kv = .int .i64 k ∧ Hid (DIs W (.slice na M nc) (F ++ fetchN l now k) wr) ∧ Hid (wr.heap[D]? = some (.deferred (some [])))) (fun kv _ => M - (intOf kv).toNat)
      case atStart => exact ⟨0, Nat.zero_le _, rfl, by show DIs _ _ (F ++ []) _; rw [List.append_nil]; exact HI9.out, HK9.out⟩
      case round =>
        clear HI9 HK9
        obtain ⟨k, hk, rfl, HI, HK⟩ := hrel
        by_cases hlt : k < M
        · have hq5 : (k : Int) < M := by omega
          have hq6 : (0 : Int) ≤ k := by omega
          obtain ⟨r, hr⟩ : ∃ r, now[k]? = some r := ⟨_, List.getElem?_eq_getElem (by have := HM.out; omega)⟩
          obtain ⟨b, off, hna, hbb, c0, c1⟩ := EntRow.at (HW.out.below HI.out.below) hr
          subst hna
          have hG := fetchN_at (l := l) hr
          have hI1 := HI.out.later ((Below.refl _ wr).alloc (Nat.le_refl _) (.cells #[.int .u32 r.uid, .int .u8 r.fl] 35))
          have hE1 := Duo.new wr 35 (.int .u32 r.uid) (.int .u8 r.fl)
          have hK1 : (wr.alloc (.cells #[.int .u32 r.uid, .int .u8 r.fl] 35)).heap[D]? = some (.deferred (some [])) := by
            rw [Below.heap_alloc _ _ _ (Array.getElem?_eq_some_iff.1 HK.out).1]; exact HK.out
          have CF := CL.out r.uid _ hI1.below
          have hkp := keepB_get l r
          have hgu := fun h => getE_uid (l := l) (u := r.uid) h
          obtain ⟨⟨⟨gu, gf⟩, gb⟩, hge⟩ : ∃ ge, getE l r.uid = ge := ⟨_, rfl⟩
          rw [hge] at CF hkp hgu
          dsimp only at CF hkp hgu
          have CF := Lib.hid CF
          have HI1 := Lib.hid hI1
          have HE1 := Lib.hid hE1
          have HK1 := Lib.hid hK1
          have HDG := Lib.hid hG
          have HKP := Lib.hid hkp
          clear hr hG hI1 hE1 hK1 hge hkp
          cases gb with
          | false =>
            have hG := HDG.out
            rw [HKP.out, Bool.false_and, if_neg (by simp)] at hG
            have HG := Lib.hid hG
            clear hG hgu
            go_wp2_with fail
            refine CF.out.mono ?_
            rintro e w5 ⟨rfl, hb5⟩
            have hI5 := HI1.out.later hb5
            obtain ⟨e0, e1, _, _⟩ := (HE1.out.below hb5 HE1.out.lt).cell
            have hEl : wr.heap.size < w5.heap.size := (HE1.out.below hb5 HE1.out.lt).lt
            have HK5 : Hid (w5.heap[D]? = some (.deferred (some []))) := (hb5.block _ (Array.getElem?_eq_some_iff.1 HK1.out).1).trans HK1.out
            have hI6 := hI5.later ((Below.refl _ w5).alloc (Nat.le_refl _) (.cells #[.int .u32 gu, .int .u8 gf] 35))
            clear hb5 c0 c1
            have hI7 := hI6.later ((Below.refl _ _).alloc (Nat.le_refl _) (.cells #[.int .i64 2, .int .i64 ((k : Int) + 1), .int .u32 r.uid, .int .u8 r.fl] 37))
            obtain ⟨lv, q, hq, hlv, hro⟩ := hI7.row
            obtain ⟨la2, lc2, hlv2⟩ := own_form hro
            subst hlv2
            have nb5 : w5.cell? ⟨W.heap.size + 1, 0, none⟩ = some (.slice la2 q lc2) := by
              obtain ⟨lv', q', h1, h2, h3⟩ := hI5.row
              have h4 := (h2.alloc (.cells #[.int .u32 gu, .int .u8 gf] 35)).alloc (.cells #[.int .i64 2, .int .i64 ((k : Int) + 1), .int .u32 r.uid, .int .u8 r.fl] 37)
              have h5 : some (Obj.cells #[lv'] 24 (0, 0)) = some (Obj.cells #[.slice la2 q lc2] 24 (0, 0)) := h4.symm.trans hlv
              have h6 : lv' = .slice la2 q lc2 := by simpa using h5
              rw [← h6]; exact h2.cell
            have nl5 : W.heap.size + 1 < w5.heap.size := by obtain ⟨_, _, _, h2, _⟩ := hI5.row; exact h2.lt
            have hqN : q ≤ 4000000 := by have := HFL.out k; omega
            have hbs : W.heap.size + 3 ≤ w5.heap.size + 1 + 1 := by omega
            have HR7 := Lib.hid hro
            have HI7 := Lib.hid hI7
            have HQ7 := Lib.hid hq
            have HX7 := Lib.hid hlv
            have HK7 : Hid (((w5.alloc (.cells #[.int .u32 gu, .int .u8 gf] 35)).alloc (.cells #[.int .i64 2, .int .i64 ((k : Int) + 1), .int .u32 r.uid, .int .u8 r.fl] 37)).heap[D]? = some (.deferred (some []))) := by
              show _ = _
              rw [Below.heap_alloc _ _ _ (by rw [World.size_alloc]; have := (Array.getElem?_eq_some_iff.1 HK5.out).1; omega), Below.heap_alloc _ _ _ (Array.getElem?_eq_some_iff.1 HK5.out).1]
              exact HK5.out
            clear hI5 hI6 hI7 hq hlv hro HK5
            go_wp2_with (at_builtin; refine wpList_append_own_at _ rfl (.tmp 65) (.tmp 70) 24 rfl (W.heap.size + 3) 37 i0 (.agg #[.int .i64 0, .int .i64 0, .int .u32 0, .int .u8 0]) 4 24 Try.underlying24 hi0 hz0 hz1 hz2 rfl (by decide) _ q (cellsK encN (F ++ fetchN l now k)) rfl HR7.out ⟨w5.heap.size + 1, 0, none⟩ 1 1 [.int .i64 2, .int .i64 ((k : Int) + 1), .int .u32 r.uid, .int .u8 r.fl] rfl rfl (World.news_of_block (cs := #[.int .i64 2, .int .i64 ((k : Int) + 1), .int .u32 r.uid, .int .u8 r.fl]) (t := 37) (fr := (0, 0)) (heap_alloc2_new w5 _ _)) (by simp [Value.oneCell']) (by unfold maxLen; omega) (by omega) (by simp; omega) ?_)
            intro v7 w7 ho7 hg7 _ _
            obtain ⟨a7, c7', hv7⟩ := own_form ho7
            subst hv7
            obtain ⟨p1, p2, p3, _, p5⟩ := DIs.push (n := ⟨2, ((k + 1 : Nat) : Int), r⟩) HI7.out.below HI7.out.nb HQ7.out HX7.out HR7.out hg7 ho7
            have HP : Hid (DIs W (.slice (some ⟨b, off, none⟩) M nc) (F ++ fetchN l now (k + 1)) (w7.setCell ⟨W.heap.size + 1, 0, none⟩ (.slice a7 (q + 1) c7'))) := by
              show DIs _ _ _ _
              rw [HG.out, ← List.append_assoc]; exact p1
            have HK8 := Lib.hid (p5 D HK7.out)
            have c7 := p2.cell
            have l7 := p2.lt
            have f7 := p2.frozen
            clear ho7 hg7 p1 p2 p3 p5 nb5 e0 e1
            go_wp2_with fail
            go_roundw
            case rel => exact ⟨k + 1, by omega, by go_num, HP.out, HK8.out⟩
            case measure => simp [intOf]; omega
          | true =>
            obtain rfl : gu = r.uid := hgu rfl
            clear hgu
            by_cases hff : gf = r.fl
            · have hG := HDG.out
              rw [HKP.out, decide_eq_true hff, if_pos (by simp), List.append_nil] at hG
              have HG := Lib.hid hG
              clear hG
              subst hff
              go_wp2_with fail
              refine CF.out.mono ?_
              rintro e w5 ⟨rfl, hb5⟩
              have hI5 := HI1.out.later hb5
              obtain ⟨e0, e1, _, _⟩ := (HE1.out.below hb5 HE1.out.lt).cell
              have hEl : wr.heap.size < w5.heap.size := (HE1.out.below hb5 HE1.out.lt).lt
              have hK5 : w5.heap[D]? = some (.deferred (some [])) := (hb5.block _ (Array.getElem?_eq_some_iff.1 HK1.out).1).trans HK1.out
              have hI6 := hI5.later ((Below.refl _ w5).alloc (Nat.le_refl _) (.cells #[.int .u32 r.uid, .int .u8 r.fl] 35))
              have HP : Hid (DIs W (.slice (some ⟨b, off, none⟩) M nc) (F ++ fetchN l now (k + 1)) (w5.alloc (.cells #[.int .u32 r.uid, .int .u8 r.fl] 35))) := by show DIs _ _ _ _; rw [HG.out]; exact hI6
              have HK8 : Hid ((w5.alloc (.cells #[.int .u32 r.uid, .int .u8 r.fl] 35)).heap[D]? = some (.deferred (some []))) := by
                show _ = _
                rw [Below.heap_alloc _ _ _ (Array.getElem?_eq_some_iff.1 hK5).1]; exact hK5
              clear hb5 c0 c1 hI5 hI6 hK5
              go_wp2_with fail
              go_roundw
              case rel => exact ⟨k + 1, by omega, by go_num, HP.out, HK8.out⟩
              case measure => simp [intOf]; omega
            · have g1 : ((gf : Int) == (r.fl : Int)) = false := by rw [beq_eq_false_iff_ne]; omega
              have g2 : ((gf : Int) != (r.fl : Int)) = true := by rw [bne_iff_ne]; omega
              have hG := HDG.out
              rw [HKP.out, decide_eq_false hff, if_neg (by simp)] at hG
              have HG := Lib.hid hG
              clear hG hff
              go_wp2_with fail
              refine CF.out.mono ?_
              rintro e w5 ⟨rfl, hb5⟩
              have hI5 := HI1.out.later hb5
              obtain ⟨e0, e1, _, _⟩ := (HE1.out.below hb5 HE1.out.lt).cell
              have hEl : wr.heap.size < w5.heap.size := (HE1.out.below hb5 HE1.out.lt).lt
              have HK5 : Hid (w5.heap[D]? = some (.deferred (some []))) := (hb5.block _ (Array.getElem?_eq_some_iff.1 HK1.out).1).trans HK1.out
              have hI6 := hI5.later ((Below.refl _ w5).alloc (Nat.le_refl _) (.cells #[.int .u32 r.uid, .int .u8 gf] 35))
              clear hb5 c0 c1
              have hI7 := hI6.later ((Below.refl _ _).alloc (Nat.le_refl _) (.cells #[.int .i64 2, .int .i64 ((k : Int) + 1), .int .u32 r.uid, .int .u8 r.fl] 37))
              obtain ⟨lv, q, hq, hlv, hro⟩ := hI7.row
              obtain ⟨la2, lc2, hlv2⟩ := own_form hro
              subst hlv2
              have nb5 : w5.cell? ⟨W.heap.size + 1, 0, none⟩ = some (.slice la2 q lc2) := by
                obtain ⟨lv', q', h1, h2, h3⟩ := hI5.row
                have h4 := (h2.alloc (.cells #[.int .u32 r.uid, .int .u8 gf] 35)).alloc (.cells #[.int .i64 2, .int .i64 ((k : Int) + 1), .int .u32 r.uid, .int .u8 r.fl] 37)
                have h5 : some (Obj.cells #[lv'] 24 (0, 0)) = some (Obj.cells #[.slice la2 q lc2] 24 (0, 0)) := h4.symm.trans hlv
                have h6 : lv' = .slice la2 q lc2 := by simpa using h5
                rw [← h6]; exact h2.cell
              have nl5 : W.heap.size + 1 < w5.heap.size := by obtain ⟨_, _, _, h2, _⟩ := hI5.row; exact h2.lt
              have hqN : q ≤ 4000000 := by have := HFL.out k; omega
              have hbs : W.heap.size + 3 ≤ w5.heap.size + 1 + 1 := by omega
              have HR7 := Lib.hid hro
              have HI7 := Lib.hid hI7
              have HQ7 := Lib.hid hq
              have HX7 := Lib.hid hlv
              have HK7 : Hid (((w5.alloc (.cells #[.int .u32 r.uid, .int .u8 gf] 35)).alloc (.cells #[.int .i64 2, .int .i64 ((k : Int) + 1), .int .u32 r.uid, .int .u8 r.fl] 37)).heap[D]? = some (.deferred (some []))) := by
                show _ = _
                rw [Below.heap_alloc _ _ _ (by rw [World.size_alloc]; have := (Array.getElem?_eq_some_iff.1 HK5.out).1; omega), Below.heap_alloc _ _ _ (Array.getElem?_eq_some_iff.1 HK5.out).1]
                exact HK5.out
              clear hI5 hI6 hI7 hq hlv hro HK5
              go_wp2_with (at_builtin; refine wpList_append_own_at _ rfl (.tmp 65) (.tmp 70) 24 rfl (W.heap.size + 3) 37 i0 (.agg #[.int .i64 0, .int .i64 0, .int .u32 0, .int .u8 0]) 4 24 Try.underlying24 hi0 hz0 hz1 hz2 rfl (by decide) _ q (cellsK encN (F ++ fetchN l now k)) rfl HR7.out ⟨w5.heap.size + 1, 0, none⟩ 1 1 [.int .i64 2, .int .i64 ((k : Int) + 1), .int .u32 r.uid, .int .u8 r.fl] rfl rfl (World.news_of_block (cs := #[.int .i64 2, .int .i64 ((k : Int) + 1), .int .u32 r.uid, .int .u8 r.fl]) (t := 37) (fr := (0, 0)) (heap_alloc2_new w5 _ _)) (by simp [Value.oneCell']) (by unfold maxLen; omega) (by omega) (by simp; omega) ?_)
              intro v7 w7 ho7 hg7 _ _
              obtain ⟨a7, c7', hv7⟩ := own_form ho7
              subst hv7
              obtain ⟨p1, p2, p3, _, p5⟩ := DIs.push (n := ⟨2, ((k + 1 : Nat) : Int), r⟩) HI7.out.below HI7.out.nb HQ7.out HX7.out HR7.out hg7 ho7
              have HP : Hid (DIs W (.slice (some ⟨b, off, none⟩) M nc) (F ++ fetchN l now (k + 1)) (w7.setCell ⟨W.heap.size + 1, 0, none⟩ (.slice a7 (q + 1) c7'))) := by
                show DIs _ _ _ _
                rw [HG.out, ← List.append_assoc]; exact p1
              have HK8 := Lib.hid (p5 D HK7.out)
              have c7 := p2.cell
              have l7 := p2.lt
              have f7 := p2.frozen
              clear ho7 hg7 p1 p2 p3 p5 nb5 e0 e1
              go_wp2_with fail
              go_roundw
              case rel => exact ⟨k + 1, by omega, by go_num, HP.out, HK8.out⟩
              case measure => simp [intOf]; omega
        · obtain rfl : k = M := by omega
          have hq5 : ¬ (k : Int) < k := by omega
          have hfin : F ++ fetchN l now k = diffL l now := by unfold diffL; rw [HN.out, HM.out, ← HF.out]
          obtain ⟨lv, q, hq, hlv, hro⟩ := HI.out.row
          have nb := hlv.cell
          have HRO := Lib.hid hro
          have HQ := Lib.hid hq
          have HFIN := Lib.hid hfin
          obtain ⟨la2, lc2, hlv2⟩ := own_form hro
          subst hlv2
          clear hfin hq hlv hro
          go_wp2_with fail
          have hK' := HK.out
          refine ⟨by simp, .inl ⟨_, _, rfl, run_takeDeferred hK', ?_⟩⟩
          refine ⟨.slice la2 q lc2, by simp [results, Try.f8, go_sem], _, rfl, ?_, HI.out.below.trans (belowK_b (w := W) (Nat.le_refl _) _ D _ _ (by omega) hK' rfl rfl)⟩
          have h := HRO.out
          have h2 := HQ.out
          rw [HFIN.out] at h h2
          rw [h2]
          exact own_base (own_heapK h fun k hk => World.putObj_heap_other (fun e => by
            obtain ⟨c, fz, h3⟩ := own_rowK h k hk
            rw [e, hK'] at h3; cases h3)) (by omega)
    · have g0 : ¬ (a : Int) < b2 := by omega
      have g1 : decide ((a : Int) < (b2 : Int)) = false := decide_eq_false g0
      have g2 : decide (a < b2) = false := decide_eq_false hab
      have hex := HEX.out
      rw [HFR.out, decide_eq_false hab] at hex
      obtain ⟨F, hF⟩ : ∃ F, F = goneN l now N ++ existsN l now := ⟨_, rfl⟩
      have hFG : F = goneN l now N := by rw [hF, hex]; simp
      have hI9 := HI.out
      rw [← hFG] at hI9
      have HI9 := Lib.hid hI9
      have HK9 := HK
      have HF := Lib.hid hF
      have HFL : Hid (∀ k, (F ++ fetchN l now k).length ≤ N + 1 + k) := fun k => by
        rw [HF.out, List.length_append, List.length_append]
        have := goneN_len l now N
        have := existsN_len l now
        have := fetchN_len l now k
        omega
      clear hab hex hF hFG hI9
      go_wp2_with fail
      refine C1.out.mono ?_
      rintro e w' ⟨rfl, hw⟩
      rw [hw]; clear hw w'
      go_wp2_with fail
      refine C2.out.mono ?_
      rintro e w' ⟨rfl, hw⟩
      rw [hw]; clear hw w'
      clear C1 C2 HI HK
      go_wp2_with fail
      clear n0 g0 g1 g2
      go_loopw [46] (fun kv wr => ∃ k : Nat, k ≤ M ∧ kv = .int .i64 k ∧ Hid (DIs W (.slice na M nc) (F ++ fetchN l now k) wr) ∧ Hid (wr.heap[D]? = some (.deferred (some [])))) (fun kv _ => M - (intOf kv).toNat)
      case atStart => exact ⟨0, Nat.zero_le _, rfl, by show DIs _ _ (F ++ []) _; rw [List.append_nil]; exact HI9.out, HK9.out⟩
      case round =>
        clear HI9 HK9
        obtain ⟨k, hk, rfl, HI, HK⟩ := hrel
        by_cases hlt : k < M
        · have hq5 : (k : Int) < M := by omega
          have hq6 : (0 : Int) ≤ k := by omega
          obtain ⟨r, hr⟩ : ∃ r, now[k]? = some r := ⟨_, List.getElem?_eq_getElem (by have := HM.out; omega)⟩
          obtain ⟨b, off, hna, hbb, c0, c1⟩ := EntRow.at (HW.out.below HI.out.below) hr
          subst hna
          have hG := fetchN_at (l := l) hr
          have hI1 := HI.out.later ((Below.refl _ wr).alloc (Nat.le_refl _) (.cells #[.int .u32 r.uid, .int .u8 r.fl] 35))
          have hE1 := Duo.new wr 35 (.int .u32 r.uid) (.int .u8 r.fl)
          have hK1 : (wr.alloc (.cells #[.int .u32 r.uid, .int .u8 r.fl] 35)).heap[D]? = some (.deferred (some [])) := by
            rw [Below.heap_alloc _ _ _ (Array.getElem?_eq_some_iff.1 HK.out).1]; exact HK.out
          have CF := CL.out r.uid _ hI1.below
          have hkp := keepB_get l r
          have hgu := fun h => getE_uid (l := l) (u := r.uid) h
          obtain ⟨⟨⟨gu, gf⟩, gb⟩, hge⟩ : ∃ ge, getE l r.uid = ge := ⟨_, rfl⟩
          rw [hge] at CF hkp hgu
          dsimp only at CF hkp hgu
          have CF := Lib.hid CF
          have HI1 := Lib.hid hI1
          have HE1 := Lib.hid hE1
          have HK1 := Lib.hid hK1
          have HDG := Lib.hid hG
          have HKP := Lib.hid hkp
          clear hr hG hI1 hE1 hK1 hge hkp
          cases gb with
          | false =>
            have hG := HDG.out
            rw [HKP.out, Bool.false_and, if_neg (by simp)] at hG
            have HG := Lib.hid hG
            clear hG hgu
            go_wp2_with fail
            refine CF.out.mono ?_
            rintro e w5 ⟨rfl, hb5⟩
            have hI5 := HI1.out.later hb5
            obtain ⟨e0, e1, _, _⟩ := (HE1.out.below hb5 HE1.out.lt).cell
            have hEl : wr.heap.size < w5.heap.size := (HE1.out.below hb5 HE1.out.lt).lt
            have HK5 : Hid (w5.heap[D]? = some (.deferred (some []))) := (hb5.block _ (Array.getElem?_eq_some_iff.1 HK1.out).1).trans HK1.out
            have hI6 := hI5.later ((Below.refl _ w5).alloc (Nat.le_refl _) (.cells #[.int .u32 gu, .int .u8 gf] 35))
            clear hb5 c0 c1
            have hI7 := hI6.later ((Below.refl _ _).alloc (Nat.le_refl _) (.cells #[.int .i64 2, .int .i64 ((k : Int) + 1), .int .u32 r.uid, .int .u8 r.fl] 37))
            obtain ⟨lv, q, hq, hlv, hro⟩ := hI7.row
            obtain ⟨la2, lc2, hlv2⟩ := own_form hro
            subst hlv2
            have nb5 : w5.cell? ⟨W.heap.size + 1, 0, none⟩ = some (.slice la2 q lc2) := by
              obtain ⟨lv', q', h1, h2, h3⟩ := hI5.row
              have h4 := (h2.alloc (.cells #[.int .u32 gu, .int .u8 gf] 35)).alloc (.cells #[.int .i64 2, .int .i64 ((k : Int) + 1), .int .u32 r.uid, .int .u8 r.fl] 37)
              have h5 : some (Obj.cells #[lv'] 24 (0, 0)) = some (Obj.cells #[.slice la2 q lc2] 24 (0, 0)) := h4.symm.trans hlv
              have h6 : lv' = .slice la2 q lc2 := by simpa using h5
              rw [← h6]; exact h2.cell
            have nl5 : W.heap.size + 1 < w5.heap.size := by obtain ⟨_, _, _, h2, _⟩ := hI5.row; exact h2.lt
            have hqN : q ≤ 4000000 := by have := HFL.out k; omega
            have hbs : W.heap.size + 3 ≤ w5.heap.size + 1 + 1 := by omega
            have HR7 := Lib.hid hro
            have HI7 := Lib.hid hI7
            have HQ7 := Lib.hid hq
            have HX7 := Lib.hid hlv
            have HK7 : Hid (((w5.alloc (.cells #[.int .u32 gu, .int .u8 gf] 35)).alloc (.cells #[.int .i64 2, .int .i64 ((k : Int) + 1), .int .u32 r.uid, .int .u8 r.fl] 37)).heap[D]? = some (.deferred (some []))) := by
              show _ = _
              rw [Below.heap_alloc _ _ _ (by rw [World.size_alloc]; have := (Array.getElem?_eq_some_iff.1 HK5.out).1; omega), Below.heap_alloc _ _ _ (Array.getElem?_eq_some_iff.1 HK5.out).1]
              exact HK5.out
            clear hI5 hI6 hI7 hq hlv hro HK5
            go_wp2_with (at_builtin; refine wpList_append_own_at _ rfl (.tmp 65) (.tmp 70) 24 rfl (W.heap.size + 3) 37 i0 (.agg #[.int .i64 0, .int .i64 0, .int .u32 0, .int .u8 0]) 4 24 Try.underlying24 hi0 hz0 hz1 hz2 rfl (by decide) _ q (cellsK encN (F ++ fetchN l now k)) rfl HR7.out ⟨w5.heap.size + 1, 0, none⟩ 1 1 [.int .i64 2, .int .i64 ((k : Int) + 1), .int .u32 r.uid, .int .u8 r.fl] rfl rfl (World.news_of_block (cs := #[.int .i64 2, .int .i64 ((k : Int) + 1), .int .u32 r.uid, .int .u8 r.fl]) (t := 37) (fr := (0, 0)) (heap_alloc2_new w5 _ _)) (by simp [Value.oneCell']) (by unfold maxLen; omega) (by omega) (by simp; omega) ?_)
            intro v7 w7 ho7 hg7 _ _
            obtain ⟨a7, c7', hv7⟩ := own_form ho7
            subst hv7
            obtain ⟨p1, p2, p3, _, p5⟩ := DIs.push (n := ⟨2, ((k + 1 : Nat) : Int), r⟩) HI7.out.below HI7.out.nb HQ7.out HX7.out HR7.out hg7 ho7
            have HP : Hid (DIs W (.slice (some ⟨b, off, none⟩) M nc) (F ++ fetchN l now (k + 1)) (w7.setCell ⟨W.heap.size + 1, 0, none⟩ (.slice a7 (q + 1) c7'))) := by
              show DIs _ _ _ _
              rw [HG.out, ← List.append_assoc]; exact p1
            have HK8 := Lib.hid (p5 D HK7.out)
            have c7 := p2.cell
            have l7 := p2.lt
            have f7 := p2.frozen
            clear ho7 hg7 p1 p2 p3 p5 nb5 e0 e1
            go_wp2_with fail
            go_roundw
            case rel => exact ⟨k + 1, by omega, by go_num, HP.out, HK8.out⟩
            case measure => simp [intOf]; omega
          | true =>
            obtain rfl : gu = r.uid := hgu rfl
            clear hgu
            by_cases hff : gf = r.fl
            · have hG := HDG.out
              rw [HKP.out, decide_eq_true hff, if_pos (by simp), List.append_nil] at hG
              have HG := Lib.hid hG
              clear hG
              subst hff
              go_wp2_with fail
              refine CF.out.mono ?_
              rintro e w5 ⟨rfl, hb5⟩
              have hI5 := HI1.out.later hb5
              obtain ⟨e0, e1, _, _⟩ := (HE1.out.below hb5 HE1.out.lt).cell
              have hEl : wr.heap.size < w5.heap.size := (HE1.out.below hb5 HE1.out.lt).lt
              have hK5 : w5.heap[D]? = some (.deferred (some [])) := (hb5.block _ (Array.getElem?_eq_some_iff.1 HK1.out).1).trans HK1.out
              have hI6 := hI5.later ((Below.refl _ w5).alloc (Nat.le_refl _) (.cells #[.int .u32 r.uid, .int .u8 r.fl] 35))
              have HP : Hid (DIs W (.slice (some ⟨b, off, none⟩) M nc) (F ++ fetchN l now (k + 1)) (w5.alloc (.cells #[.int .u32 r.uid, .int .u8 r.fl] 35))) := by show DIs _ _ _ _; rw [HG.out]; exact hI6
              have HK8 : Hid ((w5.alloc (.cells #[.int .u32 r.uid, .int .u8 r.fl] 35)).heap[D]? = some (.deferred (some []))) := by
                show _ = _
                rw [Below.heap_alloc _ _ _ (Array.getElem?_eq_some_iff.1 hK5).1]; exact hK5
              clear hb5 c0 c1 hI5 hI6 hK5
              go_wp2_with fail
              go_roundw
              case rel => exact ⟨k + 1, by omega, by go_num, HP.out, HK8.out⟩
              case measure => simp [intOf]; omega
            · have g1 : ((gf : Int) == (r.fl : Int)) = false := by rw [beq_eq_false_iff_ne]; omega
              have g2 : ((gf : Int) != (r.fl : Int)) = true := by rw [bne_iff_ne]; omega
              have hG := HDG.out
              rw [HKP.out, decide_eq_false hff, if_neg (by simp)] at hG
              have HG := Lib.hid hG
              clear hG hff
              go_wp2_with fail
              refine CF.out.mono ?_
              rintro e w5 ⟨rfl, hb5⟩
              have hI5 := HI1.out.later hb5
              obtain ⟨e0, e1, _, _⟩ := (HE1.out.below hb5 HE1.out.lt).cell
              have hEl : wr.heap.size < w5.heap.size := (HE1.out.below hb5 HE1.out.lt).lt
              have HK5 : Hid (w5.heap[D]? = some (.deferred (some []))) := (hb5.block _ (Array.getElem?_eq_some_iff.1 HK1.out).1).trans HK1.out
              have hI6 := hI5.later ((Below.refl _ w5).alloc (Nat.le_refl _) (.cells #[.int .u32 r.uid, .int .u8 gf] 35))
              clear hb5 c0 c1
              have hI7 := hI6.later ((Below.refl _ _).alloc (Nat.le_refl _) (.cells #[.int .i64 2, .int .i64 ((k : Int) + 1), .int .u32 r.uid, .int .u8 r.fl] 37))
              obtain ⟨lv, q, hq, hlv, hro⟩ := hI7.row
              obtain ⟨la2, lc2, hlv2⟩ := own_form hro
              subst hlv2
              have nb5 : w5.cell? ⟨W.heap.size + 1, 0, none⟩ = some (.slice la2 q lc2) := by
                obtain ⟨lv', q', h1, h2, h3⟩ := hI5.row
                have h4 := (h2.alloc (.cells #[.int .u32 r.uid, .int .u8 gf] 35)).alloc (.cells #[.int .i64 2, .int .i64 ((k : Int) + 1), .int .u32 r.uid, .int .u8 r.fl] 37)
                have h5 : some (Obj.cells #[lv'] 24 (0, 0)) = some (Obj.cells #[.slice la2 q lc2] 24 (0, 0)) := h4.symm.trans hlv
                have h6 : lv' = .slice la2 q lc2 := by simpa using h5
                rw [← h6]; exact h2.cell
              have nl5 : W.heap.size + 1 < w5.heap.size := by obtain ⟨_, _, _, h2, _⟩ := hI5.row; exact h2.lt
              have hqN : q ≤ 4000000 := by have := HFL.out k; omega
              have hbs : W.heap.size + 3 ≤ w5.heap.size + 1 + 1 := by omega
              have HR7 := Lib.hid hro
              have HI7 := Lib.hid hI7
              have HQ7 := Lib.hid hq
              have HX7 := Lib.hid hlv
              have HK7 : Hid (((w5.alloc (.cells #[.int .u32 r.uid, .int .u8 gf] 35)).alloc (.cells #[.int .i64 2, .int .i64 ((k : Int) + 1), .int .u32 r.uid, .int .u8 r.fl] 37)).heap[D]? = some (.deferred (some []))) := by
                show _ = _
                rw [Below.heap_alloc _ _ _ (by rw [World.size_alloc]; have := (Array.getElem?_eq_some_iff.1 HK5.out).1; omega), Below.heap_alloc _ _ _ (Array.getElem?_eq_some_iff.1 HK5.out).1]
                exact HK5.out
              clear hI5 hI6 hI7 hq hlv hro HK5
              go_wp2_with (at_builtin; refine wpList_append_own_at _ rfl (.tmp 65) (.tmp 70) 24 rfl (W.heap.size + 3) 37 i0 (.agg #[.int .i64 0, .int .i64 0, .int .u32 0, .int .u8 0]) 4 24 Try.underlying24 hi0 hz0 hz1 hz2 rfl (by decide) _ q (cellsK encN (F ++ fetchN l now k)) rfl HR7.out ⟨w5.heap.size + 1, 0, none⟩ 1 1 [.int .i64 2, .int .i64 ((k : Int) + 1), .int .u32 r.uid, .int .u8 r.fl] rfl rfl (World.news_of_block (cs := #[.int .i64 2, .int .i64 ((k : Int) + 1), .int .u32 r.uid, .int .u8 r.fl]) (t := 37) (fr := (0, 0)) (heap_alloc2_new w5 _ _)) (by simp [Value.oneCell']) (by unfold maxLen; omega) (by omega) (by simp; omega) ?_)
              intro v7 w7 ho7 hg7 _ _
              obtain ⟨a7, c7', hv7⟩ := own_form ho7
              subst hv7
              obtain ⟨p1, p2, p3, _, p5⟩ := DIs.push (n := ⟨2, ((k + 1 : Nat) : Int), r⟩) HI7.out.below HI7.out.nb HQ7.out HX7.out HR7.out hg7 ho7
              have HP : Hid (DIs W (.slice (some ⟨b, off, none⟩) M nc) (F ++ fetchN l now (k + 1)) (w7.setCell ⟨W.heap.size + 1, 0, none⟩ (.slice a7 (q + 1) c7'))) := by
                show DIs _ _ _ _
                rw [HG.out, ← List.append_assoc]; exact p1
              have HK8 := Lib.hid (p5 D HK7.out)
              have c7 := p2.cell
              have l7 := p2.lt
              have f7 := p2.frozen
              clear ho7 hg7 p1 p2 p3 p5 nb5 e0 e1
              go_wp2_with fail
              go_roundw
              case rel => exact ⟨k + 1, by omega, by go_num, HP.out, HK8.out⟩
              case measure => simp [intOf]; omega
        · obtain rfl : k = M := by omega
          have hq5 : ¬ (k : Int) < k := by omega
          have hfin : F ++ fetchN l now k = diffL l now := by unfold diffL; rw [HN.out, HM.out, ← HF.out]
          obtain ⟨lv, q, hq, hlv, hro⟩ := HI.out.row
          have nb := hlv.cell
          have HRO := Lib.hid hro
          have HQ := Lib.hid hq
          have HFIN := Lib.hid hfin
          obtain ⟨la2, lc2, hlv2⟩ := own_form hro
          subst hlv2
          clear hfin hq hlv hro
          go_wp2_with fail
          have hK' := HK.out
          refine ⟨by simp, .inl ⟨_, _, rfl, run_takeDeferred hK', ?_⟩⟩
          refine ⟨.slice la2 q lc2, by simp [results, Try.f8, go_sem], _, rfl, ?_, HI.out.below.trans (belowK_b (w := W) (Nat.le_refl _) _ D _ _ (by omega) hK' rfl rfl)⟩
          have h := HRO.out
          have h2 := HQ.out
          rw [HFIN.out] at h h2
          rw [h2]
          exact own_base (own_heapK h fun k hk => World.putObj_heap_other (fun e => by
            obtain ⟨c, fz, h3⟩ := own_rowK h k hk
            rw [e, hK'] at h3; cases h3)) (by omega)
  case stop =>
    rintro D c pre WT hD hS h hK
    exact h.elim
end Go.Proofs.Ytebkpejiloabnaa

/-
  The chapter's example of epoch.
-/
import Derived.Test.YtefmojohabdjcaaEpA2
import Derived.Test.YtefmojohabdjcaaLimbo2
set_option linter.unusedVariables false
set_option linter.unusedSimpArgs false
namespace Go.Proofs.Ytefmojohabdjcaa
open Go Go.RowKit

theorem EpAt.keepL {p : EP} {s : ES} {W W' : World} {B : Nat} {v : Value} {l : List (Nat × Int)} {F' : Nat → Prop} (h : EpAt p s W) (hL : LimAt W B v l) (hv : Moved (fL B v) F' W W') : EpAt p s W' :=
  h.later fun k hk => hv.same k (h.lt hk) fun hf => by
    rcases hf with rfl | hf
    · exact h.notE hL.bx (by decide) (by decide) (by decide) hk
    · obtain ⟨c, hc⟩ := own_cells hL.ow hf
      exact h.notE hc (by decide) (by decide) (by decide) hk
theorem LimAt.keepE {p : EP} {s : ES} {W W' : World} {B : Nat} {v : Value} {l : List (Nat × Int)} {F' : Nat → Prop} (hL : LimAt W B v l) (h : EpAt p s W) (hv : Moved (fE p) F' W W') : LimAt W' B v l :=
  hL.later fun k hk => hv.same k (hL.lt hk) fun hf => by
    rcases hk with rfl | hk
    · exact h.notE hL.bx (by decide) (by decide) (by decide) hf
    · obtain ⟨c, hc⟩ := own_cells hL.ow hk
      exact h.notE hc (by decide) (by decide) (by decide) hf
theorem moved_ge {F F' : Nat → Prop} {A A' : World} {D : Nat} (h : Moved F F' A A') (hF : ∀ k, F k → D ≤ k) (hD : D ≤ A.heap.size) : ∀ k, F' k → D ≤ k := fun k hk => by
  by_cases hlt : k < A.heap.size
  · exact hF k (h.old k hlt hk)
  · omega
theorem own7 (W : World) (B : Nat) (hB : B < W.heap.size) (v' : Value) (w' : World) (hv : Moved (fL B (.slice none 0 0)) (fL B v') (W.alloc (.cells #[.int .i64 7] 3)) w') : RowAt w' (.slice (some ⟨W.heap.size, 0, none⟩) 1 1) (intsV [7]) := by
  have hb := Boxed.new W 3 (.int .i64 7)
  have h1 := (hv.keep hb (by
    rintro (h | h)
    · omega
    · cases h)).1
  refine .inr ⟨_, 1, rfl, fun j u hj => ?_⟩
  obtain rfl : j = 0 := by have := (List.getElem?_eq_some_iff.1 hj).1; simp [intsV] at this; omega
  simp [intsV] at hj
  subst hj
  exact ⟨W.heap.size, 0, rfl, (Array.getElem?_eq_some_iff.1 h1).1, Boxed.cell h1⟩
set_option maxRecDepth 20000 in
set_option maxHeartbeats 2000000 in
theorem awake6_c (W : World) : Calls Try.prog 10 #[] W fun e w' => e = .returned (.bool true) ∧ Below W.heap.size W w' := by
  have C1 := made_c 1 (by omega) (by omega) W
  have n0 : ((0 : Nat) : Int) = 0 := rfl
  have n1 : ((1 : Nat) : Int) = 1 := rfl
  have n2 : ((2 : Nat) : Int) = 2 := rfl
  rw [n1] at C1
  have HC1 := Lib.hid C1
  clear C1
  have N0 := Lib.hid n0
  have N1 := Lib.hid n1
  have N2 := Lib.hid n2
  clear n0 n1 n2
  go_enter Try.func10, Try.ntmps10
  go_wp2_with fail
  refine HC1.out.mono ?_
  rintro e w1 ⟨p, s, rfl, hR, hE, hF, hB, hk⟩
  have CP := pin_c hE 0 (by omega)
  rw [N0.out] at CP
  have HCP := Lib.hid CP
  have HE := Lib.hid hE
  have HS := Lib.hid (Stil.new hF)
  have HT : Hid (s.t ≤ 2) := by show s.t ≤ 2; rw [hF.t]; omega
  have HR := Lib.hid hR
  have HB := Lib.hid hB
  have HK := Lib.hid hk
  clear CP hE hF hR hB hk HC1
  unfold pE at HCP ⊢
  go_wp2_with fail
  refine HCP.out.mono ?_
  rintro e w2 ⟨A, b, rfl, hA0, hb0, hA, hpb, hb⟩
  have CA := Lib.hid (alonePin_c HE.out HS.out (by have := HT.out; omega) 0 (by rw [HR.out]; omega) A b hA0 hb0 hA hpb hb)
  clear hA0 hb0 hA hpb hb HCP
  unfold pa at CA ⊢
  go_wp2_with fail
  refine CA.out.mono ?_
  rintro e w3 ⟨rfl, s3, hE3, hS3, ht3, hm3⟩
  have HB3 : Hid (Below W.heap.size W w3) := HB.out.trans (hm3.toBelow HB.out.size HK.out)
  have HT3 : Hid (s3.t ≤ 14) := by have := HT.out; show s3.t ≤ 14; omega
  obtain ⟨B, hBs⟩ : ∃ B, w3.heap.size = B := ⟨_, rfl⟩
  have hbA := LimAt.new w3
  rw [hBs] at hbA
  have hb4 : Below w3.heap.size w3 (w3.alloc (.cells #[.slice none 0 0] 41)) := (Below.refl _ _).alloc (Nat.le_refl _) _
  have hb5 : Below (w3.alloc (.cells #[.slice none 0 0] 41)).heap.size (w3.alloc (.cells #[.slice none 0 0] 41)) ((w3.alloc (.cells #[.slice none 0 0] 41)).alloc (.cells #[.int .i64 7] 3)) := (Below.refl _ _).alloc (Nat.le_refl _) _
  have hE4 := (hE3.below hb4).below hb5
  have hL4 := hbA.below hb5
  have hrow := own7 (w3.alloc (.cells #[.slice none 0 0] 41)) B (by rw [World.size_alloc]; omega)
  rw [World.size_alloc, hBs] at hrow
  have CL := lAdd_c hL4 0 [7] _ (by simp) (fun w' v' hv => hrow v' w' hv)
  rw [N0.out] at CL
  have HCL := Lib.hid CL
  have HE4 := Lib.hid hE4
  have HL4 := Lib.hid hL4
  have HS3 := Lib.hid hS3
  have HB4 : Hid (Below W.heap.size W ((w3.alloc (.cells #[.slice none 0 0] 41)).alloc (.cells #[.int .i64 7] 3))) := (HB3.out.alloc HB3.out.size _).alloc (by have := HB3.out.size; simp; omega) _
  have HBs := Lib.hid hBs
  have HBD : Hid (W.heap.size ≤ B) := by have := HB3.out.size; show _ ≤ _; omega
  clear hE3 hS3 ht3 hm3 hbA hb4 hb5 hE4 hL4 hrow CL CA
  unfold pLm at HCL
  go_wp2_with fail
  simp only [HBs.out] at *
  refine HCL.out.mono ?_
  rintro e w5 ⟨⟨u, rfl⟩, v5, hL5, hm5⟩
  have hE5 := HE4.out.keepL HL4.out hm5
  have HB5 : Hid (Below W.heap.size W w5) := HB4.out.trans (hm5.toBelow HB4.out.size (fun k hk => by
    rcases hk with rfl | hk
    · exact HBD.out
    · cases hk))
  have CM := Lib.hid (moved_yes hE5 HS3.out (by have := HT3.out; omega) (fun i hi => by
    rw [HR.out] at hi
    obtain rfl : i = 0 := by omega
    exact .inr (put1_same _ _ _)))
  have HE5 := Lib.hid hE5
  have hL5' : LimAt w5 B v5 [(0, 7)] := hL5
  have HL5 := Lib.hid hL5'
  have HV5 := Lib.hid (moved_ge hm5 (D := W.heap.size) (fun k hk => by
    rcases hk with rfl | hk
    · exact HBD.out
    · cases hk) HB4.out.size)
  clear hL5 hL5' hm5 hE5 HCL
  unfold pE at CM
  go_wp2_with fail
  refine CM.out.mono ?_
  rintro e w6 ⟨rfl, s6, hE6, hS6, ht6, hm6⟩
  have HB6 : Hid (Below W.heap.size W w6) := HB5.out.trans (hm6.toBelow HB5.out.size HK.out)
  have HL6 := Lib.hid (HL5.out.keepE HE5.out hm6)
  have HT6 : Hid (s6.t ≤ 26) := by have := HT3.out; show s6.t ≤ 26; omega
  have HE6 := Lib.hid hE6
  have HS6 := Lib.hid hS6
  have CM2 := Lib.hid (moved_no hE6 hS6 (by have := HT6.out; omega) 0 (by rw [HR.out]; omega) (by rw [put1_same]; exact ⟨by simp, by simp⟩))
  clear hE6 hS6 ht6 hm6 CM
  unfold pE at CM2
  go_wp2_with fail
  refine CM2.out.mono ?_
  rintro e w7 ⟨rfl, s7, hE7, hS7, ht7, hm7⟩
  have HB7 : Hid (Below W.heap.size W w7) := HB6.out.trans (hm7.toBelow HB6.out.size HK.out)
  have HL7 := Lib.hid (HL6.out.keepE HE6.out hm7)
  have HT7 : Hid (s7.t ≤ 38) := by have := HT6.out; show s7.t ≤ 38; omega
  have HE7 := Lib.hid hE7
  have HS7 := Lib.hid hS7
  have CLen := Lib.hid (lLen_c HL7.out)
  have CN := now_c hE7
  rw [hS7.nw] at CN
  have HCN := Lib.hid CN
  have CR := lReady_c HL7.out 1 (by omega) (by simp) (by simp)
  rw [N1.out] at CR
  have HCR := Lib.hid CR
  clear hE7 hS7 ht7 hm7 CM2 CN CR
  unfold pLm at CLen HCR
  unfold pE at HCN
  go_wp2_with (first | (go_at_call 12; refine CLen.out.mono ?_; rintro e w' ⟨rfl, hw⟩; rw [hw]; clear hw w') | (go_at_call 21; refine HCN.out.mono ?_; rintro e w' ⟨rfl, hw⟩; rw [hw]; clear hw w'))
  refine HCR.out.mono ?_
  rintro e w8 ⟨rv, v8, rfl, ho8, hL8, hv8, hm8⟩
  have hr8 : readyOf 1 [(0, (7 : Int))] = [] := by decide
  have hl8 : leftOf 1 [(0, (7 : Int))] = [(0, 7)] := by decide
  rw [hr8] at ho8
  rw [hl8] at hL8
  obtain ⟨ra, rc, hrv⟩ := own_form ho8
  have hrv2 : rv = .slice ra 0 rc := hrv
  have HB8 : Hid (Below W.heap.size W w8) := HB7.out.trans (hm8.toBelow HB7.out.size HV5.out)
  have HV8 := Lib.hid (moved_ge hm8 HV5.out HB7.out.size)
  have hE8 := HE7.out.keepL HL7.out hm8
  have HL8 := Lib.hid hL8
  have HE8 := Lib.hid hE8
  have CU := unpin_c hE8 0 (by rw [HR.out]; omega)
  rw [N0.out] at CU
  have HCU := Lib.hid CU
  subst hrv2
  clear ho8 hL8 hv8 hm8 hrv hr8 hl8 hE8 CU HCR CLen HCN
  unfold pE at HCU
  go_wp2_with fail
  refine HCU.out.mono ?_
  rintro e w9 ⟨A9, b9, rfl, hA0, hb0, hA, hpb, hb⟩
  have CA := Lib.hid (aloneUnpin_c HE8.out HS7.out (by have := HT7.out; omega) 0 (by rw [HR.out]; omega) A9 b9 hA0 hb0 hA hpb hb)
  clear hA0 hb0 hA hpb hb HCU
  unfold pa at CA
  go_wp2_with fail
  refine CA.out.mono ?_
  rintro e w10 ⟨rfl, s10, hE10, hS10, ht10, hm10⟩
  have HB10 : Hid (Below W.heap.size W w10) := HB8.out.trans (hm10.toBelow HB8.out.size HK.out)
  have HL10 := Lib.hid (HL8.out.keepE HE8.out hm10)
  have HT10 : Hid (s10.t ≤ 50) := by have := HT7.out; show s10.t ≤ 50; omega
  have HE10 := Lib.hid hE10
  have CM3 := Lib.hid (moved_yes hE10 hS10 (by have := HT10.out; omega) (fun i hi => by
    rw [HR.out] at hi
    obtain rfl : i = 0 := by omega
    exact .inl (put1_same _ _ _)))
  clear hE10 hS10 ht10 hm10 CA
  unfold pE at CM3
  go_wp2_with fail
  refine CM3.out.mono ?_
  rintro e w11 ⟨rfl, s11, hE11, hS11, ht11, hm11⟩
  have HB11 : Hid (Below W.heap.size W w11) := HB10.out.trans (hm11.toBelow HB10.out.size HK.out)
  have HL11 := Lib.hid (HL10.out.keepE HE10.out hm11)
  have h2 : s11.now = 2 := hS11.nw
  have HE11 := Lib.hid hE11
  have CN := now_c hE11
  rw [h2, N2.out] at CN
  have HCN := Lib.hid CN
  have CR := lReady_c HL11.out 2 (by omega) (by simp) (by simp)
  rw [N2.out] at CR
  have HCR := Lib.hid CR
  have H2 := Lib.hid h2
  clear hE11 hS11 ht11 hm11 h2 CN CR CM3
  unfold pLm at HCR
  unfold pE at HCN
  go_wp2_with (go_at_call 21; refine HCN.out.mono ?_; rintro e w' ⟨rfl, hw⟩; rw [hw]; clear hw w')
  refine HCR.out.mono ?_
  rintro e w12 ⟨rv, v12, rfl, ho12, hL12, hv12, hm12⟩
  have hr12 : readyOf 2 [(0, (7 : Int))] = [7] := by decide
  rw [hr12] at ho12
  have ho : w12.ownsRow w11.heap.size 3 1 rv 1 [.int .i64 7] := ho12
  have hE12 := HE11.out.keepL HL11.out hm12
  have CN := now_c hE12
  rw [H2.out, N2.out] at CN
  have HCN2 := Lib.hid CN
  have HB12 : Hid (Below W.heap.size W w12) := HB11.out.trans (hm12.toBelow HB11.out.size HV8.out)
  rcases ho.2 with ⟨_, hx⟩ | ⟨g, cap, cur, hg, _⟩
  · simp at hx
  · subst hg
    have k0 : w12.cell? ⟨g, 0, none⟩ = some (.int .i64 7) := by rw [ho.cellAt 0 (by omega)]; rfl
    have k1 : g < w12.heap.size := (ho.lt g rfl).2
    clear ho12 hL12 hv12 hm12 hr12 ho hE12 CN HCR HCN
    unfold pE at HCN2
    go_wp2_with (go_at_call 21; refine HCN2.out.mono ?_; rintro e w' ⟨rfl, hw⟩; rw [hw]; clear hw w')
    go_ret
    exact ⟨rfl, HB12.out⟩
end Go.Proofs.Ytefmojohabdjcaa

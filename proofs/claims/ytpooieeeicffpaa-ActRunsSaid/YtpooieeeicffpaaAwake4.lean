/-
  The chapter's example.
-/
import Derived.Test.YtpooieeeicffpaaLaw4
set_option linter.unusedVariables false
set_option linter.unusedSimpArgs false
namespace Go.Proofs.Ytpooieeeicffpaa
open Go Go.RowKit

def lp7 (Lb : Nat) : LP := { N := 0, n := fun _ => 3, pb := fun _ => 0, sl := fun _ => 0, nm := fun _ => 7, Lb := Lb, K := 1 }
theorem lp7_fit (Lb B : Nat) : ((lp7 Lb).add B).Fit where
  n100 := fun i => by show 3 ≤ 100; omega
  inj := fun i j hi hj hne => by
    have h1 : i < 0 + 1 := hi
    have h2 : j < 0 + 1 := hj
    omega
  slK := fun i hi => by show 0 < 1; omega

def stp (d c : Nat) (l : List Nat) : LS := ⟨fun _ => d, fun _ => l, c⟩
theorem LM.len1 {p : LP} {s : LS} {F : Nat → Prop} {W : World} {vs : Nat → Value} {bx : Nat → Nat} {cur : Array Value} (h : LM p s F W vs bx cur) (hK : p.K = 1) : ∃ ad cp, Boxed W p.Lb 23 (.slice ad (s.lg 0).length cp) := by
  obtain ⟨ad, cp, hv⟩ := own_form (h.row 0 (by omega))
  refine ⟨ad, cp, ?_⟩
  have h1 := h.slot 0 (by omega)
  have h2 := h.size
  rw [hK] at h2
  have h3 : cur = #[.slice ad (s.lg 0).length cp] := by
    cases cur with
    | mk l =>
      match l, h2 with
      | [x], _ =>
        simp at h1
        rw [h1, hv]
  have h4 := h.log
  rw [h3] at h4
  exact h4

set_option maxRecDepth 20000 in
set_option maxHeartbeats 2000000 in
theorem awake4_c (W : World) : Calls Try.prog 20 #[] W fun e w' => e = .returned (.bool true) ∧ Below W.heap.size W w' := by
  have hbx := Boxed.new W 23 (.slice none 0 0)
  have hb0 : Below W.heap.size W (W.alloc (.cells #[.slice none 0 0] 23)) := (Below.refl _ _).alloc (Nat.le_refl _) _
  have h0 := LM.start (lp7 W.heap.size) rfl (cur := #[.slice none 0 0]) hbx rfl (fun j hj => by have : j < 1 := hj; obtain rfl : j = 0 := (by omega); rfl)
  have C0 := Lib.hid (steps_c 3 7 W.heap.size 0 (by omega) (W.alloc (.cells #[.slice none 0 0] 23)))
  have hs0 : (W.alloc (.cells #[.slice none 0 0] 23)).heap.size = W.heap.size + 1 := by simp
  obtain ⟨L, hL⟩ : ∃ L, W.heap.size = L := ⟨_, rfl⟩
  rw [hL] at C0 h0 hb0 hs0 ⊢
  have H0 := Lib.hid h0
  have HB0 := Lib.hid hb0
  have HL := Lib.hid hL
  have HS0 := Lib.hid hs0
  unfold ptrV at C0
  clear hbx h0 hb0 hs0
  go_enter Try.func20, Try.ntmps20
  go_wp2_with fail
  clear hL
  refine C0.out.mono ?_
  rintro e w1 ⟨B, Bx, rfl, hB, hBx, hna, hb1⟩
  obtain ⟨hlm, _⟩ := H0.out.add rfl hB hBx hb1 hna
  have hm := logMach_ok (lp7_fit L B)
  generalize footOf _ _ _ _ = F at hlm
  have hMov0 : Below L W w1 := HB0.out.trans (hb1.mono (by rw [HS0.out]; omega))
  have HF : Hid (∀ k, F k → L ≤ k) := by
    intro k hk
    rcases (hlm.foot k).1 hk with rfl | ⟨i, hi, rfl⟩ | ⟨j, hj, hjk⟩ | ⟨i, hi, hdi, hjk⟩
    · exact Nat.le_refl _
    · have : ((lp7 L).add B).pb i = B := by
        have : i = 0 := by have h1 : i < 0 + 1 := hi; omega
        subst this
        show put1 (fun _ => 0) 0 B 0 = B
        exact put1_same _ _ _
      rw [this]; have := HS0.out; omega
    · cases hjk
    · have e : put1 (fun _ => 0) (lp7 L).N Bx i = Bx := by
        have : i = 0 := by have h1 : i < 0 + 1 := hi; omega
        subst this
        show put1 (fun _ => 0) 0 Bx 0 = Bx
        exact put1_same _ _ _
      rw [e] at hjk; have := HS0.out; omega
  have hMM : (logMach ((lp7 L).add B)).M ⟨fun _ => 0, fun _ => [], 0⟩ F w1 := ⟨_, _, _, hlm⟩
  have hpB : (logMach ((lp7 L).add B)).p 0 = pa B := by show pa (put1 (fun _ => 0) 0 B 0) = _; rw [put1_same]
  have D1 := hm.st hMM (i := 0) (by show 0 < 0 + 1; omega) rfl (by show 0 < 1000000; omega)
  rw [hpB] at D1
  have HD1 := Lib.hid D1
  have Hm := Lib.hid hm
  have HMV := Lib.hid hMov0
  have HPB := Lib.hid hpB
  unfold pa at HD1
  clear D1 hm hMM hlm hMov0 hpB hna hb1 C0 H0 HB0
  unfold pa
  go_wp2_with fail
  refine HD1.out.mono ?_
  rintro e w2 ⟨he2, F2, hM2, hv2⟩
  have e2 : e = .returned (.bool false) := he2
  subst e2
  have D2 := Hm.out.st hM2 (i := 0) (by show 0 < 0 + 1; omega) rfl (by show 1 < 1000000; omega)
  rw [HPB.out] at D2
  have HD2 := Lib.hid D2
  have HV2 := Lib.hid hv2
  unfold pa at HD2
  clear D2 he2 hM2 hv2 HD1
  go_wp2_with fail
  refine HD2.out.mono ?_
  rintro e w3 ⟨he3, F3, hM3, hv3⟩
  have e3 : e = .returned (.bool false) := he3
  subst e3
  have D3 := Hm.out.st hM3 (i := 0) (by show 0 < 0 + 1; omega) rfl (by show 2 < 1000000; omega)
  rw [HPB.out] at D3
  have HD3 := Lib.hid D3
  have HV3 := Lib.hid (HV2.out.trans hv3)
  unfold pa at HD3
  clear D3 he3 hM3 hv3 HD2 HV2
  go_wp2_with fail
  refine HD3.out.mono ?_
  rintro e w4 ⟨he4, F4, hM4, hv4⟩
  have e4 : e = .returned (.bool true) := he4
  subst e4
  have HV4 := Lib.hid (HV3.out.trans hv4)
  obtain ⟨vs, bx, cur, h4⟩ := hM4
  obtain ⟨ad, cp, hbx⟩ := h4.len1 rfl
  have e5 := h4.fin 0 (by show 0 < 0 + 1; omega) rfl
  have hpb : ((lp7 L).add B).pb 0 = B := by show put1 (fun _ => 0) 0 B 0 = B; exact put1_same _ _ _
  rw [hpb] at e5
  have D5 := Lib.hid (count_some B _ _ w4 e5)
  have D6 := Lib.hid (over_none B _ w4 e5)
  have hcl := hbx.cell
  have el : ((logMach ((lp7 L).add B)).nx ((logMach ((lp7 L).add B)).nx ((logMach ((lp7 L).add B)).nx ⟨fun _ => 0, fun _ => [], 0⟩ 0) 0) 0).lg 0 = [7, 7, 7] := rfl
  have ed : ((logMach ((lp7 L).add B)).nx ((logMach ((lp7 L).add B)).nx ((logMach ((lp7 L).add B)).nx ⟨fun _ => 0, fun _ => [], 0⟩ 0) 0) 0).d 0 = 3 := rfl
  rw [el] at hcl
  rw [ed] at D5
  have hcl2 : w4.cell? ⟨L, 0, none⟩ = some (.slice ad 3 cp) := hcl
  unfold pa at D5 D6
  clear he4 hv4 HD3 HV3 h4 hbx e5 hpb hcl el ed
  go_wp2_with (first | (go_at_call 19; refine D5.out.mono ?_; rintro e w' ⟨rfl, rfl⟩) | (go_at_call 16; refine D6.out.mono ?_; rintro e w' ⟨rfl, rfl⟩))
  go_ret
  have hb9 := HMV.out.trans (HV4.out.toBelow (D := L) (by rw [← HL.out]; exact HMV.out.size) HF.out)
  exact ⟨rfl, hb9⟩
end Go.Proofs.Ytpooieeeicffpaa

/-
  Whether a key may be, by the document: contract, of whatever kind.
-/
import Derived.Test.YtpnnchpaaopdcaaGreatDoorZB04
import Derived.Test.YtpnnchpaaopdcaaGreatDoorZB25
import Derived.Test.YtpnnchpaaopdcaaGreatDoorZB26
import Derived.Test.YtpnnchpaaopdcaaGreatDoorZB27
import Derived.Test.YtpnnchpaaopdcaaGreatDoorZB28
import Derived.Test.YtpnnchpaaopdcaaGreatDoorZB29
import Derived.Test.YtpnnchpaaopdcaaGreatDoorZB30
import Derived.Test.YtpnnchpaaopdcaaGreatDoorZB31
import Derived.Test.YtpnnchpaaopdcaaGreatDoorZB32
import Derived.Test.YtpnnchpaaopdcaaGreatDoorZB33
import Derived.Test.YtpnnchpaaopdcaaGreatDoorZB34
import Derived.Test.YtpnnchpaaopdcaaGreatDoorZB35
set_option linter.unusedVariables false
set_option linter.unusedSimpArgs false
namespace Go.Proofs.YtpnnchpaaopdcaaGreatDoor
open Go Go.RowKit
set_option maxRecDepth 100000 in
set_option maxHeartbeats 4000000 in
theorem rright_c (k : KT) : ∀ (d : Int) (W : World), 0 ≤ d → d ≤ 4611686018427387904 → KeyC W k → Calls Tryz.prog 13 #[k.val, .int .i64 d] W fun e w' => e = .returned (.bool (rightK k d)) ∧ Below W.heap.size W w' := by
  induction k using KT.ind with
  | h kind fl set n s kids sp scap kp kcap ih =>
    intro d W hd0 hd2 hK
    have hS : rightK (.mk kind fl set n s kids sp scap kp kcap) d = (decide (1 ≤ d) && (decide (NodeP kind fl set.length n s.length kids.length) && rightL kids (d - 1))) := by rw [rightK]
    by_cases hnum : 1 ≤ d ∧ 0 ≤ kind ∧ kind ≤ 10
    · obtain ⟨hd1, h0, h10⟩ := hnum
      obtain rfl | rfl | rfl | rfl | rfl | rfl | rfl | rfl | rfl | rfl | rfl : kind = 0 ∨ kind = 1 ∨ kind = 2 ∨ kind = 3 ∨ kind = 4 ∨ kind = 5 ∨ kind = 6 ∨ kind = 7 ∨ kind = 8 ∨ kind = 9 ∨ kind = 10 := by omega
      · exact rright_k0 ih d W hd1 hd2 hK
      · exact rright_k1 ih d W hd1 hd2 hK
      · exact rright_k2 ih d W hd1 hd2 hK
      · exact rright_k3 ih d W hd1 hd2 hK
      · exact rright_k4 ih d W hd1 hd2 hK
      · exact rright_k5 ih d W hd1 hd2 hK
      · exact rright_k6 ih d W hd1 hd2 hK
      · exact rright_k7 ih d W hd1 hd2 hK
      · exact rright_k8 ih d W hd1 hd2 hK
      · exact rright_k9 ih d W hd1 hd2 hK
      · exact rright_k10 ih d W hd1 hd2 hK
    · have hZ0 : rightK (.mk kind fl set n s kids sp scap kp kcap) d = false := by
        rw [hS]
        by_cases h1 : 1 ≤ d
        · rw [decide_eq_false (p := NodeP _ _ _ _ _ _) (by unfold NodeP; omega)]; simp
        · rw [decide_eq_false h1]; rfl
      rw [hZ0]
      show Calls Tryz.prog 13 #[.agg #[.int .i64 kind, .int .u8 fl, .slice sp set.length scap, .int .u32 n, .string (txt s), .slice kp kids.length kcap], .int .i64 d] W _
      obtain ⟨X, hX⟩ : ∃ X, txt s = X := ⟨_, rfl⟩
      obtain ⟨M, hM⟩ : ∃ M, set.length = M := ⟨_, rfl⟩
      obtain ⟨N, hN⟩ : ∃ N, kids.length = N := ⟨_, rfl⟩
      rw [hX, hM, hN]
      obtain ⟨w0, hw0⟩ : ∃ w0, W.alloc (.cells #[.int .i64 kind, .int .u8 fl, .slice sp M scap, .int .u32 n, .string X, .slice kp N kcap] 26) = w0 := ⟨_, rfl⟩
      have HB0 : Hid (Below W.heap.size W w0) := by
        show Below _ _ _
        rw [← hw0]; exact (Below.refl _ _).alloc (Nat.le_refl _) _
      have HW0 := Lib.hid hw0
      clear ih hK hS hZ0 hX hM hN hw0
      by_cases h1 : d < 1
      · clear hnum
        go_enter Tryz.func13, Tryz.ntmps13
        go_wp2_with fail
        go_ret
        exact ⟨rfl, by rw [HW0.out]; exact HB0.out⟩
      · by_cases h2 : kind < 0
        · clear hnum
          go_enter Tryz.func13, Tryz.ntmps13
          go_wp2_with fail
          go_ret
          exact ⟨rfl, by rw [HW0.out]; exact HB0.out⟩
        · have h3 : 10 < kind := by omega
          clear hnum
          go_enter Tryz.func13, Tryz.ntmps13
          go_wp2_with fail
          go_ret
          exact ⟨rfl, by rw [HW0.out]; exact HB0.out⟩
end Go.Proofs.YtpnnchpaaopdcaaGreatDoor

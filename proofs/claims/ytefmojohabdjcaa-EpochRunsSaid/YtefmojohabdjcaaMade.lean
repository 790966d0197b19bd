/-
  An epoch in a memory of its own.
-/
import Derived.Test.YtefmojohabdjcaaAlone
import Derived.Test.YtefmojohabdjcaaEp10
set_option linter.unusedVariables false
set_option linter.unusedSimpArgs false
namespace Go.Proofs.Ytefmojohabdjcaa
open Go Go.RowKit

/-- An epoch that is new, as the law makes it. -/
def MadeE (R : Nat) (W : World) (e : Ending) (w' : World) : Prop :=
  ∃ p s, e = .returned (pE p) ∧ p.R = R ∧ EpAt p s w' ∧ Fresh p s (1 + R) ∧ Below W.heap.size W w' ∧ ∀ k, fE p k → W.heap.size ≤ k
theorem made_c (R : Nat) (h1 : 1 ≤ R) (h8 : R ≤ 8) (W : World) : Calls Try.prog 7 #[.int .i64 R] W fun e w' => MadeE R W e w' := by
  have CM := Lib.hid (mNew_yes (R + 3) (by omega) (by omega) W)
  have CE := Lib.hid (fun W' (hm : MemAt W' W.heap.size (R + 3) 0 (fun _ => 0) (fun _ => 0)) => eNew_yes W.heap.size (R + 3) 0 _ _ hm 1 R h1 h8 (by omega) (by omega) (by omega))
  have q : (((R + 3 : Nat)) : Int) = (R : Int) + 3 := by omega
  rw [q] at CM
  have e1 : ((1 : Nat) : Int) = 1 := rfl
  rw [e1] at CE
  clear q e1
  go_enter Try.func7, Try.ntmps7
  go_wp2_with fail
  refine CM.out.mono ?_
  rintro e w1 ⟨rfl, hb1, hm1⟩
  have C2 := CE.out w1 hm1
  have HB1 := Lib.hid hb1
  have HM1 := Lib.hid hm1
  clear hb1 hm1 CM CE
  go_wp2_with fail
  refine C2.mono ?_
  rintro e w2 ⟨p, s, rfl, hM, hw, hR, hn, hep, hfr, ho, hE, hPb⟩
  have HE := Lib.hid hep
  have HF := Lib.hid hfr
  have HR := Lib.hid hR
  have hsz := HB1.out.size
  have hbl : Below W.heap.size W w2 := HB1.out.trans ⟨ho.os, ho.tape, ho.output, ho.size, fun k hk => ho.block k (by omega) (by omega)⟩
  have hk : ∀ k, fE p k → W.heap.size ≤ k := by
    rintro k (rfl | rfl | rfl)
    · omega
    · omega
    · omega
  have HBL := Lib.hid hbl
  have HK := Lib.hid hk
  clear hM hw hn hep hfr ho hE hPb hR hbl hk C2
  unfold pE
  go_wp2_with fail
  go_ret
  exact ⟨p, s, rfl, HR.out, HE.out, by rw [show 1 + R = 0 + 1 + R by omega]; exact HF.out, HBL.out, HK.out⟩
end Go.Proofs.Ytefmojohabdjcaa

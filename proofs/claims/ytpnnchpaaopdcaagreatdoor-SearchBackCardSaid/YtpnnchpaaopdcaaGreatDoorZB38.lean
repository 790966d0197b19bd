/-
  A key's String, by the program: contract.
-/
import Derived.Test.YtpnnchpaaopdcaaGreatDoorZB04
import Derived.Test.YtpnnchpaaopdcaaGreatDoorZB37
import Derived.Test.YtpnnchpaaopdcaaGreatDoorZB22
set_option linter.unusedVariables false
set_option linter.unusedSimpArgs false
namespace Go.Proofs.YtpnnchpaaopdcaaGreatDoor
open Go Go.RowKit
def strK (k : KT) : List UInt8 := if rightK k 16 = true then textK k else []
set_option maxRecDepth 100000 in
set_option maxHeartbeats 2000000 in
theorem sString_c (k : KT) (W : World) (hK : KeyC W k) (hok : okT k) (hT : Tx W) : Calls Tryz.prog 17 #[k.val] W fun e w' => e = .returned (.string (txt (strK k))) ∧ Below W.heap.size W w' := by
  have C1 := fun w hb => sRight_c k w (hK.below (W' := w) hb)
  have C2 : rightK k 16 = true → ∀ w, Below W.heap.size W w → Calls Tryz.prog 66 #[k.val] w fun e w' => e = .returned (.string (txt (textK k))) ∧ Below w.heap.size w w' := fun hr w hb => sText_c k 16 w (hK.below hb) hr hok (hT.below hb)
  obtain ⟨yk, yf, ym, yn, yl, ysp, ykp, ysc, ykc, Y, hyv, hyc⟩ := k.form
  rw [hyv] at C1 C2 ⊢
  have hb0 : Below W.heap.size W (W.alloc (.cells #[.int .i64 yk, .int .u8 yf, .slice ysp ym ysc, .int .u32 yn, .string Y, .slice ykp yl ykc] 37)) := (Below.refl _ _).alloc (Nat.le_refl _) _
  have hk0 : Cells (W.alloc (.cells #[.int .i64 yk, .int .u8 yf, .slice ysp ym ysc, .int .u32 yn, .string Y, .slice ykp yl ykc] 37)) W.heap.size 37 #[.int .i64 yk, .int .u8 yf, .slice ysp ym ysc, .int .u32 yn, .string Y, .slice ykp yl ykc] := heap_alloc_new W _
  have C := Lib.hid (C1 _ hb0)
  obtain ⟨Z, hZ⟩ : ∃ B, txt (strK k) = B := ⟨_, rfl⟩
  rw [hZ]
  unfold strK at hZ
  obtain ⟨b, hb⟩ : ∃ b, rightK k 16 = b := ⟨_, rfl⟩
  rw [hb] at C C2 hZ
  have HZ := Lib.hid hZ
  have HB0 := Lib.hid hb0
  have HK0 := Lib.hid hk0
  have HC2 := Lib.hid C2
  clear C1 C2 hK hok hT hyv hyc hb0 hk0 hZ hb
  cases b with
  | false =>
    go_enter Tryz.func17, Tryz.ntmps17
    go_wp2_with fail
    refine C.out.mono ?_
    rintro e w2 ⟨rfl, hb⟩
    have HB2 := Lib.hid (HB0.out.trans (hb.mono HB0.out.size))
    clear hb
    go_wp2_with fail
    go_ret
    exact ⟨by rw [← HZ.out]; try rfl, HB2.out⟩
  | true =>
    have HC3 := Lib.hid (HC2.out rfl)
    clear HC2
    go_enter Tryz.func17, Tryz.ntmps17
    go_wp2_with fail
    refine C.out.mono ?_
    rintro e w2 ⟨rfl, hb⟩
    have hk2 := Cells.later HK0.out (hb.block _ (Cells.lt HK0.out))
    have k0 := hk2.cell (i := 0) rfl
    have k1 := hk2.cell (i := 1) rfl
    have k2 := hk2.cell (i := 2) rfl
    have k3 := hk2.cell (i := 3) rfl
    have k4 := hk2.cell (i := 4) rfl
    have k5 := hk2.cell (i := 5) rfl
    have hkl := hk2.lt
    have HB2 := Lib.hid (HB0.out.trans (hb.mono HB0.out.size))
    have C3 := Lib.hid (HC3.out w2 HB2.out)
    clear hb hk2
    go_wp2_with fail
    refine C3.out.mono ?_
    rintro e w5 ⟨rfl, hb⟩
    have HB5 := Lib.hid (HB2.out.trans (hb.mono HB2.out.size))
    clear hb
    go_wp2_with fail
    go_ret
    exact ⟨by rw [← HZ.out]; try rfl, HB5.out⟩
end Go.Proofs.YtpnnchpaaopdcaaGreatDoor

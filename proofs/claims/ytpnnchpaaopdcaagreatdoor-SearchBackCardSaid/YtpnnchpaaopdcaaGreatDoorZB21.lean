/-
  Whether a key matches, by the program: contract. (Made by mkSk7.py.)
-/
import Derived.Test.YtpnnchpaaopdcaaGreatDoorZB04
import Derived.Test.YtpnnchpaaopdcaaGreatDoorZB08
import Derived.Deep.RegionHeld3
import Derived.Deep.CutRange
import Derived.BigQuiet
import Derived.Laws.EntriesVeiled
set_option linter.unusedVariables false
set_option linter.unusedSimpArgs false
namespace Go.Proofs.YtpnnchpaaopdcaaGreatDoor
open Go Go.RowKit
set_option maxRecDepth 100000 in
set_option maxHeartbeats 4000000 in
theorem sMatches_k0 {m : MP} (hm : m.Ok) {flag : Nat} {set : List (Nat × Nat)} {n : Nat} {s : List UInt8} {kids : List KT} {sp kp : Option Addr} {scap kcap : Nat} (ih : ∀ x ∈ kids, MatchIH m x) (W : World) (hK : KeyC W (.mk 0 flag set n s kids sp scap kp kcap)) (hN : NodeP 0 flag set.length n s.length kids.length) (hX : MaxL W) :
    Calls Tryz.prog 70 #[(KT.mk 0 flag set n s kids sp scap kp kcap).val, m.recv, m.plc] W fun e w' => e = .returned (.bool (matchK m (.mk 0 flag set n s kids sp scap kp kcap))) ∧ Below W.heap.size W w' := by
  obtain ⟨hkids, hkm, hfl, hn9, hsl, hsm, hpairs⟩ := hK.kids
  have hkid : ∀ x ∈ kids, KeyC W x := fun x hx => hK.kid hx
  have hM : matchK m (.mk 0 flag set n s kids sp scap kp kcap) = true := by rw [matchK]; simp
  rw [hM]
  show Calls Tryz.prog 70 #[.agg #[.int .i64 0, .int .u8 flag, .slice sp set.length scap, .int .u32 n, .string (txt s), .slice kp kids.length kcap], .agg #[.int .u32 m.uid, .int .u8 m.fl, .string (txt m.tx)], .agg #[.int .u32 m.sq, .int .u32 m.lastS, .int .u32 m.lastU]] W _
  obtain ⟨w0, hw0, hb0, hs0, hbx, hdo, hkb⟩ := match_boxes W m (.int .i64 0) (.int .u8 flag) (.slice sp set.length scap) (.int .u32 n) (.string (txt s)) (.slice kp kids.length kcap)
  have htx := hm.tx
  have hmf := hm.fl
  obtain ⟨uid, mfl, tx, sq, lastS, lastU⟩ := m
  dsimp only at hw0 hbx htx hmf ⊢
  have eT := txt_size tx
  obtain ⟨TX, hTX⟩ : ∃ TX, txt tx = TX := ⟨_, rfl⟩
  obtain ⟨LT, hLT⟩ : ∃ LT, tx.length = LT := ⟨_, rfl⟩
  obtain ⟨X, hXX⟩ : ∃ X, txt s = X := ⟨_, rfl⟩
  obtain ⟨M, hMM⟩ : ∃ M, set.length = M := ⟨_, rfl⟩
  obtain ⟨N, hNN⟩ : ∃ N, kids.length = N := ⟨_, rfl⟩
  rw [hLT] at eT htx
  rw [hTX] at eT hw0
  rw [hXX, hMM, hNN] at hw0
  rw [hTX, hXX, hMM, hNN]
  have HW0 := Lib.hid hw0
  have HB0 := Lib.hid hb0
  clear hM hw0 hb0 hbx hdo hkb hkids hkid hK hN hX ih hkm hsl hsm hpairs hm hTX hXX hMM hNN
  go_enter Tryz.func70, Tryz.ntmps70
  go_wp2_with fail
  go_ret
  rw [HW0.out]
  exact ⟨rfl, HB0.out⟩
set_option maxRecDepth 100000 in
set_option maxHeartbeats 4000000 in
theorem sMatches_k1 {m : MP} (hm : m.Ok) {flag : Nat} {set : List (Nat × Nat)} {n : Nat} {s : List UInt8} {kids : List KT} {sp kp : Option Addr} {scap kcap : Nat} (ih : ∀ x ∈ kids, MatchIH m x) (W : World) (hK : KeyC W (.mk 1 flag set n s kids sp scap kp kcap)) (hN : NodeP 1 flag set.length n s.length kids.length) (hX : MaxL W) :
    Calls Tryz.prog 70 #[(KT.mk 1 flag set n s kids sp scap kp kcap).val, m.recv, m.plc] W fun e w' => e = .returned (.bool (matchK m (.mk 1 flag set n s kids sp scap kp kcap))) ∧ Below W.heap.size W w' := by
  obtain ⟨hkids, hkm, hfl, hn9, hsl, hsm, hpairs⟩ := hK.kids
  have hkid : ∀ x ∈ kids, KeyC W x := fun x hx => hK.kid hx
  have hM : matchK m (.mk 1 flag set n s kids sp scap kp kcap) = sHas m.fl flag := by rw [matchK]; simp
  rw [hM]
  show Calls Tryz.prog 70 #[.agg #[.int .i64 1, .int .u8 flag, .slice sp set.length scap, .int .u32 n, .string (txt s), .slice kp kids.length kcap], .agg #[.int .u32 m.uid, .int .u8 m.fl, .string (txt m.tx)], .agg #[.int .u32 m.sq, .int .u32 m.lastS, .int .u32 m.lastU]] W _
  obtain ⟨w0, hw0, hb0, hs0, hbx, hdo, hkb⟩ := match_boxes W m (.int .i64 1) (.int .u8 flag) (.slice sp set.length scap) (.int .u32 n) (.string (txt s)) (.slice kp kids.length kcap)
  have htx := hm.tx
  have hmf := hm.fl
  obtain ⟨uid, mfl, tx, sq, lastS, lastU⟩ := m
  dsimp only at hw0 hbx htx hmf ⊢
  have C := has_c mfl flag hmf hfl w0
  obtain ⟨bv, hbv⟩ : ∃ b, sHas mfl flag = b := ⟨_, rfl⟩
  rw [hbv] at C ⊢
  have C := Lib.hid C
  have eT := txt_size tx
  obtain ⟨TX, hTX⟩ : ∃ TX, txt tx = TX := ⟨_, rfl⟩
  obtain ⟨LT, hLT⟩ : ∃ LT, tx.length = LT := ⟨_, rfl⟩
  obtain ⟨X, hXX⟩ : ∃ X, txt s = X := ⟨_, rfl⟩
  obtain ⟨M, hMM⟩ : ∃ M, set.length = M := ⟨_, rfl⟩
  obtain ⟨N, hNN⟩ : ∃ N, kids.length = N := ⟨_, rfl⟩
  rw [hLT] at eT htx
  rw [hTX] at eT hw0
  rw [hXX, hMM, hNN] at hw0
  rw [hTX, hXX, hMM, hNN]
  have HW0 := Lib.hid hw0
  have HB0 := Lib.hid hb0
  clear hM hw0 hb0 hbx hdo hkb hkids hkid hK hN hX ih hkm hsl hsm hpairs hm hTX hXX hMM hNN hbv hLT
  cases bv
  all_goals
    go_enter Tryz.func70, Tryz.ntmps70
    go_wp2_with fail
    rw [HW0.out]
    refine C.out.mono ?_
    rintro e w5 ⟨rfl, hw5⟩
    rw [← hw5]
    clear hw5
    go_wp2_with fail
    go_ret
    exact ⟨rfl, HB0.out⟩
set_option maxRecDepth 100000 in
set_option maxHeartbeats 4000000 in
theorem sMatches_k2 {m : MP} (hm : m.Ok) {flag : Nat} {set : List (Nat × Nat)} {n : Nat} {s : List UInt8} {kids : List KT} {sp kp : Option Addr} {scap kcap : Nat} (ih : ∀ x ∈ kids, MatchIH m x) (W : World) (hK : KeyC W (.mk 2 flag set n s kids sp scap kp kcap)) (hN : NodeP 2 flag set.length n s.length kids.length) (hX : MaxL W) :
    Calls Tryz.prog 70 #[(KT.mk 2 flag set n s kids sp scap kp kcap).val, m.recv, m.plc] W fun e w' => e = .returned (.bool (matchK m (.mk 2 flag set n s kids sp scap kp kcap))) ∧ Below W.heap.size W w' := by
  obtain ⟨hkids, hkm, hfl, hn9, hsl, hsm, hpairs⟩ := hK.kids
  have hkid : ∀ x ∈ kids, KeyC W x := fun x hx => hK.kid hx
  have hM : matchK m (.mk 2 flag set n s kids sp scap kp kcap) = !sHas m.fl flag := by rw [matchK]; simp
  rw [hM]
  show Calls Tryz.prog 70 #[.agg #[.int .i64 2, .int .u8 flag, .slice sp set.length scap, .int .u32 n, .string (txt s), .slice kp kids.length kcap], .agg #[.int .u32 m.uid, .int .u8 m.fl, .string (txt m.tx)], .agg #[.int .u32 m.sq, .int .u32 m.lastS, .int .u32 m.lastU]] W _
  obtain ⟨w0, hw0, hb0, hs0, hbx, hdo, hkb⟩ := match_boxes W m (.int .i64 2) (.int .u8 flag) (.slice sp set.length scap) (.int .u32 n) (.string (txt s)) (.slice kp kids.length kcap)
  have htx := hm.tx
  have hmf := hm.fl
  obtain ⟨uid, mfl, tx, sq, lastS, lastU⟩ := m
  dsimp only at hw0 hbx htx hmf ⊢
  have C := has_c mfl flag hmf hfl w0
  obtain ⟨bv, hbv⟩ : ∃ b, sHas mfl flag = b := ⟨_, rfl⟩
  rw [hbv] at C ⊢
  have C := Lib.hid C
  have eT := txt_size tx
  obtain ⟨TX, hTX⟩ : ∃ TX, txt tx = TX := ⟨_, rfl⟩
  obtain ⟨LT, hLT⟩ : ∃ LT, tx.length = LT := ⟨_, rfl⟩
  obtain ⟨X, hXX⟩ : ∃ X, txt s = X := ⟨_, rfl⟩
  obtain ⟨M, hMM⟩ : ∃ M, set.length = M := ⟨_, rfl⟩
  obtain ⟨N, hNN⟩ : ∃ N, kids.length = N := ⟨_, rfl⟩
  rw [hLT] at eT htx
  rw [hTX] at eT hw0
  rw [hXX, hMM, hNN] at hw0
  rw [hTX, hXX, hMM, hNN]
  have HW0 := Lib.hid hw0
  have HB0 := Lib.hid hb0
  clear hM hw0 hb0 hbx hdo hkb hkids hkid hK hN hX ih hkm hsl hsm hpairs hm hTX hXX hMM hNN hbv hLT
  cases bv
  all_goals
    go_enter Tryz.func70, Tryz.ntmps70
    go_wp2_with fail
    rw [HW0.out]
    refine C.out.mono ?_
    rintro e w5 ⟨rfl, hw5⟩
    rw [← hw5]
    clear hw5
    go_wp2_with fail
    go_ret
    exact ⟨rfl, HB0.out⟩
set_option maxRecDepth 100000 in
set_option maxHeartbeats 4000000 in
theorem sMatches_k3 {m : MP} (hm : m.Ok) {flag : Nat} {set : List (Nat × Nat)} {n : Nat} {s : List UInt8} {kids : List KT} {sp kp : Option Addr} {scap kcap : Nat} (ih : ∀ x ∈ kids, MatchIH m x) (W : World) (hK : KeyC W (.mk 3 flag set n s kids sp scap kp kcap)) (hN : NodeP 3 flag set.length n s.length kids.length) (hX : MaxL W) :
    Calls Tryz.prog 70 #[(KT.mk 3 flag set n s kids sp scap kp kcap).val, m.recv, m.plc] W fun e w' => e = .returned (.bool (matchK m (.mk 3 flag set n s kids sp scap kp kcap))) ∧ Below W.heap.size W w' := by
  obtain ⟨hkids, hkm, hfl, hn9, hsl, hsm, hpairs⟩ := hK.kids
  have hkid : ∀ x ∈ kids, KeyC W x := fun x hx => hK.kid hx
  have hM : matchK m (.mk 3 flag set n s kids sp scap kp kcap) = hasB set m.sq m.lastS := by rw [matchK]; simp
  rw [hM]
  show Calls Tryz.prog 70 #[.agg #[.int .i64 3, .int .u8 flag, .slice sp set.length scap, .int .u32 n, .string (txt s), .slice kp kids.length kcap], .agg #[.int .u32 m.uid, .int .u8 m.fl, .string (txt m.tx)], .agg #[.int .u32 m.sq, .int .u32 m.lastS, .int .u32 m.lastU]] W _
  obtain ⟨w0, hw0, hb0, hs0, hbx, hdo, hkb⟩ := match_boxes W m (.int .i64 3) (.int .u8 flag) (.slice sp set.length scap) (.int .u32 n) (.string (txt s)) (.slice kp kids.length kcap)
  have htx := hm.tx
  have hmf := hm.fl
  have hM9 : set.length ≤ 64 := hN.2.2.2.2.2.1
  obtain ⟨uid, mfl, tx, sq, lastS, lastU⟩ := m
  dsimp only at hw0 hbx htx hmf ⊢
  have C := qhasP_c sp scap set (by omega) sq lastS w0 (hpairs.below hb0)
  obtain ⟨bv, hbv⟩ : ∃ b, hasB set sq lastS = b := ⟨_, rfl⟩
  rw [hbv] at C ⊢
  have eT := txt_size tx
  obtain ⟨TX, hTX⟩ : ∃ TX, txt tx = TX := ⟨_, rfl⟩
  obtain ⟨LT, hLT⟩ : ∃ LT, tx.length = LT := ⟨_, rfl⟩
  obtain ⟨X, hXX⟩ : ∃ X, txt s = X := ⟨_, rfl⟩
  obtain ⟨M, hMM⟩ : ∃ M, set.length = M := ⟨_, rfl⟩
  obtain ⟨N, hNN⟩ : ∃ N, kids.length = N := ⟨_, rfl⟩
  rw [hLT] at eT htx
  rw [hTX] at eT hw0
  rw [hXX, hMM, hNN] at hw0
  rw [hMM] at C
  have C := Lib.hid C
  rw [hTX, hXX, hMM, hNN]
  have HW0 := Lib.hid hw0
  have HB0 := Lib.hid hb0
  clear hM hw0 hb0 hbx hdo hkb hkids hkid hK hN hX ih hkm hsl hsm hpairs hm hTX hXX hMM hNN hbv hLT hM9
  go_enter Tryz.func70, Tryz.ntmps70
  go_wp2_with fail
  rw [HW0.out]
  refine C.out.mono ?_
  rintro e w5 ⟨rfl, hb5⟩
  have HB5 := Lib.hid (HB0.out.trans (hb5.mono HB0.out.size))
  clear hb5
  go_wp2_with fail
  go_ret
  exact ⟨rfl, HB5.out⟩
set_option maxRecDepth 100000 in
set_option maxHeartbeats 4000000 in
theorem sMatches_k4 {m : MP} (hm : m.Ok) {flag : Nat} {set : List (Nat × Nat)} {n : Nat} {s : List UInt8} {kids : List KT} {sp kp : Option Addr} {scap kcap : Nat} (ih : ∀ x ∈ kids, MatchIH m x) (W : World) (hK : KeyC W (.mk 4 flag set n s kids sp scap kp kcap)) (hN : NodeP 4 flag set.length n s.length kids.length) (hX : MaxL W) :
    Calls Tryz.prog 70 #[(KT.mk 4 flag set n s kids sp scap kp kcap).val, m.recv, m.plc] W fun e w' => e = .returned (.bool (matchK m (.mk 4 flag set n s kids sp scap kp kcap))) ∧ Below W.heap.size W w' := by
  obtain ⟨hkids, hkm, hfl, hn9, hsl, hsm, hpairs⟩ := hK.kids
  have hkid : ∀ x ∈ kids, KeyC W x := fun x hx => hK.kid hx
  have hM : matchK m (.mk 4 flag set n s kids sp scap kp kcap) = hasB set m.uid m.lastU := by rw [matchK]; simp
  rw [hM]
  show Calls Tryz.prog 70 #[.agg #[.int .i64 4, .int .u8 flag, .slice sp set.length scap, .int .u32 n, .string (txt s), .slice kp kids.length kcap], .agg #[.int .u32 m.uid, .int .u8 m.fl, .string (txt m.tx)], .agg #[.int .u32 m.sq, .int .u32 m.lastS, .int .u32 m.lastU]] W _
  obtain ⟨w0, hw0, hb0, hs0, hbx, hdo, hkb⟩ := match_boxes W m (.int .i64 4) (.int .u8 flag) (.slice sp set.length scap) (.int .u32 n) (.string (txt s)) (.slice kp kids.length kcap)
  have htx := hm.tx
  have hmf := hm.fl
  have hM9 : set.length ≤ 64 := hN.2.2.2.2.2.1
  obtain ⟨uid, mfl, tx, sq, lastS, lastU⟩ := m
  dsimp only at hw0 hbx htx hmf ⊢
  have C := qhasP_c sp scap set (by omega) uid lastU w0 (hpairs.below hb0)
  obtain ⟨bv, hbv⟩ : ∃ b, hasB set uid lastU = b := ⟨_, rfl⟩
  rw [hbv] at C ⊢
  have eT := txt_size tx
  obtain ⟨TX, hTX⟩ : ∃ TX, txt tx = TX := ⟨_, rfl⟩
  obtain ⟨LT, hLT⟩ : ∃ LT, tx.length = LT := ⟨_, rfl⟩
  obtain ⟨X, hXX⟩ : ∃ X, txt s = X := ⟨_, rfl⟩
  obtain ⟨M, hMM⟩ : ∃ M, set.length = M := ⟨_, rfl⟩
  obtain ⟨N, hNN⟩ : ∃ N, kids.length = N := ⟨_, rfl⟩
  rw [hLT] at eT htx
  rw [hTX] at eT hw0
  rw [hXX, hMM, hNN] at hw0
  rw [hMM] at C
  have C := Lib.hid C
  rw [hTX, hXX, hMM, hNN]
  have HW0 := Lib.hid hw0
  have HB0 := Lib.hid hb0
  clear hM hw0 hb0 hbx hdo hkb hkids hkid hK hN hX ih hkm hsl hsm hpairs hm hTX hXX hMM hNN hbv hLT hM9
  go_enter Tryz.func70, Tryz.ntmps70
  go_wp2_with fail
  rw [HW0.out]
  refine C.out.mono ?_
  rintro e w5 ⟨rfl, hb5⟩
  have HB5 := Lib.hid (HB0.out.trans (hb5.mono HB0.out.size))
  clear hb5
  go_wp2_with fail
  go_ret
  exact ⟨rfl, HB5.out⟩
set_option maxRecDepth 100000 in
set_option maxHeartbeats 4000000 in
theorem sMatches_k5 {m : MP} (hm : m.Ok) {flag : Nat} {set : List (Nat × Nat)} {n : Nat} {s : List UInt8} {kids : List KT} {sp kp : Option Addr} {scap kcap : Nat} (ih : ∀ x ∈ kids, MatchIH m x) (W : World) (hK : KeyC W (.mk 5 flag set n s kids sp scap kp kcap)) (hN : NodeP 5 flag set.length n s.length kids.length) (hX : MaxL W) :
    Calls Tryz.prog 70 #[(KT.mk 5 flag set n s kids sp scap kp kcap).val, m.recv, m.plc] W fun e w' => e = .returned (.bool (matchK m (.mk 5 flag set n s kids sp scap kp kcap))) ∧ Below W.heap.size W w' := by
  obtain ⟨hkids, hkm, hfl, hn9, hsl, hsm, hpairs⟩ := hK.kids
  have hkid : ∀ x ∈ kids, KeyC W x := fun x hx => hK.kid hx
  have hM : matchK m (.mk 5 flag set n s kids sp scap kp kcap) = decide (n < m.tx.length) := by rw [matchK]; simp
  rw [hM]
  show Calls Tryz.prog 70 #[.agg #[.int .i64 5, .int .u8 flag, .slice sp set.length scap, .int .u32 n, .string (txt s), .slice kp kids.length kcap], .agg #[.int .u32 m.uid, .int .u8 m.fl, .string (txt m.tx)], .agg #[.int .u32 m.sq, .int .u32 m.lastS, .int .u32 m.lastU]] W _
  obtain ⟨w0, hw0, hb0, hs0, hbx, hdo, hkb⟩ := match_boxes W m (.int .i64 5) (.int .u8 flag) (.slice sp set.length scap) (.int .u32 n) (.string (txt s)) (.slice kp kids.length kcap)
  have htx := hm.tx
  have hmf := hm.fl
  obtain ⟨uid, mfl, tx, sq, lastS, lastU⟩ := m
  dsimp only at hw0 hbx htx hmf ⊢
  have eT := txt_size tx
  obtain ⟨TX, hTX⟩ : ∃ TX, txt tx = TX := ⟨_, rfl⟩
  obtain ⟨LT, hLT⟩ : ∃ LT, tx.length = LT := ⟨_, rfl⟩
  obtain ⟨X, hXX⟩ : ∃ X, txt s = X := ⟨_, rfl⟩
  obtain ⟨M, hMM⟩ : ∃ M, set.length = M := ⟨_, rfl⟩
  obtain ⟨N, hNN⟩ : ∃ N, kids.length = N := ⟨_, rfl⟩
  rw [hLT] at eT htx
  rw [hTX] at eT hw0
  rw [hXX, hMM, hNN] at hw0
  rw [hLT]
  rw [hTX, hXX, hMM, hNN]
  have HW0 := Lib.hid hw0
  have HB0 := Lib.hid hb0
  clear hM hw0 hb0 hbx hdo hkb hkids hkid hK hN hX ih hkm hsl hsm hpairs hm hTX hXX hMM hNN hLT
  by_cases hlt : n < LT
  · have q : (n : Int) < LT := by omega
    rw [decide_eq_true hlt]
    clear hlt
    go_enter Tryz.func70, Tryz.ntmps70
    go_wp2_with fail
    go_ret
    rw [HW0.out]
    exact ⟨by first | rfl | simp [q], HB0.out⟩
  · have q : ¬ ((n : Int) < LT) := by omega
    rw [decide_eq_false hlt]
    clear hlt
    go_enter Tryz.func70, Tryz.ntmps70
    go_wp2_with fail
    go_ret
    rw [HW0.out]
    exact ⟨by first | rfl | simp [q], HB0.out⟩
set_option maxRecDepth 100000 in
set_option maxHeartbeats 4000000 in
theorem sMatches_k6 {m : MP} (hm : m.Ok) {flag : Nat} {set : List (Nat × Nat)} {n : Nat} {s : List UInt8} {kids : List KT} {sp kp : Option Addr} {scap kcap : Nat} (ih : ∀ x ∈ kids, MatchIH m x) (W : World) (hK : KeyC W (.mk 6 flag set n s kids sp scap kp kcap)) (hN : NodeP 6 flag set.length n s.length kids.length) (hX : MaxL W) :
    Calls Tryz.prog 70 #[(KT.mk 6 flag set n s kids sp scap kp kcap).val, m.recv, m.plc] W fun e w' => e = .returned (.bool (matchK m (.mk 6 flag set n s kids sp scap kp kcap))) ∧ Below W.heap.size W w' := by
  obtain ⟨hkids, hkm, hfl, hn9, hsl, hsm, hpairs⟩ := hK.kids
  have hkid : ∀ x ∈ kids, KeyC W x := fun x hx => hK.kid hx
  have hM : matchK m (.mk 6 flag set n s kids sp scap kp kcap) = decide (m.tx.length < n) := by rw [matchK]; simp
  rw [hM]
  show Calls Tryz.prog 70 #[.agg #[.int .i64 6, .int .u8 flag, .slice sp set.length scap, .int .u32 n, .string (txt s), .slice kp kids.length kcap], .agg #[.int .u32 m.uid, .int .u8 m.fl, .string (txt m.tx)], .agg #[.int .u32 m.sq, .int .u32 m.lastS, .int .u32 m.lastU]] W _
  obtain ⟨w0, hw0, hb0, hs0, hbx, hdo, hkb⟩ := match_boxes W m (.int .i64 6) (.int .u8 flag) (.slice sp set.length scap) (.int .u32 n) (.string (txt s)) (.slice kp kids.length kcap)
  have htx := hm.tx
  have hmf := hm.fl
  obtain ⟨uid, mfl, tx, sq, lastS, lastU⟩ := m
  dsimp only at hw0 hbx htx hmf ⊢
  have eT := txt_size tx
  obtain ⟨TX, hTX⟩ : ∃ TX, txt tx = TX := ⟨_, rfl⟩
  obtain ⟨LT, hLT⟩ : ∃ LT, tx.length = LT := ⟨_, rfl⟩
  obtain ⟨X, hXX⟩ : ∃ X, txt s = X := ⟨_, rfl⟩
  obtain ⟨M, hMM⟩ : ∃ M, set.length = M := ⟨_, rfl⟩
  obtain ⟨N, hNN⟩ : ∃ N, kids.length = N := ⟨_, rfl⟩
  rw [hLT] at eT htx
  rw [hTX] at eT hw0
  rw [hXX, hMM, hNN] at hw0
  rw [hLT]
  rw [hTX, hXX, hMM, hNN]
  have HW0 := Lib.hid hw0
  have HB0 := Lib.hid hb0
  clear hM hw0 hb0 hbx hdo hkb hkids hkid hK hN hX ih hkm hsl hsm hpairs hm hTX hXX hMM hNN hLT
  by_cases hlt : LT < n
  · have q : (LT : Int) < n := by omega
    rw [decide_eq_true hlt]
    clear hlt
    go_enter Tryz.func70, Tryz.ntmps70
    go_wp2_with fail
    go_ret
    rw [HW0.out]
    exact ⟨by first | rfl | simp [q], HB0.out⟩
  · have q : ¬ ((LT : Int) < n) := by omega
    rw [decide_eq_false hlt]
    clear hlt
    go_enter Tryz.func70, Tryz.ntmps70
    go_wp2_with fail
    go_ret
    rw [HW0.out]
    exact ⟨by first | rfl | simp [q], HB0.out⟩
set_option maxRecDepth 100000 in
set_option maxHeartbeats 4000000 in
theorem sMatches_k7 {m : MP} (hm : m.Ok) {flag : Nat} {set : List (Nat × Nat)} {n : Nat} {s : List UInt8} {kids : List KT} {sp kp : Option Addr} {scap kcap : Nat} (ih : ∀ x ∈ kids, MatchIH m x) (W : World) (hK : KeyC W (.mk 7 flag set n s kids sp scap kp kcap)) (hN : NodeP 7 flag set.length n s.length kids.length) (hX : MaxL W) :
    Calls Tryz.prog 70 #[(KT.mk 7 flag set n s kids sp scap kp kcap).val, m.recv, m.plc] W fun e w' => e = .returned (.bool (matchK m (.mk 7 flag set n s kids sp scap kp kcap))) ∧ Below W.heap.size W w' := by
  obtain ⟨hkids, hkm, hfl, hn9, hsl, hsm, hpairs⟩ := hK.kids
  have hkid : ∀ x ∈ kids, KeyC W x := fun x hx => hK.kid hx
  have hM : matchK m (.mk 7 flag set n s kids sp scap kp kcap) = Lib.contains (m.tx.map upB) (s.map upB) := by rw [matchK]; simp
  rw [hM]
  show Calls Tryz.prog 70 #[.agg #[.int .i64 7, .int .u8 flag, .slice sp set.length scap, .int .u32 n, .string (txt s), .slice kp kids.length kcap], .agg #[.int .u32 m.uid, .int .u8 m.fl, .string (txt m.tx)], .agg #[.int .u32 m.sq, .int .u32 m.lastS, .int .u32 m.lastU]] W _
  obtain ⟨w0, hw0, hb0, hs0, hbx, hdo, hkb⟩ := match_boxes W m (.int .i64 7) (.int .u8 flag) (.slice sp set.length scap) (.int .u32 n) (.string (txt s)) (.slice kp kids.length kcap)
  have htx := hm.tx
  have hmf := hm.fl
  have hs9 : s.length ≤ 65536 := hN.2.2.2.2.2.2.2.2.1
  obtain ⟨uid, mfl, tx, sq, lastS, lastU⟩ := m
  dsimp only at hw0 hbx htx hmf ⊢
  have CU : ∀ (V : ByteArray) (w : World), (V = txt tx ∨ V = txt s) → Calls Tryz.prog 129 #[.string V] w fun e w' => e = .returned (.string (txt (V.data.toList.map upB))) ∧ Below w.heap.size w w' := fun V w h => by
    rcases h with rfl | rfl
    · have := tkUpper_c tx (by omega) w
      rwa [data_txt]
    · have := tkUpper_c s (by omega) w
      rwa [data_txt]
  have CC : ∀ w, Below w0.heap.size w0 w → Calls Tryz.prog 128 #[.string (txt (tx.map upB)), .string (txt (s.map upB))] w fun e w' => e = .returned (.bool (Lib.contains (tx.map upB) (s.map upB))) ∧ w' = w := fun w hw => by
    obtain ⟨z, hz⟩ := (hX.below hb0).below hw
    have := Tryz.strings_Contains (txt (tx.map upB)) (txt (s.map upB)) z w (by rw [txt_size, List.length_map]; omega) hz
    rwa [data_txt, data_txt] at this
  obtain ⟨⟨_, _, r2⟩, _, hl1, _⟩ := hbx.cells
  dsimp only at r2
  have k4 : w0.cell? ⟨W.heap.size, 4, none⟩ = some (.string (txt s)) := by rw [Lib.cell_of_heap hkb]; rfl
  obtain ⟨bv, hbv⟩ : ∃ b, Lib.contains (tx.map upB) (s.map upB) = b := ⟨_, rfl⟩
  obtain ⟨up, hup⟩ : ∃ up : ByteArray → ByteArray, ∀ V, up V = txt (V.data.toList.map upB) := ⟨fun V => txt (V.data.toList.map upB), fun _ => rfl⟩
  have hUT : txt (tx.map upB) = up (txt tx) := by rw [hup, data_txt]
  have hUX : txt (s.map upB) = up (txt s) := by rw [hup, data_txt]
  rw [hbv, hUT, hUX] at CC
  simp only [← hup] at CU
  rw [hbv]
  have eT := txt_size tx
  obtain ⟨TX, hTX⟩ : ∃ TX, txt tx = TX := ⟨_, rfl⟩
  obtain ⟨LT, hLT⟩ : ∃ LT, tx.length = LT := ⟨_, rfl⟩
  obtain ⟨X, hXX⟩ : ∃ X, txt s = X := ⟨_, rfl⟩
  obtain ⟨M, hMM⟩ : ∃ M, set.length = M := ⟨_, rfl⟩
  obtain ⟨N, hNN⟩ : ∃ N, kids.length = N := ⟨_, rfl⟩
  rw [hLT] at eT htx
  rw [hTX] at eT hw0
  rw [hXX, hMM, hNN] at hw0
  rw [hTX, hXX] at CU CC
  rw [hTX] at r2
  rw [hXX] at k4
  have FS : Hid (∀ w, Below w0.heap.size w0 w → w.cell? ⟨W.heap.size + 1, 2, none⟩ = some (.string TX) ∧ w.cell? ⟨W.heap.size, 4, none⟩ = some (.string X)) := fun w hw =>
    ⟨(hw.cell (p := ⟨W.heap.size + 1, 2, none⟩) (by show W.heap.size + 1 < _; omega)).trans r2, (hw.cell (p := ⟨W.heap.size, 4, none⟩) (by show W.heap.size < _; omega)).trans k4⟩
  have CU := Lib.hid CU
  have CC := Lib.hid CC
  have HBx : Hid (Below w0.heap.size w0 w0) := Below.refl _ _
  rw [hTX, hXX, hMM, hNN]
  have HW0 := Lib.hid hw0
  have HB0 := Lib.hid hb0
  clear hM hw0 hb0 hbx hdo hkb hkids hkid hK hN hX ih hkm hsl hsm hpairs hm hTX hXX hMM hNN hLT hbv hUT hUX hup r2 k4 hl1 hs9
  go_enter Tryz.func70, Tryz.ntmps70
  go_wp2_with fail
  rw [HW0.out]
  go_region_held3 (fun w' => w'.cell? ⟨W.heap.size + 1, 2, none⟩ = some (.string TX) ∧ w'.cell? ⟨W.heap.size, 4, none⟩ = some (.string X))
    (first | exact FS.out _ HBx.out | exact FS.out _ HBx.out.drew)
    (first
      | (go_at_call 129; refine (CU.out _ _ (by first | exact .inl rfl | exact .inr rfl)).mono ?_; rintro e wx ⟨rfl, hb⟩; have HBx : Hid (Below w0.heap.size w0 wx) := (by first | exact HBx.out.trans (hb.mono HBx.out.size) | exact HBx.out.drew.trans (hb.mono HBx.out.size)); clear hb)
      | (go_at_call 128; refine (CC.out _ (by first | exact HBx.out | exact HBx.out.drew)).mono ?_; rintro e wx ⟨rfl, hwx⟩; have HBx : Hid (Below w0.heap.size w0 wx) := (by rw [hwx]; first | exact HBx.out | exact HBx.out.drew); clear hwx))
  all_goals
    go_wp2_with fail
    go_ret
    exact ⟨rfl, HB0.out.trans (HBx.out.mono HB0.out.size)⟩
set_option maxRecDepth 100000 in
set_option maxHeartbeats 4000000 in
theorem sMatches_k8 {m : MP} (hm : m.Ok) {flag : Nat} {set : List (Nat × Nat)} {n : Nat} {s : List UInt8} {kids : List KT} {sp kp : Option Addr} {scap kcap : Nat} (ih : ∀ x ∈ kids, MatchIH m x) (W : World) (hK : KeyC W (.mk 8 flag set n s kids sp scap kp kcap)) (hN : NodeP 8 flag set.length n s.length kids.length) (hX : MaxL W) :
    Calls Tryz.prog 70 #[(KT.mk 8 flag set n s kids sp scap kp kcap).val, m.recv, m.plc] W fun e w' => e = .returned (.bool (matchK m (.mk 8 flag set n s kids sp scap kp kcap))) ∧ Below W.heap.size W w' := by
  obtain ⟨hkids, hkm, hfl, hn9, hsl, hsm, hpairs⟩ := hK.kids
  have hkid : ∀ x ∈ kids, KeyC W x := fun x hx => hK.kid hx
  have hM : matchK m (.mk 8 flag set n s kids sp scap kp kcap) = !matchHd m kids := by rw [matchK]; simp
  rw [hM]
  show Calls Tryz.prog 70 #[.agg #[.int .i64 8, .int .u8 flag, .slice sp set.length scap, .int .u32 n, .string (txt s), .slice kp kids.length kcap], .agg #[.int .u32 m.uid, .int .u8 m.fl, .string (txt m.tx)], .agg #[.int .u32 m.sq, .int .u32 m.lastS, .int .u32 m.lastU]] W _
  obtain ⟨w0, hw0, hb0, hs0, hbx, hdo, hkb⟩ := match_boxes W m (.int .i64 8) (.int .u8 flag) (.slice sp set.length scap) (.int .u32 n) (.string (txt s)) (.slice kp kids.length kcap)
  have htx := hm.tx
  have hmf := hm.fl
  have hN1 : kids.length = 1 := hN.2.2.2.2.2.2.2.2.2.2.1 rfl
  obtain ⟨x, hx⟩ : ∃ x, kids[0]? = some x := ⟨_, List.getElem?_eq_getElem (by omega)⟩
  have hxm := List.mem_of_getElem? hx
  have hhd : matchHd m kids = matchK m x := by
    match kids, hx with
    | y :: r, hx => simp at hx; subst hx; rw [matchHd]
  rw [hhd]
  have C := sMatches2_c x (ih x hxm) (W.heap.size + 1 + 1 + 1) (W.heap.size + 1) (W.heap.size + 1 + 1) w0 ((hkid x hxm).below hb0) (hX.below hb0) hbx hdo
  obtain ⟨bv, hbv⟩ : ∃ b, matchK m x = b := ⟨_, rfl⟩
  rw [hbv] at C ⊢
  obtain ⟨b, off, rfl, hbb, _, hcs⟩ := kid_cells hkids hx
  obtain ⟨yk, yf, ym, yn, yl, ysp, ykp, ysc, ykc, Y, hyv, hyc⟩ := x.form
  rw [hyv] at C
  have hcell : ∀ (q : Nat) (u : Value), (#[.int .i64 yk, .int .u8 yf, .slice ysp ym ysc, .int .u32 yn, .string Y, .slice ykp yl ykc] : Array Value)[q]? = some u → w0.cell? ⟨b, off + q, none⟩ = some u := fun q u hu => by
    have h1 := hcs q u (by rw [← hyc] at hu; simpa using hu)
    rw [Nat.zero_mul, Nat.add_zero] at h1
    exact (hb0.cell (p := ⟨b, _, none⟩) hbb).trans h1
  have d0 := hcell 0 _ rfl
  have d1 := hcell 1 _ rfl
  have d2 := hcell 2 _ rfl
  have d3 := hcell 3 _ rfl
  have d4 := hcell 4 _ rfl
  have d5 := hcell 5 _ rfl
  rw [Nat.add_zero] at d0
  have C := Lib.hid C
  obtain ⟨uid, mfl, tx, sq, lastS, lastU⟩ := m
  dsimp only at hw0 hbx htx hmf ⊢
  have eT := txt_size tx
  obtain ⟨TX, hTX⟩ : ∃ TX, txt tx = TX := ⟨_, rfl⟩
  obtain ⟨LT, hLT⟩ : ∃ LT, tx.length = LT := ⟨_, rfl⟩
  obtain ⟨X, hXX⟩ : ∃ X, txt s = X := ⟨_, rfl⟩
  obtain ⟨M, hMM⟩ : ∃ M, set.length = M := ⟨_, rfl⟩
  obtain ⟨N, hNN⟩ : ∃ N, kids.length = N := ⟨_, rfl⟩
  rw [hLT] at eT htx
  rw [hTX] at eT hw0
  rw [hXX, hMM, hNN] at hw0
  rw [hNN] at hN1
  subst hN1
  rw [← hw0] at d0 d1 d2 d3 d4 d5
  rw [hTX, hXX, hMM, hNN]
  have HW0 := Lib.hid hw0
  have HB0 := Lib.hid hb0
  clear hM hw0 hb0 hbx hdo hkb hkids hkid hK hN hX ih hkm hsl hsm hpairs hm hTX hXX hMM hNN hLT hx hxm hhd hbv hcs hyv hyc hcell
  cases bv
  all_goals
    go_enter Tryz.func70, Tryz.ntmps70
    go_wp2_with fail
    rw [HW0.out]
    refine C.out.mono ?_
    rintro e w5 ⟨rfl, hb5⟩
    have HB5 := Lib.hid (HB0.out.trans (hb5.mono HB0.out.size))
    clear hb5
    go_wp2_with fail
    go_ret
    exact ⟨rfl, HB5.out⟩
set_option maxRecDepth 100000 in
set_option maxHeartbeats 4000000 in
theorem sMatches_k9 {m : MP} (hm : m.Ok) {flag : Nat} {set : List (Nat × Nat)} {n : Nat} {s : List UInt8} {kids : List KT} {sp kp : Option Addr} {scap kcap : Nat} (ih : ∀ x ∈ kids, MatchIH m x) (W : World) (hK : KeyC W (.mk 9 flag set n s kids sp scap kp kcap)) (hN : NodeP 9 flag set.length n s.length kids.length) (hX : MaxL W) :
    Calls Tryz.prog 70 #[(KT.mk 9 flag set n s kids sp scap kp kcap).val, m.recv, m.plc] W fun e w' => e = .returned (.bool (matchK m (.mk 9 flag set n s kids sp scap kp kcap))) ∧ Below W.heap.size W w' := by
  obtain ⟨hkids, hkm, hfl, hn9, hsl, hsm, hpairs⟩ := hK.kids
  have hkid : ∀ x ∈ kids, KeyC W x := fun x hx => hK.kid hx
  have hM : matchK m (.mk 9 flag set n s kids sp scap kp kcap) = matchAny m kids := by rw [matchK]; simp
  rw [hM]
  show Calls Tryz.prog 70 #[.agg #[.int .i64 9, .int .u8 flag, .slice sp set.length scap, .int .u32 n, .string (txt s), .slice kp kids.length kcap], .agg #[.int .u32 m.uid, .int .u8 m.fl, .string (txt m.tx)], .agg #[.int .u32 m.sq, .int .u32 m.lastS, .int .u32 m.lastU]] W _
  obtain ⟨w0, hw0, hb0, hs0, hbx, hdo, hkb⟩ := match_boxes W m (.int .i64 9) (.int .u8 flag) (.slice sp set.length scap) (.int .u32 n) (.string (txt s)) (.slice kp kids.length kcap)
  have htx := hm.tx
  have hmf := hm.fl
  rw [matchAny_any]
  have C := sContainsF_sMatches1_c (W := w0) (kids := kids) (kp := kp) (kcap := kcap) (some ⟨W.heap.size + 1, 0, none⟩) (some ⟨W.heap.size + 1 + 1, 0, none⟩) (matchK m) (KidsC.below hb0 kids kp 0 hkids) hkm (fun x hx W' hW' => sMatches1_c x (ih x hx) _ _ W' ((hkid x hx).below (hb0.trans (hW'.mono (by omega)))) ((hX.below hb0).below hW') (hbx.below hW'))
  obtain ⟨bv, hbv⟩ : ∃ b, kids.any (matchK m) = b := ⟨_, rfl⟩
  rw [hbv] at C ⊢
  obtain ⟨uid, mfl, tx, sq, lastS, lastU⟩ := m
  dsimp only at hw0 hbx htx hmf ⊢
  have eT := txt_size tx
  obtain ⟨TX, hTX⟩ : ∃ TX, txt tx = TX := ⟨_, rfl⟩
  obtain ⟨LT, hLT⟩ : ∃ LT, tx.length = LT := ⟨_, rfl⟩
  obtain ⟨X, hXX⟩ : ∃ X, txt s = X := ⟨_, rfl⟩
  obtain ⟨M, hMM⟩ : ∃ M, set.length = M := ⟨_, rfl⟩
  obtain ⟨N, hNN⟩ : ∃ N, kids.length = N := ⟨_, rfl⟩
  rw [hLT] at eT htx
  rw [hTX] at eT hw0
  rw [hXX, hMM, hNN] at hw0
  rw [hNN] at C
  have C := Lib.hid C
  rw [hTX, hXX, hMM, hNN]
  have HW0 := Lib.hid hw0
  have HB0 := Lib.hid hb0
  clear hM hw0 hb0 hbx hdo hkb hkids hkid hK hN hX ih hkm hsl hsm hpairs hm hTX hXX hMM hNN hLT hbv
  cases bv
  all_goals
    go_enter Tryz.func70, Tryz.ntmps70
    go_wp2_with fail
    rw [HW0.out]
    refine C.out.mono ?_
    rintro e w5 ⟨rfl, hb5⟩
    have HB5 := Lib.hid (HB0.out.trans (hb5.mono HB0.out.size))
    clear hb5
    go_wp2_with fail
    go_ret
    exact ⟨rfl, HB5.out⟩
set_option maxRecDepth 100000 in
set_option maxHeartbeats 4000000 in
theorem sMatches_k10 {m : MP} (hm : m.Ok) {flag : Nat} {set : List (Nat × Nat)} {n : Nat} {s : List UInt8} {kids : List KT} {sp kp : Option Addr} {scap kcap : Nat} (ih : ∀ x ∈ kids, MatchIH m x) (W : World) (hK : KeyC W (.mk 10 flag set n s kids sp scap kp kcap)) (hN : NodeP 10 flag set.length n s.length kids.length) (hX : MaxL W) :
    Calls Tryz.prog 70 #[(KT.mk 10 flag set n s kids sp scap kp kcap).val, m.recv, m.plc] W fun e w' => e = .returned (.bool (matchK m (.mk 10 flag set n s kids sp scap kp kcap))) ∧ Below W.heap.size W w' := by
  obtain ⟨hkids, hkm, hfl, hn9, hsl, hsm, hpairs⟩ := hK.kids
  have hkid : ∀ x ∈ kids, KeyC W x := fun x hx => hK.kid hx
  have hM : matchK m (.mk 10 flag set n s kids sp scap kp kcap) = !matchNot m kids := by rw [matchK]; simp
  rw [hM]
  show Calls Tryz.prog 70 #[.agg #[.int .i64 10, .int .u8 flag, .slice sp set.length scap, .int .u32 n, .string (txt s), .slice kp kids.length kcap], .agg #[.int .u32 m.uid, .int .u8 m.fl, .string (txt m.tx)], .agg #[.int .u32 m.sq, .int .u32 m.lastS, .int .u32 m.lastU]] W _
  obtain ⟨w0, hw0, hb0, hs0, hbx, hdo, hkb⟩ := match_boxes W m (.int .i64 10) (.int .u8 flag) (.slice sp set.length scap) (.int .u32 n) (.string (txt s)) (.slice kp kids.length kcap)
  have htx := hm.tx
  have hmf := hm.fl
  rw [matchNot_any]
  have C := sContainsF_sMatches2_c (W := w0) (kids := kids) (kp := kp) (kcap := kcap) (some ⟨W.heap.size + 1 + 1 + 1, 0, none⟩) (fun x => !matchK m x) (KidsC.below hb0 kids kp 0 hkids) hkm (fun x hx W' hW' => sMatches2_c x (ih x hx) _ _ _ W' ((hkid x hx).below (hb0.trans (hW'.mono (by omega)))) ((hX.below hb0).below hW') (hbx.below hW') ((hW'.block _ (lt_of_block hdo)).trans hdo))
  obtain ⟨bv, hbv⟩ : ∃ b, kids.any (fun x => !matchK m x) = b := ⟨_, rfl⟩
  rw [hbv] at C ⊢
  obtain ⟨uid, mfl, tx, sq, lastS, lastU⟩ := m
  dsimp only at hw0 hbx htx hmf ⊢
  have eT := txt_size tx
  obtain ⟨TX, hTX⟩ : ∃ TX, txt tx = TX := ⟨_, rfl⟩
  obtain ⟨LT, hLT⟩ : ∃ LT, tx.length = LT := ⟨_, rfl⟩
  obtain ⟨X, hXX⟩ : ∃ X, txt s = X := ⟨_, rfl⟩
  obtain ⟨M, hMM⟩ : ∃ M, set.length = M := ⟨_, rfl⟩
  obtain ⟨N, hNN⟩ : ∃ N, kids.length = N := ⟨_, rfl⟩
  rw [hLT] at eT htx
  rw [hTX] at eT hw0
  rw [hXX, hMM, hNN] at hw0
  rw [hNN] at C
  have C := Lib.hid C
  rw [hTX, hXX, hMM, hNN]
  have HW0 := Lib.hid hw0
  have HB0 := Lib.hid hb0
  clear hM hw0 hb0 hbx hdo hkb hkids hkid hK hN hX ih hkm hsl hsm hpairs hm hTX hXX hMM hNN hLT hbv
  cases bv
  all_goals
    go_enter Tryz.func70, Tryz.ntmps70
    go_wp2_with fail
    rw [HW0.out]
    refine C.out.mono ?_
    rintro e w5 ⟨rfl, hb5⟩
    have HB5 := Lib.hid (HB0.out.trans (hb5.mono HB0.out.size))
    clear hb5
    go_wp2_with fail
    go_ret
    exact ⟨rfl, HB5.out⟩
theorem node_kids {kind : Int} {flag n : Nat} {set : List (Nat × Nat)} {s : List UInt8} {kids : List KT} {sp kp : Option Addr} {scap kcap : Nat} (h : (preK (.mk kind flag set n s kids sp scap kp kcap)).all nodeK = true) :
    NodeP kind flag set.length n s.length kids.length ∧ ∀ x ∈ kids, (preK x).all nodeK = true := by
  rw [preK, List.all_cons, nodeK, Bool.and_eq_true, decide_eq_true_iff] at h
  refine ⟨h.1, fun x hx => ?_⟩
  have : ∀ (l : List KT), x ∈ l → (preKs l).all nodeK = true → (preK x).all nodeK = true := by
    intro l
    induction l with
    | nil => intro h; simp at h
    | cons y r ihr =>
      intro hm ha
      rw [preKs, List.all_append, Bool.and_eq_true] at ha
      rcases List.mem_cons.1 hm with rfl | hm
      · exact ha.1
      · exact ihr hm ha.2
  exact this kids hx h.2
theorem sMatches_c {m : MP} (hm : m.Ok) (k : KT) : (preK k).all nodeK = true → MatchIH m k := by
  refine KT.ind (P := fun k => (preK k).all nodeK = true → MatchIH m k) ?_ k
  intro kind flag set n s kids sp scap kp kcap ih hn W hK hX
  obtain ⟨hN, hk⟩ := node_kids hn
  have ih' : ∀ x ∈ kids, MatchIH m x := fun x hx => ih x hx (hk x hx)
  have h0 := hN.1
  have h10 := hN.2.1
  obtain rfl | rfl | rfl | rfl | rfl | rfl | rfl | rfl | rfl | rfl | rfl : kind = 0 ∨ kind = 1 ∨ kind = 2 ∨ kind = 3 ∨ kind = 4 ∨ kind = 5 ∨ kind = 6 ∨ kind = 7 ∨ kind = 8 ∨ kind = 9 ∨ kind = 10 := by omega
  · exact sMatches_k0 hm ih' W hK hN hX
  · exact sMatches_k1 hm ih' W hK hN hX
  · exact sMatches_k2 hm ih' W hK hN hX
  · exact sMatches_k3 hm ih' W hK hN hX
  · exact sMatches_k4 hm ih' W hK hN hX
  · exact sMatches_k5 hm ih' W hK hN hX
  · exact sMatches_k6 hm ih' W hK hN hX
  · exact sMatches_k7 hm ih' W hK hN hX
  · exact sMatches_k8 hm ih' W hK hN hX
  · exact sMatches_k9 hm ih' W hK hN hX
  · exact sMatches_k10 hm ih' W hK hN hX
end Go.Proofs.YtpnnchpaaopdcaaGreatDoor

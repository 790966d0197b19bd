/-
  Has a key just what keys of its kind have, by the program: contract. MADE by wip/tools/mkKa2.py.
-/
import Derived.Test.YtpnnchpaaopdcaaGreatDoorZB04
import Derived.Test.YtpnnchpaaopdcaaGreatDoorZB05
set_option linter.unusedVariables false
set_option linter.unusedSimpArgs false
namespace Go.Proofs.YtpnnchpaaopdcaaGreatDoor
open Go Go.RowKit
theorem oneFl_iff (fl : Nat) : oneFl fl = true ↔ fl = 1 ∨ fl = 2 ∨ fl = 4 ∨ fl = 8 ∨ fl = 16 := by
  unfold oneFl; simp only [Bool.or_eq_true, beq_iff_eq]; omega
set_option maxRecDepth 100000 in
set_option maxHeartbeats 8000000 in
theorem sfits_k0 {fl M n N : Nat} {s : List UInt8} {sp kp : Option Addr} {scap kcap : Nat} (W : World) (hfl : fl < 256) :
    Calls Tryz.prog 65 #[.agg #[.int .i64 0, .int .u8 fl, .slice sp M scap, .int .u32 n, .string (txt s), .slice kp N kcap]] W fun e w' => e = .returned (.bool (decide (NodeP 0 fl M n s.length N))) ∧ Below W.heap.size W w' := by
  obtain ⟨Z, hZ⟩ : ∃ Z, decide (NodeP 0 fl M n s.length N) = Z := ⟨_, rfl⟩
  rw [hZ]
  have hem : (txt s).toList.isEmpty = decide (s.length = 0) := by rw [isEmpty_txt rfl]; cases s <;> simp
  have hXe : (txt s).toList = [] ↔ s.length = 0 := by rw [← List.isEmpty_iff, hem, decide_eq_true_iff]
  have ex := txt_size s
  obtain ⟨X, hX⟩ : ∃ X, txt s = X := ⟨_, rfl⟩
  obtain ⟨sl, hsl⟩ : ∃ sl, s.length = sl := ⟨_, rfl⟩
  rw [hX] at hXe ex ⊢
  rw [hsl] at hXe ex hZ
  have HX := Lib.hid hXe
  have HE := Lib.hid ex
  have HZ := Lib.hid hZ
  clear hZ hX hsl hXe ex hem
  go_enter Tryz.func65, Tryz.ntmps65
  go_wp2_with fail
  all_goals (
    go_ret
    refine ⟨?_, (Below.refl _ _).alloc (Nat.le_refl _) _⟩
    rw [← HZ.out]
    have hXe := HX.out
    first | have hs := hXe.1 (by assumption) | have hs : ¬ sl = 0 := fun h => absurd (hXe.2 h) (by assumption) | skip
    clear hXe
    have ex := HE.out
    clear HX HE HZ
    show Ending.returned (Value.bool _) = _
    refine congrArg (fun b => Ending.returned (Value.bool b)) ?_
    rw [Bool.eq_iff_iff, decide_eq_true_iff]
    try simp only [beq_iff_eq, decide_eq_true_iff, Bool.false_eq_true, false_iff, true_iff]
    unfold NodeP
    omega)
set_option maxRecDepth 100000 in
set_option maxHeartbeats 8000000 in
theorem sfits_k1 {fl M n N : Nat} {s : List UInt8} {sp kp : Option Addr} {scap kcap : Nat} (W : World) (hfl : fl < 256) :
    Calls Tryz.prog 65 #[.agg #[.int .i64 1, .int .u8 fl, .slice sp M scap, .int .u32 n, .string (txt s), .slice kp N kcap]] W fun e w' => e = .returned (.bool (decide (NodeP 1 fl M n s.length N))) ∧ Below W.heap.size W w' := by
  obtain ⟨Z, hZ⟩ : ∃ Z, decide (NodeP 1 fl M n s.length N) = Z := ⟨_, rfl⟩
  rw [hZ]
  have hem : (txt s).toList.isEmpty = decide (s.length = 0) := by rw [isEmpty_txt rfl]; cases s <;> simp
  have hXe : (txt s).toList = [] ↔ s.length = 0 := by rw [← List.isEmpty_iff, hem, decide_eq_true_iff]
  have ex := txt_size s
  obtain ⟨X, hX⟩ : ∃ X, txt s = X := ⟨_, rfl⟩
  obtain ⟨sl, hsl⟩ : ∃ sl, s.length = sl := ⟨_, rfl⟩
  rw [hX] at hXe ex ⊢
  rw [hsl] at hXe ex hZ
  have HX := Lib.hid hXe
  have HE := Lib.hid ex
  have HZ := Lib.hid hZ
  have CS := Lib.hid (fun w => sSingle_c fl hfl w)
  have h1 := oneFl_iff fl
  obtain ⟨B, hB⟩ : ∃ B, oneFl fl = B := ⟨_, rfl⟩
  rw [hB] at h1
  simp only [hB] at CS
  have HB := Lib.hid h1
  clear h1 hB
  clear hZ hX hsl hXe ex hem
  go_enter Tryz.func65, Tryz.ntmps65
  go_wp2_with (first | (go_at_call 120; refine (CS.out _).mono ?_; rintro e w1 ⟨rfl, rfl⟩) | fail)
  all_goals (
    go_ret
    refine ⟨?_, (Below.refl _ _).alloc (Nat.le_refl _) _⟩
    rw [← HZ.out]
    have hXe := HX.out
    first | have hs := hXe.1 (by assumption) | have hs : ¬ sl = 0 := fun h => absurd (hXe.2 h) (by assumption) | skip
    clear hXe
    have ex := HE.out
    have h1 := HB.out
    clear HB CS
    first | have hb := h1.1 (by assumption) | have hb : ¬ (fl = 1 ∨ fl = 2 ∨ fl = 4 ∨ fl = 8 ∨ fl = 16) := fun h => absurd (h1.2 h) (by first | assumption | (simp only [Bool.not_eq_true]; assumption)) | skip
    clear h1
    clear HX HE HZ
    show Ending.returned (Value.bool _) = _
    refine congrArg (fun b => Ending.returned (Value.bool b)) ?_
    rw [Bool.eq_iff_iff, decide_eq_true_iff]
    try simp only [beq_iff_eq, decide_eq_true_iff, Bool.false_eq_true, false_iff, true_iff]
    unfold NodeP
    omega)
set_option maxRecDepth 100000 in
set_option maxHeartbeats 8000000 in
theorem sfits_k2 {fl M n N : Nat} {s : List UInt8} {sp kp : Option Addr} {scap kcap : Nat} (W : World) (hfl : fl < 256) :
    Calls Tryz.prog 65 #[.agg #[.int .i64 2, .int .u8 fl, .slice sp M scap, .int .u32 n, .string (txt s), .slice kp N kcap]] W fun e w' => e = .returned (.bool (decide (NodeP 2 fl M n s.length N))) ∧ Below W.heap.size W w' := by
  obtain ⟨Z, hZ⟩ : ∃ Z, decide (NodeP 2 fl M n s.length N) = Z := ⟨_, rfl⟩
  rw [hZ]
  have hem : (txt s).toList.isEmpty = decide (s.length = 0) := by rw [isEmpty_txt rfl]; cases s <;> simp
  have hXe : (txt s).toList = [] ↔ s.length = 0 := by rw [← List.isEmpty_iff, hem, decide_eq_true_iff]
  have ex := txt_size s
  obtain ⟨X, hX⟩ : ∃ X, txt s = X := ⟨_, rfl⟩
  obtain ⟨sl, hsl⟩ : ∃ sl, s.length = sl := ⟨_, rfl⟩
  rw [hX] at hXe ex ⊢
  rw [hsl] at hXe ex hZ
  have HX := Lib.hid hXe
  have HE := Lib.hid ex
  have HZ := Lib.hid hZ
  have CS := Lib.hid (fun w => sSingle_c fl hfl w)
  have h1 := oneFl_iff fl
  obtain ⟨B, hB⟩ : ∃ B, oneFl fl = B := ⟨_, rfl⟩
  rw [hB] at h1
  simp only [hB] at CS
  have HB := Lib.hid h1
  clear h1 hB
  clear hZ hX hsl hXe ex hem
  go_enter Tryz.func65, Tryz.ntmps65
  go_wp2_with (first | (go_at_call 120; refine (CS.out _).mono ?_; rintro e w1 ⟨rfl, rfl⟩) | fail)
  all_goals (
    go_ret
    refine ⟨?_, (Below.refl _ _).alloc (Nat.le_refl _) _⟩
    rw [← HZ.out]
    have hXe := HX.out
    first | have hs := hXe.1 (by assumption) | have hs : ¬ sl = 0 := fun h => absurd (hXe.2 h) (by assumption) | skip
    clear hXe
    have ex := HE.out
    have h1 := HB.out
    clear HB CS
    first | have hb := h1.1 (by assumption) | have hb : ¬ (fl = 1 ∨ fl = 2 ∨ fl = 4 ∨ fl = 8 ∨ fl = 16) := fun h => absurd (h1.2 h) (by first | assumption | (simp only [Bool.not_eq_true]; assumption)) | skip
    clear h1
    clear HX HE HZ
    show Ending.returned (Value.bool _) = _
    refine congrArg (fun b => Ending.returned (Value.bool b)) ?_
    rw [Bool.eq_iff_iff, decide_eq_true_iff]
    try simp only [beq_iff_eq, decide_eq_true_iff, Bool.false_eq_true, false_iff, true_iff]
    unfold NodeP
    omega)
set_option maxRecDepth 100000 in
set_option maxHeartbeats 8000000 in
theorem sfits_k3 {fl M n N : Nat} {s : List UInt8} {sp kp : Option Addr} {scap kcap : Nat} (W : World) (hfl : fl < 256) :
    Calls Tryz.prog 65 #[.agg #[.int .i64 3, .int .u8 fl, .slice sp M scap, .int .u32 n, .string (txt s), .slice kp N kcap]] W fun e w' => e = .returned (.bool (decide (NodeP 3 fl M n s.length N))) ∧ Below W.heap.size W w' := by
  obtain ⟨Z, hZ⟩ : ∃ Z, decide (NodeP 3 fl M n s.length N) = Z := ⟨_, rfl⟩
  rw [hZ]
  have hem : (txt s).toList.isEmpty = decide (s.length = 0) := by rw [isEmpty_txt rfl]; cases s <;> simp
  have hXe : (txt s).toList = [] ↔ s.length = 0 := by rw [← List.isEmpty_iff, hem, decide_eq_true_iff]
  have ex := txt_size s
  obtain ⟨X, hX⟩ : ∃ X, txt s = X := ⟨_, rfl⟩
  obtain ⟨sl, hsl⟩ : ∃ sl, s.length = sl := ⟨_, rfl⟩
  rw [hX] at hXe ex ⊢
  rw [hsl] at hXe ex hZ
  have HX := Lib.hid hXe
  have HE := Lib.hid ex
  have HZ := Lib.hid hZ
  clear hZ hX hsl hXe ex hem
  go_enter Tryz.func65, Tryz.ntmps65
  go_wp2_with fail
  all_goals (
    go_ret
    refine ⟨?_, (Below.refl _ _).alloc (Nat.le_refl _) _⟩
    rw [← HZ.out]
    have hXe := HX.out
    first | have hs := hXe.1 (by assumption) | have hs : ¬ sl = 0 := fun h => absurd (hXe.2 h) (by assumption) | skip
    clear hXe
    have ex := HE.out
    clear HX HE HZ
    show Ending.returned (Value.bool _) = _
    refine congrArg (fun b => Ending.returned (Value.bool b)) ?_
    rw [Bool.eq_iff_iff, decide_eq_true_iff]
    try simp only [beq_iff_eq, decide_eq_true_iff, Bool.false_eq_true, false_iff, true_iff]
    unfold NodeP
    omega)
set_option maxRecDepth 100000 in
set_option maxHeartbeats 8000000 in
theorem sfits_k4 {fl M n N : Nat} {s : List UInt8} {sp kp : Option Addr} {scap kcap : Nat} (W : World) (hfl : fl < 256) :
    Calls Tryz.prog 65 #[.agg #[.int .i64 4, .int .u8 fl, .slice sp M scap, .int .u32 n, .string (txt s), .slice kp N kcap]] W fun e w' => e = .returned (.bool (decide (NodeP 4 fl M n s.length N))) ∧ Below W.heap.size W w' := by
  obtain ⟨Z, hZ⟩ : ∃ Z, decide (NodeP 4 fl M n s.length N) = Z := ⟨_, rfl⟩
  rw [hZ]
  have hem : (txt s).toList.isEmpty = decide (s.length = 0) := by rw [isEmpty_txt rfl]; cases s <;> simp
  have hXe : (txt s).toList = [] ↔ s.length = 0 := by rw [← List.isEmpty_iff, hem, decide_eq_true_iff]
  have ex := txt_size s
  obtain ⟨X, hX⟩ : ∃ X, txt s = X := ⟨_, rfl⟩
  obtain ⟨sl, hsl⟩ : ∃ sl, s.length = sl := ⟨_, rfl⟩
  rw [hX] at hXe ex ⊢
  rw [hsl] at hXe ex hZ
  have HX := Lib.hid hXe
  have HE := Lib.hid ex
  have HZ := Lib.hid hZ
  clear hZ hX hsl hXe ex hem
  go_enter Tryz.func65, Tryz.ntmps65
  go_wp2_with fail
  all_goals (
    go_ret
    refine ⟨?_, (Below.refl _ _).alloc (Nat.le_refl _) _⟩
    rw [← HZ.out]
    have hXe := HX.out
    first | have hs := hXe.1 (by assumption) | have hs : ¬ sl = 0 := fun h => absurd (hXe.2 h) (by assumption) | skip
    clear hXe
    have ex := HE.out
    clear HX HE HZ
    show Ending.returned (Value.bool _) = _
    refine congrArg (fun b => Ending.returned (Value.bool b)) ?_
    rw [Bool.eq_iff_iff, decide_eq_true_iff]
    try simp only [beq_iff_eq, decide_eq_true_iff, Bool.false_eq_true, false_iff, true_iff]
    unfold NodeP
    omega)
set_option maxRecDepth 100000 in
set_option maxHeartbeats 8000000 in
theorem sfits_k5 {fl M n N : Nat} {s : List UInt8} {sp kp : Option Addr} {scap kcap : Nat} (W : World) (hfl : fl < 256) :
    Calls Tryz.prog 65 #[.agg #[.int .i64 5, .int .u8 fl, .slice sp M scap, .int .u32 n, .string (txt s), .slice kp N kcap]] W fun e w' => e = .returned (.bool (decide (NodeP 5 fl M n s.length N))) ∧ Below W.heap.size W w' := by
  obtain ⟨Z, hZ⟩ : ∃ Z, decide (NodeP 5 fl M n s.length N) = Z := ⟨_, rfl⟩
  rw [hZ]
  have hem : (txt s).toList.isEmpty = decide (s.length = 0) := by rw [isEmpty_txt rfl]; cases s <;> simp
  have hXe : (txt s).toList = [] ↔ s.length = 0 := by rw [← List.isEmpty_iff, hem, decide_eq_true_iff]
  have ex := txt_size s
  obtain ⟨X, hX⟩ : ∃ X, txt s = X := ⟨_, rfl⟩
  obtain ⟨sl, hsl⟩ : ∃ sl, s.length = sl := ⟨_, rfl⟩
  rw [hX] at hXe ex ⊢
  rw [hsl] at hXe ex hZ
  have HX := Lib.hid hXe
  have HE := Lib.hid ex
  have HZ := Lib.hid hZ
  clear hZ hX hsl hXe ex hem
  go_enter Tryz.func65, Tryz.ntmps65
  go_wp2_with fail
  all_goals (
    go_ret
    refine ⟨?_, (Below.refl _ _).alloc (Nat.le_refl _) _⟩
    rw [← HZ.out]
    have hXe := HX.out
    first | have hs := hXe.1 (by assumption) | have hs : ¬ sl = 0 := fun h => absurd (hXe.2 h) (by assumption) | skip
    clear hXe
    have ex := HE.out
    clear HX HE HZ
    show Ending.returned (Value.bool _) = _
    refine congrArg (fun b => Ending.returned (Value.bool b)) ?_
    rw [Bool.eq_iff_iff, decide_eq_true_iff]
    try simp only [beq_iff_eq, decide_eq_true_iff, Bool.false_eq_true, false_iff, true_iff]
    unfold NodeP
    omega)
set_option maxRecDepth 100000 in
set_option maxHeartbeats 8000000 in
theorem sfits_k6 {fl M n N : Nat} {s : List UInt8} {sp kp : Option Addr} {scap kcap : Nat} (W : World) (hfl : fl < 256) :
    Calls Tryz.prog 65 #[.agg #[.int .i64 6, .int .u8 fl, .slice sp M scap, .int .u32 n, .string (txt s), .slice kp N kcap]] W fun e w' => e = .returned (.bool (decide (NodeP 6 fl M n s.length N))) ∧ Below W.heap.size W w' := by
  obtain ⟨Z, hZ⟩ : ∃ Z, decide (NodeP 6 fl M n s.length N) = Z := ⟨_, rfl⟩
  rw [hZ]
  have hem : (txt s).toList.isEmpty = decide (s.length = 0) := by rw [isEmpty_txt rfl]; cases s <;> simp
  have hXe : (txt s).toList = [] ↔ s.length = 0 := by rw [← List.isEmpty_iff, hem, decide_eq_true_iff]
  have ex := txt_size s
  obtain ⟨X, hX⟩ : ∃ X, txt s = X := ⟨_, rfl⟩
  obtain ⟨sl, hsl⟩ : ∃ sl, s.length = sl := ⟨_, rfl⟩
  rw [hX] at hXe ex ⊢
  rw [hsl] at hXe ex hZ
  have HX := Lib.hid hXe
  have HE := Lib.hid ex
  have HZ := Lib.hid hZ
  clear hZ hX hsl hXe ex hem
  go_enter Tryz.func65, Tryz.ntmps65
  go_wp2_with fail
  all_goals (
    go_ret
    refine ⟨?_, (Below.refl _ _).alloc (Nat.le_refl _) _⟩
    rw [← HZ.out]
    have hXe := HX.out
    first | have hs := hXe.1 (by assumption) | have hs : ¬ sl = 0 := fun h => absurd (hXe.2 h) (by assumption) | skip
    clear hXe
    have ex := HE.out
    clear HX HE HZ
    show Ending.returned (Value.bool _) = _
    refine congrArg (fun b => Ending.returned (Value.bool b)) ?_
    rw [Bool.eq_iff_iff, decide_eq_true_iff]
    try simp only [beq_iff_eq, decide_eq_true_iff, Bool.false_eq_true, false_iff, true_iff]
    unfold NodeP
    omega)
set_option maxRecDepth 100000 in
set_option maxHeartbeats 8000000 in
theorem sfits_k7 {fl M n N : Nat} {s : List UInt8} {sp kp : Option Addr} {scap kcap : Nat} (W : World) (hfl : fl < 256) :
    Calls Tryz.prog 65 #[.agg #[.int .i64 7, .int .u8 fl, .slice sp M scap, .int .u32 n, .string (txt s), .slice kp N kcap]] W fun e w' => e = .returned (.bool (decide (NodeP 7 fl M n s.length N))) ∧ Below W.heap.size W w' := by
  obtain ⟨Z, hZ⟩ : ∃ Z, decide (NodeP 7 fl M n s.length N) = Z := ⟨_, rfl⟩
  rw [hZ]
  have hem : (txt s).toList.isEmpty = decide (s.length = 0) := by rw [isEmpty_txt rfl]; cases s <;> simp
  have hXe : (txt s).toList = [] ↔ s.length = 0 := by rw [← List.isEmpty_iff, hem, decide_eq_true_iff]
  have ex := txt_size s
  obtain ⟨X, hX⟩ : ∃ X, txt s = X := ⟨_, rfl⟩
  obtain ⟨sl, hsl⟩ : ∃ sl, s.length = sl := ⟨_, rfl⟩
  rw [hX] at hXe ex ⊢
  rw [hsl] at hXe ex hZ
  have HX := Lib.hid hXe
  have HE := Lib.hid ex
  have HZ := Lib.hid hZ
  clear hZ hX hsl hXe ex hem
  go_enter Tryz.func65, Tryz.ntmps65
  go_wp2_with fail
  all_goals (
    go_ret
    refine ⟨?_, (Below.refl _ _).alloc (Nat.le_refl _) _⟩
    rw [← HZ.out]
    have hXe := HX.out
    first | have hs := hXe.1 (by assumption) | have hs : ¬ sl = 0 := fun h => absurd (hXe.2 h) (by assumption) | skip
    clear hXe
    have ex := HE.out
    clear HX HE HZ
    show Ending.returned (Value.bool _) = _
    refine congrArg (fun b => Ending.returned (Value.bool b)) ?_
    rw [Bool.eq_iff_iff, decide_eq_true_iff]
    try simp only [beq_iff_eq, decide_eq_true_iff, Bool.false_eq_true, false_iff, true_iff]
    unfold NodeP
    omega)
set_option maxRecDepth 100000 in
set_option maxHeartbeats 8000000 in
theorem sfits_k8 {fl M n N : Nat} {s : List UInt8} {sp kp : Option Addr} {scap kcap : Nat} (W : World) (hfl : fl < 256) :
    Calls Tryz.prog 65 #[.agg #[.int .i64 8, .int .u8 fl, .slice sp M scap, .int .u32 n, .string (txt s), .slice kp N kcap]] W fun e w' => e = .returned (.bool (decide (NodeP 8 fl M n s.length N))) ∧ Below W.heap.size W w' := by
  obtain ⟨Z, hZ⟩ : ∃ Z, decide (NodeP 8 fl M n s.length N) = Z := ⟨_, rfl⟩
  rw [hZ]
  have hem : (txt s).toList.isEmpty = decide (s.length = 0) := by rw [isEmpty_txt rfl]; cases s <;> simp
  have hXe : (txt s).toList = [] ↔ s.length = 0 := by rw [← List.isEmpty_iff, hem, decide_eq_true_iff]
  have ex := txt_size s
  obtain ⟨X, hX⟩ : ∃ X, txt s = X := ⟨_, rfl⟩
  obtain ⟨sl, hsl⟩ : ∃ sl, s.length = sl := ⟨_, rfl⟩
  rw [hX] at hXe ex ⊢
  rw [hsl] at hXe ex hZ
  have HX := Lib.hid hXe
  have HE := Lib.hid ex
  have HZ := Lib.hid hZ
  clear hZ hX hsl hXe ex hem
  go_enter Tryz.func65, Tryz.ntmps65
  go_wp2_with fail
  all_goals (
    go_ret
    refine ⟨?_, (Below.refl _ _).alloc (Nat.le_refl _) _⟩
    rw [← HZ.out]
    have hXe := HX.out
    first | have hs := hXe.1 (by assumption) | have hs : ¬ sl = 0 := fun h => absurd (hXe.2 h) (by assumption) | skip
    clear hXe
    have ex := HE.out
    clear HX HE HZ
    show Ending.returned (Value.bool _) = _
    refine congrArg (fun b => Ending.returned (Value.bool b)) ?_
    rw [Bool.eq_iff_iff, decide_eq_true_iff]
    try simp only [beq_iff_eq, decide_eq_true_iff, Bool.false_eq_true, false_iff, true_iff]
    unfold NodeP
    omega)
set_option maxRecDepth 100000 in
set_option maxHeartbeats 8000000 in
theorem sfits_k9 {fl M n N : Nat} {s : List UInt8} {sp kp : Option Addr} {scap kcap : Nat} (W : World) (hfl : fl < 256) :
    Calls Tryz.prog 65 #[.agg #[.int .i64 9, .int .u8 fl, .slice sp M scap, .int .u32 n, .string (txt s), .slice kp N kcap]] W fun e w' => e = .returned (.bool (decide (NodeP 9 fl M n s.length N))) ∧ Below W.heap.size W w' := by
  obtain ⟨Z, hZ⟩ : ∃ Z, decide (NodeP 9 fl M n s.length N) = Z := ⟨_, rfl⟩
  rw [hZ]
  have hem : (txt s).toList.isEmpty = decide (s.length = 0) := by rw [isEmpty_txt rfl]; cases s <;> simp
  have hXe : (txt s).toList = [] ↔ s.length = 0 := by rw [← List.isEmpty_iff, hem, decide_eq_true_iff]
  have ex := txt_size s
  obtain ⟨X, hX⟩ : ∃ X, txt s = X := ⟨_, rfl⟩
  obtain ⟨sl, hsl⟩ : ∃ sl, s.length = sl := ⟨_, rfl⟩
  rw [hX] at hXe ex ⊢
  rw [hsl] at hXe ex hZ
  have HX := Lib.hid hXe
  have HE := Lib.hid ex
  have HZ := Lib.hid hZ
  clear hZ hX hsl hXe ex hem
  go_enter Tryz.func65, Tryz.ntmps65
  go_wp2_with fail
  all_goals (
    go_ret
    refine ⟨?_, (Below.refl _ _).alloc (Nat.le_refl _) _⟩
    rw [← HZ.out]
    have hXe := HX.out
    first | have hs := hXe.1 (by assumption) | have hs : ¬ sl = 0 := fun h => absurd (hXe.2 h) (by assumption) | skip
    clear hXe
    have ex := HE.out
    clear HX HE HZ
    show Ending.returned (Value.bool _) = _
    refine congrArg (fun b => Ending.returned (Value.bool b)) ?_
    rw [Bool.eq_iff_iff, decide_eq_true_iff]
    try simp only [beq_iff_eq, decide_eq_true_iff, Bool.false_eq_true, false_iff, true_iff]
    unfold NodeP
    omega)
set_option maxRecDepth 100000 in
set_option maxHeartbeats 8000000 in
theorem sfits_k10 {fl M n N : Nat} {s : List UInt8} {sp kp : Option Addr} {scap kcap : Nat} (W : World) (hfl : fl < 256) :
    Calls Tryz.prog 65 #[.agg #[.int .i64 10, .int .u8 fl, .slice sp M scap, .int .u32 n, .string (txt s), .slice kp N kcap]] W fun e w' => e = .returned (.bool (decide (NodeP 10 fl M n s.length N))) ∧ Below W.heap.size W w' := by
  obtain ⟨Z, hZ⟩ : ∃ Z, decide (NodeP 10 fl M n s.length N) = Z := ⟨_, rfl⟩
  rw [hZ]
  have hem : (txt s).toList.isEmpty = decide (s.length = 0) := by rw [isEmpty_txt rfl]; cases s <;> simp
  have hXe : (txt s).toList = [] ↔ s.length = 0 := by rw [← List.isEmpty_iff, hem, decide_eq_true_iff]
  have ex := txt_size s
  obtain ⟨X, hX⟩ : ∃ X, txt s = X := ⟨_, rfl⟩
  obtain ⟨sl, hsl⟩ : ∃ sl, s.length = sl := ⟨_, rfl⟩
  rw [hX] at hXe ex ⊢
  rw [hsl] at hXe ex hZ
  have HX := Lib.hid hXe
  have HE := Lib.hid ex
  have HZ := Lib.hid hZ
  clear hZ hX hsl hXe ex hem
  go_enter Tryz.func65, Tryz.ntmps65
  go_wp2_with fail
  all_goals (
    go_ret
    refine ⟨?_, (Below.refl _ _).alloc (Nat.le_refl _) _⟩
    rw [← HZ.out]
    have hXe := HX.out
    first | have hs := hXe.1 (by assumption) | have hs : ¬ sl = 0 := fun h => absurd (hXe.2 h) (by assumption) | skip
    clear hXe
    have ex := HE.out
    clear HX HE HZ
    show Ending.returned (Value.bool _) = _
    refine congrArg (fun b => Ending.returned (Value.bool b)) ?_
    rw [Bool.eq_iff_iff, decide_eq_true_iff]
    try simp only [beq_iff_eq, decide_eq_true_iff, Bool.false_eq_true, false_iff, true_iff]
    unfold NodeP
    omega)
set_option maxRecDepth 100000 in
set_option maxHeartbeats 8000000 in
theorem sfits_ko {kind : Int} (hk : ¬ (0 ≤ kind ∧ kind ≤ 10)) {fl M n N : Nat} {s : List UInt8} {sp kp : Option Addr} {scap kcap : Nat} (W : World) (hfl : fl < 256) :
    Calls Tryz.prog 65 #[.agg #[.int .i64 kind, .int .u8 fl, .slice sp M scap, .int .u32 n, .string (txt s), .slice kp N kcap]] W fun e w' => e = .returned (.bool (decide (NodeP kind fl M n s.length N))) ∧ Below W.heap.size W w' := by
  obtain ⟨Z, hZ⟩ : ∃ Z, decide (NodeP kind fl M n s.length N) = Z := ⟨_, rfl⟩
  rw [hZ]
  have hem : (txt s).toList.isEmpty = decide (s.length = 0) := by rw [isEmpty_txt rfl]; cases s <;> simp
  have hXe : (txt s).toList = [] ↔ s.length = 0 := by rw [← List.isEmpty_iff, hem, decide_eq_true_iff]
  have ex := txt_size s
  obtain ⟨X, hX⟩ : ∃ X, txt s = X := ⟨_, rfl⟩
  obtain ⟨sl, hsl⟩ : ∃ sl, s.length = sl := ⟨_, rfl⟩
  rw [hX] at hXe ex ⊢
  rw [hsl] at hXe ex hZ
  have HX := Lib.hid hXe
  have HE := Lib.hid ex
  have HZ := Lib.hid hZ
  have n0 : kind ≠ 0 := by omega
  have n1 : kind ≠ 1 := by omega
  have n2 : kind ≠ 2 := by omega
  have n3 : kind ≠ 3 := by omega
  have n4 : kind ≠ 4 := by omega
  have n5 : kind ≠ 5 := by omega
  have n6 : kind ≠ 6 := by omega
  have n7 : kind ≠ 7 := by omega
  have n8 : kind ≠ 8 := by omega
  have n9 : kind ≠ 9 := by omega
  have n10 : kind ≠ 10 := by omega
  have HK := Lib.hid hk
  clear hk
  clear hZ hX hsl hXe ex hem
  go_enter Tryz.func65, Tryz.ntmps65
  go_wp2_with fail
  all_goals (
    go_ret
    refine ⟨?_, (Below.refl _ _).alloc (Nat.le_refl _) _⟩
    rw [← HZ.out]
    have hXe := HX.out
    first | have hs := hXe.1 (by assumption) | have hs : ¬ sl = 0 := fun h => absurd (hXe.2 h) (by assumption) | skip
    clear hXe
    have ex := HE.out
    have hk := HK.out
    clear HK
    clear HX HE HZ
    show Ending.returned (Value.bool _) = _
    refine congrArg (fun b => Ending.returned (Value.bool b)) ?_
    rw [Bool.eq_iff_iff, decide_eq_true_iff]
    try simp only [beq_iff_eq, decide_eq_true_iff, Bool.false_eq_true, false_iff, true_iff]
    unfold NodeP
    omega)
theorem sfits_c {kind : Int} {fl M n N : Nat} {s : List UInt8} {sp kp : Option Addr} {scap kcap : Nat} (W : World) (hfl : fl < 256) :
    Calls Tryz.prog 65 #[.agg #[.int .i64 kind, .int .u8 fl, .slice sp M scap, .int .u32 n, .string (txt s), .slice kp N kcap]] W fun e w' => e = .returned (.bool (decide (NodeP kind fl M n s.length N))) ∧ Below W.heap.size W w' := by
  by_cases h : 0 ≤ kind ∧ kind ≤ 10
  · obtain ⟨h0, h10⟩ := h
    obtain rfl | rfl | rfl | rfl | rfl | rfl | rfl | rfl | rfl | rfl | rfl : kind = 0 ∨ kind = 1 ∨ kind = 2 ∨ kind = 3 ∨ kind = 4 ∨ kind = 5 ∨ kind = 6 ∨ kind = 7 ∨ kind = 8 ∨ kind = 9 ∨ kind = 10 := by omega
    · exact sfits_k0 W hfl
    · exact sfits_k1 W hfl
    · exact sfits_k2 W hfl
    · exact sfits_k3 W hfl
    · exact sfits_k4 W hfl
    · exact sfits_k5 W hfl
    · exact sfits_k6 W hfl
    · exact sfits_k7 W hfl
    · exact sfits_k8 W hfl
    · exact sfits_k9 W hfl
    · exact sfits_k10 W hfl
  · exact sfits_ko h W hfl
end Go.Proofs.YtpnnchpaaopdcaaGreatDoor

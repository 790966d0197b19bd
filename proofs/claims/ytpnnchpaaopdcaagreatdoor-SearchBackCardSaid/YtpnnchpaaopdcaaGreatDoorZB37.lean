/-
  A key's text, by the program: contract. MADE by wip/tools/mkSt2.py.
-/
import Derived.Test.YtpnnchpaaopdcaaGreatDoorZB04
import Derived.Test.YtpnnchpaaopdcaaGreatDoorZB17
import Derived.Test.YtpnnchpaaopdcaaGreatDoorZB08
set_option linter.unusedVariables false
set_option linter.unusedSimpArgs false
namespace Go.Proofs.YtpnnchpaaopdcaaGreatDoor
open Go Go.RowKit
theorem wB_size (k : Nat) : (wB k).size ≤ 10 := by unfold wB; rw [txt_size]; exact wl_len k
theorem txt_add2 (a b : List UInt8) : txt a ++ txt b = txt (a ++ b) := by
  apply ByteArray.ext
  simp [txt]
theorem flT_pow2 : ∀ i < 5, flT (2 ^ i) = flagT i := by decide +kernel
set_option maxRecDepth 100000 in
set_option maxHeartbeats 2000000 in
theorem sText0_c (flag : Nat) (set : List (Nat × Nat)) (n : Nat) (s : List UInt8) (kids : List KT) (sp : Option Addr) (scap : Nat) (kp : Option Addr) (kcap : Nat) (ih : ∀ x ∈ kids, TextIH x) (d : Int) (W : World)
    (hK : KeyC W (.mk 0 flag set n s kids sp scap kp kcap)) (hr : rightK (.mk 0 flag set n s kids sp scap kp kcap) d = true) (hok : okT (.mk 0 flag set n s kids sp scap kp kcap)) (hT : Tx W) :
    Calls Tryz.prog 66 #[(KT.mk 0 flag set n s kids sp scap kp kcap).val] W fun e w' => e = .returned (.string (txt (textK (.mk 0 flag set n s kids sp scap kp kcap)))) ∧ Below W.heap.size W w' := by
  unfold KeyC at hK
  unfold okT at hok
  unfold rightK at hr
  rw [Bool.and_eq_true, Bool.and_eq_true, decide_eq_true_eq, decide_eq_true_eq] at hr
  obtain ⟨hd, hN, hrk⟩ := hr
  obtain ⟨hfl, hn, ⟨_, hkm, _⟩, hset, hkids⟩ := hK
  obtain ⟨hs1, hsm, hs3, hjl, hok⟩ := hok
  unfold maxLen at hkm
  show Calls Tryz.prog 66 #[.agg #[.int .i64 0, .int .u8 flag, .slice sp set.length scap, .int .u32 n, .string (txt s), .slice kp kids.length kcap]] W _
  have cW := hT.words 0 (by omega)
  have gW : 2 < W.heap.size := cell_ltA cW
  have hZ : wB 0 = txt (textK (.mk 0 flag set n s kids sp scap kp kcap)) := by unfold wB; rw [textK]; rfl
  have hb : Below W.heap.size W (W.alloc (.cells #[.int .i64 0, .int .u8 flag, .slice sp set.length scap, .int .u32 n, .string (txt s), .slice kp kids.length kcap] 37)) := (Below.refl _ _).alloc (Nat.le_refl _) _
  obtain ⟨WB, hWB⟩ : ∃ B, wB 0 = B := ⟨_, rfl⟩
  have sW : WB.size ≤ 10 := by rw [← hWB]; exact wB_size 0
  obtain ⟨Z, hZZ⟩ : ∃ B, txt (textK (.mk 0 flag set n s kids sp scap kp kcap)) = B := ⟨_, rfl⟩
  rw [hWB] at cW hZ
  rw [hZZ] at hZ ⊢
  obtain ⟨X, hX⟩ : ∃ X, txt s = X := ⟨_, rfl⟩
  obtain ⟨M, hM⟩ : ∃ M, set.length = M := ⟨_, rfl⟩
  obtain ⟨N, hNN⟩ : ∃ N, kids.length = N := ⟨_, rfl⟩
  rw [hX, hM, hNN] at hb ⊢
  have HZ := Lib.hid hZ
  have HB := Lib.hid hb
  clear hN hd hrk hset hkids hs1 hsm hs3 hjl hok hT hWB hX hM hNN hZ hZZ hb hfl ih hkm
  go_enter Tryz.func66, Tryz.ntmps66
  go_wp2_with fail
  go_ret
  exact ⟨by rw [HZ.out]; try rfl, HB.out⟩
set_option maxRecDepth 100000 in
set_option maxHeartbeats 2000000 in
theorem sText1_c (flag : Nat) (set : List (Nat × Nat)) (n : Nat) (s : List UInt8) (kids : List KT) (sp : Option Addr) (scap : Nat) (kp : Option Addr) (kcap : Nat) (ih : ∀ x ∈ kids, TextIH x) (d : Int) (W : World)
    (hK : KeyC W (.mk 1 flag set n s kids sp scap kp kcap)) (hr : rightK (.mk 1 flag set n s kids sp scap kp kcap) d = true) (hok : okT (.mk 1 flag set n s kids sp scap kp kcap)) (hT : Tx W) :
    Calls Tryz.prog 66 #[(KT.mk 1 flag set n s kids sp scap kp kcap).val] W fun e w' => e = .returned (.string (txt (textK (.mk 1 flag set n s kids sp scap kp kcap)))) ∧ Below W.heap.size W w' := by
  unfold KeyC at hK
  unfold okT at hok
  unfold rightK at hr
  rw [Bool.and_eq_true, Bool.and_eq_true, decide_eq_true_eq, decide_eq_true_eq] at hr
  obtain ⟨hd, hN, hrk⟩ := hr
  obtain ⟨hfl, hn, ⟨_, hkm, _⟩, hset, hkids⟩ := hK
  obtain ⟨hs1, hsm, hs3, hjl, hok⟩ := hok
  unfold maxLen at hkm
  show Calls Tryz.prog 66 #[.agg #[.int .i64 1, .int .u8 flag, .slice sp set.length scap, .int .u32 n, .string (txt s), .slice kp kids.length kcap]] W _
  have cW := hT.words 1 (by omega)
  have gW : 2 < W.heap.size := cell_ltA cW
  have hZ : wB 1 ++ txt (flT flag) = txt (textK (.mk 1 flag set n s kids sp scap kp kcap)) := by
    unfold wB
    rw [textK, txt_add2]
    simp [wl]
  have hb : Below W.heap.size W (W.alloc (.cells #[.int .i64 1, .int .u8 flag, .slice sp set.length scap, .int .u32 n, .string (txt s), .slice kp kids.length kcap] 37)) := (Below.refl _ _).alloc (Nat.le_refl _) _
  obtain ⟨i, hi, hfi⟩ : ∃ i, i < 5 ∧ flag = 2 ^ i := by
    rcases hN.2.2.2.1 (by rw [ne_eq]; have := hN.2.2.1; simp at this; omega) with h | h | h | h | h
    · exact ⟨0, by omega, h⟩
    · exact ⟨1, by omega, h⟩
    · exact ⟨2, by omega, h⟩
    · exact ⟨3, by omega, h⟩
    · exact ⟨4, by omega, h⟩
  have C := sNameOf_c i hi (W.alloc (.cells #[.int .i64 1, .int .u8 flag, .slice sp set.length scap, .int .u32 n, .string (txt s), .slice kp kids.length kcap] 37)) (hT.below hb).names
  rw [← hfi, ← flT_pow2 i hi, ← hfi] at C
  have lP := flT_len flag
  obtain ⟨WB, hWB⟩ : ∃ B, wB 1 = B := ⟨_, rfl⟩
  have sW : WB.size ≤ 10 := by rw [← hWB]; exact wB_size 1
  have eP := txt_size (flT flag)
  obtain ⟨PB, hPB⟩ : ∃ B, txt (flT flag) = B := ⟨_, rfl⟩
  rw [hPB] at C eP hZ
  have sP : PB.size ≤ 1000000000 := by omega
  obtain ⟨Z, hZZ⟩ : ∃ B, txt (textK (.mk 1 flag set n s kids sp scap kp kcap)) = B := ⟨_, rfl⟩
  rw [hWB] at cW hZ
  rw [hZZ] at hZ ⊢
  obtain ⟨X, hX⟩ : ∃ X, txt s = X := ⟨_, rfl⟩
  obtain ⟨M, hM⟩ : ∃ M, set.length = M := ⟨_, rfl⟩
  obtain ⟨N, hNN⟩ : ∃ N, kids.length = N := ⟨_, rfl⟩
  rw [hX, hM, hNN] at hb ⊢
  rw [hX, hM, hNN] at C
  have HZ := Lib.hid hZ
  have HB := Lib.hid hb
  have C := Lib.hid C
  clear hN hd hrk hset hkids hs1 hsm hs3 hjl hok hT hWB hX hM hNN hZ hZZ hb hfl ih hkm hPB eP lP hi hfi
  go_enter Tryz.func66, Tryz.ntmps66
  go_wp2_with fail
  refine C.out.mono ?_
  rintro e w2 ⟨rfl, hb2⟩
  have HB2 := Lib.hid (HB.out.trans (hb2.mono HB.out.size))
  clear hb2
  go_wp2_with fail
  go_ret
  exact ⟨by rw [HZ.out]; try rfl, HB2.out⟩
set_option maxRecDepth 100000 in
set_option maxHeartbeats 2000000 in
theorem sText2_c (flag : Nat) (set : List (Nat × Nat)) (n : Nat) (s : List UInt8) (kids : List KT) (sp : Option Addr) (scap : Nat) (kp : Option Addr) (kcap : Nat) (ih : ∀ x ∈ kids, TextIH x) (d : Int) (W : World)
    (hK : KeyC W (.mk 2 flag set n s kids sp scap kp kcap)) (hr : rightK (.mk 2 flag set n s kids sp scap kp kcap) d = true) (hok : okT (.mk 2 flag set n s kids sp scap kp kcap)) (hT : Tx W) :
    Calls Tryz.prog 66 #[(KT.mk 2 flag set n s kids sp scap kp kcap).val] W fun e w' => e = .returned (.string (txt (textK (.mk 2 flag set n s kids sp scap kp kcap)))) ∧ Below W.heap.size W w' := by
  unfold KeyC at hK
  unfold okT at hok
  unfold rightK at hr
  rw [Bool.and_eq_true, Bool.and_eq_true, decide_eq_true_eq, decide_eq_true_eq] at hr
  obtain ⟨hd, hN, hrk⟩ := hr
  obtain ⟨hfl, hn, ⟨_, hkm, _⟩, hset, hkids⟩ := hK
  obtain ⟨hs1, hsm, hs3, hjl, hok⟩ := hok
  unfold maxLen at hkm
  show Calls Tryz.prog 66 #[.agg #[.int .i64 2, .int .u8 flag, .slice sp set.length scap, .int .u32 n, .string (txt s), .slice kp kids.length kcap]] W _
  have cW := hT.words 2 (by omega)
  have gW : 2 < W.heap.size := cell_ltA cW
  have hZ : wB 2 ++ txt (flT flag) = txt (textK (.mk 2 flag set n s kids sp scap kp kcap)) := by
    unfold wB
    rw [textK, txt_add2]
    simp [wl]
  have hb : Below W.heap.size W (W.alloc (.cells #[.int .i64 2, .int .u8 flag, .slice sp set.length scap, .int .u32 n, .string (txt s), .slice kp kids.length kcap] 37)) := (Below.refl _ _).alloc (Nat.le_refl _) _
  obtain ⟨i, hi, hfi⟩ : ∃ i, i < 5 ∧ flag = 2 ^ i := by
    rcases hN.2.2.2.1 (by rw [ne_eq]; have := hN.2.2.1; simp at this; omega) with h | h | h | h | h
    · exact ⟨0, by omega, h⟩
    · exact ⟨1, by omega, h⟩
    · exact ⟨2, by omega, h⟩
    · exact ⟨3, by omega, h⟩
    · exact ⟨4, by omega, h⟩
  have C := sNameOf_c i hi (W.alloc (.cells #[.int .i64 2, .int .u8 flag, .slice sp set.length scap, .int .u32 n, .string (txt s), .slice kp kids.length kcap] 37)) (hT.below hb).names
  rw [← hfi, ← flT_pow2 i hi, ← hfi] at C
  have lP := flT_len flag
  obtain ⟨WB, hWB⟩ : ∃ B, wB 2 = B := ⟨_, rfl⟩
  have sW : WB.size ≤ 10 := by rw [← hWB]; exact wB_size 2
  have eP := txt_size (flT flag)
  obtain ⟨PB, hPB⟩ : ∃ B, txt (flT flag) = B := ⟨_, rfl⟩
  rw [hPB] at C eP hZ
  have sP : PB.size ≤ 1000000000 := by omega
  obtain ⟨Z, hZZ⟩ : ∃ B, txt (textK (.mk 2 flag set n s kids sp scap kp kcap)) = B := ⟨_, rfl⟩
  rw [hWB] at cW hZ
  rw [hZZ] at hZ ⊢
  obtain ⟨X, hX⟩ : ∃ X, txt s = X := ⟨_, rfl⟩
  obtain ⟨M, hM⟩ : ∃ M, set.length = M := ⟨_, rfl⟩
  obtain ⟨N, hNN⟩ : ∃ N, kids.length = N := ⟨_, rfl⟩
  rw [hX, hM, hNN] at hb ⊢
  rw [hX, hM, hNN] at C
  have HZ := Lib.hid hZ
  have HB := Lib.hid hb
  have C := Lib.hid C
  clear hN hd hrk hset hkids hs1 hsm hs3 hjl hok hT hWB hX hM hNN hZ hZZ hb hfl ih hkm hPB eP lP hi hfi
  go_enter Tryz.func66, Tryz.ntmps66
  go_wp2_with fail
  refine C.out.mono ?_
  rintro e w2 ⟨rfl, hb2⟩
  have HB2 := Lib.hid (HB.out.trans (hb2.mono HB.out.size))
  clear hb2
  go_wp2_with fail
  go_ret
  exact ⟨by rw [HZ.out]; try rfl, HB2.out⟩
set_option maxRecDepth 100000 in
set_option maxHeartbeats 2000000 in
theorem sText3_c (flag : Nat) (set : List (Nat × Nat)) (n : Nat) (s : List UInt8) (kids : List KT) (sp : Option Addr) (scap : Nat) (kp : Option Addr) (kcap : Nat) (ih : ∀ x ∈ kids, TextIH x) (d : Int) (W : World)
    (hK : KeyC W (.mk 3 flag set n s kids sp scap kp kcap)) (hr : rightK (.mk 3 flag set n s kids sp scap kp kcap) d = true) (hok : okT (.mk 3 flag set n s kids sp scap kp kcap)) (hT : Tx W) :
    Calls Tryz.prog 66 #[(KT.mk 3 flag set n s kids sp scap kp kcap).val] W fun e w' => e = .returned (.string (txt (textK (.mk 3 flag set n s kids sp scap kp kcap)))) ∧ Below W.heap.size W w' := by
  unfold KeyC at hK
  unfold okT at hok
  unfold rightK at hr
  rw [Bool.and_eq_true, Bool.and_eq_true, decide_eq_true_eq, decide_eq_true_eq] at hr
  obtain ⟨hd, hN, hrk⟩ := hr
  obtain ⟨hfl, hn, ⟨_, hkm, _⟩, hset, hkids⟩ := hK
  obtain ⟨hs1, hsm, hs3, hjl, hok⟩ := hok
  unfold maxLen at hkm
  show Calls Tryz.prog 66 #[.agg #[.int .i64 3, .int .u8 flag, .slice sp set.length scap, .int .u32 n, .string (txt s), .slice kp kids.length kcap]] W _
  have cW := hT.words 3 (by omega)
  have gW : 2 < W.heap.size := cell_ltA cW
  have hZ : wB 3 ++ txt (setT set) = txt (textK (.mk 3 flag set n s kids sp scap kp kcap)) := by
    unfold wB
    rw [textK, txt_add2]
    simp [wl]
  have hb : Below W.heap.size W (W.alloc (.cells #[.int .i64 3, .int .u8 flag, .slice sp set.length scap, .int .u32 n, .string (txt s), .slice kp kids.length kcap] 37)) := (Below.refl _ _).alloc (Nat.le_refl _) _
  have C := qstringP_c sp scap set hs1 hsm (W.alloc (.cells #[.int .i64 3, .int .u8 flag, .slice sp set.length scap, .int .u32 n, .string (txt s), .slice kp kids.length kcap] 37)) (hT.below hb).tab (hset.below hb)
  have lP : (setT set).length ≤ 22 * 1000 := by have := setT_len hsm set.length (Nat.le_refl _); rw [List.take_length] at this; omega
  obtain ⟨WB, hWB⟩ : ∃ B, wB 3 = B := ⟨_, rfl⟩
  have sW : WB.size ≤ 10 := by rw [← hWB]; exact wB_size 3
  have eP := txt_size (setT set)
  obtain ⟨PB, hPB⟩ : ∃ B, txt (setT set) = B := ⟨_, rfl⟩
  rw [hPB] at C eP hZ
  have sP : PB.size ≤ 1000000000 := by omega
  obtain ⟨Z, hZZ⟩ : ∃ B, txt (textK (.mk 3 flag set n s kids sp scap kp kcap)) = B := ⟨_, rfl⟩
  rw [hWB] at cW hZ
  rw [hZZ] at hZ ⊢
  obtain ⟨X, hX⟩ : ∃ X, txt s = X := ⟨_, rfl⟩
  obtain ⟨M, hM⟩ : ∃ M, set.length = M := ⟨_, rfl⟩
  obtain ⟨N, hNN⟩ : ∃ N, kids.length = N := ⟨_, rfl⟩
  rw [hX, hM, hNN] at hb ⊢
  rw [hX, hM, hNN] at C
  have HZ := Lib.hid hZ
  have HB := Lib.hid hb
  have C := Lib.hid C
  clear hN hd hrk hset hkids hs1 hsm hs3 hjl hok hT hWB hX hM hNN hZ hZZ hb hfl ih hkm hPB eP lP
  go_enter Tryz.func66, Tryz.ntmps66
  go_wp2_with fail
  refine C.out.mono ?_
  rintro e w2 ⟨rfl, hb2⟩
  have HB2 := Lib.hid (HB.out.trans (hb2.mono HB.out.size))
  clear hb2
  go_wp2_with fail
  go_ret
  exact ⟨by rw [HZ.out]; try rfl, HB2.out⟩
set_option maxRecDepth 100000 in
set_option maxHeartbeats 2000000 in
theorem sText4_c (flag : Nat) (set : List (Nat × Nat)) (n : Nat) (s : List UInt8) (kids : List KT) (sp : Option Addr) (scap : Nat) (kp : Option Addr) (kcap : Nat) (ih : ∀ x ∈ kids, TextIH x) (d : Int) (W : World)
    (hK : KeyC W (.mk 4 flag set n s kids sp scap kp kcap)) (hr : rightK (.mk 4 flag set n s kids sp scap kp kcap) d = true) (hok : okT (.mk 4 flag set n s kids sp scap kp kcap)) (hT : Tx W) :
    Calls Tryz.prog 66 #[(KT.mk 4 flag set n s kids sp scap kp kcap).val] W fun e w' => e = .returned (.string (txt (textK (.mk 4 flag set n s kids sp scap kp kcap)))) ∧ Below W.heap.size W w' := by
  unfold KeyC at hK
  unfold okT at hok
  unfold rightK at hr
  rw [Bool.and_eq_true, Bool.and_eq_true, decide_eq_true_eq, decide_eq_true_eq] at hr
  obtain ⟨hd, hN, hrk⟩ := hr
  obtain ⟨hfl, hn, ⟨_, hkm, _⟩, hset, hkids⟩ := hK
  obtain ⟨hs1, hsm, hs3, hjl, hok⟩ := hok
  unfold maxLen at hkm
  show Calls Tryz.prog 66 #[.agg #[.int .i64 4, .int .u8 flag, .slice sp set.length scap, .int .u32 n, .string (txt s), .slice kp kids.length kcap]] W _
  have cW := hT.words 4 (by omega)
  have gW : 2 < W.heap.size := cell_ltA cW
  have hZ : wB 4 ++ txt (setT set) = txt (textK (.mk 4 flag set n s kids sp scap kp kcap)) := by
    unfold wB
    rw [textK, txt_add2]
    simp [wl]
  have hb : Below W.heap.size W (W.alloc (.cells #[.int .i64 4, .int .u8 flag, .slice sp set.length scap, .int .u32 n, .string (txt s), .slice kp kids.length kcap] 37)) := (Below.refl _ _).alloc (Nat.le_refl _) _
  have C := qstringP_c sp scap set hs1 hsm (W.alloc (.cells #[.int .i64 4, .int .u8 flag, .slice sp set.length scap, .int .u32 n, .string (txt s), .slice kp kids.length kcap] 37)) (hT.below hb).tab (hset.below hb)
  have lP : (setT set).length ≤ 22 * 1000 := by have := setT_len hsm set.length (Nat.le_refl _); rw [List.take_length] at this; omega
  obtain ⟨WB, hWB⟩ : ∃ B, wB 4 = B := ⟨_, rfl⟩
  have sW : WB.size ≤ 10 := by rw [← hWB]; exact wB_size 4
  have eP := txt_size (setT set)
  obtain ⟨PB, hPB⟩ : ∃ B, txt (setT set) = B := ⟨_, rfl⟩
  rw [hPB] at C eP hZ
  have sP : PB.size ≤ 1000000000 := by omega
  obtain ⟨Z, hZZ⟩ : ∃ B, txt (textK (.mk 4 flag set n s kids sp scap kp kcap)) = B := ⟨_, rfl⟩
  rw [hWB] at cW hZ
  rw [hZZ] at hZ ⊢
  obtain ⟨X, hX⟩ : ∃ X, txt s = X := ⟨_, rfl⟩
  obtain ⟨M, hM⟩ : ∃ M, set.length = M := ⟨_, rfl⟩
  obtain ⟨N, hNN⟩ : ∃ N, kids.length = N := ⟨_, rfl⟩
  rw [hX, hM, hNN] at hb ⊢
  rw [hX, hM, hNN] at C
  have HZ := Lib.hid hZ
  have HB := Lib.hid hb
  have C := Lib.hid C
  clear hN hd hrk hset hkids hs1 hsm hs3 hjl hok hT hWB hX hM hNN hZ hZZ hb hfl ih hkm hPB eP lP
  go_enter Tryz.func66, Tryz.ntmps66
  go_wp2_with fail
  refine C.out.mono ?_
  rintro e w2 ⟨rfl, hb2⟩
  have HB2 := Lib.hid (HB.out.trans (hb2.mono HB.out.size))
  clear hb2
  go_wp2_with fail
  go_ret
  exact ⟨by rw [HZ.out]; try rfl, HB2.out⟩
set_option maxRecDepth 100000 in
set_option maxHeartbeats 2000000 in
theorem sText5_c (flag : Nat) (set : List (Nat × Nat)) (n : Nat) (s : List UInt8) (kids : List KT) (sp : Option Addr) (scap : Nat) (kp : Option Addr) (kcap : Nat) (ih : ∀ x ∈ kids, TextIH x) (d : Int) (W : World)
    (hK : KeyC W (.mk 5 flag set n s kids sp scap kp kcap)) (hr : rightK (.mk 5 flag set n s kids sp scap kp kcap) d = true) (hok : okT (.mk 5 flag set n s kids sp scap kp kcap)) (hT : Tx W) :
    Calls Tryz.prog 66 #[(KT.mk 5 flag set n s kids sp scap kp kcap).val] W fun e w' => e = .returned (.string (txt (textK (.mk 5 flag set n s kids sp scap kp kcap)))) ∧ Below W.heap.size W w' := by
  unfold KeyC at hK
  unfold okT at hok
  unfold rightK at hr
  rw [Bool.and_eq_true, Bool.and_eq_true, decide_eq_true_eq, decide_eq_true_eq] at hr
  obtain ⟨hd, hN, hrk⟩ := hr
  obtain ⟨hfl, hn, ⟨_, hkm, _⟩, hset, hkids⟩ := hK
  obtain ⟨hs1, hsm, hs3, hjl, hok⟩ := hok
  unfold maxLen at hkm
  show Calls Tryz.prog 66 #[.agg #[.int .i64 5, .int .u8 flag, .slice sp set.length scap, .int .u32 n, .string (txt s), .slice kp kids.length kcap]] W _
  have cW := hT.words 5 (by omega)
  have gW : 2 < W.heap.size := cell_ltA cW
  have hZ : wB 5 ++ txt (Lib.decDigits n) = txt (textK (.mk 5 flag set n s kids sp scap kp kcap)) := by
    unfold wB
    rw [textK, txt_add2]
    simp [wl]
  have hb : Below W.heap.size W (W.alloc (.cells #[.int .i64 5, .int .u8 flag, .slice sp set.length scap, .int .u32 n, .string (txt s), .slice kp kids.length kcap] 37)) := (Below.refl _ _).alloc (Nat.le_refl _) _
  have C := fu_c (hT.below hb).pow n hn
  have lP := dec_len9 9 n (by omega)
  have hwn : IntKind.u64.wrap (n : Int) = n := IntWalk.u64_in _ (by omega)
  obtain ⟨WB, hWB⟩ : ∃ B, wB 5 = B := ⟨_, rfl⟩
  have sW : WB.size ≤ 10 := by rw [← hWB]; exact wB_size 5
  have eP := txt_size (Lib.decDigits n)
  obtain ⟨PB, hPB⟩ : ∃ B, txt (Lib.decDigits n) = B := ⟨_, rfl⟩
  rw [hPB] at C eP hZ
  have sP : PB.size ≤ 1000000000 := by omega
  obtain ⟨Z, hZZ⟩ : ∃ B, txt (textK (.mk 5 flag set n s kids sp scap kp kcap)) = B := ⟨_, rfl⟩
  rw [hWB] at cW hZ
  rw [hZZ] at hZ ⊢
  obtain ⟨X, hX⟩ : ∃ X, txt s = X := ⟨_, rfl⟩
  obtain ⟨M, hM⟩ : ∃ M, set.length = M := ⟨_, rfl⟩
  obtain ⟨N, hNN⟩ : ∃ N, kids.length = N := ⟨_, rfl⟩
  rw [hX, hM, hNN] at hb ⊢
  rw [hX, hM, hNN] at C
  have HZ := Lib.hid hZ
  have HB := Lib.hid hb
  have C := Lib.hid C
  clear hN hd hrk hset hkids hs1 hsm hs3 hjl hok hT hWB hX hM hNN hZ hZZ hb hfl ih hkm hPB eP lP
  go_enter Tryz.func66, Tryz.ntmps66
  go_wp2_with fail
  refine C.out.mono ?_
  rintro e w2 ⟨rfl, hb2⟩
  have HB2 := Lib.hid (HB.out.trans (hb2.mono HB.out.size))
  clear hb2
  go_wp2_with fail
  go_ret
  exact ⟨by rw [HZ.out]; try rfl, HB2.out⟩
set_option maxRecDepth 100000 in
set_option maxHeartbeats 2000000 in
theorem sText6_c (flag : Nat) (set : List (Nat × Nat)) (n : Nat) (s : List UInt8) (kids : List KT) (sp : Option Addr) (scap : Nat) (kp : Option Addr) (kcap : Nat) (ih : ∀ x ∈ kids, TextIH x) (d : Int) (W : World)
    (hK : KeyC W (.mk 6 flag set n s kids sp scap kp kcap)) (hr : rightK (.mk 6 flag set n s kids sp scap kp kcap) d = true) (hok : okT (.mk 6 flag set n s kids sp scap kp kcap)) (hT : Tx W) :
    Calls Tryz.prog 66 #[(KT.mk 6 flag set n s kids sp scap kp kcap).val] W fun e w' => e = .returned (.string (txt (textK (.mk 6 flag set n s kids sp scap kp kcap)))) ∧ Below W.heap.size W w' := by
  unfold KeyC at hK
  unfold okT at hok
  unfold rightK at hr
  rw [Bool.and_eq_true, Bool.and_eq_true, decide_eq_true_eq, decide_eq_true_eq] at hr
  obtain ⟨hd, hN, hrk⟩ := hr
  obtain ⟨hfl, hn, ⟨_, hkm, _⟩, hset, hkids⟩ := hK
  obtain ⟨hs1, hsm, hs3, hjl, hok⟩ := hok
  unfold maxLen at hkm
  show Calls Tryz.prog 66 #[.agg #[.int .i64 6, .int .u8 flag, .slice sp set.length scap, .int .u32 n, .string (txt s), .slice kp kids.length kcap]] W _
  have cW := hT.words 6 (by omega)
  have gW : 2 < W.heap.size := cell_ltA cW
  have hZ : wB 6 ++ txt (Lib.decDigits n) = txt (textK (.mk 6 flag set n s kids sp scap kp kcap)) := by
    unfold wB
    rw [textK, txt_add2]
    simp [wl]
  have hb : Below W.heap.size W (W.alloc (.cells #[.int .i64 6, .int .u8 flag, .slice sp set.length scap, .int .u32 n, .string (txt s), .slice kp kids.length kcap] 37)) := (Below.refl _ _).alloc (Nat.le_refl _) _
  have C := fu_c (hT.below hb).pow n hn
  have lP := dec_len9 9 n (by omega)
  have hwn : IntKind.u64.wrap (n : Int) = n := IntWalk.u64_in _ (by omega)
  obtain ⟨WB, hWB⟩ : ∃ B, wB 6 = B := ⟨_, rfl⟩
  have sW : WB.size ≤ 10 := by rw [← hWB]; exact wB_size 6
  have eP := txt_size (Lib.decDigits n)
  obtain ⟨PB, hPB⟩ : ∃ B, txt (Lib.decDigits n) = B := ⟨_, rfl⟩
  rw [hPB] at C eP hZ
  have sP : PB.size ≤ 1000000000 := by omega
  obtain ⟨Z, hZZ⟩ : ∃ B, txt (textK (.mk 6 flag set n s kids sp scap kp kcap)) = B := ⟨_, rfl⟩
  rw [hWB] at cW hZ
  rw [hZZ] at hZ ⊢
  obtain ⟨X, hX⟩ : ∃ X, txt s = X := ⟨_, rfl⟩
  obtain ⟨M, hM⟩ : ∃ M, set.length = M := ⟨_, rfl⟩
  obtain ⟨N, hNN⟩ : ∃ N, kids.length = N := ⟨_, rfl⟩
  rw [hX, hM, hNN] at hb ⊢
  rw [hX, hM, hNN] at C
  have HZ := Lib.hid hZ
  have HB := Lib.hid hb
  have C := Lib.hid C
  clear hN hd hrk hset hkids hs1 hsm hs3 hjl hok hT hWB hX hM hNN hZ hZZ hb hfl ih hkm hPB eP lP
  go_enter Tryz.func66, Tryz.ntmps66
  go_wp2_with fail
  refine C.out.mono ?_
  rintro e w2 ⟨rfl, hb2⟩
  have HB2 := Lib.hid (HB.out.trans (hb2.mono HB.out.size))
  clear hb2
  go_wp2_with fail
  go_ret
  exact ⟨by rw [HZ.out]; try rfl, HB2.out⟩
set_option maxRecDepth 100000 in
set_option maxHeartbeats 2000000 in
theorem sText7_c (flag : Nat) (set : List (Nat × Nat)) (n : Nat) (s : List UInt8) (kids : List KT) (sp : Option Addr) (scap : Nat) (kp : Option Addr) (kcap : Nat) (ih : ∀ x ∈ kids, TextIH x) (d : Int) (W : World)
    (hK : KeyC W (.mk 7 flag set n s kids sp scap kp kcap)) (hr : rightK (.mk 7 flag set n s kids sp scap kp kcap) d = true) (hok : okT (.mk 7 flag set n s kids sp scap kp kcap)) (hT : Tx W) :
    Calls Tryz.prog 66 #[(KT.mk 7 flag set n s kids sp scap kp kcap).val] W fun e w' => e = .returned (.string (txt (textK (.mk 7 flag set n s kids sp scap kp kcap)))) ∧ Below W.heap.size W w' := by
  unfold KeyC at hK
  unfold okT at hok
  unfold rightK at hr
  rw [Bool.and_eq_true, Bool.and_eq_true, decide_eq_true_eq, decide_eq_true_eq] at hr
  obtain ⟨hd, hN, hrk⟩ := hr
  obtain ⟨hfl, hn, ⟨_, hkm, _⟩, hset, hkids⟩ := hK
  obtain ⟨hs1, hsm, hs3, hjl, hok⟩ := hok
  unfold maxLen at hkm
  show Calls Tryz.prog 66 #[.agg #[.int .i64 7, .int .u8 flag, .slice sp set.length scap, .int .u32 n, .string (txt s), .slice kp kids.length kcap]] W _
  have cW := hT.words 7 (by omega)
  have gW : 2 < W.heap.size := cell_ltA cW
  have hZ : wB 7 ++ txt (quoteL s) = txt (textK (.mk 7 flag set n s kids sp scap kp kcap)) := by
    unfold wB
    rw [textK, txt_add2]
    simp [wl]
  have hb : Below W.heap.size W (W.alloc (.cells #[.int .i64 7, .int .u8 flag, .slice sp set.length scap, .int .u32 n, .string (txt s), .slice kp kids.length kcap] 37)) := (Below.refl _ _).alloc (Nat.le_refl _) _
  have C := tkQuote_c s hs3 (W.alloc (.cells #[.int .i64 7, .int .u8 flag, .slice sp set.length scap, .int .u32 n, .string (txt s), .slice kp kids.length kcap] 37)) (fun h => cany_c s (by omega)) (itoa_at (hT.below hb).pow (by omega))
  have lP := quoteL_len s hs3
  obtain ⟨WB, hWB⟩ : ∃ B, wB 7 = B := ⟨_, rfl⟩
  have sW : WB.size ≤ 10 := by rw [← hWB]; exact wB_size 7
  have eP := txt_size (quoteL s)
  obtain ⟨PB, hPB⟩ : ∃ B, txt (quoteL s) = B := ⟨_, rfl⟩
  rw [hPB] at C eP hZ
  have sP : PB.size ≤ 1000000000 := by omega
  obtain ⟨Z, hZZ⟩ : ∃ B, txt (textK (.mk 7 flag set n s kids sp scap kp kcap)) = B := ⟨_, rfl⟩
  rw [hWB] at cW hZ
  rw [hZZ] at hZ ⊢
  obtain ⟨X, hX⟩ : ∃ X, txt s = X := ⟨_, rfl⟩
  obtain ⟨M, hM⟩ : ∃ M, set.length = M := ⟨_, rfl⟩
  obtain ⟨N, hNN⟩ : ∃ N, kids.length = N := ⟨_, rfl⟩
  rw [hX, hM, hNN] at hb ⊢
  rw [hX, hM, hNN] at C
  have HZ := Lib.hid hZ
  have HB := Lib.hid hb
  have C := Lib.hid C
  clear hN hd hrk hset hkids hs1 hsm hs3 hjl hok hT hWB hX hM hNN hZ hZZ hb hfl ih hkm hPB eP lP
  go_enter Tryz.func66, Tryz.ntmps66
  go_wp2_with fail
  refine C.out.mono ?_
  rintro e w2 ⟨rfl, hb2⟩
  have HB2 := Lib.hid (HB.out.trans (hb2.mono HB.out.size))
  clear hb2
  go_wp2_with fail
  go_ret
  exact ⟨by rw [HZ.out]; try rfl, HB2.out⟩
set_option maxRecDepth 100000 in
set_option maxHeartbeats 2000000 in
theorem sText8_c (flag : Nat) (set : List (Nat × Nat)) (n : Nat) (s : List UInt8) (kids : List KT) (sp : Option Addr) (scap : Nat) (kp : Option Addr) (kcap : Nat) (ih : ∀ x ∈ kids, TextIH x) (d : Int) (W : World)
    (hK : KeyC W (.mk 8 flag set n s kids sp scap kp kcap)) (hr : rightK (.mk 8 flag set n s kids sp scap kp kcap) d = true) (hok : okT (.mk 8 flag set n s kids sp scap kp kcap)) (hT : Tx W) :
    Calls Tryz.prog 66 #[(KT.mk 8 flag set n s kids sp scap kp kcap).val] W fun e w' => e = .returned (.string (txt (textK (.mk 8 flag set n s kids sp scap kp kcap)))) ∧ Below W.heap.size W w' := by
  unfold KeyC at hK
  unfold okT at hok
  unfold rightK at hr
  rw [Bool.and_eq_true, Bool.and_eq_true, decide_eq_true_eq, decide_eq_true_eq] at hr
  obtain ⟨hd, hN, hrk⟩ := hr
  obtain ⟨hfl, hn, ⟨_, hkm, _⟩, hset, hkids⟩ := hK
  obtain ⟨hs1, hsm, hs3, hjl, hok⟩ := hok
  unfold maxLen at hkm
  show Calls Tryz.prog 66 #[.agg #[.int .i64 8, .int .u8 flag, .slice sp set.length scap, .int .u32 n, .string (txt s), .slice kp kids.length kcap]] W _
  have cW := hT.words 8 (by omega)
  have gW : 2 < W.heap.size := cell_ltA cW
  have hZ : wB 8 ++ txt (Lib.join (textsK kids) [32]) = txt (textK (.mk 8 flag set n s kids sp scap kp kcap)) := by
    unfold wB
    rw [textK, txt_add2]
    simp [wl]
  have hb : Below W.heap.size W (W.alloc (.cells #[.int .i64 8, .int .u8 flag, .slice sp set.length scap, .int .u32 n, .string (txt s), .slice kp kids.length kcap] 37)) := (Below.refl _ _).alloc (Nat.le_refl _) _
  have C := sKidsText_c 8 flag set n s kids sp scap kp kcap ih (d - 1) hrk hok (by have := hN.2.2.2.2.2.2.2.2.2; simp at this; omega) hjl (W.alloc (.cells #[.int .i64 8, .int .u8 flag, .slice sp set.length scap, .int .u32 n, .string (txt s), .slice kp kids.length kcap] 37)) (KidsC.below hb kids kp 0 hkids) (hT.below hb)
  have C : Calls Tryz.prog 123 #[.agg #[.int .i64 8, .int .u8 flag, .slice sp set.length scap, .int .u32 n, .string (txt s), .slice kp kids.length kcap]] (W.alloc (.cells #[.int .i64 8, .int .u8 flag, .slice sp set.length scap, .int .u32 n, .string (txt s), .slice kp kids.length kcap] 37)) fun e w' => e = .returned (.string (txt (Lib.join (textsK kids) [32]))) ∧ Below ((W.alloc (.cells #[.int .i64 8, .int .u8 flag, .slice sp set.length scap, .int .u32 n, .string (txt s), .slice kp kids.length kcap] 37))).heap.size (W.alloc (.cells #[.int .i64 8, .int .u8 flag, .slice sp set.length scap, .int .u32 n, .string (txt s), .slice kp kids.length kcap] 37)) w' := C
  have lP := hjl
  obtain ⟨WB, hWB⟩ : ∃ B, wB 8 = B := ⟨_, rfl⟩
  have sW : WB.size ≤ 10 := by rw [← hWB]; exact wB_size 8
  have eP := txt_size (Lib.join (textsK kids) [32])
  obtain ⟨PB, hPB⟩ : ∃ B, txt (Lib.join (textsK kids) [32]) = B := ⟨_, rfl⟩
  rw [hPB] at C eP hZ
  have sP : PB.size ≤ 1000000000 := by omega
  obtain ⟨Z, hZZ⟩ : ∃ B, txt (textK (.mk 8 flag set n s kids sp scap kp kcap)) = B := ⟨_, rfl⟩
  rw [hWB] at cW hZ
  rw [hZZ] at hZ ⊢
  obtain ⟨X, hX⟩ : ∃ X, txt s = X := ⟨_, rfl⟩
  obtain ⟨M, hM⟩ : ∃ M, set.length = M := ⟨_, rfl⟩
  obtain ⟨N, hNN⟩ : ∃ N, kids.length = N := ⟨_, rfl⟩
  rw [hX, hM, hNN] at hb ⊢
  rw [hX, hM, hNN] at C
  have HZ := Lib.hid hZ
  have HB := Lib.hid hb
  have C := Lib.hid C
  clear hN hd hrk hset hkids hs1 hsm hs3 hjl hok hT hWB hX hM hNN hZ hZZ hb hfl ih hkm hPB eP lP
  go_enter Tryz.func66, Tryz.ntmps66
  go_wp2_with fail
  refine C.out.mono ?_
  rintro e w2 ⟨rfl, hb2⟩
  have HB2 := Lib.hid (HB.out.trans (hb2.mono HB.out.size))
  clear hb2
  go_wp2_with fail
  go_ret
  exact ⟨by rw [HZ.out]; try rfl, HB2.out⟩
set_option maxRecDepth 100000 in
set_option maxHeartbeats 2000000 in
theorem sText9_c (flag : Nat) (set : List (Nat × Nat)) (n : Nat) (s : List UInt8) (kids : List KT) (sp : Option Addr) (scap : Nat) (kp : Option Addr) (kcap : Nat) (ih : ∀ x ∈ kids, TextIH x) (d : Int) (W : World)
    (hK : KeyC W (.mk 9 flag set n s kids sp scap kp kcap)) (hr : rightK (.mk 9 flag set n s kids sp scap kp kcap) d = true) (hok : okT (.mk 9 flag set n s kids sp scap kp kcap)) (hT : Tx W) :
    Calls Tryz.prog 66 #[(KT.mk 9 flag set n s kids sp scap kp kcap).val] W fun e w' => e = .returned (.string (txt (textK (.mk 9 flag set n s kids sp scap kp kcap)))) ∧ Below W.heap.size W w' := by
  unfold KeyC at hK
  unfold okT at hok
  unfold rightK at hr
  rw [Bool.and_eq_true, Bool.and_eq_true, decide_eq_true_eq, decide_eq_true_eq] at hr
  obtain ⟨hd, hN, hrk⟩ := hr
  obtain ⟨hfl, hn, ⟨_, hkm, _⟩, hset, hkids⟩ := hK
  obtain ⟨hs1, hsm, hs3, hjl, hok⟩ := hok
  unfold maxLen at hkm
  show Calls Tryz.prog 66 #[.agg #[.int .i64 9, .int .u8 flag, .slice sp set.length scap, .int .u32 n, .string (txt s), .slice kp kids.length kcap]] W _
  have cW := hT.words 9 (by omega)
  have gW : 2 < W.heap.size := cell_ltA cW
  have hZ : wB 9 ++ txt (Lib.join (textsK kids) [32]) = txt (textK (.mk 9 flag set n s kids sp scap kp kcap)) := by
    unfold wB
    rw [textK, txt_add2]
    simp [wl]
  have hb : Below W.heap.size W (W.alloc (.cells #[.int .i64 9, .int .u8 flag, .slice sp set.length scap, .int .u32 n, .string (txt s), .slice kp kids.length kcap] 37)) := (Below.refl _ _).alloc (Nat.le_refl _) _
  have C := sKidsText_c 9 flag set n s kids sp scap kp kcap ih (d - 1) hrk hok (by have := hN.2.2.2.2.2.2.2.2.2; simp at this; omega) hjl (W.alloc (.cells #[.int .i64 9, .int .u8 flag, .slice sp set.length scap, .int .u32 n, .string (txt s), .slice kp kids.length kcap] 37)) (KidsC.below hb kids kp 0 hkids) (hT.below hb)
  have C : Calls Tryz.prog 123 #[.agg #[.int .i64 9, .int .u8 flag, .slice sp set.length scap, .int .u32 n, .string (txt s), .slice kp kids.length kcap]] (W.alloc (.cells #[.int .i64 9, .int .u8 flag, .slice sp set.length scap, .int .u32 n, .string (txt s), .slice kp kids.length kcap] 37)) fun e w' => e = .returned (.string (txt (Lib.join (textsK kids) [32]))) ∧ Below ((W.alloc (.cells #[.int .i64 9, .int .u8 flag, .slice sp set.length scap, .int .u32 n, .string (txt s), .slice kp kids.length kcap] 37))).heap.size (W.alloc (.cells #[.int .i64 9, .int .u8 flag, .slice sp set.length scap, .int .u32 n, .string (txt s), .slice kp kids.length kcap] 37)) w' := C
  have lP := hjl
  obtain ⟨WB, hWB⟩ : ∃ B, wB 9 = B := ⟨_, rfl⟩
  have sW : WB.size ≤ 10 := by rw [← hWB]; exact wB_size 9
  have eP := txt_size (Lib.join (textsK kids) [32])
  obtain ⟨PB, hPB⟩ : ∃ B, txt (Lib.join (textsK kids) [32]) = B := ⟨_, rfl⟩
  rw [hPB] at C eP hZ
  have sP : PB.size ≤ 1000000000 := by omega
  obtain ⟨Z, hZZ⟩ : ∃ B, txt (textK (.mk 9 flag set n s kids sp scap kp kcap)) = B := ⟨_, rfl⟩
  rw [hWB] at cW hZ
  rw [hZZ] at hZ ⊢
  obtain ⟨X, hX⟩ : ∃ X, txt s = X := ⟨_, rfl⟩
  obtain ⟨M, hM⟩ : ∃ M, set.length = M := ⟨_, rfl⟩
  obtain ⟨N, hNN⟩ : ∃ N, kids.length = N := ⟨_, rfl⟩
  rw [hX, hM, hNN] at hb ⊢
  rw [hX, hM, hNN] at C
  have HZ := Lib.hid hZ
  have HB := Lib.hid hb
  have C := Lib.hid C
  clear hN hd hrk hset hkids hs1 hsm hs3 hjl hok hT hWB hX hM hNN hZ hZZ hb hfl ih hkm hPB eP lP
  go_enter Tryz.func66, Tryz.ntmps66
  go_wp2_with fail
  refine C.out.mono ?_
  rintro e w2 ⟨rfl, hb2⟩
  have HB2 := Lib.hid (HB.out.trans (hb2.mono HB.out.size))
  clear hb2
  go_wp2_with fail
  go_ret
  exact ⟨by rw [HZ.out]; try rfl, HB2.out⟩
set_option maxRecDepth 100000 in
set_option maxHeartbeats 2000000 in
theorem sText10_c (flag : Nat) (set : List (Nat × Nat)) (n : Nat) (s : List UInt8) (kids : List KT) (sp : Option Addr) (scap : Nat) (kp : Option Addr) (kcap : Nat) (ih : ∀ x ∈ kids, TextIH x) (d : Int) (W : World)
    (hK : KeyC W (.mk 10 flag set n s kids sp scap kp kcap)) (hr : rightK (.mk 10 flag set n s kids sp scap kp kcap) d = true) (hok : okT (.mk 10 flag set n s kids sp scap kp kcap)) (hT : Tx W) :
    Calls Tryz.prog 66 #[(KT.mk 10 flag set n s kids sp scap kp kcap).val] W fun e w' => e = .returned (.string (txt (textK (.mk 10 flag set n s kids sp scap kp kcap)))) ∧ Below W.heap.size W w' := by
  unfold KeyC at hK
  unfold okT at hok
  unfold rightK at hr
  rw [Bool.and_eq_true, Bool.and_eq_true, decide_eq_true_eq, decide_eq_true_eq] at hr
  obtain ⟨hd, hN, hrk⟩ := hr
  obtain ⟨hfl, hn, ⟨_, hkm, _⟩, hset, hkids⟩ := hK
  obtain ⟨hs1, hsm, hs3, hjl, hok⟩ := hok
  unfold maxLen at hkm
  show Calls Tryz.prog 66 #[.agg #[.int .i64 10, .int .u8 flag, .slice sp set.length scap, .int .u32 n, .string (txt s), .slice kp kids.length kcap]] W _
  have cW := hT.words 10 (by omega)
  have gW : 2 < W.heap.size := cell_ltA cW
  have hZ : wB 10 ++ txt (Lib.join (textsK kids) [32]) ++ ⟨#[41]⟩ = txt (textK (.mk 10 flag set n s kids sp scap kp kcap)) := by
    unfold wB
    rw [textK, txt_add2, show (⟨#[41]⟩ : ByteArray) = txt [41] from rfl, txt_add2]
    simp [wl]
  have hb : Below W.heap.size W (W.alloc (.cells #[.int .i64 10, .int .u8 flag, .slice sp set.length scap, .int .u32 n, .string (txt s), .slice kp kids.length kcap] 37)) := (Below.refl _ _).alloc (Nat.le_refl _) _
  have C := sKidsText_c 10 flag set n s kids sp scap kp kcap ih (d - 1) hrk hok (by have := join_ge (textsK kids); rw [textsK_len] at this; omega) hjl (W.alloc (.cells #[.int .i64 10, .int .u8 flag, .slice sp set.length scap, .int .u32 n, .string (txt s), .slice kp kids.length kcap] 37)) (KidsC.below hb kids kp 0 hkids) (hT.below hb)
  have C : Calls Tryz.prog 123 #[.agg #[.int .i64 10, .int .u8 flag, .slice sp set.length scap, .int .u32 n, .string (txt s), .slice kp kids.length kcap]] (W.alloc (.cells #[.int .i64 10, .int .u8 flag, .slice sp set.length scap, .int .u32 n, .string (txt s), .slice kp kids.length kcap] 37)) fun e w' => e = .returned (.string (txt (Lib.join (textsK kids) [32]))) ∧ Below ((W.alloc (.cells #[.int .i64 10, .int .u8 flag, .slice sp set.length scap, .int .u32 n, .string (txt s), .slice kp kids.length kcap] 37))).heap.size (W.alloc (.cells #[.int .i64 10, .int .u8 flag, .slice sp set.length scap, .int .u32 n, .string (txt s), .slice kp kids.length kcap] 37)) w' := C
  have lP := hjl
  obtain ⟨WB, hWB⟩ : ∃ B, wB 10 = B := ⟨_, rfl⟩
  have sW : WB.size ≤ 10 := by rw [← hWB]; exact wB_size 10
  have eP := txt_size (Lib.join (textsK kids) [32])
  obtain ⟨PB, hPB⟩ : ∃ B, txt (Lib.join (textsK kids) [32]) = B := ⟨_, rfl⟩
  rw [hPB] at C eP hZ
  have sP : PB.size ≤ 1000000000 := by omega
  obtain ⟨Z, hZZ⟩ : ∃ B, txt (textK (.mk 10 flag set n s kids sp scap kp kcap)) = B := ⟨_, rfl⟩
  rw [hWB] at cW hZ
  rw [hZZ] at hZ ⊢
  obtain ⟨X, hX⟩ : ∃ X, txt s = X := ⟨_, rfl⟩
  obtain ⟨M, hM⟩ : ∃ M, set.length = M := ⟨_, rfl⟩
  obtain ⟨N, hNN⟩ : ∃ N, kids.length = N := ⟨_, rfl⟩
  rw [hX, hM, hNN] at hb ⊢
  rw [hX, hM, hNN] at C
  have HZ := Lib.hid hZ
  have HB := Lib.hid hb
  have C := Lib.hid C
  clear hN hd hrk hset hkids hs1 hsm hs3 hjl hok hT hWB hX hM hNN hZ hZZ hb hfl ih hkm hPB eP lP
  go_enter Tryz.func66, Tryz.ntmps66
  go_wp2_with fail
  refine C.out.mono ?_
  rintro e w2 ⟨rfl, hb2⟩
  have HB2 := Lib.hid (HB.out.trans (hb2.mono HB.out.size))
  clear hb2
  go_wp2_with fail
  go_ret
  exact ⟨by rw [HZ.out]; try rfl, HB2.out⟩
theorem sText_c (k : KT) : TextIH k := by
  induction k using KT.ind with
  | h kind flag set n s kids sp scap kp kcap ih =>
    intro d W hK hr hok hT
    have hN : NodeP kind flag set.length n s.length kids.length := by
      unfold rightK at hr
      rw [Bool.and_eq_true, Bool.and_eq_true, decide_eq_true_eq, decide_eq_true_eq] at hr
      exact hr.2.1
    obtain ⟨h0, h1, _⟩ := hN
    have ih2 : ∀ x ∈ kids, TextIH x := ih
    obtain rfl | rfl | rfl | rfl | rfl | rfl | rfl | rfl | rfl | rfl | rfl : kind = 0 ∨ kind = 1 ∨ kind = 2 ∨ kind = 3 ∨ kind = 4 ∨ kind = 5 ∨ kind = 6 ∨ kind = 7 ∨ kind = 8 ∨ kind = 9 ∨ kind = 10 := by omega
    · exact sText0_c flag set n s kids sp scap kp kcap ih2 d W hK hr hok hT
    · exact sText1_c flag set n s kids sp scap kp kcap ih2 d W hK hr hok hT
    · exact sText2_c flag set n s kids sp scap kp kcap ih2 d W hK hr hok hT
    · exact sText3_c flag set n s kids sp scap kp kcap ih2 d W hK hr hok hT
    · exact sText4_c flag set n s kids sp scap kp kcap ih2 d W hK hr hok hT
    · exact sText5_c flag set n s kids sp scap kp kcap ih2 d W hK hr hok hT
    · exact sText6_c flag set n s kids sp scap kp kcap ih2 d W hK hr hok hT
    · exact sText7_c flag set n s kids sp scap kp kcap ih2 d W hK hr hok hT
    · exact sText8_c flag set n s kids sp scap kp kcap ih2 d W hK hr hok hT
    · exact sText9_c flag set n s kids sp scap kp kcap ih2 d W hK hr hok hT
    · exact sText10_c flag set n s kids sp scap kp kcap ih2 d W hK hr hok hT
end Go.Proofs.YtpnnchpaaopdcaaGreatDoor

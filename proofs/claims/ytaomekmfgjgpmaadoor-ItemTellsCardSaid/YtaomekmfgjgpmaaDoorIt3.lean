/-
  Items' text; what is told of a message, item by item; Tell: contracts. MADE by wip/tools/mkIt3.py.
-/
import Derived.Test.YtaomekmfgjgpmaaDoorIt2
import Derived.Test.YtaomekmfgjgpmaaDoorTri
import Derived.Deep.RegionHeld3
import Derived.Laws.EntriesVeiled
set_option linter.unusedVariables false
set_option linter.unusedSimpArgs false
namespace Go.Proofs.YtaomekmfgjgpmaaDoor
open Go Go.RowKit
/-- What the listed variables hold. -/
structure IG (W : World) : Prop where
  ask : RowG W 0 4 askN
  tol : RowG W 1 4 tolN
  ord : RowG W 2 3 ordN
  nms : Names W
  pow : PowTab W
theorem IG.below {W w : World} (h : IG W) (hb : Below W.heap.size W w) : IG w :=
  ⟨h.ask.below hb, h.tol.below hb, h.ord.below hb, h.nms.later (hb.mono h.nms.lt), h.pow.below hb⟩
theorem ask_len (k : Nat) : (askN k).length ≤ 4000 ∧ askN k ≠ [] := by unfold askN; split <;> simp
theorem tol_len (k : Nat) : (tolN k).length ≤ 20 ∧ tolN k ≠ [] := by unfold tolN; split <;> simp
theorem iString_c {W : World} (h : IG W) (t : Nat) (ht : t < 256) : Calls Tryd.prog 4 #[.int .u8 t] W fun e w' => e = .returned (.string (txt (itemT askN t))) ∧ Below W.heap.size W w' := by
  have C := Lib.hid (join1_c (T := askN) (fun k _ => (ask_len k).1) t ht W fun k hk w1 hb => iString1_c (h.ask.below hb) k hk)
  clear h
  go_enter Tryd.func4, Tryd.ntmps4
  go_wp2_with (first | (go_at_call 12; refine C.out.mono ?_; rintro e w' ⟨rfl, hb⟩; have H := Lib.hid hb; clear hb) | fail)
  go_ret
  exact ⟨rfl, H.out⟩
section
variable {W : World} {b u f : Nat} {x : List UInt8}
/-- What is told of a message, by the item's place. -/
def valT (u f : Nat) (x : List UInt8) : Nat → List UInt8
  | 0 => Lib.decDigits u
  | 1 => textOf f
  | 2 => Lib.decDigits x.length
  | _ => 123 :: (Lib.decDigits x.length ++ ([125, 13, 10] ++ x))
def telT (u f : Nat) (x : List UInt8) (k : Nat) : List UInt8 := tolN k ++ 32 :: valT u f x k
abbrev recA (W : World) (b : Nat) (u f : Nat) (x : List UInt8) : Prop := Tri W b 33 (.int .u32 u) (.int .u8 f) (.string (txt x))
theorem iTell1_c (h : IG W) (hR : recA W b u f x) (hu : u ≤ 4294967295) : Calls Tryd.prog 15 #[.pointer (some ⟨b, 0, none⟩)] W fun e w' => e = .returned (.string (txt (Lib.decDigits u))) ∧ Below W.heap.size W w' := by
  have C := Lib.hid (fu_c h.pow u hu)
  obtain ⟨c0, c1, c2, _⟩ := hR.cell
  have hw : IntKind.u64.wrap (u : Int) = u := IntWalk.u64_in _ (by omega)
  clear h hR
  go_enter Tryd.func15, Tryd.ntmps15
  go_wp2_with (first | (go_at_call 16; refine C.out.mono ?_; rintro e w' ⟨rfl, hb⟩; have H := Lib.hid hb; clear hb) | fail)
  go_ret
  exact ⟨rfl, H.out⟩
theorem iTell2_c (h : IG W) (hR : recA W b u f x) (hf : f < 256) : Calls Tryd.prog 17 #[.pointer (some ⟨b, 0, none⟩)] W fun e w' => e = .returned (.string (txt (textOf f))) ∧ Below W.heap.size W w' := by
  have C := Lib.hid (string_c f hf W h.nms)
  obtain ⟨c0, c1, c2, _⟩ := hR.cell
  clear h hR
  go_enter Tryd.func17, Tryd.ntmps17
  go_wp2_with (first | (go_at_call 18; refine C.out.mono ?_; rintro e w' ⟨rfl, hb⟩; have H := Lib.hid hb; clear hb) | fail)
  go_ret
  exact ⟨rfl, H.out⟩
theorem iTell3_c (h : IG W) (hR : recA W b u f x) (hx : x.length ≤ 100000) : Calls Tryd.prog 19 #[.pointer (some ⟨b, 0, none⟩)] W fun e w' => e = .returned (.string (txt (Lib.decDigits x.length))) ∧ Below W.heap.size W w' := by
  have C := itoa_c h.pow x.length (by omega)
  obtain ⟨c0, c1, c2, _⟩ := hR.cell
  have e1 := txt_size x
  obtain ⟨X, hX⟩ : ∃ X, txt x = X := ⟨_, rfl⟩
  obtain ⟨N, hN⟩ : ∃ N, x.length = N := ⟨_, rfl⟩
  rw [hX] at c2 e1
  rw [hN] at C e1 ⊢
  have C := Lib.hid C
  clear h hR hX hN
  go_enter Tryd.func19, Tryd.ntmps19
  go_wp2_with (first | (go_at_call 20; refine C.out.mono ?_; rintro e w' ⟨rfl, hb⟩; have H := Lib.hid hb; clear hb) | fail)
  go_ret
  exact ⟨rfl, H.out⟩
theorem iTell4_c (h : IG W) (hR : recA W b u f x) (hx : x.length ≤ 100000) : Calls Tryd.prog 21 #[.pointer (some ⟨b, 0, none⟩)] W fun e w' => e = .returned (.string (txt (123 :: (Lib.decDigits x.length ++ ([125, 13, 10] ++ x))))) ∧ Below W.heap.size W w' := by
  have C := Lib.hid (iLiteral_c h.pow x hx)
  obtain ⟨c0, c1, c2, _⟩ := hR.cell
  clear h hR
  go_enter Tryd.func21, Tryd.ntmps21
  go_wp2_with (first | (go_at_call 22; refine C.out.mono ?_; rintro e w' ⟨rfl, hb⟩; have H := Lib.hid hb; clear hb) | fail)
  go_ret
  exact ⟨rfl, H.out⟩
set_option maxRecDepth 100000 in
set_option maxHeartbeats 2000000 in
theorem iTell5_a {V k : Nat} {w : World} {Y X : List UInt8} (hk : k < 4) (kt : w.cell? ⟨1, k, none⟩ = some (.string (txt Y))) (kf : w.cell? ⟨V, k, none⟩ = some (.func (.func 15) #[] #[.pointer (some ⟨b, 0, none⟩)]))
    (hg : 1 < w.heap.size) (hV : V < w.heap.size) (hY : Y.length ≤ 20) (hX : X.length ≤ 100000)
    (hC : ∀ w1, Below w.heap.size w w1 → Calls Tryd.prog 15 #[.pointer (some ⟨b, 0, none⟩)] w1 fun e w' => e = .returned (.string (txt X)) ∧ Below w1.heap.size w1 w') :
    Calls Tryd.prog 23 #[.int .i64 k, .pointer (some ⟨V, 0, none⟩)] w fun e w' => e = .returned (.string (txt (Y ++ 32 :: X))) ∧ Below w.heap.size w w' := by
  have e1 := txt_size Y
  have e2 := txt_size X
  have HQ : Hid ((txt Y ++ ⟨#[32]⟩) ++ txt X = txt (Y ++ 32 :: X)) := by
    show _ = _
    apply ByteArray.ext; simp [txt]
  obtain ⟨BY, hBY⟩ : ∃ B, txt Y = B := ⟨_, rfl⟩
  obtain ⟨BX, hBX⟩ : ∃ B, txt X = B := ⟨_, rfl⟩
  rw [hBY] at kt e1 HQ
  rw [hBX] at e2 HQ
  simp only [hBX] at hC
  have n1 : ¬ (9223372036854775807 < BY.size + 1) := by omega
  have n2 : ¬ (9223372036854775807 < BY.size + 1 + BX.size) := by omega
  have HC := Lib.hid hC
  have q : (k : Int) < 4 := by omega
  have q0 : (0 : Int) ≤ k := by omega
  clear hC hBY hBX e1 e2 hY hX
  go_enter Tryd.func23, Tryd.ntmps23
  go_wp2_with fail
  go_region_held3 (fun w' => w'.cell? ⟨1, k, none⟩ = some (.string BY) ∧ w'.cell? ⟨V, k, none⟩ = some (.func (.func 15) #[] #[.pointer (some ⟨b, 0, none⟩)]))
    (first | exact ⟨kt, kf⟩ | exact ⟨kt2, kf2⟩)
    (first | (go_at_call 15; refine (HC.out _ (by first | exact Below.refl _ _ | exact (Below.refl _ _).drew)).mono ?_; rintro e w2 ⟨rfl, hb⟩; have hb2 : Below w.heap.size w w2 := (by first | exact hb | exact (Below.refl _ w).drew.trans hb); have kt2 := (hb2.cell (p := ⟨1, k, none⟩) hg).trans kt; have kf2 := (hb2.cell (p := ⟨V, k, none⟩) hV).trans kf))
  all_goals
    have HB2 := Lib.hid hb2
    clear hb hb2 kt2 kf2
    go_wp2_with fail
    go_ret
    exact ⟨by rw [← HQ.out]; rfl, HB2.out⟩
set_option maxRecDepth 100000 in
set_option maxHeartbeats 2000000 in
theorem iTell5_b {V k : Nat} {w : World} {Y X : List UInt8} (hk : k < 4) (kt : w.cell? ⟨1, k, none⟩ = some (.string (txt Y))) (kf : w.cell? ⟨V, k, none⟩ = some (.func (.func 17) #[] #[.pointer (some ⟨b, 0, none⟩)]))
    (hg : 1 < w.heap.size) (hV : V < w.heap.size) (hY : Y.length ≤ 20) (hX : X.length ≤ 100000)
    (hC : ∀ w1, Below w.heap.size w w1 → Calls Tryd.prog 17 #[.pointer (some ⟨b, 0, none⟩)] w1 fun e w' => e = .returned (.string (txt X)) ∧ Below w1.heap.size w1 w') :
    Calls Tryd.prog 23 #[.int .i64 k, .pointer (some ⟨V, 0, none⟩)] w fun e w' => e = .returned (.string (txt (Y ++ 32 :: X))) ∧ Below w.heap.size w w' := by
  have e1 := txt_size Y
  have e2 := txt_size X
  have HQ : Hid ((txt Y ++ ⟨#[32]⟩) ++ txt X = txt (Y ++ 32 :: X)) := by
    show _ = _
    apply ByteArray.ext; simp [txt]
  obtain ⟨BY, hBY⟩ : ∃ B, txt Y = B := ⟨_, rfl⟩
  obtain ⟨BX, hBX⟩ : ∃ B, txt X = B := ⟨_, rfl⟩
  rw [hBY] at kt e1 HQ
  rw [hBX] at e2 HQ
  simp only [hBX] at hC
  have n1 : ¬ (9223372036854775807 < BY.size + 1) := by omega
  have n2 : ¬ (9223372036854775807 < BY.size + 1 + BX.size) := by omega
  have HC := Lib.hid hC
  have q : (k : Int) < 4 := by omega
  have q0 : (0 : Int) ≤ k := by omega
  clear hC hBY hBX e1 e2 hY hX
  go_enter Tryd.func23, Tryd.ntmps23
  go_wp2_with fail
  go_region_held3 (fun w' => w'.cell? ⟨1, k, none⟩ = some (.string BY) ∧ w'.cell? ⟨V, k, none⟩ = some (.func (.func 17) #[] #[.pointer (some ⟨b, 0, none⟩)]))
    (first | exact ⟨kt, kf⟩ | exact ⟨kt2, kf2⟩)
    (first | (go_at_call 17; refine (HC.out _ (by first | exact Below.refl _ _ | exact (Below.refl _ _).drew)).mono ?_; rintro e w2 ⟨rfl, hb⟩; have hb2 : Below w.heap.size w w2 := (by first | exact hb | exact (Below.refl _ w).drew.trans hb); have kt2 := (hb2.cell (p := ⟨1, k, none⟩) hg).trans kt; have kf2 := (hb2.cell (p := ⟨V, k, none⟩) hV).trans kf))
  all_goals
    have HB2 := Lib.hid hb2
    clear hb hb2 kt2 kf2
    go_wp2_with fail
    go_ret
    exact ⟨by rw [← HQ.out]; rfl, HB2.out⟩
set_option maxRecDepth 100000 in
set_option maxHeartbeats 2000000 in
theorem iTell5_d {V k : Nat} {w : World} {Y X : List UInt8} (hk : k < 4) (kt : w.cell? ⟨1, k, none⟩ = some (.string (txt Y))) (kf : w.cell? ⟨V, k, none⟩ = some (.func (.func 19) #[] #[.pointer (some ⟨b, 0, none⟩)]))
    (hg : 1 < w.heap.size) (hV : V < w.heap.size) (hY : Y.length ≤ 20) (hX : X.length ≤ 100000)
    (hC : ∀ w1, Below w.heap.size w w1 → Calls Tryd.prog 19 #[.pointer (some ⟨b, 0, none⟩)] w1 fun e w' => e = .returned (.string (txt X)) ∧ Below w1.heap.size w1 w') :
    Calls Tryd.prog 23 #[.int .i64 k, .pointer (some ⟨V, 0, none⟩)] w fun e w' => e = .returned (.string (txt (Y ++ 32 :: X))) ∧ Below w.heap.size w w' := by
  have e1 := txt_size Y
  have e2 := txt_size X
  have HQ : Hid ((txt Y ++ ⟨#[32]⟩) ++ txt X = txt (Y ++ 32 :: X)) := by
    show _ = _
    apply ByteArray.ext; simp [txt]
  obtain ⟨BY, hBY⟩ : ∃ B, txt Y = B := ⟨_, rfl⟩
  obtain ⟨BX, hBX⟩ : ∃ B, txt X = B := ⟨_, rfl⟩
  rw [hBY] at kt e1 HQ
  rw [hBX] at e2 HQ
  simp only [hBX] at hC
  have n1 : ¬ (9223372036854775807 < BY.size + 1) := by omega
  have n2 : ¬ (9223372036854775807 < BY.size + 1 + BX.size) := by omega
  have HC := Lib.hid hC
  have q : (k : Int) < 4 := by omega
  have q0 : (0 : Int) ≤ k := by omega
  clear hC hBY hBX e1 e2 hY hX
  go_enter Tryd.func23, Tryd.ntmps23
  go_wp2_with fail
  go_region_held3 (fun w' => w'.cell? ⟨1, k, none⟩ = some (.string BY) ∧ w'.cell? ⟨V, k, none⟩ = some (.func (.func 19) #[] #[.pointer (some ⟨b, 0, none⟩)]))
    (first | exact ⟨kt, kf⟩ | exact ⟨kt2, kf2⟩)
    (first | (go_at_call 19; refine (HC.out _ (by first | exact Below.refl _ _ | exact (Below.refl _ _).drew)).mono ?_; rintro e w2 ⟨rfl, hb⟩; have hb2 : Below w.heap.size w w2 := (by first | exact hb | exact (Below.refl _ w).drew.trans hb); have kt2 := (hb2.cell (p := ⟨1, k, none⟩) hg).trans kt; have kf2 := (hb2.cell (p := ⟨V, k, none⟩) hV).trans kf))
  all_goals
    have HB2 := Lib.hid hb2
    clear hb hb2 kt2 kf2
    go_wp2_with fail
    go_ret
    exact ⟨by rw [← HQ.out]; rfl, HB2.out⟩
set_option maxRecDepth 100000 in
set_option maxHeartbeats 2000000 in
theorem iTell5_e {V k : Nat} {w : World} {Y X : List UInt8} (hk : k < 4) (kt : w.cell? ⟨1, k, none⟩ = some (.string (txt Y))) (kf : w.cell? ⟨V, k, none⟩ = some (.func (.func 21) #[] #[.pointer (some ⟨b, 0, none⟩)]))
    (hg : 1 < w.heap.size) (hV : V < w.heap.size) (hY : Y.length ≤ 20) (hX : X.length ≤ 100000)
    (hC : ∀ w1, Below w.heap.size w w1 → Calls Tryd.prog 21 #[.pointer (some ⟨b, 0, none⟩)] w1 fun e w' => e = .returned (.string (txt X)) ∧ Below w1.heap.size w1 w') :
    Calls Tryd.prog 23 #[.int .i64 k, .pointer (some ⟨V, 0, none⟩)] w fun e w' => e = .returned (.string (txt (Y ++ 32 :: X))) ∧ Below w.heap.size w w' := by
  have e1 := txt_size Y
  have e2 := txt_size X
  have HQ : Hid ((txt Y ++ ⟨#[32]⟩) ++ txt X = txt (Y ++ 32 :: X)) := by
    show _ = _
    apply ByteArray.ext; simp [txt]
  obtain ⟨BY, hBY⟩ : ∃ B, txt Y = B := ⟨_, rfl⟩
  obtain ⟨BX, hBX⟩ : ∃ B, txt X = B := ⟨_, rfl⟩
  rw [hBY] at kt e1 HQ
  rw [hBX] at e2 HQ
  simp only [hBX] at hC
  have n1 : ¬ (9223372036854775807 < BY.size + 1) := by omega
  have n2 : ¬ (9223372036854775807 < BY.size + 1 + BX.size) := by omega
  have HC := Lib.hid hC
  have q : (k : Int) < 4 := by omega
  have q0 : (0 : Int) ≤ k := by omega
  clear hC hBY hBX e1 e2 hY hX
  go_enter Tryd.func23, Tryd.ntmps23
  go_wp2_with fail
  go_region_held3 (fun w' => w'.cell? ⟨1, k, none⟩ = some (.string BY) ∧ w'.cell? ⟨V, k, none⟩ = some (.func (.func 21) #[] #[.pointer (some ⟨b, 0, none⟩)]))
    (first | exact ⟨kt, kf⟩ | exact ⟨kt2, kf2⟩)
    (first | (go_at_call 21; refine (HC.out _ (by first | exact Below.refl _ _ | exact (Below.refl _ _).drew)).mono ?_; rintro e w2 ⟨rfl, hb⟩; have hb2 : Below w.heap.size w w2 := (by first | exact hb | exact (Below.refl _ w).drew.trans hb); have kt2 := (hb2.cell (p := ⟨1, k, none⟩) hg).trans kt; have kf2 := (hb2.cell (p := ⟨V, k, none⟩) hV).trans kf))
  all_goals
    have HB2 := Lib.hid hb2
    clear hb hb2 kt2 kf2
    go_wp2_with fail
    go_ret
    exact ⟨by rw [← HQ.out]; rfl, HB2.out⟩
theorem val_len (hu : u ≤ 4294967295) (hx : x.length ≤ 3000) (k : Nat) : (valT u f x k).length ≤ 3100 := by
  have h1 := dec_len9 9 u (by omega)
  have h2 := dec_len9 9 x.length (by omega)
  have h3 := joined_seq_le f (Nat.le_refl 5)
  unfold valT
  split
  · omega
  · unfold textOf; simp; omega
  · omega
  · simp; omega
theorem tel_len (hu : u ≤ 4294967295) (hx : x.length ≤ 3000) (k : Nat) : (telT u f x k).length ≤ 4000 := by
  have := val_len (f := f) hu hx k
  have h2 := (tol_len k).1
  unfold telT
  rw [List.length_append, List.length_cons]
  omega
abbrev arrC (b : Nat) : Array Value := #[.func (.func 15) #[] #[.pointer (some ⟨b, 0, none⟩)], .func (.func 17) #[] #[.pointer (some ⟨b, 0, none⟩)], .func (.func 19) #[] #[.pointer (some ⟨b, 0, none⟩)], .func (.func 21) #[] #[.pointer (some ⟨b, 0, none⟩)]]
theorem iTell5_c {V : Nat} (h : IG W) (hR : recA W b u f x) (hV : W.heap[V]? = some (.cells (arrC b) 47 (0, 0))) (hu : u ≤ 4294967295) (hf : f < 256) (hx : x.length ≤ 3000) (k : Nat) (hk : k < 4) :
    Calls Tryd.prog 23 #[.int .i64 k, .pointer (some ⟨V, 0, none⟩)] W fun e w' => e = .returned (.string (txt (telT u f x k))) ∧ Below W.heap.size W w' := by
  have hVl : V < W.heap.size := (Array.getElem?_eq_some_iff.1 hV).1
  have kt := h.tol.2 k hk
  have kf : W.cell? ⟨V, k, none⟩ = (arrC b)[k]? := by unfold World.cell?; rw [hV]; rfl
  have hl := val_len (f := f) hu hx k
  have hR2 : ∀ w1, Below W.heap.size W w1 → recA w1 b u f x := fun w1 hb => hR.below hb hR.lt
  obtain rfl | rfl | rfl | rfl := four hk
  · exact iTell5_a hk kt kf h.tol.1 hVl (tol_len _).1 (X := Lib.decDigits u) (by exact Nat.le_trans hl (by omega)) fun w1 hb => iTell1_c (h.below hb) (hR2 w1 hb) hu
  · exact iTell5_b hk kt kf h.tol.1 hVl (tol_len _).1 (X := textOf f) (by exact Nat.le_trans hl (by omega)) fun w1 hb => iTell2_c (h.below hb) (hR2 w1 hb) hf
  · exact iTell5_d hk kt kf h.tol.1 hVl (tol_len _).1 (X := Lib.decDigits x.length) (by exact Nat.le_trans hl (by omega)) fun w1 hb => iTell3_c (h.below hb) (hR2 w1 hb) (by omega)
  · exact iTell5_e hk kt kf h.tol.1 hVl (tol_len _).1 (X := 123 :: (Lib.decDigits x.length ++ ([125, 13, 10] ++ x))) (by exact Nat.le_trans hl (by omega)) fun w1 hb => iTell4_c (h.below hb) (hR2 w1 hb) (by omega)
abbrev recV (u f : Nat) (x : List UInt8) : Value := .agg #[.int .u32 u, .int .u8 f, .string (txt x)]
set_option maxRecDepth 100000 in
set_option maxHeartbeats 2000000 in
theorem iTell_c (h : IG W) (hu : u ≤ 4294967295) (hf : f < 256) (hx : x.length ≤ 3000) (t : Nat) (ht : t < 256) : Calls Tryd.prog 6 #[.int .u8 t, recV u f x] W fun e w' => e = .returned (.string (txt (itemT (telT u f x) t))) ∧ Below W.heap.size W w' := by
  have hT := (Tri.new W 33 (.int .u32 u) (.int .u8 f) (.string (txt x))).below (((Below.refl _ (W.alloc (.cells #[.int .u32 u, .int .u8 f, .string (txt x)] 33))).alloc (Nat.le_refl _) (.cells (arrC W.heap.size) 47))) (by simp)
  have hV : ((W.alloc (.cells #[.int .u32 u, .int .u8 f, .string (txt x)] 33)).alloc (.cells (arrC W.heap.size) 47)).heap[W.heap.size + 1]? = some (.cells (arrC W.heap.size) 47 (0, 0)) := by
    have := heap_alloc_new (W.alloc (.cells #[.int .u32 u, .int .u8 f, .string (txt x)] 33)) (.cells (arrC W.heap.size) 47)
    rw [World.size_alloc] at this
    exact this
  have hB : Below W.heap.size W ((W.alloc (.cells #[.int .u32 u, .int .u8 f, .string (txt x)] 33)).alloc (.cells (arrC W.heap.size) 47)) := ((Below.refl _ _).alloc (Nat.le_refl _) _).alloc (by simp) _
  have C := Lib.hid (join5_c (V := W.heap.size + 1) (T := telT u f x) (fun k _ => tel_len hu hx k) t ht ((W.alloc (.cells #[.int .u32 u, .int .u8 f, .string (txt x)] 33)).alloc (.cells (arrC W.heap.size) 47)) fun k hk w1 hb =>
    iTell5_c (h.below (hB.trans (hb.mono hB.size))) (hT.below hb hT.lt) ((hb.block _ (Array.getElem?_eq_some_iff.1 hV).1).trans hV) hu hf hx k hk)
  have HB := Lib.hid hB
  clear h hT hV hB
  go_enter Tryd.func6, Tryd.ntmps6
  go_wp2_with (first | (go_at_call 12; refine C.out.mono ?_; rintro e w' ⟨rfl, hb⟩; have H := Lib.hid hb; clear hb) | fail)
  go_ret
  exact ⟨rfl, HB.out.trans (H.out.mono HB.out.size)⟩
end
end Go.Proofs.YtaomekmfgjgpmaaDoor

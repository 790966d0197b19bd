/-
  A key of the program: whether it may be: contract.
  The document's reading of a set: contract.
  What a key's set means: the program's Has on a set that an argument's reading reaches; the program's Contains: contracts.
  Whether a key matches, by the program: lists, the closures: contracts. (Made by mkSk7.py.)
-/
import Derived.Test.YtpnnchpaaopdcaaGreatDoorZR04
import Derived.Test.YtpnnchpaaopdcaaGreatDoorZR08
import Derived.RangeFuncKeeps
import Derived.RangeFuncOwn
import Derived.Test.YtpnnchpaaopdcaaGreatDoorZR06
import Derived.Deep.CutBlock
import Derived.Test.YtpnnchpaaopdcaaGreatDoorZR01
set_option linter.unusedVariables false
set_option linter.unusedSimpArgs false
namespace Go.Proofs.YtpnnchpaaopdcaaGreatDoor
open Go Go.RowKit Go.Shelf
attribute [local go_sem] Oper.semAt_some wide_fnK wide_depthK
theorem pre_key {W : World} : ∀ (k : KT), KeyC W k → ∀ x ∈ preK k, KeyC W x := by
  intro k
  refine KT.ind (P := fun k => KeyC W k → ∀ x ∈ preK k, KeyC W x) ?_ k
  intro kind flag set n s kids sp scap kp kcap ih hK x hx
  rw [preK_eq] at hx
  rcases List.mem_cons.1 hx with rfl | hx
  · exact hK
  · have hk : ∀ y ∈ kids, KeyC W y := fun y hy => hK.kid hy
    have : ∀ (l : List KT), (∀ y ∈ l, y ∈ kids) → x ∈ preKs l → KeyC W x := by
      intro l
      induction l with
      | nil => intro _ h; rw [preKs] at h; simp at h
      | cons y r ihr =>
        intro hl h
        rw [preKs] at h
        rcases List.mem_append.1 h with h | h
        · exact ih y (hl y (by simp)) (hk y (hl y (by simp))) x h
        · exact ihr (fun z hz => hl z (by simp [hz])) h
    exact this kids (fun y hy => hy) hx
set_option maxRecDepth 100000 in
theorem sRight1_c (x : KT) (W : World) (hx : KeyC W x) : Calls Tryz.prog 64 #[x.val] W fun e w' => e = .returned (.bool (nodeK x)) ∧ Below W.heap.size W w' := by
  cases x with
  | mk kind flag set n s kids sp scap kp kcap =>
    obtain ⟨_, _, hfl, _⟩ := hx.kids
    rw [nodeK]
    show Calls Tryz.prog 64 #[.agg #[.int .i64 kind, .int .u8 flag, .slice sp set.length scap, .int .u32 n, .string (txt s), .slice kp kids.length kcap]] W _
    have C := fun w => sfits_c (kind := kind) (fl := flag) (M := set.length) (n := n) (N := kids.length) (s := s) (sp := sp) (kp := kp) (scap := scap) (kcap := kcap) w hfl
    obtain ⟨b, hb⟩ : ∃ b, decide (NodeP kind flag set.length n s.length kids.length) = b := ⟨_, rfl⟩
    obtain ⟨M, hM⟩ : ∃ M, set.length = M := ⟨_, rfl⟩
    obtain ⟨N, hN⟩ : ∃ N, kids.length = N := ⟨_, rfl⟩
    obtain ⟨X, hX⟩ : ∃ X, txt s = X := ⟨_, rfl⟩
    rw [hb, hM, hN, hX] at C
    rw [hb, hM, hN, hX]
    have C := Lib.hid C
    have HB : Hid (Below W.heap.size W (W.alloc (.cells #[.int .i64 kind, .int .u8 flag, .slice sp M scap, .int .u32 n, .string X, .slice kp N kcap] 37))) := (Below.refl _ _).alloc (Nat.le_refl _) _
    clear hx hfl hb hM hN hX
    go_enter Tryz.func64, Tryz.ntmps64
    go_wp2_with fail
    refine (C.out _).mono ?_
    rintro e w2 ⟨rfl, hb2⟩
    have HB2 := Lib.hid (HB.out.trans (hb2.mono (by simp)))
    clear hb2
    go_wp2_with fail
    go_ret
    exact ⟨rfl, HB2.out⟩
set_option maxRecDepth 100000 in
set_option maxHeartbeats 4000000 in
theorem sEach_c (k : KT) (W : World) (hK : KeyC W k) : Calls Tryz.prog 63 #[k.val, .func (.func 64) #[] #[]] W fun e w' => e = .returned (.bool ((preK k).all nodeK)) ∧ Below W.heap.size W w' := by
  have CK := fun w => keys_c k w
  have HIT := keys1_iter k W
  have HKX := Lib.hid fun x hx => pre_key k hK x hx
  obtain ⟨yk, yf, ym, yn, yl, ysp, ykp, ysc, ykc, Y, hyv, hyc⟩ := k.form
  simp only [hyv] at CK
  rw [hyv]
  have CK := Lib.hid CK
  have HK := Lib.hid hK
  clear hyv hK hyc
  refine (callsIn_wide (n := 3)).1 ?_
  refine callsIn_of_wp_marks Tryz.func63 rfl trivial ?_
  simp only [Tryz.ntmps63, List.size_toArray, List.length_cons, List.length_nil, Nat.reduceAdd, Nat.reduceSub, Array.replicate_succ, Array.replicate_zero, List.push_toArray, List.append_toArray, List.nil_append, List.cons_append]
  gi_wp2_with (gi_at_call 73; refine CallsIn.w (CK.out _) ?_; rintro e w7 ⟨rfl, hbx7, hb7, hsz7⟩)
  obtain ⟨w0, hw0⟩ : ∃ w0, ((W.alloc (.cells #[.int .i64 yk, .int .u8 yf, .slice ysp ym ysc, .int .u32 yn, .string Y, .slice ykp yl ykc] 37)).alloc (.cells #[.func (.func 64) #[] #[]] 46)).alloc (.cells #[.bool false] 4) = w0 := ⟨_, rfl⟩
  have hb0 : Below W.heap.size W w0 := by rw [← hw0]; exact (((Below.refl _ W).alloc (Nat.le_refl _) _).alloc (by simp) _).alloc (by simp; omega) _
  have hsz0 : w0.heap.size = W.heap.size + 3 := by rw [← hw0]; simp
  have bA0 : Boxed w0 (W.heap.size + 1) 46 (.func (.func 64) #[] #[]) := by
    have := (Boxed.new (W.alloc (.cells #[.int .i64 yk, .int .u8 yf, .slice ysp ym ysc, .int .u32 yn, .string Y, .slice ykp yl ykc] 37)) 46 (.func (.func 64) #[] #[])).alloc (.cells #[.bool false] 4)
    rw [World.size_alloc, hw0] at this; exact this
  have bR0 : Boxed w0 (W.heap.size + 2) 4 (.bool false) := by
    have := Boxed.new ((W.alloc (.cells #[.int .i64 yk, .int .u8 yf, .slice ysp ym ysc, .int .u32 yn, .string Y, .slice ykp yl ykc] 37)).alloc (.cells #[.func (.func 64) #[] #[]] 46)) 4 (.bool false)
    rw [World.size_alloc, World.size_alloc, hw0] at this; exact this
  rw [hw0, hsz0] at hbx7 hb7 hsz7
  have bA := (hb7.block _ (by omega)).trans bA0
  have bR := (hb7.block _ (by omega)).trans bR0
  have hB7 : Below W.heap.size W w7 := hb0.trans (hb7.mono (by omega))
  have hkc : SKC W (W.heap.size + 3) k w7 := ⟨hbx7, hB7.size, hB7.block⟩
  have HKC := Lib.hid hkc
  clear hw0 hb0 hsz0 bA0 bR0 hkc hbx7 hb7
  refine wpIn_rangeIterL (gf := 132) (lb := #[.pointer (some ⟨W.heap.size + 3, 0, none⟩)]) (by first | rfl | (simp [Act.eval, Operand.eval])) (enters_of Tryz.func132 (by kernel_rfl) rfl) (HIT (W.heap.size + 3) HK.out) (fun _ => False) (fun _ h => h.elim) (fun _ => rfl)
    (fun j hj => by
      rcases hj with rfl | hj
      · omega
      · omega)
    (fun W' hW' => HKC.out.below hW')
    (fun pre W' => pre.all nodeK = true ∧ Boxed W' (W.heap.size + 1) 46 (.func (.func 64) #[] #[]) ∧ Boxed W' (W.heap.size + 2) 4 (.bool false) ∧ Below W.heap.size W W' ∧ w7.heap.size ≤ W'.heap.size)
    (fun c pre W' => c = .ret ∧ (preK k).all nodeK = false ∧ Boxed W' (W.heap.size + 2) 4 (.bool false) ∧ Below W.heap.size W W')
    (fun s' A B h hAB => ⟨h.1, hAB.boxed h.2.1 (.inl (by omega)), hAB.boxed h.2.2.1 (.inl (by omega)), h.2.2.2.1.trans (hAB.toBelow.mono (by omega)), Nat.le_trans h.2.2.2.2 hAB.size⟩)
    (fun c s' A B h hAB => ⟨h.1, h.2.1, hAB.boxed h.2.2.1 (.inl (by omega)), h.2.2.2.trans (hAB.toBelow.mono (by omega))⟩)
    ⟨rfl, bA, bR, hB7, Nat.le_refl _⟩ ?round ?done ?stop
  case round =>
    rintro l' pre x W1 hl ⟨rr, hrr⟩ ⟨hp, ha, hr, hb, hs1⟩ hst
    have hl1 : l' < W1.heap.size := (Array.getElem?_eq_some_iff.1 hrr).1
    have hxm : x ∈ preK k := (List.IsPrefix.subset hst) (show x ∈ pre ++ [x] by simp)
    obtain ⟨xk, xf, xm, xn, xl, xsp, xkp, xsc, xkc, Z, hxv, hxc⟩ := x.form
    have HXV := Lib.hid hxv
    have HXC := Lib.hid hxc
    clear hrr hst hxc
    rw [hxv]
    clear hxv
    gi_wp2_with fail
    refine ⟨Keeps.alloc _ _ _ _ _, fun W2 hits hsz2 hrec hoth => ?_⟩
    have hit2 : Itself skT0 w7.heap.size W1 W2 := (Itself.alloc _ _ _ hs1).trans hits
    have ha2 := hit2.boxed ha (.inl (by omega))
    have hr2 := hit2.boxed hr (.inl (by omega))
    have hb2 := hb.trans (hit2.toBelow.mono (show W.heap.size ≤ w7.heap.size by omega))
    have hs2 : w7.heap.size ≤ W2.heap.size := Nat.le_trans hs1 hit2.size
    have hbn : Box6 W2 W1.heap.size x := by
      have h1 := (hoth _ (by omega)).trans (heap_alloc_new W1 (.cells #[.int .i64 xk, .int .u8 xf, .slice xsp xm xsc, .int .u32 xn, .string Z, .slice xkp xl xkc] 37))
      rw [← HXC.out] at h1
      exact h1
    have hcell : ∀ (q : Nat) (u : Value), (#[.int .i64 xk, .int .u8 xf, .slice xsp xm xsc, .int .u32 xn, .string Z, .slice xkp xl xkc] : Array Value)[q]? = some u → W2.cell? ⟨W1.heap.size, q, none⟩ = some u := fun q u hu => by
      rw [← HXC.out] at hu; exact hbn.cell (by simpa using hu)
    have d0 := hcell 0 _ rfl
    have d1 := hcell 1 _ rfl
    have d2 := hcell 2 _ rfl
    have d3 := hcell 3 _ rfl
    have d4 := hcell 4 _ rfl
    have d5 := hcell 5 _ rfl
    have ca := ha2.cell
    have cr := hr2.cell
    have fr := hr2.frozen
    have lx : W1.heap.size < W2.heap.size := hbn.lt
    have CR := sRight1_c x W2 ((HKX.out x hxm).below hb2)
    rw [HXV.out] at CR
    have HR2 := Lib.hid hr2
    have HA2 := Lib.hid ha2
    have HB2 := Lib.hid hb2
    have HP := Lib.hid hp
    have HXM := Lib.hid hxm
    obtain ⟨bx, hbx⟩ : ∃ b, nodeK x = b := ⟨_, rfl⟩
    rw [hbx] at CR
    have CR := Lib.hid CR
    have HBX := Lib.hid hbx
    clear hits hit2 ha2 hr2 hb2 hbn hcell hoth hsz2 hrec hp ha hr hb hxm hbx
    cases bx with
    | true =>
      gi_wp2_with fail
      refine CallsIn.wr CR.out ?_
      rintro e W3 ⟨rfl, hb3⟩
      have HB3 := Lib.hid hb3
      clear hb3 cr fr ca d0 d1 d2 d3 d4 d5
      gi_wp2_with fail
      refine ⟨Keeps.of_below HB3.out, ?_, (HB3.out.block _ (lt_of_block HA2.out)).trans HA2.out, (HB3.out.block _ (lt_of_block HR2.out)).trans HR2.out, HB2.out.trans (HB3.out.mono HB2.out.size), Nat.le_trans hs2 HB3.out.size⟩
      rw [List.all_append, HP.out]; simp [HBX.out]
    | false =>
      gi_wp2_with fail
      refine CallsIn.wr CR.out ?_
      rintro e W3 ⟨rfl, hb3⟩
      have hr3 : Boxed W3 (W.heap.size + 2) 4 (.bool false) := (hb3.block _ (lt_of_block HR2.out)).trans HR2.out
      have HB3 := Lib.hid hb3
      have HR3 := Lib.hid hr3
      have cr3 := hr3.cell
      have fr3 := hr3.frozen
      have lr3 := lt_of_block hr3
      clear hb3 cr fr ca d0 d1 d2 d3 d4 d5 hr3
      gi_wp2_with fail
      refine ⟨(Keeps.of_below HB3.out).trans (Keeps.setCell _ _ ⟨W.heap.size + 2, 0, none⟩ _ (by unfold capK; simp) (by show W.heap.size + 2 < w7.heap.size; omega)), rfl, ?_, HR3.out.set _, (HB2.out.trans (HB3.out.mono HB2.out.size)).setCell (p := ⟨W.heap.size + 2, 0, none⟩) (by simp) _⟩
      cases h : (preK k).all nodeK with
      | false => rfl
      | true => have := List.all_eq_true.1 h x HXM.out; rw [HBX.out] at this; cases this
  case done =>
    rintro D xs W1 hD rfl ⟨hp, ha, hr, hb, hs1⟩ hK
    have HP := Lib.hid hp
    have HB := Lib.hid hb
    have HR := Lib.hid hr
    have cr := hr.cell
    have fr := hr.frozen
    have HK := Lib.hid hK
    have lr := lt_of_block hr
    clear hp ha hr hb hK
    gi_wp2_with fail
    have hK' : (W1.setCell ⟨W.heap.size + 2, 0, none⟩ (.bool true)).heap[D]? = some (.deferred (some [])) := (Below.heap_setCell W1 ⟨W.heap.size + 2, 0, none⟩ _ D (by show D ≠ W.heap.size + 2; omega)).trans HK.out
    refine ⟨by simp, .inl ⟨_, _, rfl, run_takeDeferred hK', ?_⟩⟩
    have hc5 := cell_kept (HR.out.set (.bool true)).cell (grownBy_putObj' _ D (.deferred none)) (fun r e => by cases e; exact ⟨_, hK', rfl⟩)
    refine ⟨.bool true, ?_, by rw [HP.out], (HB.out.setCell (p := ⟨W.heap.size + 2, 0, none⟩) (by simp) _).trans (belowK_b (w := W) (Nat.le_refl _) _ D _ _ (by omega) hK' rfl rfl)⟩
    simp [results, Tryz.f63, go_sem, hc5]
  case stop =>
    rintro D c pre W1 hD hS ⟨rfl, hf, hr, hb⟩ hK
    have HB := Lib.hid hb
    have HR := Lib.hid hr
    have HK := Lib.hid hK
    have HF := Lib.hid hf
    clear hr hb hK hf
    gi_wp2_with fail
    refine ⟨by simp, .inl ⟨_, _, rfl, run_takeDeferred HK.out, ?_⟩⟩
    have hc5 := cell_kept HR.out.cell (grownBy_putObj' _ D (.deferred none)) (fun r e => by cases e; exact ⟨_, HK.out, rfl⟩)
    refine ⟨_, ?_, by rw [HF.out], HB.out.trans (belowK_b (w := W) (Nat.le_refl _) _ D _ _ (by omega) HK.out rfl rfl)⟩
    simp [results, Tryz.f63, go_sem, hc5]
theorem rightK_eq (k : KT) : ∀ d : Int, rightK k d = (withinK k d && (preK k).all nodeK) := by
  refine KT.ind (P := fun k => ∀ d : Int, rightK k d = (withinK k d && (preK k).all nodeK)) ?_ k
  intro kind flag set n s kids sp scap kp kcap ih d
  have hl : ∀ (l : List KT), (∀ y ∈ l, y ∈ kids) → rightL l (d - 1) = (withinL l (d - 1) && (preKs l).all nodeK) := by
    intro l
    induction l with
    | nil => intro _; rw [rightL, withinL, preKs]; rfl
    | cons y r ihr =>
      intro hy
      rw [rightL, withinL, preKs, List.all_append, ih y (hy y (by simp)), ihr (fun z hz => hy z (by simp [hz]))]
      cases withinK y (d - 1) <;> cases (preK y).all nodeK <;> cases withinL r (d - 1) <;> rfl
  rw [rightK, withinK, preK, List.all_cons, nodeK, hl kids (fun y hy => hy), show decide (1 ≤ d) = decide (0 < d) by congr 1]
  cases decide (0 < d) <;> cases decide (NodeP kind flag set.length n s.length kids.length) <;> cases withinL kids (d - 1) <;> rfl
set_option maxRecDepth 100000 in
set_option maxHeartbeats 1000000 in
theorem sRight_c (k : KT) (W : World) (hK : KeyC W k) : Calls Tryz.prog 16 #[k.val] W fun e w' => e = .returned (.bool (rightK k 16)) ∧ Below W.heap.size W w' := by
  rw [rightK_eq]
  have C1 := fun w hb => sWithin_c k 16 w (by omega) (by omega) (hK.below (W' := w) hb)
  have C2 := fun w hb => sEach_c k w (hK.below (W' := w) hb)
  obtain ⟨yk, yf, ym, yn, yl, ysp, ykp, ysc, ykc, Y, hyv, hyc⟩ := k.form
  rw [hyv] at C1 C2
  rw [hyv]
  obtain ⟨b1, hb1⟩ : ∃ b, withinK k 16 = b := ⟨_, rfl⟩
  obtain ⟨b2, hb2⟩ : ∃ b, (preK k).all nodeK = b := ⟨_, rfl⟩
  rw [hb1] at C1
  rw [hb2] at C2
  rw [hb1, hb2]
  have HB : Hid (Below W.heap.size W (W.alloc (.cells #[.int .i64 yk, .int .u8 yf, .slice ysp ym ysc, .int .u32 yn, .string Y, .slice ykp yl ykc] 37))) := (Below.refl _ _).alloc (Nat.le_refl _) _
  have c0 := C1 _ HB.out
  have C1 := Lib.hid c0
  have C2 := Lib.hid C2
  have hbox : Box6 (W.alloc (.cells #[.int .i64 yk, .int .u8 yf, .slice ysp ym ysc, .int .u32 yn, .string Y, .slice ykp yl ykc] 37)) W.heap.size k := by
    have := heap_alloc_new W (.cells #[.int .i64 yk, .int .u8 yf, .slice ysp ym ysc, .int .u32 yn, .string Y, .slice ykp yl ykc] 37)
    rw [← hyc] at this ⊢
    exact this
  have HBOX := Lib.hid hbox
  have HYC := Lib.hid hyc
  obtain ⟨w0, hw0⟩ : ∃ w0, W.alloc (.cells #[.int .i64 yk, .int .u8 yf, .slice ysp ym ysc, .int .u32 yn, .string Y, .slice ykp yl ykc] 37) = w0 := ⟨_, rfl⟩
  rw [hw0] at HB C1 HBOX
  have HW0 := Lib.hid hw0
  clear c0 hK hyv hyc hb1 hb2 hbox hw0
  cases b1 with
  | false =>
    rw [Bool.false_and]
    go_enter Tryz.func16, Tryz.ntmps16
    go_wp2_with fail
    rw [HW0.out]
    refine C1.out.mono ?_
    rintro e w2 ⟨rfl, hb⟩
    have HB2 := Lib.hid (HB.out.trans (hb.mono HB.out.size))
    clear hb
    go_wp2_with fail
    go_ret
    exact ⟨rfl, HB2.out⟩
  | true =>
    rw [Bool.true_and]
    go_enter Tryz.func16, Tryz.ntmps16
    go_wp2_with fail
    rw [HW0.out]
    refine C1.out.mono ?_
    rintro e w2 ⟨rfl, hb⟩
    have hbox2 : Box6 w2 W.heap.size k := (hb.block _ HBOX.out.lt).trans HBOX.out
    have hcell : ∀ (q : Nat) (u : Value), (#[.int .i64 yk, .int .u8 yf, .slice ysp ym ysc, .int .u32 yn, .string Y, .slice ykp yl ykc] : Array Value)[q]? = some u → w2.cell? ⟨W.heap.size, q, none⟩ = some u := fun q u hu => by
      rw [← HYC.out] at hu; exact hbox2.cell (by simpa using hu)
    have d0 := hcell 0 _ rfl
    have d1 := hcell 1 _ rfl
    have d2 := hcell 2 _ rfl
    have d3 := hcell 3 _ rfl
    have d4 := hcell 4 _ rfl
    have d5 := hcell 5 _ rfl
    have lb := hbox2.lt
    have HB2 := Lib.hid (HB.out.trans (hb.mono HB.out.size))
    have C := Lib.hid (C2.out _ HB2.out)
    clear hb hbox2 hcell
    cases b2
    all_goals
      go_wp2_with fail
      refine C.out.mono ?_
      rintro e w3 ⟨rfl, hb⟩
      have HB3 := Lib.hid (HB2.out.trans (hb.mono HB2.out.size))
      clear hb
      go_wp2_with fail
      go_ret
      exact ⟨rfl, HB3.out⟩
end Go.Proofs.YtpnnchpaaopdcaaGreatDoor
namespace Go.Proofs.YtpnnchpaaopdcaaGreatDoor
open Go Go.RowKit
variable {W : World} {g : Nat} {s : RS} {S : List UInt8}
theorem own_pairsT {t : TypeId} {B : Nat} {v : Value} {l : List (Nat × Nat)} (h : W.ownsRow B t 2 v l.length (cellsP l)) : ∃ sp cap, v = .slice sp l.length cap ∧ PairsAt W sp l ∧ Up B sp := by
  rcases h.2 with ⟨h1, h2⟩ | ⟨b, cap, cur, h1, h2⟩
  · have hl : l = [] := List.length_eq_zero_iff.1 h2
    subst hl
    subst h1
    exact ⟨none, 0, rfl, fun i r hr => by simp at hr, fun a e => by simp at e⟩
  · subst h1
    refine ⟨_, cap, rfl, fun i r hr => ?_, fun a e => ?_⟩
    · have hil := (List.getElem?_eq_some_iff.1 hr).1
      have hc := cellsP_at hil
      have hr2 : l[i] = r := (List.getElem?_eq_some_iff.1 hr).2
      rw [hr2] at hc
      exact ⟨b, 0, rfl, (h.lt b rfl).2, by rw [Nat.zero_add, h.cellAt _ (by omega)]; exact hc.1, by rw [Nat.zero_add, h.cellAt _ (by omega)]; exact hc.2⟩
    · cases e; exact (h.lt b rfl).1
theorem setB_val (n : Nat) (hn : n < 256) : setB (UInt8.ofNat n) = (decide (48 ≤ n) && decide (n ≤ 57) || (decide (n = 42) || (decide (n = 58) || decide (n = 44)))) := by
  revert n; decide +kernel
theorem setB_of (x : UInt8) : setB x = (decide (48 ≤ x.toNat) && decide (x.toNat ≤ 57) || (decide (x.toNat = 42) || (decide (x.toNat = 58) || decide (x.toNat = 44)))) := by
  have h := setB_val x.toNat x.toNat_lt
  rw [show UInt8.ofNat x.toNat = x from by simp] at h
  exact h
def SetDoesD (W : World) (g : Nat) (S : List UInt8) (l : List (Nat × Nat)) (s' : RS) (e : Ending) (w' : World) : Prop := (∃ sp cap, e = .returned (.slice sp l.length cap) ∧ PairsAt w' sp l ∧ Up W.heap.size sp) ∧ DRS w' g S s' ∧ Tk g W w'
set_option maxRecDepth 100000 in
set_option maxHeartbeats 2000000 in
theorem rset14_c (h : DRS W g S s) (hl : S.length ≤ 10000) : Calls Tryz.prog 28 #[pt g] W (SetDoesD W g S (rsetV s) (rsetS s)) := by
  have CR := Lib.hid (rtRest_c h)
  have hle := h.le
  have e1 := txt_size s.l
  have hex : (txt s.l).extract 0 (s.l.takeWhile setB).length = txt (s.l.takeWhile setB) := by rw [ext_take, (tw_take s.l).1]
  have hKN := tw_le (p := setB) s.l
  have P := fun w => rqparse_c (txt (s.l.takeWhile setB)) (by rw [txt_size]; omega) w
  rw [data_txt, ← hex] at P
  have hgood : ∀ l, setOf (s.l.takeWhile setB) = some l → ¬ 64 < l.length → ∃ a, DR W g S a false ∧ a + (s.l.takeWhile setB).length ≤ S.length ∧ rsetV s = l ∧ rsetS s = dS S (a + (s.l.takeWhile setB).length) false := fun l hv h64 => by
    have hf : s.f = false := by
      cases hf : s.f with
      | false => rfl
      | true => rw [h.ok hf] at hv; exact absurd hv (by rw [show ([] : List UInt8).takeWhile setB = [] from rfl, show setOf [] = none from by decide +kernel]; simp)
    obtain ⟨a, hD, ha, hla⟩ := h.at hf
    have h0 : rsetO s = some l := by unfold rsetO; rw [hv]; simp [h64]
    refine ⟨a, hD, ?_, ?_, ?_⟩
    · have h1 := tw_le (p := setB) s.l
      rw [hla, List.length_drop] at h1
      rw [hla]; omega
    · unfold rsetV; rw [h0]; rfl
    · unfold rsetS; rw [h0, dS_drop, ← hla, (tw_take s.l).2]; unfold skipS; rw [hf]; rfl
  have hbad : (setOf (s.l.takeWhile setB) = none ∨ ∃ l, setOf (s.l.takeWhile setB) = some l ∧ 64 < l.length) → rsetV s = [] ∧ rsetS s = .gone := fun hv => by
    have h0 : rsetO s = none := by
      unfold rsetO
      rcases hv with hv | ⟨l, hv, h64⟩
      · rw [hv]; rfl
      · rw [hv]; simp [h64]
    unfold rsetV rsetS; rw [h0]; exact ⟨rfl, rfl⟩
  obtain ⟨L9, hL9⟩ : ∃ L9, s.l = L9 := ⟨_, rfl⟩
  rw [hL9] at CR e1 hex hKN P hgood hbad
  have hst := fun {k : Nat} (hk : k ≤ (L9.takeWhile setB).length) => tw_step (p := setB) hk
  have hen := fun {k : Nat} (hk : k ≤ (L9.takeWhile setB).length) => tw_end (p := setB) hk
  obtain ⟨R, hR⟩ : ∃ R, setOf (L9.takeWhile setB) = R := ⟨_, rfl⟩
  rw [hR] at P hgood hbad
  obtain ⟨K, hK⟩ : ∃ K, (L9.takeWhile setB).length = K := ⟨_, rfl⟩
  rw [hK] at P hgood hKN hex hst hen
  obtain ⟨B, hB⟩ : ∃ B, txt L9 = B := ⟨_, rfl⟩
  rw [hB] at CR e1
  simp only [hB] at P
  have hat : ∀ k (hk : k < B.size), L9[k]? = some B[k] := fun k hk => by
    subst hB
    rw [at_txt (by rw [txt_size] at hk; exact hk)]; exact List.getElem?_eq_getElem _
  obtain ⟨N, hN⟩ : ∃ N, L9.length = N := ⟨_, rfl⟩
  rw [hN] at e1 hKN
  rw [hL9, hN] at hle
  have HST := Lib.hid (fun k (hk : k ≤ K) (hk2 : k < L9.length) => @hst k hk hk2)
  have HEN := Lib.hid (fun k (hk : k ≤ K) (hk2 : ¬ k < L9.length) => @hen k hk hk2)
  have HAT := Lib.hid hat
  have HP := Lib.hid P
  have HGOOD := Lib.hid hgood
  have HBAD := Lib.hid hbad
  have HN := Lib.hid hN
  have H := Lib.hid h
  obtain ⟨y, hy⟩ : ∃ y, rsetV s = y := ⟨_, rfl⟩
  obtain ⟨z, hz⟩ : ∃ z, rsetS s = z := ⟨_, rfl⟩
  rw [hy, hz] at HGOOD HBAD
  rw [hy, hz]
  have qK : (K : Int) ≤ N := by omega
  clear h P hat hst hen hgood hbad hK hN hR hB hL9 hex hy hz
  go_enter Tryz.func28, Tryz.ntmps28
  go_wp2_with fail
  refine CR.out.mono ?_
  rintro e w1 ⟨rfl, m, hm⟩
  have h1 : DRS w1 g S s := by rw [hm]; exact H.out
  have hd : ∀ a, DR W g S a false → DR w1 g S a false := fun a h => by rw [hm]; exact h
  have K1 : Hid (Tk g W w1) := by rw [hm]; exact Tk.drew _ _
  have H1 := Lib.hid h1
  have HD1 := Lib.hid hd
  clear h1 hm hd
  go_upto_block 0 with fail
  go_cut [4] from 7 (fun i wc => i = .int .i64 K ∧ w1 = wc)
  case first =>
   go_wp2_with fail
   go_loop [4] (fun i => ∃ k : Nat, k ≤ N ∧ i = .int .i64 k ∧ Hid (k ≤ K)) (fun i => N - (intOf i).toNat)
   case atStart => exact ⟨0, Nat.zero_le _, rfl, Nat.zero_le _⟩
   case round =>
     obtain ⟨k, hk, rfl, HK⟩ := hrel
     by_cases hlt : k < N
     · have hq : (k : Int) < N := by omega
       have hq0 : (0 : Int) ≤ k := by omega
       have hkB : k < B.size := by omega
       have hc1 : B[k].toNat < 256 := B[k].toNat_lt
       have hstep := HST.out k HK.out (by rw [HN.out]; exact hlt)
       obtain ⟨_, hbk⟩ := List.getElem?_eq_some_iff.1 (HAT.out k hkB)
       rw [hbk] at hstep
       have hsv := setB_of B[k]
       have yes : setB B[k] = true → Hid (k + 1 ≤ K) := fun h => hstep.1 h
       have no : setB B[k] = false → Hid (k = K) := fun h => hstep.2 h
       clear hstep hbk
       by_cases h1 : 48 ≤ B[k].toNat
       · have q1 : (48 : Int) ≤ B[k].toNat := by omega
         by_cases h2 : B[k].toNat ≤ 57
         · have q2 : (B[k].toNat : Int) ≤ 57 := by omega
           have HK2 := yes (by rw [hsv]; simp [h1, h2])
           clear yes no hsv h1 h2
           go_wp2_with fail
           go_round
           case rel => exact ⟨k + 1, by omega, by go_num, HK2.out⟩
           case measure => simp [intOf]; omega
         · have q2 : ¬ (B[k].toNat : Int) ≤ 57 := by omega
           have q3 : ¬ (B[k].toNat : Int) = 42 := by omega
           have p42 : ((B[k].toNat : Int) == 42) = false := beq_eq_false_iff_ne.2 q3
           by_cases h4 : B[k].toNat = 58
           · have q4 : (B[k].toNat : Int) = 58 := by omega
             have HK2 := yes (by rw [hsv]; simp [h4])
             clear yes no hsv h1 h2 h4
             go_wp2_with fail
             go_round
             case rel => exact ⟨k + 1, by omega, by go_num, HK2.out⟩
             case measure => simp [intOf]; omega
           · have q4 : ¬ (B[k].toNat : Int) = 58 := by omega
             have p58 : ((B[k].toNat : Int) == 58) = false := beq_eq_false_iff_ne.2 q4
             have q5 : ¬ (B[k].toNat : Int) = 44 := by omega
             have p44 : ((B[k].toNat : Int) == 44) = false := beq_eq_false_iff_ne.2 q5
             have HZ := no (by rw [hsv]; have h5 : ¬ B[k].toNat = 42 := by omega
                               have h6 : ¬ B[k].toNat = 44 := by omega
                               simp [h2, h4, h5, h6])
             clear yes no hsv h1 h2 h4
             go_wp2_with fail
             go_meet
             case rel => exact ⟨by rw [HZ.out], rfl⟩
       · have q1 : ¬ (48 : Int) ≤ B[k].toNat := by omega
         have q4 : ¬ (B[k].toNat : Int) = 58 := by omega
         have p58 : ((B[k].toNat : Int) == 58) = false := beq_eq_false_iff_ne.2 q4
         by_cases h3 : B[k].toNat = 42
         · have q3 : (B[k].toNat : Int) = 42 := by omega
           have HK2 := yes (by rw [hsv]; simp [h3])
           clear yes no hsv h1 h3
           go_wp2_with fail
           go_round
           case rel => exact ⟨k + 1, by omega, by go_num, HK2.out⟩
           case measure => simp [intOf]; omega
         · have q3 : ¬ (B[k].toNat : Int) = 42 := by omega
           have p42 : ((B[k].toNat : Int) == 42) = false := beq_eq_false_iff_ne.2 q3
           by_cases h5 : B[k].toNat = 44
           · have q5 : (B[k].toNat : Int) = 44 := by omega
             have HK2 := yes (by rw [hsv]; simp [h5])
             clear yes no hsv h1 h3 h5
             go_wp2_with fail
             go_round
             case rel => exact ⟨k + 1, by omega, by go_num, HK2.out⟩
             case measure => simp [intOf]; omega
           · have q5 : ¬ (B[k].toNat : Int) = 44 := by omega
             have p44 : ((B[k].toNat : Int) == 44) = false := beq_eq_false_iff_ne.2 q5
             have HZ := no (by rw [hsv]; have h6 : ¬ B[k].toNat = 58 := by omega
                               simp [h1, h3, h5, h6])
             clear yes no hsv h1 h3 h5
             go_wp2_with fail
             go_meet
             case rel => exact ⟨by rw [HZ.out], rfl⟩
     · obtain rfl : k = N := by omega
       have hq : ¬ (k : Int) < k := by omega
       have HZ : Hid (k = K) := HEN.out k HK.out (by rw [HN.out]; omega)
       go_wp2_with fail
       go_meet
       case rel => exact ⟨by rw [HZ.out], rfl⟩
  case rest =>
    obtain ⟨rfl, hw9⟩ := hcut
    obtain ⟨wy, hwy⟩ : ∃ wy, wc = wy := ⟨_, rfl⟩
    rw [hwy] at hw9 ⊢
    clear hwy
    subst hw9
    clear HST HEN HAT HN
    go_wp2_with fail
    refine (HP.out _).mono ?_
    rintro e w2 ⟨hr, hb2⟩
    have K2 := Lib.hid (K1.out.trans (Tk.of_below (g := g) hb2))
    have P2 := Lib.hid (H1.out.tk (Tk.of_below (g := g + 1) hb2) (by omega))
    have hg1 := H1.out.lt
    have hs1 := K1.out.size
    have HB2 := Lib.hid hb2
    clear hb2 HP
    cases R with
    | none =>
      obtain rfl : e = _ := hr
      obtain ⟨rfl, rfl⟩ := HBAD.out (.inl rfl)
      have C4 := Lib.hid (rtFail_c P2.out)
      go_wp2_with fail
      refine C4.out.mono ?_
      rintro e w3 ⟨rfl, h5, k5⟩
      have P5 := Lib.hid h5
      have K5 := Lib.hid (K2.out.trans k5)
      clear h5 k5
      go_wp2_with fail
      go_ret
      exact ⟨⟨none, 0, rfl, fun i r hr => by simp at hr, fun a e => by cases e⟩, P5.out, K5.out⟩
    | some l =>
      by_cases h64 : 64 < l.length
      · have hr2 : e = .returned (.tuple #[.slice none 0 0, .int .i64 9]) := by
          have : (if 64 < l.length then e = .returned (.tuple #[.slice none 0 0, .int .i64 9]) else ∃ v, e = .returned (.tuple #[v, .int .i64 0]) ∧ w2.ownsRow w1.heap.size 115 2 v l.length (cellsP l)) := hr
          rwa [if_pos h64] at this
        subst hr2
        obtain ⟨rfl, rfl⟩ := HBAD.out (.inr ⟨l, rfl, h64⟩)
        have C4 := Lib.hid (rtFail_c P2.out)
        clear hr h64
        go_wp2_with fail
        refine C4.out.mono ?_
        rintro e w3 ⟨rfl, h5, k5⟩
        have P5 := Lib.hid h5
        have K5 := Lib.hid (K2.out.trans k5)
        clear h5 k5
        go_wp2_with fail
        go_ret
        exact ⟨⟨none, 0, rfl, fun i r hr => by simp at hr, fun a e => by cases e⟩, P5.out, K5.out⟩
      · have hr2 : ∃ v, e = .returned (.tuple #[v, .int .i64 0]) ∧ w2.ownsRow w1.heap.size 115 2 v l.length (cellsP l) := by
          have : (if 64 < l.length then e = .returned (.tuple #[.slice none 0 0, .int .i64 9]) else ∃ v, e = .returned (.tuple #[v, .int .i64 0]) ∧ w2.ownsRow w1.heap.size 115 2 v l.length (cellsP l)) := hr
          rwa [if_neg h64] at this
        obtain ⟨v, rfl, ho⟩ := hr2
        obtain ⟨sp, cap, rfl, hp, hu⟩ := own_pairsT ho
        obtain ⟨a, hD, ha, rfl, rfl⟩ := HGOOD.out l rfl h64
        have hD2 : DR w2 g S a false := Cells.later (HD1.out a hD) (HB2.out.block g hg1)
        obtain ⟨c0, c1, c2, hb, f1, f2⟩ := hD2.facts
        have HH : Hid (DRS (w2.setCell ⟨g, 1, none⟩ (.int .i64 ((a : Int) + K))) g S (dS S (a + K) false)) := ⟨a + K, false, hD2.set1 _ _ (by omega), ha, rfl⟩
        have HPP : Hid (PairsAt (w2.setCell ⟨g, 1, none⟩ (.int .i64 ((a : Int) + K))) sp y) := hp.keep hu (KeepUp.tk (Tk.set w2 1 _) hg1)
        have HU := Lib.hid (hu.mono hs1)
        have q9 : (a : Int) + K ≤ 100000 := by omega
        clear hr ho hp hu h64 hD hD2 c0 c2 f2
        go_wp2_with fail
        go_ret
        exact ⟨⟨sp, cap, rfl, HPP.out, HU.out⟩, HH.out, K2.out.trans (Tk.set _ _ _)⟩
end Go.Proofs.YtpnnchpaaopdcaaGreatDoor
namespace Go.Proofs.YtpnnchpaaopdcaaGreatDoor
open Go Go.RowKit
set_option maxRecDepth 100000 in
set_option maxHeartbeats 2000000 in
theorem qhasP_c (ad : Option Addr) (cp : Nat) (l : List (Nat × Nat)) (hl : l.length ≤ 1000) (n last : Nat) (w : World) (ho : PairsAt w ad l) :
    Calls Tryz.prog 127 #[.slice ad l.length cp, .int .u32 n, .int .u32 last] w fun e w' => e = .returned (.bool (hasB l n last)) ∧ Below w.heap.size w w' := by
  by_cases hn0 : n = 0
  · subst hn0
    go_enter Tryz.func127, Tryz.ntmps127
    go_wp2_with fail
    go_ret
    exact ⟨by simp [hasB], Below.refl _ _⟩
  have en : ((n : Int) == 0) = false := qF (by omega)
  have HH : Hid (hasB l n last = l.any (inB n last)) := by show _ = _; simp [hasB, hn0]
  obtain ⟨N, hN⟩ : ∃ N, N = l.length := ⟨_, rfl⟩
  rw [← hN] at hl ⊢
  have HO := Lib.hid ho
  have HN := Lib.hid hN
  clear ho hN hn0
  go_enter Tryz.func127, Tryz.ntmps127
  go_wp2_with fail
  go_loopw [8, 9, 10, 15] (fun _ _ _ t15 wr => ∃ k : Nat, k ≤ N ∧ t15 = .int .i64 k ∧ Hid ((l.take k).any (inB n last) = false) ∧ Hid (Below w.heap.size w wr)) (fun _ _ _ i _ => N - (intOf i).toNat)
  case atStart => exact ⟨0, by omega, rfl, rfl, Below.refl _ _⟩
  case round =>
    obtain ⟨k, hk, rfl, HF, HB⟩ := hrel
    have hls := HB.out.size
    by_cases hlt : k < N
    · have hkl : k < l.length := by rw [← HN.out]; exact hlt
      obtain ⟨x, y, hxy⟩ : ∃ x y, l[k] = (x, y) := ⟨_, _, rfl⟩
      have hq1 : (k : Int) < N := by omega
      obtain ⟨g, off, rfl, hgl, k0', k1'⟩ := HO.out k (x, y) (by rw [List.getElem?_eq_getElem hkl, hxy])
      have k0 : wr.cell? ⟨g, off + k * 2, none⟩ = some (.int .u32 x) := (HB.out.cell (p := ⟨g, _, none⟩) hgl).trans k0'
      have k1 : wr.cell? ⟨g, off + k * 2 + 1, none⟩ = some (.int .u32 y) := (HB.out.cell (p := ⟨g, _, none⟩) hgl).trans k1'
      have hgw : g < wr.heap.size := by omega
      have hq0 : (0 : Int) ≤ k := by omega
      have HXY : Hid (l[k]? = some (x, y)) := by show _ = _; rw [List.getElem?_eq_getElem hkl, hxy]
      clear k0' k1' hxy hkl
      go_wp2_with fail
      refine (bounds_c x y last _).mono ?_
      rintro e w2 ⟨rfl, hb2⟩
      have HB2 : Hid (Below w.heap.size w w2) := (HB.out.alloc hls _).trans (hb2.mono (by simp; omega))
      clear hb2 k0 k1
      by_cases h1 : loB (x, y) last ≤ n
      · have q1 : ((loB (x, y) last : Nat) : Int) ≤ n := by omega
        by_cases h2 : n ≤ hiB (x, y) last
        · have q2 : (n : Int) ≤ ((hiB (x, y) last : Nat) : Int) := by omega
          have hin : l.any (inB n last) = true := any_at HXY.out (by simp [inB, h1, h2])
          have HI := Lib.hid hin
          clear hin h1 h2
          go_wp2_with fail
          go_ret
          exact ⟨by rw [HH.out, HI.out]; rfl, HB2.out⟩
        · have q2 : ¬ (n : Int) ≤ ((hiB (x, y) last : Nat) : Int) := by omega
          have hin : (l.take (k + 1)).any (inB n last) = false := by rw [take_any HXY.out, HF.out]; simp [inB, h2]
          have HI := Lib.hid hin
          clear hin h1 h2
          go_wp2_with fail
          go_roundw
          case rel => exact ⟨k + 1, by omega, by go_num, HI.out, HB2.out⟩
          case measure => simp [intOf]; omega
      · have q1 : ¬ ((loB (x, y) last : Nat) : Int) ≤ n := by omega
        have hin : (l.take (k + 1)).any (inB n last) = false := by rw [take_any HXY.out, HF.out]; simp [inB, h1]
        have HI := Lib.hid hin
        clear hin h1
        go_wp2_with fail
        go_roundw
        case rel => exact ⟨k + 1, by omega, by go_num, HI.out, HB2.out⟩
        case measure => simp [intOf]; omega
    · obtain rfl : k = N := by omega
      go_wp2_with fail
      go_ret
      refine ⟨?_, HB.out⟩
      have h1 := HF.out
      rw [List.take_of_length_le (by rw [← HN.out]; exact Nat.le_refl _)] at h1
      rw [HH.out, h1]; rfl
structure MP where
  uid : Nat
  fl : Nat
  tx : List UInt8
  sq : Nat
  lastS : Nat
  lastU : Nat
def MP.recv (m : MP) : Value := .agg #[.int .u32 m.uid, .int .u8 m.fl, .string (txt m.tx)]
def MP.plc (m : MP) : Value := .agg #[.int .u32 m.sq, .int .u32 m.lastS, .int .u32 m.lastU]
structure MP.Ok (m : MP) : Prop where
  fl : m.fl < 256
  tx : m.tx.length ≤ 70000
def MaxL (W : World) : Prop := ∃ z, W.cell? ⟨5, 0, none⟩ = some (.int .i64 z)
theorem MaxL.below {W W' : World} (h : MaxL W) (hb : Below W.heap.size W W') : MaxL W' := by
  obtain ⟨z, hz⟩ := h
  exact ⟨z, (hb.cell (p := ⟨5, 0, none⟩) (World.block_lt_of_cell? W _ hz)).trans hz⟩
mutual
def matchK (m : MP) : KT → Bool
  | .mk kind flag set n s kids _ _ _ _ =>
    if kind = 1 then sHas m.fl flag else if kind = 2 then !sHas m.fl flag else if kind = 3 then hasB set m.sq m.lastS else if kind = 4 then hasB set m.uid m.lastU
    else if kind = 5 then decide (n < m.tx.length) else if kind = 6 then decide (m.tx.length < n) else if kind = 7 then Lib.contains (m.tx.map upB) (s.map upB)
    else if kind = 8 then !matchHd m kids else if kind = 9 then matchAny m kids else if kind = 10 then !matchNot m kids else true
def matchHd (m : MP) : List KT → Bool
  | [] => true
  | k :: _ => matchK m k
def matchAny (m : MP) : List KT → Bool
  | [] => false
  | k :: r => matchK m k || matchAny m r
def matchNot (m : MP) : List KT → Bool
  | [] => false
  | k :: r => !matchK m k || matchNot m r
end
theorem matchAny_any (m : MP) : ∀ l, matchAny m l = l.any (matchK m)
  | [] => by rw [matchAny]; rfl
  | k :: r => by rw [matchAny, matchAny_any m r, List.any_cons]
theorem matchNot_any (m : MP) : ∀ l, matchNot m l = l.any (fun x => !matchK m x)
  | [] => by rw [matchNot]; rfl
  | k :: r => by rw [matchNot, matchNot_any m r, List.any_cons]
def MatchIH (m : MP) (k : KT) : Prop := ∀ W, KeyC W k → MaxL W → Calls Tryz.prog 70 #[k.val, m.recv, m.plc] W fun e w' => e = .returned (.bool (matchK m k)) ∧ Below W.heap.size W w'
structure Bx2 (W : World) (P1 P2 : Nat) (m : MP) : Prop where
  r : W.heap[P1]? = some (.cells #[.int .u32 m.uid, .int .u8 m.fl, .string (txt m.tx)] 50 (0, 0))
  p : W.heap[P2]? = some (.cells #[.int .u32 m.sq, .int .u32 m.lastS, .int .u32 m.lastU] 43 (0, 0))
theorem Bx2.below {W W' : World} {P1 P2 : Nat} {m : MP} (h : Bx2 W P1 P2 m) (hb : Below W.heap.size W W') : Bx2 W' P1 P2 m :=
  ⟨(hb.block _ (Array.getElem?_eq_some_iff.1 h.r).1).trans h.r, (hb.block _ (Array.getElem?_eq_some_iff.1 h.p).1).trans h.p⟩
theorem Bx2.cells {W : World} {P1 P2 : Nat} {m : MP} (h : Bx2 W P1 P2 m) : (W.cell? ⟨P1, 0, none⟩ = some (.int .u32 m.uid) ∧ W.cell? ⟨P1, 1, none⟩ = some (.int .u8 m.fl) ∧ W.cell? ⟨P1, 2, none⟩ = some (.string (txt m.tx))) ∧
    (W.cell? ⟨P2, 0, none⟩ = some (.int .u32 m.sq) ∧ W.cell? ⟨P2, 1, none⟩ = some (.int .u32 m.lastS) ∧ W.cell? ⟨P2, 2, none⟩ = some (.int .u32 m.lastU)) ∧ P1 < W.heap.size ∧ P2 < W.heap.size := by
  have h1 := h.r
  have h2 := h.p
  refine ⟨⟨?_, ?_, ?_⟩, ⟨?_, ?_, ?_⟩, (Array.getElem?_eq_some_iff.1 h1).1, (Array.getElem?_eq_some_iff.1 h2).1⟩
  all_goals (unfold World.cell?; first | (rw [h1]; rfl) | (rw [h2]; rfl))
set_option maxRecDepth 100000 in
theorem sMatches1_c {m : MP} (x : KT) (ih : MatchIH m x) (P1 P2 : Nat) (W : World) (hx : KeyC W x) (hX : MaxL W) (hb : Bx2 W P1 P2 m) :
    Calls Tryz.prog 124 #[x.val, .pointer (some ⟨P1, 0, none⟩), .pointer (some ⟨P2, 0, none⟩)] W fun e w' => e = .returned (.bool (matchK m x)) ∧ Below W.heap.size W w' := by
  obtain ⟨yk, yf, ym, yn, yl, ysp, ykp, ysc, ykc, Y, hyv, hyc⟩ := x.form
  have hB : Below W.heap.size W (W.alloc (.cells #[.int .i64 yk, .int .u8 yf, .slice ysp ym ysc, .int .u32 yn, .string Y, .slice ykp yl ykc] 37)) := (Below.refl _ _).alloc (Nat.le_refl _) _
  have C := ih _ (hx.below hB) (hX.below hB)
  rw [hyv] at C ⊢
  obtain ⟨⟨r0, r1, r2⟩, ⟨p0, p1, p2⟩, hl1, hl2⟩ := (hb.below hB).cells
  obtain ⟨b, hbv⟩ : ∃ b, matchK m x = b := ⟨_, rfl⟩
  rw [hbv] at C ⊢
  unfold MP.recv MP.plc at C
  have C := Lib.hid C
  have HB := Lib.hid hB
  have hl1' := (hb.cells).2.2.1
  have hl2' := (hb.cells).2.2.2
  clear ih hx hX hyv hyc hbv hB hb
  go_enter Tryz.func124, Tryz.ntmps124
  go_wp2_with fail
  refine C.out.mono ?_
  rintro e w2 ⟨rfl, hb2⟩
  have HB2 := Lib.hid (HB.out.trans (hb2.mono (by simp)))
  clear hb2
  go_wp2_with fail
  go_ret
  exact ⟨rfl, HB2.out⟩
set_option maxRecDepth 100000 in
theorem sMatches2_c {m : MP} (x : KT) (ih : MatchIH m x) (P P1 P2 : Nat) (W : World) (hx : KeyC W x) (hX : MaxL W) (hb : Bx2 W P1 P2 m) (hP : Boxed W P 46 (.func (.func 124) #[] #[.pointer (some ⟨P1, 0, none⟩), .pointer (some ⟨P2, 0, none⟩)])) :
    Calls Tryz.prog 125 #[x.val, .pointer (some ⟨P, 0, none⟩)] W fun e w' => e = .returned (.bool (!matchK m x)) ∧ Below W.heap.size W w' := by
  obtain ⟨yk, yf, ym, yn, yl, ysp, ykp, ysc, ykc, Y, hyv, hyc⟩ := x.form
  have hB : Below W.heap.size W (W.alloc (.cells #[.int .i64 yk, .int .u8 yf, .slice ysp ym ysc, .int .u32 yn, .string Y, .slice ykp yl ykc] 37)) := (Below.refl _ _).alloc (Nat.le_refl _) _
  have C := sMatches1_c x ih P1 P2 _ (hx.below hB) (hX.below hB) (hb.below hB)
  rw [hyv] at C ⊢
  have hc := (show Boxed (W.alloc (.cells #[.int .i64 yk, .int .u8 yf, .slice ysp ym ysc, .int .u32 yn, .string Y, .slice ykp yl ykc] 37)) P 46 _ from (hB.block _ (lt_of_block hP)).trans hP).cell
  have hl := lt_of_block hP
  obtain ⟨b, hbv⟩ : ∃ b, matchK m x = b := ⟨_, rfl⟩
  rw [hbv] at C ⊢
  have C := Lib.hid C
  have HB := Lib.hid hB
  clear ih hx hX hyv hyc hbv hB hb hP
  cases b
  all_goals
    go_enter Tryz.func125, Tryz.ntmps125
    go_wp2_with fail
    refine C.out.mono ?_
    rintro e w2 ⟨rfl, hb2⟩
    have HB2 := Lib.hid (HB.out.trans (hb2.mono (by simp)))
    clear hb2
    go_wp2_with fail
    go_ret
    exact ⟨rfl, HB2.out⟩
theorem match_boxes (W : World) (m : MP) (c0 c1 c2 c3 c4 c5 : Value) : ∃ w0, (((W.alloc (.cells #[c0, c1, c2, c3, c4, c5] 37)).alloc (.cells #[.int .u32 m.uid, .int .u8 m.fl, .string (txt m.tx)] 50)).alloc (.cells #[.int .u32 m.sq, .int .u32 m.lastS, .int .u32 m.lastU] 43)).alloc
      (.cells #[.func (.func 124) #[] #[.pointer (some ⟨W.heap.size + 1, 0, none⟩), .pointer (some ⟨W.heap.size + 1 + 1, 0, none⟩)]] 46) = w0 ∧ Below W.heap.size W w0 ∧ w0.heap.size = W.heap.size + 4 ∧ Bx2 w0 (W.heap.size + 1) (W.heap.size + 1 + 1) m ∧
    Boxed w0 (W.heap.size + 1 + 1 + 1) 46 (.func (.func 124) #[] #[.pointer (some ⟨W.heap.size + 1, 0, none⟩), .pointer (some ⟨W.heap.size + 1 + 1, 0, none⟩)]) ∧ w0.heap[W.heap.size]? = some (.cells #[c0, c1, c2, c3, c4, c5] 37 (0, 0)) := by
  refine ⟨_, rfl, ?_, by simp, ⟨?_, ?_⟩, ?_, ?_⟩
  · exact ((((Below.refl _ W).alloc (Nat.le_refl _) _).alloc (by simp) _).alloc (by simp; omega) _).alloc (by simp; omega) _
  · have h := heap_alloc_new (W.alloc (.cells #[c0, c1, c2, c3, c4, c5] 37)) (.cells #[.int .u32 m.uid, .int .u8 m.fl, .string (txt m.tx)] 50)
    rw [World.size_alloc] at h
    rw [Below.heap_alloc _ _ _ (by simp), Below.heap_alloc _ _ _ (by simp)]
    exact h
  · have h := heap_alloc_new ((W.alloc (.cells #[c0, c1, c2, c3, c4, c5] 37)).alloc (.cells #[.int .u32 m.uid, .int .u8 m.fl, .string (txt m.tx)] 50)) (.cells #[.int .u32 m.sq, .int .u32 m.lastS, .int .u32 m.lastU] 43)
    rw [World.size_alloc, World.size_alloc] at h
    rw [Below.heap_alloc _ _ _ (by simp)]
    exact h
  · have h := heap_alloc_new (((W.alloc (.cells #[c0, c1, c2, c3, c4, c5] 37)).alloc (.cells #[.int .u32 m.uid, .int .u8 m.fl, .string (txt m.tx)] 50)).alloc (.cells #[.int .u32 m.sq, .int .u32 m.lastS, .int .u32 m.lastU] 43)) (.cells #[.func (.func 124) #[] #[.pointer (some ⟨W.heap.size + 1, 0, none⟩), .pointer (some ⟨W.heap.size + 1 + 1, 0, none⟩)]] 46)
    rw [World.size_alloc, World.size_alloc, World.size_alloc] at h
    exact h
  · have h := heap_alloc_new W (.cells #[c0, c1, c2, c3, c4, c5] 37)
    rw [Below.heap_alloc _ _ _ (by simp; omega), Below.heap_alloc _ _ _ (by simp; omega), Below.heap_alloc _ _ _ (by simp)]
    exact h
end Go.Proofs.YtpnnchpaaopdcaaGreatDoor

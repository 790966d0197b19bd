/-
  The law's Own of a key: contract.
-/
import Derived.Test.YtpnnchpaaopdcaaGreatDoorZB04
import Derived.Test.YtpnnchpaaopdcaaGreatDoorZB11
import Derived.Test.YtpnnchpaaopdcaaGreatDoorZB17
import Derived.Deep.RegionLaw
set_option linter.unusedVariables false
set_option linter.unusedSimpArgs false
namespace Go.Proofs.YtpnnchpaaopdcaaGreatDoor
open Go Go.RowKit
variable {W : World}
structure OwI (W w0 : World) (kind : Int) (flag n M N : Nat) (X : ByteArray) (set : List (Nat × Nat)) (T : Nat) (sv : Value) (kids : List KT) (k : Nat) (kts : List KT) (v : Value) (wx : World) : Prop where
  a : OwA W w0 kind flag n M N X set T sv v wx
  len : kts.length = k
  own : wx.ownsRow (W.heap.size + 2) 37 6 v k (cellsK kts)
  keys : ∀ x ∈ kts, KeyC wx x
  up : ∀ x ∈ kts, KeyIn (W.heap.size + 2) x
  off : ∀ x ∈ kts, KeyQ (fun b => b ≠ T ∧ v.ownBlock ≠ some b) x
  bare : bareL kts = (kids.take k).map bareK
  vT : v.ownBlock ≠ some T
  vs : ∀ b, v.ownBlock = some b → sv.ownBlock ≠ some b
theorem grown_of_below {A A' : World} (h : Below A.heap.size A A') (row : Option Nat) : A.grownBy A' row := ⟨h.os, h.tape, h.output, h.size, fun k hk _ => h.block k hk⟩
theorem kids_own2 {B k : Nat} {v : Value} {kts : List KT} (h : W.ownsRow B 37 6 v k (cellsK kts)) (hl : kts.length = k) (ha : ∀ x ∈ kts, KeyC W x) : ∃ kp kcap, v = .slice kp kts.length kcap ∧ KidsC W kts kp 0 ∧ Up B kp := by
  subst hl
  rcases h.2 with ⟨h1, h2⟩ | ⟨b, cap, cur, h1, h2⟩
  · have hl : kts = [] := List.length_eq_zero_iff.1 h2
    subst hl
    subst h1
    exact ⟨none, 0, rfl, by unfold KidsC; trivial, fun a e => by simp at e⟩
  · subst h1
    exact ⟨_, cap, rfl, kids_own h ha, fun a e => by cases e; exact (h.lt b rfl).1⟩
theorem results_o14 (tmps : Array Value) (w : World) (B : Nat) (a b c d e f : Value) (h : Cells w B 37 #[a, b, c, d, e, f]) (h2 : tmps.getD 2 undef = .pointer (some ⟨B, 0, none⟩)) :
    (results Tryz.f12 tmps).run Tryz.prog w = .ok (.agg #[a, b, c, d, e, f]) w := by
  have c0 := h.cell (i := 0) rfl
  have c1 := h.cell (i := 1) rfl
  have c2 := h.cell (i := 2) rfl
  have c3 := h.cell (i := 3) rfl
  have c4 := h.cell (i := 4) rfl
  have c5 := h.cell (i := 5) rfl
  have h2' : tmps[2]?.getD undef = .pointer (some ⟨B, 0, none⟩) := by simpa using h2
  simp [results, Tryz.f12, go_sem, h2', c0, c1, c2, c3, c4, c5]
theorem grown_drew (w : World) (r : Option Nat) : w.grownBy w.drew r := grown_of_below (Below.refl _ w).drew r
theorem grown_trans {a b c : World} {r : Option Nat} (h : a.grownBy b r) (h' : b.grownBy c r) : a.grownBy c r :=
  ⟨h'.os.trans h.os, h'.tape.trans h.tape, h'.output.trans h.output, Nat.le_trans h.size h'.size, fun k hk hn => (h'.block k (Nat.lt_of_lt_of_le hk h.size) hn).trans (h.block k hk hn)⟩
mutual
theorem KeyQ.and {Q Q' : Nat → Prop} : ∀ {k : KT}, KeyQ Q k → KeyQ Q' k → KeyQ (fun b => Q b ∧ Q' b) k
  | .mk _ _ set _ _ kids sp _ kp _, h, h' => by
    unfold KeyQ at h h' ⊢
    exact ⟨fun h1 a e => ⟨h.1 h1 a e, h'.1 h1 a e⟩, fun h1 a e => ⟨h.2.1 h1 a e, h'.2.1 h1 a e⟩, KidsQ.and h.2.2 h'.2.2⟩
theorem KidsQ.and {Q Q' : Nat → Prop} : ∀ {r : List KT}, KidsQ Q r → KidsQ Q' r → KidsQ (fun b => Q b ∧ Q' b) r
  | [], h, h' => by unfold KidsQ; trivial
  | k :: r, h, h' => by
    unfold KidsQ at h h' ⊢
    exact ⟨KeyQ.and h.1 h'.1, KidsQ.and h.2 h'.2⟩
end
theorem grown_at9 {a b : World} {r : Option Nat} (h : a.grownBy b r) {k : Nat} (hk : k < a.heap.size) (hr : r ≠ some k) : b.heap[k]? = a.heap[k]? := h.block k hk (fun e => hr e.symm)
theorem own_grown {a b : World} {r : Option Nat} {B e sz n : Nat} {v : Value} {xs : List Value} (h : a.ownsRow B e sz v n xs) (hg : a.grownBy b r) (hv : ∀ q, v.ownBlock = some q → r ≠ some q) : b.ownsRow B e sz v n xs := by
  refine ⟨h.1, ?_⟩
  rcases h.2 with h2 | ⟨q, cap, cur, h1, h2, h3, h4⟩
  · exact .inl h2
  · have hb : v.ownBlock = some q := by rw [h1]; rfl
    exact .inr ⟨q, cap, cur, h1, h2, (grown_at9 hg (Array.getElem?_eq_some_iff.1 h3).1 (hv q hb)).trans h3, h4⟩
theorem OwI.step {w0 : World} {kind : Int} {flag n M N : Nat} {X : ByteArray} {set : List (Nat × Nat)} {T : Nat} {sv : Value} {kids : List KT} {k : Nat} {kts : List KT} {vad : Option Addr} {vcp : Nat} {wr w4 w6 : World} {k2 kd : KT} {g2 cap2 : Nat} {cs : Array Value}
    (hs : w0.heap.size = W.heap.size + 2) (hI : OwI W w0 kind flag n M N X set T sv kids k kts (.slice vad k vcp) wr) (hkd : kids[k]? = some kd) (hb4 : Below wr.heap.size wr w4) (hbk : bareK k2 = bareK kd) (hc2 : KeyC w4 k2) (hi2 : KeyIn wr.heap.size k2)
    (hcs : k2.cells.toArray.toList = cs.toList) (ho : w6.ownsRow (W.heap.size + 2) 37 6 (.slice (some ⟨g2, 0, none⟩) (k + 1) cap2) (k + 1) (cellsK kts ++ cs.toList)) (hg : (w4.alloc (.cells cs 37)).grownBy w6 (Value.slice vad k vcp).ownBlock)
    (hat : (Value.slice vad k vcp).ownBlock = some g2 ∨ g2 = w4.heap.size + 1) :
    OwI W w0 kind flag n M N X set T sv kids (k + 1) (kts ++ [k2]) (.slice (some ⟨g2, 0, none⟩) (k + 1) cap2) (w6.setCell ⟨T, 5, none⟩ (.slice (some ⟨g2, 0, none⟩) (k + 1) cap2)) := by
  have hcs : k2.cells = cs.toList := by simpa using hcs
  obtain ⟨w5, hw5⟩ : ∃ w5, w4.alloc (.cells cs 37) = w5 := ⟨_, rfl⟩
  have h45 : Below w4.heap.size w4 w5 := by rw [← hw5]; exact (Below.refl _ w4).alloc (Nat.le_refl _) _
  have z5 : w5.heap.size = w4.heap.size + 1 := by rw [← hw5]; simp
  rw [hw5] at hg
  have hT := hI.a.hT
  have hTl := hI.a.ct.lt
  have z4 := hb4.size
  have z6 := hg.size
  have hr5 : Below wr.heap.size wr w5 := hb4.trans (h45.mono z4)
  have hold : ∀ q, (Value.slice vad k vcp).ownBlock = some q → W.heap.size + 2 ≤ q ∧ q < wr.heap.size := fun q hq => hI.own.lt q hq
  have hnT : (Value.slice vad k vcp).ownBlock ≠ some T := hI.vT
  have hg2T : g2 ≠ T := by
    rcases hat with e | e
    · intro e2; rw [e2] at e; exact hnT e
    · omega
  have hg26 : g2 < w6.heap.size := (ho.lt g2 rfl).2
  have tk6 : Tk T w6 (w6.setCell ⟨T, 5, none⟩ (.slice (some ⟨g2, 0, none⟩) (k + 1) cap2)) := Tk.set w6 5 _
  have hks : KeepQ (fun b => b ≠ T ∧ (Value.slice vad k vcp).ownBlock ≠ some b) w5 (w6.setCell ⟨T, 5, none⟩ (.slice (some ⟨g2, 0, none⟩) (k + 1) cap2)) :=
    ⟨Nat.le_trans z6 tk6.size, fun b hb hlt => (tk6.blk b (by omega) hb.1).trans (grown_at9 hg hlt hb.2)⟩
  have hKc : ∀ x ∈ kts ++ [k2], KeyC w5 x := fun x hx => by
    rcases List.mem_append.1 hx with hx | hx
    · exact KeyC.below hr5 x (hI.keys x hx)
    · rw [List.mem_singleton.1 hx]; exact KeyC.below h45 k2 hc2
  have hKo : ∀ x ∈ kts ++ [k2], KeyQ (fun b => b ≠ T ∧ (Value.slice vad k vcp).ownBlock ≠ some b) x := fun x hx => by
    rcases List.mem_append.1 hx with hx | hx
    · exact hI.off x hx
    · rw [List.mem_singleton.1 hx]
      exact KeyQ.mono (fun b hb => ⟨by omega, fun e => by have := (hold b e).2; omega⟩) k2 (KeyQ.of_in k2 hi2)
  have hct : Cells (w6.setCell ⟨T, 5, none⟩ (.slice (some ⟨g2, 0, none⟩) (k + 1) cap2)) T 37 #[.int .i64 kind, .int .u8 flag, sv, .int .u32 n, .string X, .slice (some ⟨g2, 0, none⟩) (k + 1) cap2] :=
    Cells.set (Cells.later (Cells.later hI.a.ct (hr5.block T hTl)) (grown_at9 hg (by omega) hnT)) 5 _
  have hob : wr.heap.size ≤ w5.heap.size := hr5.size
  have hB : Below w0.heap.size w0 (w6.setCell ⟨T, 5, none⟩ (.slice (some ⟨g2, 0, none⟩) (k + 1) cap2)) := by
    have h1 : Below w0.heap.size w0 w5 := hI.a.below.trans (hr5.mono hI.a.below.size)
    have h2 : Below w0.heap.size w5 w6 := ⟨hg.os, hg.tape, hg.output, hg.size, fun b hb => grown_at9 hg (by have := h1.size; omega) (fun e => by have := (hold b e).1; omega)⟩
    exact (h1.trans h2).trans (tk6.below (by omega) (by have := (h1.trans h2).size; omega))
  exact {
    a := ⟨hT, hct, own_far (own_grown (own_below hI.a.own hr5) hg (fun q hq e => hI.vs q e hq)) tk6 hI.a.far, hI.a.far, hB⟩
    len := by rw [List.length_append, hI.len]; rfl
    own := own_far (by rw [cellsK_snoc, hcs]; exact ho) tk6 (fun b e => by have e2 : g2 = b := Option.some.inj e; omega)
    keys := fun x hx => KeyC.keepQ hks x (hKc x hx) (hKo x hx)
    up := fun x hx => by
      rcases List.mem_append.1 hx with hx | hx
      · exact hI.up x hx
      · rw [List.mem_singleton.1 hx]; exact KeyIn.mono (by have := hI.a.below.size; omega) k2 hi2
    off := fun x hx => by
      rcases hat with e | e
      · rw [e] at hKo; exact hKo x hx
      · have h1 := hKo x hx
        have h2 := KeyC.lt x (hKc x hx)
        have h3 := KeyQ.and (KeyQ.mono (fun b hb => hb.1) x h1) h2
        exact KeyQ.mono (fun b hb => ⟨hb.1, fun e2 => by have e3 : g2 = b := Option.some.inj e2; have := hb.2; omega⟩) x h3
    bare := by
      rw [bareL_map, List.map_append, ← bareL_map, hI.bare, List.take_add_one, hkd]
      simp [hbk]
    vT := fun e => hg2T (Option.some.inj e)
    vs := fun b e e2 => by
      have e3 : g2 = b := Option.some.inj e
      subst e3
      rcases hat with e4 | e4
      · exact hI.vs g2 e4 e2
      · have := (hI.a.own.lt g2 e2).2; omega }
set_option maxRecDepth 100000 in
set_option maxHeartbeats 4000000 in
theorem own14_step (kind : Int) (flag : Nat) (set : List (Nat × Nat)) (n : Nat) (s : List UInt8) (kids : List KT) (sp : Option Addr) (scap : Nat) (kp : Option Addr) (kcap : Nat)
    (ih : ∀ x ∈ kids, ∀ W, KeyC W x → Calls Tryz.prog 12 #[x.val] W (OwnDoes W x)) (hS : set.length ≤ 1000 ∧ kids.length ≤ 1000) (W : World) (hK : KeyC W (.mk kind flag set n s kids sp scap kp kcap)) :
    Calls Tryz.prog 12 #[(KT.mk kind flag set n s kids sp scap kp kcap).val] W (OwnDoes W (.mk kind flag set n s kids sp scap kp kcap)) := by
  obtain ⟨hkids, hkm, hfl, hn9, hsl, hsm, hpairs⟩ := hK.kids
  have HK := Lib.hid hK
  have HIH := Lib.hid ih
  show Calls Tryz.prog 12 #[.agg #[.int .i64 kind, .int .u8 flag, .slice sp set.length scap, .int .u32 n, .string (txt s), .slice kp kids.length kcap]] W _
  have CS := Lib.hid (fun w (hb : Below W.heap.size W w) => own2_c sp scap set hS.1 w (hpairs.below hb))
  obtain ⟨X, hX⟩ : ∃ X, txt s = X := ⟨_, rfl⟩
  obtain ⟨M, hM⟩ : ∃ M, set.length = M := ⟨_, rfl⟩
  obtain ⟨N, hN⟩ : ∃ N, kids.length = N := ⟨_, rfl⟩
  rw [hM] at CS
  rw [hX, hM, hN]
  have hN9 : N ≤ 1000 := by rw [← hN]; exact hS.2
  have HX := Lib.hid hX
  have HM := Lib.hid hM
  have HN := Lib.hid hN
  have HKids := Lib.hid hkids
  obtain ⟨R, hR⟩ : ∃ R, OwnDoes W (.mk kind flag set n s kids sp scap kp kcap) = R := ⟨_, rfl⟩
  rw [hR]
  have HR := Lib.hid hR
  obtain ⟨w0, hw0⟩ : ∃ w0, (W.alloc (.cells #[.int .i64 kind, .int .u8 flag, .slice sp M scap, .int .u32 n, .string X, .slice kp N kcap] 26)).alloc (.cells #[.int .i64 0, .int .u8 0, .slice none 0 0, .int .u32 0, .string ⟨#[]⟩, .slice none 0 0] 37) = w0 := ⟨_, rfl⟩
  have hb0 : Below W.heap.size W w0 := by rw [← hw0]; exact ((Below.refl _ W).alloc (Nat.le_refl _) _).alloc (by simp) _
  have hs0 : w0.heap.size = W.heap.size + 2 := by rw [← hw0]; simp
  have hx0 : Cells w0 W.heap.size 26 #[.int .i64 kind, .int .u8 flag, .slice sp M scap, .int .u32 n, .string X, .slice kp N kcap] := by
    rw [← hw0]
    show _ = _
    rw [Below.heap_alloc _ _ _ (by simp)]
    exact heap_alloc_new W _
  have hr0 : Cells w0 (W.heap.size + 1) 37 #[.int .i64 0, .int .u8 0, .slice none 0 0, .int .u32 0, .string ⟨#[]⟩, .slice none 0 0] := by
    rw [← hw0]
    have h := heap_alloc_new (W.alloc (.cells #[.int .i64 kind, .int .u8 flag, .slice sp M scap, .int .u32 n, .string X, .slice kp N kcap] 26)) (.cells #[.int .i64 0, .int .u8 0, .slice none 0 0, .int .u32 0, .string ⟨#[]⟩, .slice none 0 0] 37)
    rw [World.size_alloc] at h
    exact h
  have FS : Hid (∀ x, Below w0.heap.size w0 x → x.cell? ⟨W.heap.size, 0, none⟩ = some (.int .i64 kind) ∧ x.cell? ⟨W.heap.size, 1, none⟩ = some (.int .u8 flag) ∧ x.cell? ⟨W.heap.size, 2, none⟩ = some (.slice sp M scap) ∧ x.cell? ⟨W.heap.size, 3, none⟩ = some (.int .u32 n) ∧ x.cell? ⟨W.heap.size, 4, none⟩ = some (.string X)) := fun x hb => by
    have h := Cells.later hx0 (hb.block _ (Cells.lt hx0))
    exact ⟨h.cell (i := 0) rfl, h.cell (i := 1) rfl, h.cell (i := 2) rfl, h.cell (i := 3) rfl, h.cell (i := 4) rfl⟩
  have HB0 := Lib.hid hb0
  have HX0 := Lib.hid hx0
  have HR0 := Lib.hid hr0
  have HS0 := Lib.hid hs0
  have HBr : Hid (Below w0.heap.size w0 w0) := Below.refl _ _
  clear hK ih hS hkids hkm hfl hn9 hsl hsm hpairs hX hM hN hR hb0 hs0 hx0 hr0
  go_enter Tryz.func12, Tryz.ntmps12
  go_wp2_with fail
  have hba : Below W.heap.size W (w0.alloc (.cells #[.int .i64 0, .int .u8 0, .slice none 0 0, .int .u32 0, .string ⟨#[]⟩, .slice none 0 0] 37)) := HB0.out.alloc (by have := HS0.out; omega) _
  have hbz : Below w0.heap.size w0 (w0.alloc (.cells #[.int .i64 0, .int .u8 0, .slice none 0 0, .int .u32 0, .string ⟨#[]⟩, .slice none 0 0] 37)) := (Below.refl _ w0).alloc (Nat.le_refl _) _
  have hzz : w0.heap.size ≤ (w0.alloc (.cells #[.int .i64 0, .int .u8 0, .slice none 0 0, .int .u32 0, .string ⟨#[]⟩, .slice none 0 0] 37)).heap.size := hbz.size
  have hal : w0.heap.size < (w0.alloc (.cells #[.int .i64 0, .int .u8 0, .slice none 0 0, .int .u32 0, .string ⟨#[]⟩, .slice none 0 0] 37)).heap.size := by simp
  go_cut [3] from 5 (fun t3 wx => ∃ T ad cp, t3 = .pointer (some ⟨T, 0, none⟩) ∧ Hid (OwA W w0 kind flag n M N X set T (.slice ad M cp) (.slice none 0 0) wx))
  case first =>
    go_region_held3 (fun x => x.cell? ⟨W.heap.size, 0, none⟩ = some (.int .i64 kind) ∧ x.cell? ⟨W.heap.size, 1, none⟩ = some (.int .u8 flag) ∧ x.cell? ⟨W.heap.size, 2, none⟩ = some (.slice sp M scap) ∧ x.cell? ⟨W.heap.size, 3, none⟩ = some (.int .u32 n) ∧ x.cell? ⟨W.heap.size, 4, none⟩ = some (.string X))
      ((refine FS.out _ ?_; repeat (first | with_reducible exact HBr.out | with_reducible exact hbz | (with_reducible refine Below.drew ?_) | (with_reducible refine Below.alloc ?_ (by first | exact HBr.out.size | (simp; omega)) _) | (with_reducible refine Below.setCell ?_ (by first | exact Nat.le_refl _ | exact hl6) _))))
      (first | (go_at_call 54; refine (CS.out w0 HB0.out).mono ?_; rintro e w6 ⟨sv, rfl, ho6, hb6⟩; obtain ⟨ad, cp, hsv⟩ := own_form ho6; subst hsv; have HBr : Hid (Below w0.heap.size w0 w6) := hb6; have HO6 := Lib.hid ho6; have hl6 := HBr.out.size; clear ho6 hb6) | (go_at_call 54; refine (CS.out w0.drew HB0.out.drew).mono ?_; rintro e w6 ⟨sv, rfl, ho6, hb6⟩; obtain ⟨ad, cp, hsv⟩ := own_form ho6; subst hsv; have HBr : Hid (Below w0.heap.size w0 w6) := (Below.refl _ _).drew.trans hb6; have HO6 := Lib.hid ho6; have hl6 := HBr.out.size; clear ho6 hb6) | (go_at_call 54; refine (CS.out (w0.alloc (.cells #[.int .i64 0, .int .u8 0, .slice none 0 0, .int .u32 0, .string ⟨#[]⟩, .slice none 0 0] 37)) hba).mono ?_; rintro e w6 ⟨sv, rfl, ho6, hb6⟩; obtain ⟨ad, cp, hsv⟩ := own_form ho6; subst hsv; have HBr : Hid (Below w0.heap.size w0 w6) := hbz.trans (hb6.mono hzz); have yc : Cells w6 w0.heap.size 37 #[.int .i64 0, .int .u8 0, .slice none 0 0, .int .u32 0, .string ⟨#[]⟩, .slice none 0 0] := (hb6.block w0.heap.size hal).trans (heap_alloc_new w0 _); have y0 := yc.cell (i := 0) rfl; have y1 := yc.cell (i := 1) rfl; have y2 := yc.cell (i := 2) rfl; have y3 := yc.cell (i := 3) rfl; have y4 := yc.cell (i := 4) rfl; have y5 := yc.cell (i := 5) rfl; have yf0 := yc.frozen 0; have yf1 := yc.frozen 1; have yf2 := yc.frozen 2; have yf3 := yc.frozen 3; have yf4 := yc.frozen 4; have yf5 := yc.frozen 5; have yl := yc.lt; have HYC := Lib.hid yc; clear yc; have HO6 := Lib.hid ho6; have hl6 := HBr.out.size; clear ho6 hb6) | (go_at_call 54; refine (CS.out (w0.alloc (.cells #[.int .i64 0, .int .u8 0, .slice none 0 0, .int .u32 0, .string ⟨#[]⟩, .slice none 0 0] 37)).drew hba.drew).mono ?_; rintro e w6 ⟨sv, rfl, ho6, hb6⟩; obtain ⟨ad, cp, hsv⟩ := own_form ho6; subst hsv; have HBr : Hid (Below w0.heap.size w0 w6) := hbz.drew.trans (hb6.mono hzz); have yc : Cells w6 w0.heap.size 37 #[.int .i64 0, .int .u8 0, .slice none 0 0, .int .u32 0, .string ⟨#[]⟩, .slice none 0 0] := (hb6.block w0.heap.size hal).trans (heap_alloc_new w0 _); have y0 := yc.cell (i := 0) rfl; have y1 := yc.cell (i := 1) rfl; have y2 := yc.cell (i := 2) rfl; have y3 := yc.cell (i := 3) rfl; have y4 := yc.cell (i := 4) rfl; have y5 := yc.cell (i := 5) rfl; have yf0 := yc.frozen 0; have yf1 := yc.frozen 1; have yf2 := yc.frozen 2; have yf3 := yc.frozen 3; have yf4 := yc.frozen 4; have yf5 := yc.frozen 5; have yl := yc.lt; have HYC := Lib.hid yc; clear yc; have HO6 := Lib.hid ho6; have hl6 := HBr.out.size; clear ho6 hb6))
    · go_wp2_with fail
      go_meet
      case rel => exact ⟨_, _, _, rfl, OwA.last HS0.out HBr.out HO6.out (by have := HS0.out; first | exact Nat.le_of_eq this.symm | (simp; omega))⟩
    · go_wp2_with fail
      go_meet
      case rel => exact ⟨_, _, _, rfl, OwA.front (c := #[]) HS0.out HBr.out HYC.out HO6.out (by simp)⟩
  case rest =>
    obtain ⟨T, ad, cp, rfl, HA⟩ := hcut
    obtain ⟨wz, hwz⟩ : ∃ wz, wc = wz := ⟨_, rfl⟩
    rw [hwz] at HA ⊢
    clear hwz
    obtain ⟨sv, hsv⟩ : ∃ sv, Value.slice ad M cp = sv := ⟨_, rfl⟩
    rw [hsv] at HA
    have HSV := Lib.hid hsv
    clear hsv
    go_wp2_with fail
    go_loopw [4] (fun v wr => ∃ k : Nat, k ≤ N ∧ v = .int .i64 k ∧ Hid (∃ kts v, OwI W w0 kind flag n M N X set T sv kids k kts v wr)) (fun v _ => N - (intOf v).toNat)
    case atStart => exact ⟨0, by omega, rfl, [], .slice none 0 0, HA.out, rfl, World.ownsRow_nil _ _ _ _, fun x hx => by simp at hx, fun x hx => by simp at hx, fun x hx => by simp at hx, rfl, by simp [Value.ownBlock], fun b hb => by simp [Value.ownBlock] at hb⟩
    case round =>
      obtain ⟨k, hk, rfl, HI0⟩ := hrel
      obtain ⟨kts, v, hI⟩ := HI0.out
      have HI := Lib.hid hI
      have hTl := hI.a.ct.lt
      have hx5 := (Cells.later HX0.out (hI.a.below.block _ (Cells.lt HX0.out))).cell (i := 5) rfl
      have hxl : W.heap.size < wr.heap.size := by have := hI.a.below.size; have := HS0.out; omega
      clear HI0 hI
      by_cases hlt : k < N
      · obtain ⟨i0, hi0, hz0, hz1, hz2⟩ := info_parts Tryz.infoKey9
        have hkl : k < kids.length := by rw [HN.out]; exact hlt
        obtain ⟨kd, hkd⟩ : ∃ kd, kids[k]? = some kd := ⟨_, List.getElem?_eq_getElem hkl⟩
        have hWr : Below W.heap.size W wr := HB0.out.trans (HI.out.a.below.mono HB0.out.size)
        obtain ⟨b, off, hkp, hbw, hcs, hkc⟩ := KidsC.at kids kp 0 k kd (KidsC.below hWr kids kp 0 HKids.out) hkd
        have hbW : b < W.heap.size := by
          obtain ⟨b', off', hkp', hbw', _⟩ := KidsC.at kids kp 0 k kd HKids.out hkd
          rw [hkp] at hkp'; cases hkp'; exact hbw'
        subst hkp
        rw [Nat.zero_add] at hcs
        obtain ⟨vad, vcp, hvv⟩ := own_form HI.out.own
        subst hvv
        obtain ⟨yk, yf, ym, yn, yl, ysp, ykp, ysc, ykc, Y, hv, hc⟩ := kd.form
        have hq1 : ∀ q u, (#[.int .i64 yk, .int .u8 yf, .slice ysp ym ysc, .int .u32 yn, .string Y, .slice ykp yl ykc] : Array Value)[q]? = some u → wr.cell? ⟨b, off + k * 6 + q, none⟩ = some u := fun q u hu => hcs q u (by rw [← hc] at hu; simpa using hu)
        have C := fun w (hb : Below wr.heap.size wr w) => HIH.out kd (List.mem_of_getElem? hkd) w (KeyC.below hb kd hkc)
        rw [hv] at C
        have C := Lib.hid C
        have hTb : W.heap.size + 2 ≤ T := HI.out.a.hT
        have hvlt : ∀ q, (Value.slice vad k vcp).ownBlock = some q → W.heap.size + 2 ≤ q := fun q hq => (HI.out.own.lt q hq).1
        have HGB : Hid (∀ x, wr.grownBy x (Value.slice vad k vcp).ownBlock → x.heap[T]? = wr.heap[T]?) := fun x hx => hx.block T hTl (fun e => HI.out.vT e.symm)
        have FS : Hid (∀ x, wr.grownBy x (Value.slice vad k vcp).ownBlock → x.cell? ⟨T, 5, none⟩ = some (.slice vad k vcp) ∧ x.cell? ⟨W.heap.size, 5, none⟩ = some (.slice (some ⟨b, off, none⟩) N kcap) ∧ x.cell? ⟨b, off + k * 6, none⟩ = some (.int .i64 yk) ∧ x.cell? ⟨b, off + k * 6 + 1, none⟩ = some (.int .u8 yf) ∧ x.cell? ⟨b, off + k * 6 + 2, none⟩ = some (.slice ysp ym ysc) ∧ x.cell? ⟨b, off + k * 6 + 3, none⟩ = some (.int .u32 yn) ∧ x.cell? ⟨b, off + k * 6 + 4, none⟩ = some (.string Y) ∧ x.cell? ⟨b, off + k * 6 + 5, none⟩ = some (.slice ykp yl ykc)) := fun x hx => by
          have hT5 := (Cells.later HI.out.a.ct (HGB.out x hx)).cell (i := 5) rfl
          have hlow : ∀ (B o : Nat) (u : Value), B < W.heap.size + 2 → wr.cell? ⟨B, o, none⟩ = some u → x.cell? ⟨B, o, none⟩ = some u := fun B o u hB hu => by
            have h1 := hx.block B (by omega) (fun e => by have := hvlt B e.symm; omega)
            simp only [World.cell?, h1] at hu ⊢
            exact hu
          exact ⟨hT5, hlow _ _ _ (by omega) hx5, hlow _ _ _ (by omega) (hq1 0 _ rfl), hlow _ _ _ (by omega) (hq1 1 _ rfl), hlow _ _ _ (by omega) (hq1 2 _ rfl), hlow _ _ _ (by omega) (hq1 3 _ rfl), hlow _ _ _ (by omega) (hq1 4 _ rfl), hlow _ _ _ (by omega) (hq1 5 _ rfl)⟩
        have s0 := FS.out wr (grown_of_below (Below.refl _ _) _)
        have s0d := FS.out wr.drew (grown_drew _ _)
        have hqk : (k : Int) < N := by omega
        have hqk0 : (0 : Int) ≤ k := by omega
        have HKD := Lib.hid hkd
        clear hcs hkc hv hc hq1 hkd hx5
        go_wp2_with fail
        obtain ⟨u0, u1, u2, u3, u4, u5, u6, u7⟩ := s0
        obtain ⟨d0, d1, d2, d3, d4, d5, d6, d7⟩ := s0d
        go_region_law ((first
          | (refine step_append_lies _ (by rfl) (.tmp 25) (.tmp 32) _ (by rfl) (W.heap.size + 2) 37 i0 _ 6 88 Tryz.underlyingKids9 hi0 hz0 hz1 hz2 rfl (by omega) (.slice vad k vcp) k (cellsK kts) (by rfl) (O4.out.alloc _) ⟨w4.heap.size, 0, none⟩ 1 1 [.int .i64 zk, .int .u8 zf, .slice zsp zm zsc, .int .u32 zn, .string Z, .slice zkp zl zkc] (by rfl) (by rfl) (World.news_of_block (cs := #[.int .i64 zk, .int .u8 zf, .slice zsp zm zsc, .int .u32 zn, .string Z, .slice zkp zl zkc]) (t := 37) (fr := (0, 0)) (heap_alloc_new w4 _)) (by simp [Value.oneCell']) (by omega) (by unfold maxLen; omega) (by omega) (by simp; omega) (w4.heap.size + 1) (by simp) ?_; intro g2 cap2 w6 hown6 hgrow hat hlt6; have hgr := grown_trans (grown_of_below (Below.trans HB4.out (((Below.refl _ w4).alloc (Nat.le_refl _) _).mono hz4)) _) hgrow; obtain ⟨v0, v1, v2, v3, v4, v5, v6, v7⟩ := FS.out w6 hgr; have cT := Cells.later HI.out.a.ct (HGB.out w6 hgr); have f5 := cT.frozen 5; have tl := cT.lt; have HO6 := Lib.hid hown6; have HG6 := Lib.hid hgrow; have HA6 := Lib.hid hat; clear hown6 hgrow hat cT hgr)
          | (go_simp; go_at_call 12; refine (C.out wr.drew (Below.refl _ _).drew).mono ?_; rintro e w4 ⟨k2, rfl, hb2, hc2, hi2, hbel⟩; have HB4 : Hid (Below wr.heap.size wr w4) := (Below.refl _ _).drew.trans hbel; obtain ⟨zk, zf, zm, zn, zl, zsp, zkp, zsc, zkc, Z, hv2, hcc⟩ := k2.form; rw [hv2]; have HBK2 := Lib.hid hb2; have HKC2 := Lib.hid hc2; have HKI2 := Lib.hid hi2; have HCC := Lib.hid hcc; have O4 := Lib.hid (own_below HI.out.own HB4.out); have hz4 := HB4.out.size; obtain ⟨e0, e1, e2, e3, e4, e5, e6, e7⟩ := FS.out w4 (grown_of_below HB4.out _); obtain ⟨g0, g1, g3, g4, g5, g6, g7, g8⟩ := FS.out (w4.alloc (.cells #[.int .i64 zk, .int .u8 zf, .slice zsp zm zsc, .int .u32 zn, .string Z, .slice zkp zl zkc] 37)) (grown_trans (grown_of_below HB4.out _) (grown_of_below ((Below.refl _ w4).alloc (Nat.le_refl _) _) _)); clear hb2 hc2 hi2 hbel hv2 hcc)))
        all_goals
          have HN2 := Lib.hid (OwI.step HS0.out HI.out HKD.out HB4.out HBK2.out HKC2.out HKI2.out (congrArg Array.toList HCC.out) HO6.out HG6.out HA6.out)
          go_wp2_with fail
          go_roundw
          case rel => exact ⟨k + 1, by omega, by go_num, _, _, HN2.out⟩
          case measure => simp [intOf]; omega
      · obtain rfl : k = N := by omega
        obtain ⟨vad, vcp, hvv⟩ := own_form HI.out.own
        obtain ⟨sad, scp, hss⟩ := own_form HI.out.a.own
        subst hvv
        have hc := HI.out.a.ct
        rw [hss] at hc
        have hr := Cells.later HR0.out (HI.out.a.below.block _ (Cells.lt HR0.out))
        have HC := Lib.hid hc
        have HRR := Lib.hid hr
        have HSS := Lib.hid hss
        have q0 := hc.cell (i := 0) rfl
        have q1 := hc.cell (i := 1) rfl
        have q2 := hc.cell (i := 2) rfl
        have q3 := hc.cell (i := 3) rfl
        have q4 := hc.cell (i := 4) rfl
        have q5 := hc.cell (i := 5) rfl
        have r0 := hr.cell (i := 0) rfl
        have r1 := hr.cell (i := 1) rfl
        have r2 := hr.cell (i := 2) rfl
        have r3 := hr.cell (i := 3) rfl
        have r4 := hr.cell (i := 4) rfl
        have r5 := hr.cell (i := 5) rfl
        have fr := fun i => hr.frozen i
        have hrl := hr.lt
        have hq : ¬ (k : Int) < k := by omega
        clear hc hr hss
        go_wp2_with fail
        refine bodyPost_ret (results_o14 _ _ (W.heap.size + 1) _ _ _ _ _ _ (Cells.six HRR.out _ _ _ _ _ _) rfl) rfl ?_
        rw [← HR.out]
        obtain ⟨kp', kc', hkv, hkk, hku⟩ := kids_own2 HI.out.own HI.out.len HI.out.keys
        have hop := HI.out.a.own
        rw [← HM.out] at hop
        obtain ⟨sp', sc', hsv', hps, hsu⟩ := own_pairs hop
        have hsv2 := HSS.out
        have ht9 : ∀ (x : World) (i : Nat) (v : Value), Tk (W.heap.size + 1) wr x → Tk (W.heap.size + 1) wr (x.setCell ⟨W.heap.size + 1, i, none⟩ v) := fun x i v h => h.trans (Tk.set x i v)
        have hall := ht9 _ 5 (.slice vad k vcp) (ht9 _ 4 (.string X) (ht9 _ 3 (.int .u32 n) (ht9 _ 2 (.slice sad M scp) (ht9 _ 1 (.int .u8 flag) (ht9 _ 0 (.int .i64 kind) (Tk.refl _ wr))))))
        have hkeep : KeepUp (W.heap.size + 2) wr _ := KeepUp.tk hall (by omega)
        have hbw : Below W.heap.size W wr := HB0.out.trans (HI.out.a.below.mono HB0.out.size)
        obtain ⟨_, hkm, hfl, hn9, hsl, hsm, _⟩ := HK.out.kids
        have hkl : kts.length = kids.length := by rw [HI.out.len, HN.out]
        refine ⟨KT.mk kind flag set n s kts sp' sc' kp' kc', ?_, ?_, ?_, ?_, hbw.trans ((hall.below (Nat.le_refl _) (by omega)).mono (by omega))⟩
        · rw [hsv2] at hsv'
          have e1 : Value.slice sad M scp = Value.slice sp' set.length sc' := hsv'
          show _ = Ending.returned (.agg #[.int .i64 kind, .int .u8 flag, .slice sp' set.length sc', .int .u32 n, .string (txt s), .slice kp' kts.length kc'])
          rw [← e1, ← hkv, HX.out]
        · rw [bareK, bareK, HI.out.bare, bareL_map, List.take_of_length_le (by rw [HN.out]; exact Nat.le_refl _)]
        · unfold KeyC
          exact ⟨hfl, hn9, ⟨hsl, by rw [hkl]; exact hkm, hsm⟩, hps.keep hsu hkeep, KidsC.keep hkeep kts kp' 0 hkk hku (kidsIn_of kts HI.out.up)⟩
        · unfold KeyIn
          exact ⟨hsu.mono (by omega), hku.mono (by omega), KidsIn.mono (by omega) kts (kidsIn_of kts HI.out.up)⟩
theorem own14_c (k : KT) : ShortK k → ∀ W, KeyC W k → Calls Tryz.prog 12 #[k.val] W (OwnDoes W k) := by
  refine KT.ind (P := fun k => ShortK k → ∀ W, KeyC W k → Calls Tryz.prog 12 #[k.val] W (OwnDoes W k)) ?_ k
  intro kind flag set n s kids sp scap kp kcap ih hs W hK
  unfold ShortK at hs
  exact own14_step kind flag set n s kids sp scap kp kcap (fun x hx => ih x hx (hs.2.2.mem x hx)) ⟨hs.1, hs.2.1⟩ W hK
theorem shortL_of : ∀ {l : List KT}, (∀ k ∈ l, ShortK k) → ShortL l
  | [], _ => by unfold ShortL; trivial
  | k :: r, h => by unfold ShortL; exact ⟨h k (by simp), shortL_of fun x hx => h x (by simp [hx])⟩
theorem sizeK_pos (k : KT) : 1 ≤ sizeK k := by
  cases k with
  | mk kind flag set n s kids sp scap kp kcap =>
    unfold sizeK
    split
    · omega
    · have : ∀ (l : List KT) (n : Nat), n ≤ sizeR l n := by
        intro l
        induction l with
        | nil => intro n; unfold sizeR; exact Nat.le_refl _
        | cons x r ih =>
          intro n
          unfold sizeR
          split
          · exact Nat.le_trans (Nat.le_add_right _ _) (ih _)
          · exact Nat.le_refl _
      have := this kids 1
      omega
theorem sumK_len : ∀ l : List KT, l.length ≤ sumK l
  | [] => Nat.zero_le _
  | k :: r => by
    have := sizeK_pos k
    have := sumK_len r
    unfold sumK
    rw [List.length_cons]
    omega
theorem short_of_size (k : KT) : sizeK k ≤ 200 → ShortK k := by
  refine KT.ind (P := fun k => sizeK k ≤ 200 → ShortK k) ?_ k
  intro kind flag set n s kids sp scap kp kcap ih h
  obtain ⟨h1, h2, h3⟩ := size_sum h
  have h4 := sumK_len kids
  unfold ShortK
  exact ⟨by omega, by omega, shortL_of fun x hx => ih x hx (by have := sumK_mem hx; omega)⟩
end Go.Proofs.YtpnnchpaaopdcaaGreatDoor
